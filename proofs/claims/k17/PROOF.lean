import PyProof.Rows.All
import Wide.All
import OpenK.AllK
import Wide.FinOn
import HandS.ForMost
import HandS.ForExc
import HandS.Nested
import HandS.Star
import HandS.Finally
import HandS.EndTab
import HandS.Replace
import HandS.Defaults
import HandS.ClsMeth
import HandS.MakeKwOnly
import HandS.Wide
import HandS.WideBits
import HandS.IsInst
import HandS.Codes
import HandS.Comp
import HandS.Conv
import HandS.SortInts
import HandS.MethStar
import PySem.Challenge.RW_oncebuilt_k17_calls_by_names
import HandS.Style
set_option Elab.async false
set_option linter.all false
set_option maxRecDepth 100000
set_option maxHeartbeats 4000000
namespace Inf
open PySem PySem.Spec PyProof.Rows L2 NdefX LamX
/-! ### a cell that is told -/
def CellO (c : Addr) (v : V) : HO := .ext fun h => ∃ u, L2.RelV v u ∧ h.IsCell c (some u)
theorem cellO_at {P : Program} {w : World} {H : Hp} {h : Heap} {c : Addr} {v : V} (hok : HOk P w H h) (e : H c = some (CellO c v)) : ∃ u, L2.RelV v u ∧ h.IsCell c (some u) := by
  obtain ⟨z, _, _⟩ := hok c _ e
  exact z
theorem cellO_ok {P : Program} {w : World} {H : Hp} {h : Heap} {c : Addr} {v : V} (x : ∃ u, L2.RelV v u ∧ h.IsCell c (some u)) : ObjOk P w H h c (CellO c v) := by
  refine ⟨x, ?_, fun h1 h2 ⟨u, r, o, e, d⟩ k => ⟨u, r, o, k o e, d⟩⟩
  obtain ⟨u, _, o, e, _⟩ := x
  exact ⟨o, e⟩
/-! ### cells left out, and put back -/
def cut (cs : List Addr) (H : Hp) : Hp := fun b => if b ∈ cs then Option.none else H b
def mend (cs : List Addr) (H H1 : Hp) : Hp := fun b => if b ∈ cs then H b else H1 b
theorem cut_in {cs : List Addr} {H : Hp} {b : Addr} (h : b ∈ cs) : cut cs H b = Option.none := if_pos h
theorem cut_out {cs : List Addr} {H : Hp} {b : Addr} (h : b ∉ cs) : cut cs H b = H b := if_neg h
theorem mend_in {cs : List Addr} {H H1 : Hp} {b : Addr} (h : b ∈ cs) : mend cs H H1 b = H b := if_pos h
theorem mend_out {cs : List Addr} {H H1 : Hp} {b : Addr} (h : b ∉ cs) : mend cs H H1 b = H1 b := if_neg h
def cellsOf (F : NF) (fr : List Str) : List Addr := fr.filterMap fun y => F.cl.lookup y
theorem mem_cells {F : NF} {fr : List Str} {c : Addr} : c ∈ cellsOf F fr ↔ ∃ y ∈ fr, F.cl.lookup y = some c := List.mem_filterMap
/-- the function F stands at f, and its captured cells hold ws -/
structure Clo (H : Hp) (f : Addr) (F : NF) (fr : List Str) (ws : List V) : Prop where
  fn : H f = some (FnO f F)
  code : H F.c = some (CodeO F.c F.qual)
  len : ws.length = fr.length
  dom : ∀ y c, F.cl.lookup y = some c → y ∈ fr
  inj : ∀ x y c, F.cl.lookup x = some c → F.cl.lookup y = some c → x = y
  at_ : ∀ (i : Nat) (y : Str), fr[i]? = some y → ∃ c v, F.cl.lookup y = some c ∧ ws[i]? = some v ∧ H c = some (CellO c v)
theorem Clo.same {H H1 : Hp} {f : Addr} {F : NF} {fr : List Str} {ws : List V} (h : Clo H f F fr ws) (s : Same H H1) : Clo H1 f F fr ws :=
  ⟨s _ _ h.fn, s _ _ h.code, h.len, h.dom, h.inj, fun i y e => by
    obtain ⟨c, v, a, b, d⟩ := h.at_ i y e
    exact ⟨c, v, a, b, s _ _ d⟩⟩
theorem Clo.cell {H : Hp} {f : Addr} {F : NF} {fr : List Str} {ws : List V} (h : Clo H f F fr ws) {b : Addr} (hb : b ∈ cellsOf F fr) : ∃ v, H b = some (CellO b v) := by
  obtain ⟨y, hy, e⟩ := mem_cells.mp hb
  obtain ⟨i, hi⟩ := List.mem_iff_getElem?.mp hy
  obtain ⟨c, v, a, _, d⟩ := h.at_ i y hi
  rw [e] at a
  cases a
  exact ⟨v, d⟩
/-- what is no thing by a word of its own is no cell -/
theorem Clo.out {H : Hp} {f : Addr} {F : NF} {fr : List Str} {ws : List V} (h : Clo H f F fr ws) {b : Addr} {o : HO} (e : H b = some o) (n : ∀ φ, o ≠ .ext φ) : b ∉ cellsOf F fr := fun hb => by
  obtain ⟨v, d⟩ := h.cell hb
  rw [e] at d
  exact n _ (Option.some.inj d)
section
variable {P : Program} {w : World} {K : PySem.W.Frag} {mg : Str → Option Value} {base : Heap} {k : Nat} {f : Addr} {F : NF} {ps fr : List Str} {sp : List (Option V) → Sp}
/-- A FUNCTION THAT WAS MADE IN A DEF, called from anywhere: its cells are told; while it runs they are left out, behind it they are put back -/
theorem clo_fnR (N : NOk P w K mg base CX0 k f F ps fr sp) :
    FnR P w K mg base CX0 k f (fun vs H Q E => ∃ ws, Clo H f F fr ws ∧ sp (ws.map some) vs (cut (cellsOf F fr) H) (fun v H1 => (∀ b, b ∈ cellsOf F fr → H1 b = Option.none) → Q v (mend (cellsOf F fr) H H1)) E) := by
  intro A outer s H us vs Q E hr e0 r hsp
  obtain ⟨ws, hc, hsp⟩ := hsp
  have cellAt : ∀ b, b ∈ cellsOf F fr → ∃ v, H b = some (CellO b v) := fun b hb => hc.cell hb
  have fnout : f ∉ cellsOf F fr := fun hb => by
    obtain ⟨v, e⟩ := cellAt f hb
    obtain ⟨u, _, o, e1, e2⟩ := cellO_at e0.hok e
    obtain ⟨od, sl, doc, pm, ctv, e3⟩ := fnO_at e0.hok hc.fn
    rw [e1] at e3
    cases e3
    cases e2
  have cout : F.c ∉ cellsOf F fr := fun hb => by
    obtain ⟨v, e⟩ := cellAt F.c hb
    obtain ⟨u, _, o, e1, e2⟩ := cellO_at e0.hok e
    obtain ⟨⟨oc, vs', t, h1, h2, h3⟩, _, _⟩ := e0.hok F.c _ hc.code
    rw [e1] at h1
    cases h1
    rw [e2] at h2
    cases h2
  have hokc : HOk P w (cut (cellsOf F fr) H) s.heap := fun b o e => by
    by_cases hb : b ∈ cellsOf F fr
    · rw [cut_in hb] at e
      cases e
    · rw [cut_out hb] at e
      refine (e0.hok b o e).stay (fun c u _ q => q) (fun c q => ?_) fun c xs q => ?_
      · rw [cut_out (hc.out q (fun φ z => nomatch z))]
        exact q
      · rw [cut_out (hc.out q (fun φ z => nomatch z))]
        exact q
  have noneC : ∀ b, H b = Option.none → cut (cellsOf F fr) H b = Option.none := fun b e => by
    by_cases hb : b ∈ cellsOf F fr
    · exact cut_in hb
    · rw [cut_out hb]
      exact e
  have e1 : Env0 P w K mg base A outer s (cut (cellsOf F fr) H) := ⟨e0.frames, e0.mod, fun b o q => ⟨(e0.bs b o q).1, noneC b (e0.bs b o q).2⟩, e0.bsz, e0.funs, fun b hb => noneC b (e0.frf b hb), hokc, e0.bare⟩
  have C : CellsAt F.cl fr (ws.map some) s.heap (cut (cellsOf F fr) H) := by
    refine ⟨by rw [List.length_map]; exact hc.len, fun y c e => ?_, hc.inj, fun i y e => ?_⟩
    · have hb : c ∈ cellsOf F fr := mem_cells.mpr ⟨y, hc.dom y c e, e⟩
      obtain ⟨v, d⟩ := cellAt c hb
      obtain ⟨u, _, z⟩ := cellO_at e0.hok d
      exact ⟨cut_in hb, _, z⟩
    · obtain ⟨c, v, a, b, d⟩ := hc.at_ i y e
      refine ⟨c, a, fun v' e' => ?_⟩
      rw [List.getElem?_map, b] at e'
      cases e'
      obtain ⟨u, r', z⟩ := cellO_at e0.hok d
      exact ⟨u, r', z⟩
  refine codeAny_mono (N.run A outer s (cut (cellsOf F fr) H) us vs (ws.map some) _ E hr e1 (by rw [cut_out fnout]; exact hc.fn) (by rw [cut_out cout]; exact hc.code) C r hsp) fun res s' hq => ?_
  cases res with
  | error e => exact hq
  | ok fl =>
    cases fl with
    | next => exact hq
    | brk => exact hq
    | cont => exact hq
    | ret u =>
      obtain ⟨v, H1, os, bare, un, hok1, rv, q⟩ := hq
      have gone : ∀ b, b ∈ cellsOf F fr → H1 b = Option.none := fun b hb => by
        obtain ⟨v, d⟩ := cellAt b hb
        obtain ⟨u, _, o, z1, z2⟩ := cellO_at e0.hok d
        exact un.free b o z1 (cut_in hb) (by simp)
      have notfr : ∀ b, b ∈ cellsOf F fr → b ∉ frs outer := fun b hb z => by
        obtain ⟨v, d⟩ := cellAt b hb
        rw [e0.frf b z] at d
        cases d
      refine ⟨v, mend (cellsOf F fr) H H1, os, bare, ⟨fun b o a n h1 h2 => un.keep b o a (noneC b n) h1 h2, fun b o a n h1 h2 => un.slot b o a (noneC b n) h1 h2, fun b o a n h2 => ?_, un.there, fun b xs e => ?_, fun b o u e => ?_, fun b ps e => ?_⟩, fun b o e => ?_, rv, q gone⟩
      · by_cases hb : b ∈ cellsOf F fr
        · rw [mend_in hb]
          exact n
        · rw [mend_out hb]
          exact un.free b o a (noneC b n) h2
      · have hb := hc.out e (fun φ z => nomatch z)
        rw [mend_out hb]
        exact un.tups b xs (by rw [cut_out hb]; exact e)
      · have hb := hc.out e (fun φ z => nomatch z)
        rw [mend_out hb]
        exact un.frzs b o u (by rw [cut_out hb]; exact e)
      · have hb := hc.out e (fun φ z => nomatch z)
        rw [mend_out hb]
        exact un.tbls b ps (by rw [cut_out hb]; exact e)
      · by_cases hb : b ∈ cellsOf F fr
        · rw [mend_in hb] at e
          obtain ⟨v', d⟩ := cellAt b hb
          rw [d] at e
          cases e
          obtain ⟨u', r', o', z1, z2⟩ := cellO_at e0.hok d
          exact cellO_ok ⟨u', r', o', un.keep b o' z1 (cut_in hb) (notfr b hb) (by simp), z2⟩
        · rw [mend_out hb] at e
          refine (hok1 b o e).stay (fun c u _ q => q) (fun c q => ?_) fun c xs q => ?_
          · have hb' : c ∉ cellsOf F fr := fun z => by
              rw [gone c z] at q
              cases q
            rw [mend_out hb']
            exact q
          · have hb' : c ∉ cellsOf F fr := fun z => by
              rw [gone c z] at q
              cases q
            rw [mend_out hb']
            exact q
end
theorem mend_at {cs : List Addr} {H H1 : Hp} {a : Addr} {o : HO} (g : ∀ b, b ∈ cs → H1 b = Option.none) (e : H1 a = some o) : mend cs H H1 a = some o := by
  rw [mend_out fun z => by rw [g a z] at e; cases e]
  exact e
theorem cut_at {cs : List Addr} {H : Hp} {a : Addr} {o : HO} (n : a ∉ cs) (e : H a = some o) : cut cs H a = some o := (cut_out n).trans e
end Inf

set_option Elab.async false
set_option linter.all false
set_option maxRecDepth 100000
set_option maxHeartbeats 4000000
namespace Inf
open PySem PySem.Spec PyProof.Rows L2 NdefX LamX
/-! ### a body that ends in a return: what its names hold there is told -/
abbrev TSR := (L2.St → V → Hp → Prop) → L2.St → Hp → Prop
structure PSsR (X : Cx) (ss : List Stmt) (t : TSR) : Prop where
  run : ∀ (pins : List (Addr × Obj)) (s : Shared) (σ : L2.St) (H : Hp) (R : L2.St → V → Hp → Prop), Inv X pins σ H s → t R σ H →
    wpAny (model X.prog X.w) X.A (execs ss X.env) (fun fl s' => ∃ u v σ' H', fl = .ret u ∧ Inv X pins σ' H' s' ∧ L2.RelV v u ∧ R σ' v H') X.xe s
theorem psr_cons {X : Cx} {st : Stmt} {rest : List Stmt} {t : TS} {u : TSR} (h1 : PS X st t) (h2 : PSsR X rest u) : PSsR X (st :: rest) (fun R σ H => t { nx := fun σ' H' => u R σ' H', rt := fun _ _ => False } σ H) := by
  refine ⟨fun pins s σ H R I h => ?_⟩
  refine wpAny_execs_cons (thn (h1.run pins s σ H { nx := fun σ' H' => u R σ' H', rt := fun _ _ => False } I h) fun fl s1 q => ?_)
  cases fl with
  | next =>
    obtain ⟨σ1, H1, I1, q1⟩ := q
    exact h2.run pins s1 σ1 H1 R I1 q1
  | brk =>
    obtain ⟨_, _, _, q1⟩ := q
    exact False.elim q1
  | cont =>
    obtain ⟨_, _, _, q1⟩ := q
    exact False.elim q1
  | ret v =>
    obtain ⟨_, _, _, _, _, q1⟩ := q
    exact False.elim q1
theorem psr_ret {X : Cx} {e : Expr} {pos : Pos} {te : TE} (he : PE X e te) : PSsR X [.Return (some e) pos] (fun R σ H => te σ H (R σ)) := by
  refine ⟨fun pins s σ H R I h => ?_⟩
  refine wpAny_execs_cons (wpAny_Return_some (thn (he.run pins s σ H _ I h) fun v s1 ⟨x, H1, I1, r1, q1⟩ => ?_))
  exact ⟨v, x, σ, H1, rfl, I1, r1, q1⟩
/-! ### a def that returns things that hold its names -/
/-- the heap behind the return: the def's cells are told -/
structure Fin (cells : List (Str × Addr)) (names : List (Str × NameKind)) (N : List Str) (σ : L2.St) (H H' : Hp) : Prop where
  same : Same H H'
  gone : ∀ b, H' b = Option.none → H b = Option.none
  inj : ∀ x y c, cells.lookup x = some c → cells.lookup y = some c → x = y
  at_ : ∀ (i : Nat) (y : Str) (c : Addr) (v : V), N[i]? = some y → names.lookup y = some .cell → cells.lookup y = some c → σ[i]? = some (some v) → H' c = some (CellO c v)
theorem cells_big : ∀ (names : List (Str × NameKind)) (n lo : Nat) (acc : List (Str × Addr)), (∀ p ∈ acc, lo ≤ p.2) → lo ≤ n → ∀ p ∈ cellsFrom n names acc, lo ≤ p.2
  | [], n, lo, acc, h, _ => h
  | (x, kd) :: r, n, lo, acc, h, hn => by
    unfold cellsFrom
    split
    · exact cells_big r (n + 1) lo _ (fun p hp => by
        rcases List.mem_cons.mp hp with rfl | hp
        · exact hn
        · exact h p hp) (by omega)
    · exact cells_big r n lo acc h hn
section
variable {CX : CXT} {P : Program} {w : World} {K : PySem.W.Frag} {mg : Str → Option Value} {base : Heap} {N ps : List Str} {qual : Str} {scope : Scope} {f : Addr} {cdv : Value} {A : Around} {outer : List Env} {s s' : Shared} {H H' : Hp} {E : XK} {σ : L2.St} {Q : VK}
open Classical in
theorem fin_make (nd : N.Nodup) (J : Inv (cxOf CX P w K mg base N qual scope f cdv A outer s H E) [] σ H' s') :
    ∃ H'', Fin (envOfC qual scope s.heap.objs.size f cdv).cells scope.names N σ H' H'' ∧ Un (frs outer) [] H H'' s.heap s'.heap ∧ HOk P w H'' s'.heap := by
  have ge : ∀ (y : Str) (c : Addr), (envOfC qual scope s.heap.objs.size f cdv).cells.lookup y = some c → s.heap.objs.size ≤ c := fun y c e =>
    cells_big scope.names (s.heap.objs.size + 1) s.heap.objs.size [] (fun p hp => by cases hp) (Nat.le_succ _) (y, c) (PySem.mem_of_lookup e)
  have J0 : Un (frs outer) [] H H' s.heap s'.heap := J.base
  have inj := J.ok.inj
  let Pr : Addr → V → Prop := fun b v => ∃ (i : Nat) (y : Str), N[i]? = some y ∧ scope.names.lookup y = some .cell ∧ (envOfC qual scope s.heap.objs.size f cdv).cells.lookup y = some b ∧ σ[i]? = some (some v)
  have gone : ∀ b v, Pr b v → H' b = Option.none := fun b v ⟨i, y, _, _, e, _⟩ => J.freeC y b e
  have uniq : ∀ b v u, Pr b v → Pr b u → v = u := fun b v u ⟨i, y, a1, a2, a3, a4⟩ ⟨j, z, b1, b2, b3, b4⟩ => by
    have e1 : y = z := inj y z b a3 b3
    subst e1
    have e2 : i = j := by
      obtain ⟨h1, g1⟩ := List.getElem?_eq_some_iff.mp a1
      obtain ⟨h2, g2⟩ := List.getElem?_eq_some_iff.mp b1
      exact (List.getElem_inj nd).mp (g1.trans g2.symm)
    subst e2
    rw [a4] at b4
    exact Option.some.inj (Option.some.inj b4)
  let H'' : Hp := fun b => if h : ∃ v, Pr b v then some (CellO b (Classical.choose h)) else H' b
  have inC : ∀ b v, Pr b v → H'' b = some (CellO b v) := fun b v h => by
    have hx : ∃ v, Pr b v := ⟨v, h⟩
    show (if h : ∃ v, Pr b v then some (CellO b (Classical.choose h)) else H' b) = _
    rw [dif_pos hx, uniq b _ v (Classical.choose_spec hx) h]
  have outC : ∀ b, (¬ ∃ v, Pr b v) → H'' b = H' b := fun b h => dif_neg h
  have known : ∀ b o, H' b = some o → H'' b = some o := fun b o e => by
    rw [outC b fun ⟨v, h⟩ => by rw [gone b v h] at e; cases e]
    exact e
  refine ⟨H'', ⟨known, fun b e => ?_, inj, fun i y c v h1 h2 h3 h4 => inC c v ⟨i, y, h1, h2, h3, h4⟩⟩, ⟨J0.keep, J0.slot, fun b o a n h2 => ?_, J0.there, fun b xs e => known _ _ (J0.tups b xs e), fun b o u e => known _ _ (J0.frzs b o u e), fun b ps' e => ?_⟩, fun b o e => ?_⟩
  · by_cases hb : ∃ v, Pr b v
    · obtain ⟨v, h⟩ := hb
      rw [inC b v h] at e
      cases e
    · rw [outC b hb] at e
      exact e
  · rw [outC b fun ⟨v, i, y, _, _, e, _⟩ => by
      exact absurd (Heap.lt_size a) (Nat.not_lt.mpr (ge y b e))]
    exact J0.free b o a n h2
  · obtain ⟨more, e2⟩ := J0.tbls b ps' e
    exact ⟨more, known _ _ e2⟩
  · by_cases hb : ∃ v, Pr b v
    · obtain ⟨v, h⟩ := hb
      rw [inC b v h] at e
      cases e
      obtain ⟨i, y, a1, a2, a3, a4⟩ := h
      obtain ⟨m, hn, hl⟩ := J.loc
      obtain ⟨u, ru, lk⟩ := hl i y v a1 a4 (.inr (.inl a2))
      refine cellO_ok ⟨u, ru, ?_⟩
      rcases lk with ⟨z, _⟩ | ⟨_, c', hc', hcell⟩
      · have z' : scope.names.lookup y = some .local := z
        rw [a2] at z'
        cases z'
      · have hc2 : (envOfC qual scope s.heap.objs.size f cdv).cells.lookup y = some c' := hc'
        rw [a3] at hc2
        cases hc2
        exact hcell
    · rw [outC b hb] at e
      exact (J.hok b o e).stay (fun c u _ q => q) (fun c q => known _ _ q) fun c xs q => known _ _ q
end
/-- THE RULE for such a def -/
theorem Fun.okC {P : Program} {w : World} {K : PySem.W.Frag} {mg : Str → Option Value} {base : Heap} {x qual : Str} {st : Stmt} {f : Addr} {fd : FuncData} {N ps : List Str} {k : Nat} {sp : Sp} (F : L2.Fun K x qual st f fd) (S : FnScope N ps (defScope st)) (len : ∀ vs H Q E, sp vs H Q E → vs.length = ps.length)
    (hbody : ∀ (cdv : Value) (A : Around) (outer : List Env) (s : Shared) (H : Hp) (vs : List V) (Q : VK) (E : XK), Room k (A.deeper (envOfC qual (defScope st) s.heap.objs.size f cdv)) → PySem.W.codeIn K cdv qual = true → sp vs H Q E →
      ∃ t, PSsR (cxOf CX0 P w K mg base N qual (defScope st) f cdv A outer s H E).nox (defBody st) t ∧
        t (fun σ v H' => ∀ H'', Fin (envOfC qual (defScope st) s.heap.objs.size f cdv).cells (defScope st).names N σ H' H'' → Q v H'') (start N vs) H) : FnOk P w K mg base CX0 (k + 1) f fd ps sp := by
  obtain ⟨oc, od, kV, doc, pm, an, cdv, ct, osl, rfl, lk, hcd⟩ := F.ex
  refine ⟨len, fun A outer s H args us vs Q E hr e0 hb r hsp => ?_⟩
  have hl := len _ _ _ _ hsp
  have KX : K.In s.heap := e0.mod.kin.keeps fun b o e => (e0.bs b o e).1
  have lim : s.heap.NoLimit := e0.mod.nolimit.keeps fun b o e => (e0.bs b o e).1
  have hkind : ∀ y ∈ ps.zip us, (defScope st).names.lookup y.1 = some .local ∨ ((defScope st).names.lookup y.1 = some .cell ∧ ((cellsFrom (s.heap.objs.size + 1) (defScope st).names []).lookup y.1).isSome = true) := fun ⟨n, v⟩ hy => by
    rcases S.par n (List.of_mem_zip hy).1 with q | q
    · exact .inl q
    · exact .inr ⟨q, PySem.W.cellsFrom_some _ _ _ (.inl q)⟩
  refine codeAny_call_function hr.depth (KX _ _ lk) rfl S.co S.gen rfl (PySem.W.codeRec_of KX hcd) (hb _ _ _ _ ?_)
  refine wpAny_newFunctionEnv_cells S.kind hkind fun env he s1 xx => ?_
  subst he
  refine ⟨lim.keeps xx.toInCall.keep, codeAny_func ?_⟩
  obtain ⟨t, ht, hq⟩ := hbody cdv A outer s H vs Q E (hr.deeper _) hcd hsp
  have I : Inv (cxOf CX0 P w K mg base N qual (defScope st) f cdv A outer s H E) [] (start N vs) H s1 := inv_start S hr.hd e0 hl r xx
  refine wpAny_mono (ht.run [] s1 (start N vs) H _ (I.wish _) hq) (fun fl s' hs => ?_) fun e s' hs => False.elim hs
  obtain ⟨u, v, σ', H', rfl, J', rv, q⟩ := hs
  have J : Inv (cxOf CX0 P w K mg base N qual (defScope st) f cdv A outer s H E) [] σ' H' s' := J'.unwish
  obtain ⟨H'', hF, hU, hO⟩ := fin_make S.nd J
  exact ⟨v, H'', J.os, J.bare, hU, hO, rv, q H'' hF⟩
end Inf

set_option Elab.async false
set_option linter.all false
set_option maxRecDepth 100000
set_option maxHeartbeats 4000000
namespace Inf
open PySem PySem.Spec PyProof.Rows L2 NdefX LamX
/-! ### f( *values), f a name that holds a function that was made in a def -/
/-- such a thing is a function object -/
def FnHO (f : Addr) (o : HO) : Prop := ∀ (P : Program) (w : World) (H : Hp) (h : Heap), HOk P w H h → H f = some o → PySem.W.FnAt f h
theorem fnHO_of {f : Addr} {F : NF} : FnHO f (FnO f F) := fun P w H h hok e => by
  obtain ⟨od, sl, doc, pm, ctv, z⟩ := fnO_at hok e
  exact ⟨_, od, _, sl, z⟩
def tAct (P : Program) (w : World) (K : PySem.W.Frag) (mg : Str → Option Value) (base : Heap) (CX : CXT) (k i : Nat) (E : L2.St → XK) (te : TE) : TE := fun σ H Q => ∃ f, σ[i]? = some (some (.ref f)) ∧ te σ H fun y H1 => ∃ a xs o sp, y = V.ref a ∧ (SqT K H1 a xs ∨ SqL K H1 a xs) ∧ H1 f = some o ∧ FnHO f o ∧
  FnR P w K mg base CX k f sp ∧ sp xs H1 Q (E σ)
section
variable {X : Cx} {CX : CXT} {k i : Nat} {E : L2.St → XK} {x : Str} {e : Expr} {te : TE} {p sp_ pos : Pos}
theorem run_fnE {pins : List (Addr × Obj)} {σ : L2.St} {H : Hp} {s : Shared} {f : Addr} {sp : Sp} {Q : VK} {us : List Value} {vs : List V} (F : FnR X.prog X.w X.K X.mg X.base CX k f sp) (hr : Room k X.A) (hx : PassesAt CX X σ (E σ)) (I : Inv X pins σ H s) (r : Vals vs us) (h : sp vs H Q (E σ)) :
    wpAny (model X.prog X.w) X.A (call (.ref f) us) (EP X pins σ Q) X.xe s := by
  refine wpAny_call (codeAny_mono (F X.A X.stack s H us vs Q (E σ) hr I.env0 r h) fun r s' hq => ?_)
  match r, hq with
  | .error e, hq => exact hx pins H s e s' I hq
  | .ok (.ret u), hq => exact I.after hq
  | .ok .next, hq => exact False.elim hq
  | .ok .brk, hq => exact False.elim hq
  | .ok .cont, hq => exact False.elim hq
theorem pe_act (hN : X.N[i]? = some x) (hv : Vis X.env.scope x) (hr : Room k X.A) (hx : ∀ σ, PassesAt CX X σ (E σ)) (he : PE X e te) (hd : (x == ("__debug__" : Str)) = false := by decide) (hcd : (x == ("__classdict__" : Str)) = false := by decide)
    (hst : starEach [.Starred e sp_] X.env = [(true, eval e X.env)] := by rfl) : PE X (.Call (.Name x p) [.Starred e sp_] [] pos) (tAct X.prog X.w X.K X.mg X.base CX k i E te) := by
  refine ⟨fun pins s σ H Q I h => ?_⟩
  obtain ⟨f, hs, h⟩ := h
  refine wpAny_Call_Name_kw (thn ((pe_var (pos := p) hN hv hd hcd).run pins s σ H (fun v H1 => v = .ref f ∧ H1 = H) I ⟨.ref f, hs, rfl, rfl⟩) fun u s1 ⟨v, H1, I1, r1, ev, eH⟩ => ?_)
  subst ev
  rw [eH] at I1
  obtain rfl : u = Value.ref f := r1
  rw [show backTo pos (starEach [.Starred e sp_] X.env) = [(true, (do let v ← eval e X.env; standAt pos; pure v))] by rw [hst]; rfl]
  refine PySem.W.ks_call (P := PySem.W.FnAt f) rfl PySem.W.keeps_F (PySem.W.ks_lone ?_)
  refine thn (he.run pins s1 σ H _ I1 h) fun v s2 ⟨y, H2, I2, ry, a, xs, o, sp, ey, hxs, hf, ho, hF, q⟩ => ?_
  subst ey
  obtain rfl : v = Value.ref a := ry
  exact StX.star_any I2 hxs fun us s3 I3 rv => ⟨ho _ _ _ _ I3.hok hf, run_fnE hF hr (hx σ) I3 rv q⟩
end
/-! ### try: body finally: suite, where nothing is raised -/
section
variable {X : Cx} {body : List Stmt} {f₀ : Stmt} {fs : List Stmt} {pos : Pos} {tb tf : TS}
def tFin0 (tb tf : TS) : TS := fun D σ H => tb { nx := fun σ1 H1 => tf D σ1 H1, rt := fun _ _ => False } σ H
theorem ps_fin0 (hb : PSs X.nox body tb) (hf : PSs X.nox (f₀ :: fs) tf) : PS X (.Try body [] [] (f₀ :: fs) pos) (tFin0 tb tf) := by
  refine ⟨fun pins s σ H D I h => wpAny_Try_finally (wpAny_mono (hb.run pins s σ H _ (I.wish _) h) (fun g s1 z => ?_) fun _ _ z => False.elim z)⟩
  match g, z with
  | .ret u, z => exact (z.elim fun _ z => z.elim fun _ z => z.elim fun _ z => z.2.2).elim
  | .brk, z => exact (z.elim fun _ z => z.elim fun _ z => z.2).elim
  | .cont, z => exact (z.elim fun _ z => z.elim fun _ z => z.2).elim
  | .next, z =>
    obtain ⟨σ1, H1, J1, q1⟩ := z
    refine wpAny_execs_nil (wpAny_mono (hf.run pins s1 σ1 H1 D (J1.unwish.wish _) q1) (fun g2 s2 q2 => ?_) fun _ _ e => False.elim e)
    have q3 : SP X pins D g2 s2 := q2.unwish
    cases g2 <;> exact q3
end
end Inf

set_option Elab.async false
set_option linter.all false
set_option maxRecDepth 100000
set_option maxHeartbeats 4000000
namespace Inf
open PySem PySem.Spec PyProof.Rows L2 NdefX LamX
/-- the tables of the code objects of the top's defs, as the written part and the head tell them -/
def TopTabs (q : Program) (K : PySem.W.Frag) (mg : Str → Option Value) (h : Heap) : Prop := ∀ (x : Str) (f c P : Addr) (o1 : Obj) (fd1 : FuncData) (e : Value) (dd : Option Addr) (vs1 : Array Value) (sl : Array (Option Value)),
  (recsOf q).any (fun d => d.name == x) = true → mg x = some (.ref f) → K.lookup f = some o1 → o1.data = .func fd1 → fd1.code = .ref c → K.lookup c = some ⟨e, dd, .fields vs1, sl⟩ → vs1[11]? = some (.ref P) →
    PySem.W.CodeHd h c P ∧ h.get? P = some { cls := .none, data := .fields #[] }
theorem walk_top {l : PySem.W.OpenLaw} {n k : Nat} {q : Program} {loose : List Str} {XP : (Str → Option Value) → Heap → Prop} {YP : World → Heap → Prop} {d : DefRec} {K : Params → PySem.W.Frag} {CX : World → CXT} {x : Str}
    (hn : l.most = some n) (hn2 : n ≤ sizeLine) (hdf : d.params.defaults = []) (hr : Room k callerA) (hY : ∀ (w : World) (h : Heap), YP w h → (K w.params).In h)
    (F : ∀ (w : World) (mg : Str → Option Value) (fa : Addr) (h : Heap), YP w h → (K w.params).In h → h.Ns mainGlobals mg → mg d.name = some (.ref fa) → TopTabs q (K w.params) mg h → LawAtS l w (K w.params) (CX w) k n x mg fa h)
    (hCX : ∀ (w : World) (H : Hp) (s : Shared) (e : Value) (s' : Shared), CX w [] H s (fun _ _ _ => False) e s' → False) :
    PySem.W.WalkO q loose XP YP l.row.toRowW d [] (fun f vs => PySem.call f vs) :=
  Att.attach_callB hn hdf fun w s₀ s₁ mg mb fa o pm cd doc a vs ns G Y ho hd hcd hmg hobj hints hlen hbits hg => by
    have KX := hY w _ Y
    have tabs : TopTabs q (K w.params) mg s₁.heap := fun x f c P o1 fd1 e dd vs1 sl hrec hx k1 k2 k3 k4 k5 => by
      obtain ⟨dL, hm, hn1⟩ := List.any_eq_true.mp hrec
      have hn2 : dL.name = x := beq_iff_eq.mp hn1
      obtain ⟨a', o', fd', c', P', h1, h2, h3, h4, h5, h6⟩ := G.T.tab dL hm
      rw [hn2, hx] at h1
      cases h1
      have g1 := KX _ _ k1
      rw [g1] at h2
      cases h2
      rw [k2] at h3
      cases h3
      rw [k3] at h4
      cases h4
      have hC := PySem.W.CodeHd.of h5 h6
      obtain ⟨⟨oc, vc, e1, _, e3, e4⟩, hP⟩ := h6
      have g2 := KX _ _ k4
      rw [g2] at e1
      cases e1
      cases e3
      rw [k5] at e4
      cases e4
      exact ⟨hC, hP⟩
    obtain ⟨fd, cs, sp, hT, nT, C, hb, hsp, hF⟩ := F w mg fa _ Y KX G.T.g hmg tabs
    exact law_callTs KX G.T.g G.T.b G.T.builtins G.T.nolimit hg hT nT C G.T.bmain hobj hints (Nat.le_trans hlen hn2) hr hF hb (fun H hH hS => hsp H a ns hlen hbits hH hS) fun H e s' => hCX w H s₁ e s'
end Inf

set_option Elab.async false
set_option linter.all false
set_option maxRecDepth 100000
set_option maxHeartbeats 4000000
namespace Inf
open PySem PySem.Spec PyProof.Rows L2 NdefX LamX
/-! ### promises of defs that are called where no repr is under way -/
structure FnOkG (P : Program) (w : World) (K : PySem.W.Frag) (mg : Str → Option Value) (base : Heap) (CX : CXT) (k : Nat) (f : Addr) (fd : FuncData) (ps : List Str) (sp : Sp) : Prop where
  len : ∀ vs H Q E, sp vs H Q E → vs.length = ps.length
  run : ∀ (A : Around) (outer : List Env) (s : Shared) (H : Hp) (args : Args) (us : List Value) (vs : List V) (Q : VK) (E : XK), A.guards = some [] → Room k A → Env0 P w K mg base A outer s H → BindsTo s fd args (ps.zip us) → Vals vs us → sp vs H Q E →
    codeAny (model P w) A (.call (.ref f) args) (CR CX outer P w H s Q E) s
theorem FnOkG.of {P : Program} {w : World} {K : PySem.W.Frag} {mg : Str → Option Value} {base : Heap} {CX : CXT} {k : Nat} {f : Addr} {fd : FuncData} {ps : List Str} {sp : Sp} (F : FnOk P w K mg base CX k f fd ps sp) : FnOkG P w K mg base CX k f fd ps sp :=
  ⟨F.len, fun A outer s H args us vs Q E _ => F.run A outer s H args us vs Q E⟩
section
variable {P : Program} {w : World} {K : PySem.W.Frag} {mg mb : Str → Option Value} {CX : CXT} {k : Nat} {fa a : Addr} {cs : List (Addr × Addr)} {fd : FuncData} {x : Str} {sp : Sp} {s₁ : Shared} {vs : List Value} {ns : List Int}
/-- the law's call, from such a promise -/
theorem call_lawG (KX : K.In s₁.heap) (hns : s₁.heap.Ns mainGlobals mg) (hb : s₁.heap.Ns builtinsNs mb) (hbb : ∀ x : Str, x ≠ "__name__" → mb x = bootBuiltins x) (hlim : s₁.heap.NoLimit) (hg : s₁.gens = #[])
    (hT : ∀ p ∈ cs, s₁.heap.get? p.2 = some { cls := .none, data := .fields #[] }) (nT : ∀ p ∈ cs, K.lookup p.2 = none) (C : ∀ p ∈ cs, PySem.W.CodeHd s₁.heap p.1 p.2)
    (hbm : ∃ (bm : Addr) (ob : Obj), mg "__builtins__" = some (.ref bm) ∧ bm ≠ builtinsNs ∧ s₁.heap.get? bm = some ob ∧ ob.cls = .type "module" ∧ ob.dict = some builtinsNs ∧ ob.data = .plain)
    (ha : s₁.heap.get? a = some { cls := .type "list", data := .seq vs.toArray }) (hi : IntsAre vs ns) (hl : ns.length ≤ sizeLine) (hr : Room k callerA)
    (F : ∀ base : Heap, K.In base → base.Ns mainGlobals mg → (∀ p ∈ cs, TabB base mg p.1 p.2) → FnOkG P w K mg base CX k fa fd [x] sp) (hbind : ∀ (s : Shared) (u : Value), BindsTo s fd ⟨[u], []⟩ [(x, u)])
    (hsp : ∀ H : Hp, (∀ p ∈ cs, H p.2 = some (.tbl #[])) → SqL K H a (ns.map V.int) → sp [.ref a] H (fun v _ => v = .bl true) fun _ _ _ => False)
    (hCX : ∀ H e s', CX [] H s₁ (fun _ _ _ => False) e s' → False) :
    codeAny (model P w) callerA (.call (.ref fa) ⟨[.ref a], []⟩) (fun r s' => r = .ok (.ret (.bool true)) ∧ OldK s₁.heap s'.heap ∧ s'.os = s₁.os ∧ AllBare s'.gens) s₁ := by
  have tabAt : ∀ b, b ∈ cs.map (·.2) → s₁.heap.get? b = some { cls := .none, data := .fields #[] } := fun b hb => (List.mem_map.mp hb).elim fun p hp => hp.2 ▸ hT p hp.1
  have tabK : ∀ b, b ∈ cs.map (·.2) → K.lookup b = none := fun b hb => (List.mem_map.mp hb).elim fun p hp => hp.2 ▸ nT p hp.1
  -- the abstract heap: the tables, and the script where the written part doesn't hold it
  let H : Hp := fun b => if b ∈ cs.map (·.2) then some (.tbl #[]) else if b = a ∧ K.lookup a = none then some (.frz { cls := .type "list", data := .seq vs.toArray } (.lst (ns.map V.int))) else none
  have aNot : a ∉ cs.map (·.2) := fun z => by
    have := tabAt a z
    rw [ha] at this
    cases this
  have Htab : ∀ b, b ∈ cs.map (·.2) → H b = some (.tbl #[]) := fun b hb => if_pos hb
  have Hcase : ∀ b u, H b = some u → (b ∈ cs.map (·.2) ∧ u = .tbl #[]) ∨ (b = a ∧ K.lookup a = none ∧ u = .frz { cls := .type "list", data := .seq vs.toArray } (.lst (ns.map V.int))) := fun b u e => by
    by_cases h1 : b ∈ cs.map (·.2)
    · exact .inl ⟨h1, Option.some.inj (e.symm.trans (Htab b h1))⟩
    · by_cases h2 : b = a ∧ K.lookup a = none
      · exact .inr ⟨h2.1, h2.2, Option.some.inj (e.symm.trans ((if_neg h1).trans (if_pos h2)))⟩
      · exact absurd (e.symm.trans ((if_neg h1).trans (if_neg h2))) (fun z => nomatch z)
  have other : ∀ b o, s₁.heap.get? b = some o → (∀ its n, o.data ≠ .seq its n) → o.data ≠ .fields #[] → H b = none := fun b o e n1 n2 => by
    match q : H b with
    | none => rfl
    | some u =>
      rcases Hcase b u q with ⟨z, _⟩ | ⟨z, _, _⟩
      · rw [tabAt b z] at e
        exact absurd (by cases e; rfl) n2
      · rw [z, ha] at e
        exact absurd (by cases e; rfl) (n1 vs.toArray 0)
  have hok : HOk P w H s₁.heap := fun b u e => by
    rcases Hcase b u e with ⟨z, rfl⟩ | ⟨rfl, _, rfl⟩
    · exact tabAt b z
    · exact ⟨ha, by rw [List.length_map]; exact hl, vs, _, vals_ints hi, ha⟩
  have hS : SqL K H a (ns.map V.int) := by
    match hk : K.lookup a with
    | none => exact .inl (.inr ⟨_, (if_neg aNot).trans (if_pos ⟨rfl, hk⟩)⟩)
    | some o =>
      have e := KX a o hk
      rw [ha] at e
      cases e
      have lenV := hi.length
      exact .inr ⟨_, vs.toArray, _, hk, rfl, rfl, rfl, by rw [List.size_toArray, lenV]; exact hl, by simpa using vals_ints hi⟩
  have low : ∀ b o, s₁.heap.get? b = some o → H b = none → (hidT s₁.heap H).get? b = some o := fun b o e n => hidT_get e n
  have lowNs : ∀ {b : Addr} {m : Str → Option Value}, s₁.heap.Ns b m → (hidT s₁.heap H).Ns b m := fun {b m} h => by
    obtain ⟨o, es, ep, e, d, r⟩ := h
    exact ⟨o, es, ep, low b o e (other b o e (fun its n z => by rw [d] at z; cases z) fun z => by rw [d] at z; cases z), d, r⟩
  have lowK : K.In (hidT s₁.heap H) := fun b o e => low b o (KX b o e) (by
    match q : H b with
    | none => rfl
    | some u =>
      rcases Hcase b u q with ⟨z, _⟩ | ⟨rfl, z, _⟩
      · rw [tabK b z] at e
        cases e
      · rw [z] at e
        cases e)
  have notG : ∀ b o, s₁.heap.get? b = some o → (∀ es ep, o.data ≠ .dict es ep) → b ≠ mainGlobals := fun b o e n z => by
    obtain ⟨o', es, ep, e', d, _⟩ := hns
    rw [z, e'] at e
    cases e
    exact n es ep d
  have lowT : ∀ p ∈ cs, TabB (hidT s₁.heap H) mg p.1 p.2 := fun p hp => by
    refine ⟨?_, ?_, Ne.symm (notG p.2 _ (hT p hp) (fun es ep z => nomatch z))⟩
    · obtain ⟨o, us, file, tf, flags, tg, inF, text, tt, e1, r1, r2, r3, rest⟩ := C p hp
      refine ⟨o, us, file, tf, flags, tg, inF, text, tt, low _ o e1 (other _ o e1 (fun its n z => by rw [r2] at z; cases z) fun z => ?_), r1, r2, r3, rest⟩
      rw [r2] at z
      cases z
      simp at r3
    · obtain ⟨bm, ob, b1, b2, b3, b4, b5, b6⟩ := hbm
      refine ⟨bm, ob, b1, b2, notG bm ob b3 (fun es ep z => by rw [b6] at z; cases z), fun z => ?_, low bm ob b3 (other bm ob b3 (fun its n z => by rw [b6] at z; cases z) fun z => by rw [b6] at z; cases z), b4, b5, b6⟩
      rw [z, hT p hp] at b3
      cases b3
      cases b6
  have lowM : L2.Mod K mg (hidT s₁.heap H) := ⟨lowK, lowNs hns, ⟨mb, lowNs hb, hbb⟩, hlim.elim fun mc h => ⟨mc, lowNs h.1, h.2⟩⟩
  have e0 : Env0 P w K mg (hidT s₁.heap H) callerA [] s₁ H := ⟨rfl, lowM, fun b o e => of_hidT e, Nat.le_of_eq (hidT_size _ _), trivial, fun b hb => absurd (show b ∈ ([] : List Addr) from hb) (List.not_mem_nil), hok, .of_eq hg⟩
  refine codeAny_mono ((F _ lowK (lowNs hns) lowT).run callerA [] s₁ H ⟨[.ref a], []⟩ [.ref a] [.ref a] _ _ rfl hr e0 (hbind s₁ (.ref a)) (.cons rfl .nil) (hsp H (fun p hp => Htab _ (List.mem_map.mpr ⟨p, hp, rfl⟩)) hS)) fun r s' h => ?_
  match r, h with
  | .error e, h => exact (hCX H e s' h).elim
  | .ok .next, h => exact False.elim h
  | .ok .brk, h => exact False.elim h
  | .ok .cont, h => exact False.elim h
  | .ok (.ret u), h =>
    obtain ⟨v, H', os, bare, un, hok', r', q⟩ := h
    have q2 : v = .bl true := q
    subst q2
    obtain rfl : u = Value.bool true := r'
    have stays : ∀ b o, b ∉ cs.map (·.2) → s₁.heap.get? b = some o → s'.heap.get? b = some o := fun b o nb e => by
      match z : H b with
      | none => exact un.keep b o e z (fun z => nomatch z) (fun z => nomatch z)
      | some u =>
        rcases Hcase b u z with ⟨y, _⟩ | ⟨rfl, _, rfl⟩
        · exact absurd y nb
        · obtain ⟨e1, _⟩ := hok' b _ (un.frzs b _ _ z)
          rw [ha] at e
          cases e
          exact e1
    have tabs : ∀ p ∈ cs, ∃ more : Array Value, s'.heap.get? p.2 = some { cls := .none, data := .fields more } := fun p hp =>
      (un.tbls p.2 #[] (Htab _ (List.mem_map.mpr ⟨p, hp, rfl⟩))).elim fun more z => ⟨_, hok' p.2 _ z⟩
    refine ⟨rfl, ⟨fun b o e => ?_, fun b o e => ?_⟩, os, bare⟩
    · by_cases nb : b ∈ cs.map (·.2)
      · obtain ⟨p, hp, rfl⟩ := List.mem_map.mp nb
        rw [hT p hp] at e
        cases e
        exact (tabs p hp).elim fun more hm => .inr (.inl ⟨((C p hp).tab (hT p hp)).isCodeTable, rfl, #[], more, rfl, hm.trans (by rw [Array.empty_append])⟩)
      · exact .inl (stays b o nb e)
    · by_cases nb : b ∈ cs.map (·.2)
      · obtain ⟨p, hp, rfl⟩ := List.mem_map.mp nb
        exact (tabs p hp).elim fun more hm => ⟨_, hm⟩
      · exact ⟨o, stays b o nb e⟩
end
/-- what is known of the law's promise at the head's heap, where no repr is under way -/
def LawAtG (l : PySem.W.OpenLaw) (w : World) (K : PySem.W.Frag) (CX : CXT) (k n : Nat) (x : Str) (mg : Str → Option Value) (fa : Addr) (h : Heap) : Prop :=
  ∃ (fd : FuncData) (cs : List (Addr × Addr)) (sp : Sp), (∀ p ∈ cs, h.get? p.2 = some { cls := .none, data := .fields #[] }) ∧ (∀ p ∈ cs, K.lookup p.2 = none) ∧ (∀ p ∈ cs, PySem.W.CodeHd h p.1 p.2) ∧ (∀ (s : Shared) (u : Value), BindsTo s fd ⟨[u], []⟩ [(x, u)]) ∧
    (∀ (H : Hp) (a : Addr) (ns : List Int), ns.length ≤ n → (∀ p ∈ cs, H p.2 = some (.tbl #[])) → SqL K H a (ns.map V.int) → sp [.ref a] H (fun v _ => v = .bl true) fun _ _ _ => False) ∧
    ∀ base : Heap, K.In base → base.Ns mainGlobals mg → (∀ p ∈ cs, TabB base mg p.1 p.2) → FnOkG l.prog w K mg base CX k fa fd [x] sp
theorem walk_topG {l : PySem.W.OpenLaw} {n k : Nat} {q : Program} {loose : List Str} {XP : (Str → Option Value) → Heap → Prop} {YP : World → Heap → Prop} {d : DefRec} {K : Params → PySem.W.Frag} {CX : World → CXT} {x : Str}
    (hn : l.most = some n) (hn2 : n ≤ sizeLine) (hdf : d.params.defaults = []) (hr : Room k callerA) (hY : ∀ (w : World) (h : Heap), YP w h → (K w.params).In h)
    (F : ∀ (w : World) (mg : Str → Option Value) (fa : Addr) (h : Heap), YP w h → (K w.params).In h → h.Ns mainGlobals mg → mg d.name = some (.ref fa) → TopTabs q (K w.params) mg h → LawAtG l w (K w.params) (CX w) k n x mg fa h)
    (hCX : ∀ (w : World) (H : Hp) (s : Shared) (e : Value) (s' : Shared), CX w [] H s (fun _ _ _ => False) e s' → False) :
    PySem.W.WalkO q loose XP YP l.row.toRowW d [] (fun f vs => PySem.call f vs) :=
  Att.attach_callB hn hdf fun w s₀ s₁ mg mb fa o pm cd doc a vs ns G Y ho hd hcd hmg hobj hints hlen hbits hg => by
    have KX := hY w _ Y
    have tabs : TopTabs q (K w.params) mg s₁.heap := fun x f c P o1 fd1 e dd vs1 sl hrec hx k1 k2 k3 k4 k5 => by
      obtain ⟨dL, hm, hn1⟩ := List.any_eq_true.mp hrec
      have hn2 : dL.name = x := beq_iff_eq.mp hn1
      obtain ⟨a', o', fd', c', P', h1, h2, h3, h4, h5, h6⟩ := G.T.tab dL hm
      rw [hn2, hx] at h1
      cases h1
      have g1 := KX _ _ k1
      rw [g1] at h2
      cases h2
      rw [k2] at h3
      cases h3
      rw [k3] at h4
      cases h4
      have hC := PySem.W.CodeHd.of h5 h6
      obtain ⟨⟨oc, vc, e1, _, e3, e4⟩, hP⟩ := h6
      have g2 := KX _ _ k4
      rw [g2] at e1
      cases e1
      cases e3
      rw [k5] at e4
      cases e4
      exact ⟨hC, hP⟩
    obtain ⟨fd, cs, sp, hT, nT, C, hb, hsp, hF⟩ := F w mg fa _ Y KX G.T.g hmg tabs
    exact call_lawG KX G.T.g G.T.b G.T.builtins G.T.nolimit hg hT nT C G.T.bmain hobj hints (Nat.le_trans hlen hn2) hr hF hb (fun H hH hS => hsp H a ns hlen hH hS) fun H e s' => hCX w H s₁ e s'
/-! ### bodies and calls of such defs -/
theorem okG {P : Program} {w : World} {K : PySem.W.Frag} {mg : Str → Option Value} {base : Heap} {x qual : Str} {st : Stmt} {f : Addr} {fd : FuncData} {N ps : List Str} {k : Nat} {sp : Sp} (F : L2.Fun K x qual st f fd) (S : FnScope N ps (defScope st)) (len : ∀ vs H Q E, sp vs H Q E → vs.length = ps.length)
    (hbody : ∀ (cdv : Value) (A : Around) (outer : List Env) (s : Shared) (H : Hp) (vs : List V) (Q : VK) (E : XK), (A.deeper (envOfC qual (defScope st) s.heap.objs.size f cdv)).guards = some [] → Room k (A.deeper (envOfC qual (defScope st) s.heap.objs.size f cdv)) → sp vs H Q E →
      ∃ t, PSs (cxOf CX0 P w K mg base N qual (defScope st) f cdv A outer s H E).nox (defBody st) t ∧ t { nx := fun _ H' => Q .non H', rt := Q } (start N vs) H) : FnOkG P w K mg base CX0 (k + 1) f fd ps sp := by
  obtain ⟨oc, od, kV, doc, pm, an, cdv, ct, osl, rfl, lk, hcd⟩ := F.ex
  refine ⟨len, fun A outer s H args us vs Q E hga hr e0 hb r hsp => ?_⟩
  have KX : K.In s.heap := e0.mod.kin.keeps fun b o e => (e0.bs b o e).1
  have lim : s.heap.NoLimit := e0.mod.nolimit.keeps fun b o e => (e0.bs b o e).1
  have hl := len _ _ _ _ hsp
  have hkind : ∀ y ∈ ps.zip us, (defScope st).names.lookup y.1 = some .local ∨ ((defScope st).names.lookup y.1 = some .cell ∧ ((cellsFrom (s.heap.objs.size + 1) (defScope st).names []).lookup y.1).isSome = true) := fun ⟨n, v⟩ hy =>
    (S.par n (List.of_mem_zip hy).1).elim .inl fun q => .inr ⟨q, PySem.W.cellsFrom_some _ _ _ (.inl q)⟩
  refine codeAny_call_function hr.depth (KX _ _ lk) rfl S.co S.gen rfl (PySem.W.codeRec_of KX hcd) (hb _ _ _ _ (wpAny_newFunctionEnv_cells S.kind hkind fun env he s1 xx => ?_))
  subst he
  obtain ⟨t, ht, hq⟩ := hbody cdv A outer s H vs Q E hga (hr.deeper _) hsp
  have I : Inv (cxOf CX0 P w K mg base N qual (defScope st) f cdv A outer s H E) [] (start N vs) H s1 := inv_start S hr.hd e0 hl r xx
  refine ⟨lim.keeps xx.toInCall.keep, codeAny_func (wpAny_mono (ht.run [] s1 (start N vs) H _ (I.wish _) hq) (fun fl s' hs => ?_) fun e s' hs => False.elim hs)⟩
  have fin : ∀ {σ' : L2.St} {H' : Hp} {v : V} {u : Value}, Inv (cxOf CX0 P w K mg base N qual (defScope st) f cdv A outer s H E).nox [] σ' H' s' → L2.RelV v u → Q v H' → CE outer P w H s Q u s' :=
    fun {σ' H' v u} J rv q => ⟨v, H', J.os, J.bare, J.base, J.hok, rv, q⟩
  match fl, hs with
  | .ret u, hs => exact hs.elim fun v z => z.elim fun σ' z => z.elim fun H' z => fin z.1 z.2.1 z.2.2
  | .next, hs => exact hs.elim fun σ' z => z.elim fun H' z => fin (v := V.non) (u := Value.none) z.1 rfl z.2
  | .brk, hs => exact hs.elim fun _ z => z.elim fun _ z => False.elim z.2
  | .cont, hs => exact hs.elim fun _ z => z.elim fun _ z => False.elim z.2
section
variable {X : Cx} {CX : CXT} {k : Nat} {f : Addr} {fd : FuncData} {ps : List Str} {sp : Sp} {E : XK} {x : Str} {p pos : Pos} {e : Expr} {es : List Expr} {t : TA}
/-- f(e, ..), f such a def -/
theorem pe_callG (F : FnOkG X.prog X.w X.K X.mg X.base CX k f fd ps sp) (hG : X.A.guards = some []) (hr : Room k X.A) (hg : Gl X x) (hm : X.mg x = some (.ref f)) (hk : PySem.W.keepIn X.K (.ref f) = true) (hb : L2.Binds X.K fd ps []) (hx : Passes CX X E)
    (ha : PA X (e :: es) t) (hdb : (x == ("__debug__" : Str)) = false := by decide) (he : starEach (e :: es) X.env = (false, eval e X.env) :: starEach es X.env := by rfl) (hpl : (backTo pos (starEach es X.env)).any (·.1) = false := by rfl) :
    PE X (.Call (.Name x p) (e :: es) [] pos) (fun σ H Q => t σ H fun vs H1 => sp vs H1 Q E) := by
  refine ⟨fun pins s σ H Q I h => wpAny_Call_Name_kw (ld_glob I hg hm (PySem.W.callWith_K (h₀ := X.base) I.ok.mod.kin hk (thn (ha.run pos pins s σ H _ I h) fun us s1 ⟨vs, H1, I1, r, q⟩ => ⟨I1.kIn, ?_⟩) he hpl) hdb)⟩
  have hl : us.length = ps.length := r.length.symm.trans (F.len _ _ _ _ q)
  have hb2 : BindsTo s1 fd ⟨us, []⟩ (ps.zip us) := by
    have := hb s1 us I1.kIn (by rw [List.append_nil]; exact hl)
    rwa [List.append_nil] at this
  refine wpAny_call (codeAny_mono (F.run X.A X.stack s1 H1 ⟨us, []⟩ us vs Q E hG hr I1.env0 hb2 r q) fun res s' hq => ?_)
  match res, hq with
  | .error er, hq => exact hx pins σ H1 s1 er s' I1 hq
  | .ok (.ret u), hq => exact I1.after hq
  | .ok .next, hq => exact False.elim hq
  | .ok .brk, hq => exact False.elim hq
  | .ok .cont, hq => exact False.elim hq
/-- repr of data: what PyData.shown says -/
theorem call_reprD (hG : X.A.guards = some []) (hu : X.A.units + 64 + 16 < cLine) : CallR X (.builtin "repr") (fun xs H Q => ∃ (v : V) (d : PyData), xs = [v] ∧ Dp X.K H v d ∧ d.showable = true ∧ d.hasDict = false ∧ d.depth ≤ 64 ∧ d.shown.length ≤ sizeLine ∧ (∀ i, v = .int i → i.natAbs.log2 < 1920) ∧ Q (.str d.shown) H) := by
  intro pins s σ H xs us Q I r h
  obtain ⟨v, d, rfl, hd, hs, hnd, hdp, hsz, hi, q⟩ := h
  obtain ⟨u, rfl, ru⟩ := vals1 r
  have txt : ∀ tk, ∃ (y : V) (H1 : Hp), Inv X pins σ H1 { s with toks := tk } ∧ L2.RelV y (.str d.shown s.toks) ∧ Q y H1 := fun tk => ⟨.str d.shown, H, I.kept (t' := tk) fun _ _ z => z, ⟨_, rfl⟩, q⟩
  have obj : ∀ (a : Addr), u = .ref a → wpAny (model X.prog X.w) X.A (call (.builtin "repr") [u]) (EP X pins σ Q) X.xe s := fun a e => by
    subst e
    obtain ⟨as, rd⟩ := Dp.reads I _ _ _ hd ru
    exact repr_of_reads' rd hs (fun z => by rw [hnd] at z; cases z) hG (by omega) (fun _ _ z => z) (fun h' u tk hk => ⟨.str d.shown, H, I.kept (h' := h') (t' := tk) hk, ⟨_, rfl⟩, q⟩) hsz
  cases hd with
  | non =>
    obtain rfl : u = Value.none := ru
    exact P.repr_of_none (txt _)
  | bl b =>
    obtain rfl : u = Value.bool b := ru
    exact P.repr_of_bool (by cases b <;> exact txt _)
  | int i =>
    obtain ⟨t, rfl⟩ := ru
    exact P.repr_of_int (hi i rfl) (txt _)
  | str y =>
    obtain ⟨t, rfl⟩ := ru
    exact P.repr_of_str (txt _) hsz
  | lst h1 h2 => exact obj _ ru
  | tup h1 h2 => exact obj _ ru
end
end Inf

set_option Elab.async false
set_option linter.all false
set_option maxRecDepth 100000
set_option maxHeartbeats 4000000
namespace Inf
open PySem PySem.Spec PyProof.Rows L2 NdefX LamX
/-! ### a lambda as a value: a function that stands where it was made -/
/-- its words, the cells that it captured, its code object -/
structure LF where
  qual : Str
  params : Arguments
  body : Expr
  scope : Scope
  cl : List (Str × Addr)
  c : Addr
def LamO (f : Addr) (F : LF) : HO := .ext fun h => ∃ (pm ctv : Value), h.get? f = some (PySem.W.kla_obj "<lambda>" F.qual F.params F.body F.scope F.cl pm F.c ctv)
theorem lamO_at {P : Program} {w : World} {H : Hp} {h : Heap} {f : Addr} {F : LF} (hok : HOk P w H h) (e : H f = some (LamO f F)) : ∃ (pm ctv : Value), h.get? f = some (PySem.W.kla_obj "<lambda>" F.qual F.params F.body F.scope F.cl pm F.c ctv) := by
  obtain ⟨z, _, _⟩ := hok f _ e
  exact z
theorem lamO_ok {P : Program} {w : World} {H : Hp} {h : Heap} {f : Addr} {F : LF} (e : ∃ (pm ctv : Value), h.get? f = some (PySem.W.kla_obj "<lambda>" F.qual F.params F.body F.scope F.cl pm F.c ctv)) : ObjOk P w H h f (LamO f F) := by
  refine ⟨e, ?_, fun h1 h2 ⟨pm, ctv, z⟩ k => ⟨pm, ctv, k _ z⟩⟩
  obtain ⟨pm, ctv, z⟩ := e
  exact ⟨_, z⟩
theorem lamHO {f : Addr} {F : LF} : FnHO f (LamO f F) := fun P w H h hok e => by
  obtain ⟨pm, ctv, z⟩ := lamO_at hok e
  exact ⟨_, _, _, _, z⟩
section
variable {X : Cx} {pins : List (Addr × Obj)} {σ : L2.St} {H : Hp} {s : Shared}
/-- the lambda is made and told where it stands; its code object is new, or found in the table -/
theorem lam_told {T : List (Addr × Str)} {c P : Addr} {params : Arguments} {body : Expr} {scope : Scope} {pos : Pos} {E : Value → Shared → Prop} {Q : Value → Shared → Prop} (I : Inv X pins σ H s) (TB : TabB X.base X.mg c P) (hcode : X.env.code = .ref c)
    (hm : (P, X.env.qual ++ "<lambda>") ∈ T) (hu : ∀ p ∈ T, p.1 = P → p.2 = X.env.qual ++ "<lambda>") (hT : Tabs T H) (hdef : defaultsOf params X.env = ([], [])) (hfree : ∀ y ∈ scope.names, y.2 = .free → ∃ c, X.env.cells.lookup y.1 = some c)
    (h : ∀ (f c' : Addr) (H1 : Hp) (s' : Shared), Inv X pins σ (upd H1 f (LamO f ⟨X.env.qual ++ "<lambda>", params, body, scope, cloFrom X.env.cells scope.names [], c'⟩)) s' → (∀ b o, H b = some o → b ≠ P → H1 b = some o) → (∀ b, H1 b = none → H b = none) → Tabs T H1 → H1 f = none → H1 c' = some (CodeO c' (X.env.qual ++ "<lambda>")) → Q (.ref f) s') :
    wpAny (model X.prog X.w) X.A (eval (.Lambda params body scope pos) X.env) Q E s := by
  obtain ⟨ps, tP, tO, tA⟩ := hT _ hm
  have bP := TB.bm.keeps (h' := s.heap) I.bk
  have gP : s.heap.get? P = some { cls := .none, data := .fields ps } := I.hok P _ tP
  refine PySem.W.kla_eval hdef ?_
  cases cd : codeAmong pos ps.toList with
  | none =>
    refine PySem.W.kla_makeFunction (mg := X.mg) (c := c) (P := P) (ps := ps) (closure_ok hfree) I.ok.glob (I.mod.glob.keeps I.bk) hcode (TB.code.keeps I.bk) gP tO cd TB.gP bP fun c' ctv h' tk hx hge hlt hrec htb => ?_
    obtain ⟨c2, oc, vs, t, e2, hoc, hd, hv⟩ := hrec
    cases e2
    have nC : H c' = none := I.hok.fresh hge
    have I0 := inv_table (q := X.env.qual ++ "<lambda>") (t' := tk) (more := #[rawInt pos.line, rawInt pos.col, .ref c']) (h' := h') I tP hx htb hge ⟨oc, vs, t, hoc, hd, hv⟩
    have I1 := I0.laid (a := h'.objs.size) (o := LamO h'.objs.size ⟨X.env.qual ++ "<lambda>", params, body, scope, cloFrom X.env.cells scope.names [], c'⟩) (h' := h'.push (PySem.W.kla_obj "<lambda>" (X.env.qual ++ "<lambda>") params body scope (cloFrom X.env.cells scope.names []) ((X.mg "__name__").getD .none) c' ctv)) (t' := tk)
      (fun b u z => Heap.get?_push_of_some _ z) (Nat.le_refl _) (lamO_ok ⟨_, _, Heap.get?_push_size _ rfl⟩)
    have stays : ∀ b o, H b = some o → b ≠ P → (upd (upd H P (.tbl (ps ++ #[rawInt pos.line, rawInt pos.col, .ref c']))) c' (CodeO c' (X.env.qual ++ "<lambda>"))) b = some o := fun b o e n => by
      rw [upd_ne (ne_of_none e nC), upd_ne n]
      exact e
    have neP : ∀ {b : Addr} {c2 : Addr} {q : Str}, H b = some (CodeO c2 q) → b ≠ P := fun e z => by
      rw [z, tP] at e
      exact codeO_ne _ (Option.some.inj e).symm
    refine h _ c' _ _ I1 stays (fun b z => ?_) (fun p hp => ?_) (I0.hok.fresh (Nat.le_refl _)) upd_same
    · by_cases b1 : b = c'
      · rw [b1]
        exact nC
      · rw [upd_ne b1] at z
        by_cases b2 : b = P
        · rw [b2, upd_same] at z
          cases z
        · rw [upd_ne b2] at z
          exact z
    · obtain ⟨qs, a1, a2, a3⟩ := hT p hp
      by_cases hb : p.1 = P
      · have eL : (ps ++ #[rawInt pos.line, rawInt pos.col, .ref c']).toList = ps.toList ++ [rawInt pos.line, rawInt pos.col, .ref c'] := by simp
        refine ⟨_, by rw [hb, upd_ne (ne_of_none tP nC), upd_same], ?_, fun p' cv y => ?_⟩
        · rw [eL]
          exact PySem.TriplesOk_snoc _ _ _ _ tO
        · rw [eL] at y
          rw [hu p hp hb]
          rcases among_app _ tO y with z | z
          · obtain ⟨c0, k1, k2⟩ := tA p' cv z
            exact ⟨c0, k1, stays _ _ k2 (neP k2)⟩
          · exact ⟨c', z, upd_same⟩
      · refine ⟨qs, ?_, a2, fun p' cv y => ?_⟩
        · rw [upd_ne (ne_of_none a1 nC), upd_ne hb]
          exact a1
        · obtain ⟨c0, k1, k2⟩ := a3 p' cv y
          exact ⟨c0, k1, stays _ _ k2 (neP k2)⟩
  | some cv =>
    obtain ⟨c', e, hco⟩ := tA pos cv cd
    subst e
    refine PySem.W.kla_makeFunctionHit (mg := X.mg) (c := c) (P := P) (ps := ps) (closure_ok hfree) I.ok.glob (I.mod.glob.keeps I.bk) hcode (TB.code.keeps I.bk) gP tO cd bP fun ctv h' tk hx hsz => ?_
    have I0 : Inv X pins σ H { s with heap := h', toks := tk } := I.kept hx
    have I1 := I0.laid (a := h'.objs.size) (o := LamO h'.objs.size ⟨X.env.qual ++ "<lambda>", params, body, scope, cloFrom X.env.cells scope.names [], c'⟩) (h' := h'.push (PySem.W.kla_obj "<lambda>" (X.env.qual ++ "<lambda>") params body scope (cloFrom X.env.cells scope.names []) ((X.mg "__name__").getD .none) c' ctv)) (t' := tk)
      (fun b u z => Heap.get?_push_of_some _ z) (Nat.le_refl _) (lamO_ok ⟨_, _, Heap.get?_push_size _ rfl⟩)
    exact h _ c' H _ I1 (fun _ _ e _ => e) (fun _ z => z) hT (I0.hok.fresh (Nat.le_refl _)) hco
end
def tLamO (T : List (Addr × Str)) (P : Addr) (F : Addr → LF) : TE := fun σ H Q => Tabs T H ∧ ∀ (f c' : Addr) (H1 : Hp), (∀ b o, H b = some o → b ≠ P → H1 b = some o) → (∀ b, H1 b = none → H b = none) → Tabs T H1 → H1 f = none → H1 c' = some (CodeO c' (F c').qual) → Q (.ref f) (upd H1 f (LamO f (F c')))
theorem pe_lamO {X : Cx} {T : List (Addr × Str)} {c P : Addr} {params : Arguments} {body : Expr} {scope : Scope} {pos : Pos} (TB : TabB X.base X.mg c P) (hcode : X.env.code = .ref c) (hm : (P, X.env.qual ++ "<lambda>") ∈ T) (hu : ∀ p ∈ T, p.1 = P → p.2 = X.env.qual ++ "<lambda>")
    (hdef : defaultsOf params X.env = ([], [])) (hfree : ∀ y ∈ scope.names, y.2 = .free → X.env.scope.names.lookup y.1 = some .cell ∨ X.env.scope.names.lookup y.1 = some .free) :
    PE X (.Lambda params body scope pos) (tLamO T P fun c' => ⟨X.env.qual ++ "<lambda>", params, body, scope, cloFrom X.env.cells scope.names [], c'⟩) := by
  refine ⟨fun pins s σ H Q I h => ?_⟩
  obtain ⟨hT, q⟩ := h
  exact lam_told I TB hcode hm hu hT hdef (fun y hy e => (hfree y hy e).elim (fun z => I.ok.has _ (.inl z)) fun z => I.ok.has _ (.inr z)) fun f c' H1 s' I1 e1 n1 t1 nf hc => ⟨.ref f, _, I1, rfl, q f c' H1 e1 n1 t1 nf hc⟩
end Inf

set_option Elab.async false
set_option linter.all false
set_option maxRecDepth 100000
set_option maxHeartbeats 4000000
namespace Inf
open PySem PySem.Spec PyProof.Rows L2 NdefX LamX
/-- its words as those of a function: for the frame alone -/
def LF.nf (F : LF) : NF := ⟨"<lambda>", F.qual, F.params, [], F.scope, F.cl, F.c⟩
section
variable {P : Program} {w : World} {K : PySem.W.Frag} {mg : Str → Option Value} {base : Heap} {k : Nat} {f : Addr} {F : LF} {N ps : List Str} {sp : Sp}
/-- a lambda that captures nothing, called from anywhere -/
theorem lam_fnR (S : NScope N ps [] F.scope) (hcl : F.cl = []) (hb : ∀ (pm ctv : Value) (us : List Value), us.length = ps.length → bindArgs (PySem.W.kla_fn "<lambda>" F.qual F.params F.body F.scope F.cl pm (.ref F.c) ctv) ⟨us, []⟩ = pure (ps.zip us))
    (len : ∀ vs H Q E, sp vs H Q E → vs.length = ps.length)
    (hbody : ∀ (A : Around) (outer : List Env) (s : Shared) (H : Hp) (vs : List V) (Q : VK) (E : XK), Room k (A.deeper (envF F.nf f s.heap.objs.size)) → sp vs H Q E → ∃ te, PE (ncx CX0 P w K mg base N F.nf f A outer s H E) F.body te ∧ te (startF N vs []) H Q) :
    FnR P w K mg base CX0 (k + 1) f (fun vs H Q E => H f = some (LamO f F) ∧ H F.c = some (CodeO F.c F.qual) ∧ sp vs H Q E) := by
  intro A outer s H us vs Q E hr e0 r hsp
  obtain ⟨hf, hc, hsp⟩ := hsp
  have hl := len _ _ _ _ hsp
  have lim : s.heap.NoLimit := e0.mod.nolimit.keeps fun b o e => (e0.bs b o e).1
  obtain ⟨pm, ctv, ho⟩ := lamO_at e0.hok hf
  have C : CellsAt F.nf.cl [] [] s.heap H := by
    show CellsAt F.cl [] [] s.heap H
    rw [hcl]
    exact ⟨rfl, (fun y c e => nomatch e), (fun x y c e => nomatch e), (fun i y e => nomatch e)⟩
  refine PySem.W.kla_callFunE hr.depth ho rfl S.co S.gen rfl (codeO_at e0.hok hc) ?_
  rw [hb pm ctv us (by rw [← r.length]; exact hl)]
  refine wpAny_pure (wpAny_newFunctionEnv S.nocell (fun ⟨n, _⟩ hy => S.par n (List.of_mem_zip hy).1) (fun h₁ hns hsb => ⟨lim.fresh _ hsb, ?_⟩) S.kind)
  obtain ⟨te, ht, hq⟩ := hbody A outer s H vs Q E (hr.deeper _) hsp
  have kp : ∀ b o, s.heap.get? b = some o → h₁.get? b = some o := fun b o e => hsb.extBut b o (Nat.ne_of_lt (Heap.lt_size e)) (Heap.get?_push_of_some _ e)
  have I := inv_startN (CX := CX0) (P := P) (w := w) (K := K) (mg := mg) (base := base) (F := F.nf) (f := f) (A := A) (outer := outer) (E := E) (tk := s.toks + (ps.zip us).length) S hr.hd e0 hl r C hns kp
  refine PySem.W.kla_codeExpr (wpAny_mono (ht.run [] _ (startF N vs []) H Q I hq) (fun u s' hs => ?_) fun e s' hs => hs)
  obtain ⟨v, H', J, rv, q⟩ := hs
  exact ⟨v, H', J.os, J.bare, J.base, J.hok, rv, q⟩
end
end Inf

set_option Elab.async false
set_option linter.all false
set_option maxRecDepth 100000
set_option maxHeartbeats 4000000
namespace Inf
open PySem PySem.Spec PyProof.Rows L2 NdefX LamX
/-- a def that returns things that hold its names, by what K knows of it -/
theorem okC_of {P : Program} {w : World} {K : PySem.W.Frag} {mg : Str → Option Value} {base : Heap} {x qual : Str} {st : Stmt} {f : Addr} {N ps : List Str} {k : Nat} {sp : Sp} {oc : Value} {od : Option Addr} {kV doc pm cdv ct : Value} {an : Option Addr} {osl : Array (Option Value)}
    (lk : K.lookup f = some ⟨oc, od, .func (PySem.W.fnOf x qual (defArgs st) (defBody st) (defScope st) .none kV doc pm an cdv ct), osl⟩) (hcd : PySem.W.codeIn K cdv qual = true) (S : FnScope N ps (defScope st)) (len : ∀ vs H Q E, sp vs H Q E → vs.length = ps.length)
    (hbody : ∀ (A : Around) (outer : List Env) (s : Shared) (H : Hp) (vs : List V) (Q : VK) (E : XK), Room k (A.deeper (envOfC qual (defScope st) s.heap.objs.size f cdv)) → sp vs H Q E →
      ∃ t, PSsR (cxOf CX0 P w K mg base N qual (defScope st) f cdv A outer s H E).nox (defBody st) t ∧
        t (fun σ v H' => ∀ H'', Fin (envOfC qual (defScope st) s.heap.objs.size f cdv).cells (defScope st).names N σ H' H'' → Q v H'') (start N vs) H) :
    FnOk P w K mg base CX0 (k + 1) f (PySem.W.fnOf x qual (defArgs st) (defBody st) (defScope st) .none kV doc pm an cdv ct) ps sp := by
  refine ⟨len, fun A outer s H args us vs Q E hr e0 hb r hsp => ?_⟩
  have hl := len _ _ _ _ hsp
  have KX : K.In s.heap := e0.mod.kin.keeps fun b o e => (e0.bs b o e).1
  have lim : s.heap.NoLimit := e0.mod.nolimit.keeps fun b o e => (e0.bs b o e).1
  have hkind : ∀ y ∈ ps.zip us, (defScope st).names.lookup y.1 = some .local ∨ ((defScope st).names.lookup y.1 = some .cell ∧ ((cellsFrom (s.heap.objs.size + 1) (defScope st).names []).lookup y.1).isSome = true) := fun ⟨n, v⟩ hy => by
    rcases S.par n (List.of_mem_zip hy).1 with q | q
    · exact .inl q
    · exact .inr ⟨q, PySem.W.cellsFrom_some _ _ _ (.inl q)⟩
  refine codeAny_call_function hr.depth (KX _ _ lk) rfl S.co S.gen rfl (PySem.W.codeRec_of KX hcd) (hb _ _ _ _ ?_)
  refine wpAny_newFunctionEnv_cells S.kind hkind fun env he s1 xx => ?_
  subst he
  refine ⟨lim.keeps xx.toInCall.keep, codeAny_func ?_⟩
  obtain ⟨t, ht, hq⟩ := hbody A outer s H vs Q E (hr.deeper _) hsp
  have I : Inv (cxOf CX0 P w K mg base N qual (defScope st) f cdv A outer s H E) [] (start N vs) H s1 := inv_start S hr.hd e0 hl r xx
  refine wpAny_mono (ht.run [] s1 (start N vs) H _ (I.wish _) hq) (fun fl s' hs => ?_) fun e s' hs => False.elim hs
  obtain ⟨u, v, σ', H', rfl, J', rv, q⟩ := hs
  have J : Inv (cxOf CX0 P w K mg base N qual (defScope st) f cdv A outer s H E) [] σ' H' s' := J'.unwish
  obtain ⟨H'', hF, hU, hO⟩ := fin_make S.nd J
  exact ⟨v, H'', J.os, J.bare, hU, hO, rv, q H'' hF⟩
/-- a function that the def made, behind its return: its captured cells are told -/
theorem clo_fin {cells : List (Str × Addr)} {names nn : List (Str × NameKind)} {N fr : List Str} {σ : L2.St} {H H' : Hp} {f : Addr} {F : NF} {ws : List V} (X : Fin cells names N σ H H') (hc : ∀ y, names.lookup y = some .cell → (cells.lookup y).isSome = true) (hcl : F.cl = cloFrom cells nn []) (hcel : ∀ y ∈ nn, y.2 = .free → names.lookup y.1 = some .cell)
    (hfr : ∀ y ∈ fr, (y, NameKind.free) ∈ nn) (hrf : ∀ y ∈ nn, y.2 = .free → y.1 ∈ fr) (hf : H f = some (FnO f F)) (hco : H F.c = some (CodeO F.c F.qual)) (len : ws.length = fr.length) (at_ : ∀ (i : Nat) (y : Str), fr[i]? = some y → ∃ (j : Nat) (v : V), N[j]? = some y ∧ ws[i]? = some v ∧ σ[j]? = some (some v)) : Clo H' f F fr ws := by
  have hfree : ∀ y ∈ nn, y.2 = .free → ∃ c, cells.lookup y.1 = some c := fun y hy e => Option.isSome_iff_exists.mp (hc _ (hcel y hy e))
  refine ⟨X.same _ _ hf, X.same _ _ hco, len, fun y c e => ?_, fun x y c e1 e2 => ?_, fun i y e => ?_⟩
  · rw [hcl] at e
    have m := PySem.mem_of_lookup e
    rcases cloFrom_mem m with q | ⟨q, _⟩
    · cases q
    · exact hrf _ q rfl
  · rw [hcl] at e1 e2
    exact X.inj x y c (clo_cm hfree e1) (clo_cm hfree e2)
  · have hy : y ∈ fr := List.mem_of_getElem? e
    have hm := hfr y hy
    have hn := hcel _ hm rfl
    obtain ⟨c, hcc⟩ := Option.isSome_iff_exists.mp (hc y hn)
    obtain ⟨j, v, h1, h2, h3⟩ := at_ i y e
    refine ⟨c, v, ?_, h2, X.at_ j y c v h1 hn hcc h3⟩
    rw [hcl]
    exact clo_has hfree hm hcc
end Inf

set_option Elab.async false
set_option linter.all false
set_option maxRecDepth 100000
set_option maxHeartbeats 4000000
namespace Inf
open PySem PySem.Spec PyProof.Rows L2
section
variable {X : Cx}
/-- o.replace(str(e), "c"), a token out: what is struck is not c -/
def tStrike (to tt : TE) (c : Str) : TE := fun σ H Q => to σ H fun x H1 => ∃ a, x = V.str a ∧ tt σ H1 fun y H2 => ∃ i : Int, y = .int i ∧ i.natAbs.log2 < 1920 ∧ (Str.ofString (toString i) == c) = false ∧ a.length + (a.length + 1) * c.length ≤ 16777216 ∧ Q (.str (Txt.replace a (Str.ofString (toString i)) c)) H2
theorem pet_strike {o e : Expr} {to tt : TE} {c : Str} {ck : Nat} {apos np cp ccp pos : Pos} (ho : PE X o to) (he : PE X e tt) (hg : Gl X "str") (hm : X.mg "str" = none)
    (hbase : attributeBase o "replace" X.env (eval o X.env) = eval o X.env := by rfl)
    (hfew : ((backTo pos (starEach [.Call (.Name "str" np) [e] [] cp, .Constant (.str c) ck ccp] X.env)).all (fun x => !x.1) && (backToKw pos (keywordEach [] X.env)).all (fun x => x.1.isSome)
      && decide (([.Call (.Name "str" np) [e] [] cp, .Constant (.str c) ck ccp] : List Expr).length + ([] : List Keyword).length + (if ([] : List Keyword).isEmpty then 0 else 1) < 30)) = true := by rfl)
    (hline : (apos.endLine == pos.line) = true := by rfl) (hs : starEach [e] X.env = [(false, eval e X.env)] := by rfl) (hpl : (backTo cp (starEach [] X.env)).any (·.1) = false := by rfl) :
    PET X (.Call (.Attribute o "replace" apos) [.Call (.Name "str" np) [e] [] cp, .Constant (.str c) ck ccp] [] pos) (tStrike to tt c) := by
  intro pins s σ H Q h0 I h
  refine wpAny_Call_method_late hbase hfew hline rfl (wpAny_mono (PySem.wpAny_toks (ho.run pins s σ H _ I h)) (fun v s1 q => ?_) fun _ _ z => z.2)
  obtain ⟨hk1, x, H1, I1, r1, a, rfl, q⟩ := q
  obtain ⟨t, rfl⟩ := _root_.id r1
  refine ⟨"str", _, F.plainAttrs_str, F.slot_str_replace, F.type_str_replace, typeIs_str _ _ _, (fun _ e => nomatch e), ?_⟩
  refine Calls.callWith_builtin rfl (Calls.evalArgs_plain ?_)
  show wpAny _ _ (spliced ((false, eval (.Call (.Name "str" np) [e] [] cp) X.env) :: backTo pos (starEach [.Constant (.str c) ck ccp] X.env))) _ _ s1
  refine Calls.spliced_cons ?_
  refine wpAny_Call_Name_kw (ld_blt I1 hg hm (show bootBuiltins "str" = some (.type "str") by decide +kernel) ?_ (by decide) (by decide))
  refine PyProof.Rows.callWith_type1 (wpAny_mono (PySem.wpAny_toks ((pa_cons he pa_nil hs).run cp pins s1 σ H1 (fun vs H2 => match vs with
    | [y] => ∃ i : Int, y = V.int i ∧ i.natAbs.log2 < 1920 ∧ (Str.ofString (toString i) == c) = false ∧ a.length + (a.length + 1) * c.length ≤ 16777216 ∧ Q (.str (Txt.replace a (Str.ofString (toString i)) c)) H2
    | _ => False) I1 q)) (fun us s2 q2 => ?_) fun _ _ z => z.2) hs hpl
  obtain ⟨hk2, vs, H2, I2, r2, q2⟩ := q2
  match vs, r2, q2 with
  | [y], r2, ⟨i, ey, hz, hne, hb, q3⟩ =>
    subst ey
    obtain ⟨u, rfl, t2, rfl⟩ := vals1 r2
    have h2 : 1 ≤ s2.toks := Nat.le_trans h0 (Nat.le_trans hk1 hk2)
    refine PySem.P.str_of_int hz ?_
    refine Calls.spliced_cons (Calls.Constant_str (k := ck) (pos := ccp) (Calls.spliced_nil ?_))
    refine SC.replace (u := s2.toks) (v := s2.toks + 1) (Nat.ne_of_gt h2) (Nat.succ_ne_zero _) (Nat.ne_of_lt (Nat.lt_succ_self _)) hne hb fun t' k => ?_
    exact ⟨.str _, H2, I2.tok _, ⟨_, rfl⟩, q3⟩
/-- one token out: a return -/
theorem pst_ret {e : Expr} {te : TE} {pos : Pos} (he : PET X e te) : PST X (.Return (some e) pos) (tRet te) := fun pins s σ H D h0 I h =>
  wpAny_Return_some (thn (he pins s σ H _ h0 I h) fun v s1 ⟨x, H1, I1, r1, q1⟩ => ⟨x, σ, H1, I1, r1, q1⟩)
theorem psst_one {st : Stmt} {t : TS} (h1 : PST X st t) : PSsT X [st] t := by
  intro pins s σ H D h0 I h
  refine wpAny_execs_cons (thn (h1 pins s σ H D h0 I h) fun f s1 q => ?_)
  cases f with
  | next => exact wpAny_execs_nil q
  | ret v => exact q
  | brk => exact q
  | cont => exact q
/-- if x op 3: behind the test a token is out -/
theorem ps_ifC {a : Expr} {op : CmpOp} {r : R2} {ta : TE} {j : Int} {k : Nat} {cpos cp pos : Pos} {A B : List Stmt} {t u : TS} (ho : OpR X (compareOp op) r) (ha : PE X a ta) (hm : behindInMarks op (.Constant (.int j) k cpos) = false) (hA : PSsT X A t) (hB : PSs X B u) :
    PS X (.If (.Compare a [op] [.Constant (.int j) k cpos] cp) A B pos) (tIfS (tTest (tOp r ta (tC (.int j)))) t u) := by
  refine ⟨fun pins s σ H D I h => ?_⟩
  refine wpAny_If (wpAny_mono (Q := fun d s' => 1 ≤ s'.toks ∧ TP X pins σ (fun b H1 => if b = true then t D σ H1 else u D σ H1) d s') (E := X.xe) ?_ (fun d s1 q => ?_) fun _ _ z => z)
  · refine wpAny_isTrue_Compare1 (thn (ha.run pins s σ H _ I h) fun v s1 ⟨x, H1, I1, r1, q1⟩ => ?_) hm
    refine wpAny_Constant_int ?_
    refine wpAny_mono (PySem.wpAny_toks (ho pins _ σ H1 x (.int j) v (.int j s1.toks) _ (I1.tok _) r1 ⟨_, rfl⟩ q1)) (fun c s3 q3 => ?_) fun _ _ z => z.2
    obtain ⟨hk, z, H3, I3, r3, b, e, q3⟩ := q3
    subst e
    cases r3
    exact wpAny_truthy_bool ⟨Nat.le_trans (Nat.le_add_left 1 _) hk, H3, I3, q3⟩
  · obtain ⟨hk, H1, I1, q1⟩ := q
    cases d with
    | true => exact hA pins s1 σ H1 D hk I1 q1
    | false => exact hB.run pins s1 σ H1 D I1 q1
end
end Inf

set_option Elab.async false
set_option linter.all false
set_option maxRecDepth 100000
set_option maxHeartbeats 4000000
namespace Inf
open PySem PySem.Spec PyProof.Rows L2
section
variable {X : Cx} {CX : CXT} {k n : Nat} {f C : Addr} {fd : FuncData} {ps ks : List Str} {sp : Sp} {E : XK} {m : Str} {pos apos : Pos} {e o : Expr} {es : List Expr} {kws : List Keyword} {ta : TE} {t tk : TA} {g : List Value → List Value → List Value} {gV : List V → List V → List V}
/-- a method called with keywords: n values are written, then j keywords -/
def tMethN (C : Addr) (m : Str) (n j : Nat) (sp : Sp) (gV : List V → List V → List V) (E : XK) (ta : TE) (t tk : TA) : TE := fun σ H Q => ta σ H fun x H1 => ∃ a dx fs, x = V.ref a ∧ H1 a = some (.ins C dx fs) ∧ fs.lookup m = none ∧ t σ H1 fun vs H2 => tk σ H2 fun zs H3 => vs.length = n ∧ zs.length = j ∧ sp (gV (.ref a :: vs) zs) H3 Q E
theorem pe_methK0 {pl : Sem Bool} (he : PE X o ta) (c : Cls X.K C) (hm : Meth X.K C m f) (F : FnOk X.prog X.w X.K X.mg X.base CX k f fd ps sp) (hr : Room k X.A) (hb : KBn X.K fd ps 1 ks g gV) (hx : Passes CX X E) (hkw : PK X kws tk)
    (hall : (backToKw pos (keywordEach kws X.env)).all (·.1.isSome) = true := by rfl) (hks : (backToKw pos (keywordEach kws X.env)).filterMap (·.1) = ks := by rfl)
    (hpl : ((backTo pos (starEach [] X.env)).any (·.1) || (backToKw pos (keywordEach kws X.env)).any (·.1.isNone)) = false := by rfl)
    (ht : eval (.Call (.Attribute o m apos) [] kws pos) X.env = (do
      let ov ← eval o X.env
      standAt apos.atName
      let (f, first) ← holding [ov] (getMethod ov m pl)
      callWith pos f first (backTo pos (starEach [] X.env)) (backToKw pos (keywordEach kws X.env))) := by rfl) :
    PE X (.Call (.Attribute o m apos) [] kws pos) (tMethN C m 0 ks.length sp gV E ta tNil tk) := by
  refine ⟨fun pins s σ H Q I h => ?_⟩
  refine PySem.W.methodCall_KW (pl := pl) (thn (he.run pins s σ H _ I h) fun u s1 ⟨x, H1, I1, rx, a, dx, fs, ex, ea, l, q⟩ => ?_) ht
  subst ex
  obtain rfl : u = Value.ref a := rx
  refine getmeth_ok I1 ea c hm l ?_
  refine PySem.W.callWith_KW0 (first := [.ref a]) (h₀ := X.base) I.ok.mod.kin hm.kp hall (thn (hkw.run pos pins s1 σ H1 _ I1 q) fun ws s2 ⟨zs, H2, I2, rz, l1, l2, q2⟩ => ⟨I2.kIn, ?_⟩) hpl
  rw [hks]
  exact run_fnN (us := [.ref a]) (vs := [.ref a]) F hr hb hx I2 (.cons rfl .nil) rz rfl l2 q2
theorem pe_methK {pl : Sem Bool} (he : PE X o ta) (c : Cls X.K C) (hm : Meth X.K C m f) (F : FnOk X.prog X.w X.K X.mg X.base CX k f fd ps sp) (hr : Room k X.A) (hb : KBn X.K fd ps (n + 1) ks g gV) (hx : Passes CX X E) (ha : PA X (e :: es) t) (hkw : PK X kws tk)
    (hall : (backToKw pos (keywordEach kws X.env)).all (·.1.isSome) = true := by rfl) (hks : (backToKw pos (keywordEach kws X.env)).filterMap (·.1) = ks := by rfl)
    (hst : starEach (e :: es) X.env = (false, eval e X.env) :: starEach es X.env := by rfl)
    (hpl : ((backTo pos (starEach (e :: es) X.env)).any (·.1) || (backToKw pos (keywordEach kws X.env)).any (·.1.isNone)) = false := by rfl)
    (ht : eval (.Call (.Attribute o m apos) (e :: es) kws pos) X.env = (do
      let ov ← eval o X.env
      standAt apos.atName
      let (f, first) ← holding [ov] (getMethod ov m pl)
      callWith pos f first (backTo pos (starEach (e :: es) X.env)) (backToKw pos (keywordEach kws X.env))) := by rfl) :
    PE X (.Call (.Attribute o m apos) (e :: es) kws pos) (tMethN C m n ks.length sp gV E ta t tk) := by
  refine ⟨fun pins s σ H Q I h => ?_⟩
  refine PySem.W.methodCall_KW (pl := pl) (thn (he.run pins s σ H _ I h) fun u s1 ⟨x, H1, I1, rx, a, dx, fs, ex, ea, l, q⟩ => ?_) ht
  subst ex
  obtain rfl : u = Value.ref a := rx
  refine getmeth_ok I1 ea c hm l ?_
  refine PySem.W.callWith_KW (first := [.ref a]) (h₀ := X.base) I.ok.mod.kin hm.kp hall (thn (ha.run pos pins s1 σ H1 _ I1 q) fun us s2 ⟨vs, H2, I2, r, q2⟩ => ?_) hpl hst
  refine thn (hkw.run pos pins s2 σ H2 _ I2 q2) fun ws s3 ⟨zs, H3, I3, rz, l1, l2, q3⟩ => ⟨I3.kIn, ?_⟩
  rw [hks]
  exact run_fnN (us := .ref a :: us) (vs := .ref a :: vs) F hr hb hx I3 (.cons rfl r) rz (congrArg Nat.succ l1) l2 q3
end
end Inf

set_option Elab.async false
set_option linter.all false
set_option maxRecDepth 100000
set_option maxHeartbeats 4000000
namespace Inf
open PySem PySem.Spec PyProof.Rows L2 NdefX LamX
section
variable {X : Cx} {pins : List (Addr × Obj)} {σ : L2.St} {H : Hp} {s : Shared}
/-- a lambda in a def that makes functions by name, too: the table knows the names by their places -/
theorem lam_toldN {T : List NTab} {nm : Nat → Nat → Str} {c P : Addr} {params : Arguments} {body : Expr} {scope : Scope} {pos : Pos} {E : Value → Shared → Prop} {Q : Value → Shared → Prop} (I : Inv X pins σ H s) (TB : TabB X.base X.mg c P) (hcode : X.env.code = .ref c)
    (hm : (P, nm) ∈ T) (hn : nm pos.line pos.col = X.env.qual ++ "<lambda>") (hu : ∀ p ∈ T, p.1 = P → p.2 = nm) (hT : TabsN T H) (hdef : defaultsOf params X.env = ([], [])) (hfree : ∀ y ∈ scope.names, y.2 = .free → ∃ c, X.env.cells.lookup y.1 = some c)
    (h : ∀ (f c' : Addr) (H1 : Hp) (s' : Shared), Inv X pins σ H1 s' → ExtN H H1 → (∀ b, H1 b = Option.none → H b = Option.none) → TabsN T H1 → H f = none → H1 f = some (LamO f ⟨X.env.qual ++ "<lambda>", params, body, scope, cloFrom X.env.cells scope.names [], c'⟩) → H1 c' = some (CodeO c' (X.env.qual ++ "<lambda>")) → Q (.ref f) s') :
    wpAny (model X.prog X.w) X.A (eval (.Lambda params body scope pos) X.env) Q E s := by
  obtain ⟨ps, hP, ht, ha⟩ := (show TabN H P nm from hT _ hm)
  have bP := TB.bm.keeps (h' := s.heap) I.bk
  have gP : s.heap.get? P = some { cls := .none, data := .fields ps } := I.hok P _ hP
  refine PySem.W.kla_eval hdef ?_
  cases cd : codeAmong pos ps.toList with
  | none =>
    refine PySem.W.kla_makeFunction (mg := X.mg) (c := c) (P := P) (ps := ps) (closure_ok hfree) I.ok.glob (I.mod.glob.keeps I.bk) hcode (TB.code.keeps I.bk) gP ht cd TB.gP bP fun c' ctv h' tk hx hge hlt hrec htb => ?_
    obtain ⟨c2, oc, vs, t, e2, hoc, hd, hv⟩ := hrec
    cases e2
    have nC : H c' = none := I.hok.fresh hge
    have I1 := inv_table (q := X.env.qual ++ "<lambda>") (t' := tk) (more := #[rawInt pos.line, rawInt pos.col, .ref c']) (h' := h') I hP hx htb hge ⟨oc, vs, t, hoc, hd, hv⟩
    have hE : ExtN H (upd (upd H P (.tbl (ps ++ #[rawInt pos.line, rawInt pos.col, .ref c']))) c' (CodeO c' (X.env.qual ++ "<lambda>"))) := fun b o e n => by
      rw [upd_ne (ne_of_none e nC), upd_ne (fun z => n ps (Option.some.inj (e.symm.trans (by rw [z]; exact hP))))]
      exact e
    have eL : (ps ++ #[rawInt pos.line, rawInt pos.col, .ref c']).toList = ps.toList ++ [rawInt pos.line, rawInt pos.col, .ref c'] := by simp
    have T1 : TabsN T (upd (upd H P (.tbl (ps ++ #[rawInt pos.line, rawInt pos.col, .ref c']))) c' (CodeO c' (X.env.qual ++ "<lambda>"))) := fun p hp => by
      by_cases hb : p.1 = P
      · rw [hu p hp hb, hb]
        refine ⟨_, by rw [upd_ne (ne_of_none hP nC), upd_same], by rw [eL]; exact PySem.TriplesOk_snoc _ _ _ _ ht, fun p' cv hcv => ?_⟩
        rw [eL] at hcv
        rcases among_app2 _ ht hcv with z | ⟨z, z1, z2⟩
        · obtain ⟨c0, e1, e2⟩ := ha p' cv z
          exact ⟨c0, e1, hE _ _ e2 codeO_ne⟩
        · refine ⟨c', z, ?_⟩
          rw [← z1, ← z2, hn]
          exact upd_same
      · obtain ⟨ps', a1, a2, a3⟩ := hT p hp
        refine ⟨ps', by rw [upd_ne (ne_of_none a1 nC), upd_ne hb]; exact a1, a2, fun p' cv hcv => ?_⟩
        obtain ⟨c0, e1, e2⟩ := a3 p' cv hcv
        exact ⟨c0, e1, hE _ _ e2 codeO_ne⟩
    have nF := I1.hok.fresh (Nat.le_refl h'.objs.size)
    have I2 := I1.laid (a := h'.objs.size) (o := LamO h'.objs.size ⟨X.env.qual ++ "<lambda>", params, body, scope, cloFrom X.env.cells scope.names [], c'⟩) (h' := h'.push (PySem.W.kla_obj "<lambda>" (X.env.qual ++ "<lambda>") params body scope (cloFrom X.env.cells scope.names []) ((X.mg "__name__").getD .none) c' ctv)) (t' := tk)
      (fun b u z => Heap.get?_push_of_some _ z) (Nat.le_refl _) (lamO_ok ⟨_, _, Heap.get?_push_size _ rfl⟩)
    refine h h'.objs.size c' _ _ I2 (fun b o e n => ?_) (fun b e => NdefX.upd_none (NdefX.upd_none (NdefX.upd_none e))) (T1.ext fun b o e => ?_) (I.hok.fresh (Nat.le_trans hge (Nat.le_of_lt hlt))) upd_same ?_
    · have e1 := hE b o e n
      exact (upd_ne (ne_of_none e1 nF)).trans e1
    · exact (upd_ne (ne_of_none e nF)).trans e
    · exact (upd_ne (Nat.ne_of_lt hlt)).trans upd_same
  | some cv =>
    obtain ⟨c', e, hco⟩ := ha pos cv cd
    subst e
    rw [hn] at hco
    refine PySem.W.kla_makeFunctionHit (mg := X.mg) (c := c) (P := P) (ps := ps) (closure_ok hfree) I.ok.glob (I.mod.glob.keeps I.bk) hcode (TB.code.keeps I.bk) gP ht cd bP fun ctv h' tk hx hsz => ?_
    have I0 : Inv X pins σ H { s with heap := h', toks := tk } := I.kept hx
    have nF : H h'.objs.size = none := I0.hok.fresh (Nat.le_refl _)
    have I2 := I0.laid (a := h'.objs.size) (o := LamO h'.objs.size ⟨X.env.qual ++ "<lambda>", params, body, scope, cloFrom X.env.cells scope.names [], c'⟩) (h' := h'.push (PySem.W.kla_obj "<lambda>" (X.env.qual ++ "<lambda>") params body scope (cloFrom X.env.cells scope.names []) ((X.mg "__name__").getD .none) c' ctv)) (t' := tk)
      (fun b u z => Heap.get?_push_of_some _ z) (Nat.le_refl _) (lamO_ok ⟨_, _, Heap.get?_push_size _ rfl⟩)
    refine h h'.objs.size c' _ _ I2 (fun b o e n => ?_) (fun b e => NdefX.upd_none e) (hT.ext fun b o e => ?_) nF upd_same ?_
    · exact (upd_ne (ne_of_none e nF)).trans e
    · exact (upd_ne (ne_of_none e nF)).trans e
    · exact (upd_ne (ne_of_none hco nF)).trans hco
end
def tLamN (T : List NTab) (F : Addr → LF) : TE := fun σ H Q => TabsN T H ∧ ∀ (f c' : Addr) (H1 : Hp), ExtN H H1 → (∀ b, H1 b = Option.none → H b = Option.none) → TabsN T H1 → H f = none → H1 f = some (LamO f (F c')) → H1 c' = some (CodeO c' (F c').qual) → Q (.ref f) H1
theorem pe_lamN {X : Cx} {T : List NTab} {nm : Nat → Nat → Str} {c P : Addr} {params : Arguments} {body : Expr} {scope : Scope} {pos : Pos} (TB : TabB X.base X.mg c P) (hcode : X.env.code = .ref c) (hm : (P, nm) ∈ T) (hn : nm pos.line pos.col = X.env.qual ++ "<lambda>") (hu : ∀ p ∈ T, p.1 = P → p.2 = nm)
    (hdef : defaultsOf params X.env = ([], [])) (hfree : ∀ y ∈ scope.names, y.2 = .free → X.env.scope.names.lookup y.1 = some .cell ∨ X.env.scope.names.lookup y.1 = some .free) :
    PE X (.Lambda params body scope pos) (tLamN T fun c' => ⟨X.env.qual ++ "<lambda>", params, body, scope, cloFrom X.env.cells scope.names [], c'⟩) := by
  refine ⟨fun pins s σ H Q I h => ?_⟩
  obtain ⟨hT, q⟩ := h
  exact lam_toldN I TB hcode hm hn hu hT hdef (fun y hy e => (hfree y hy e).elim (fun z => I.ok.has _ (.inl z)) fun z => I.ok.has _ (.inr z)) fun f c' H1 s' I1 e1 n1 t1 nf hf hc => ⟨.ref f, H1, I1, rfl, q f c' H1 e1 n1 t1 nf hf hc⟩
end Inf

set_option Elab.async false
set_option linter.all false
set_option maxRecDepth 100000
set_option maxHeartbeats 4000000
namespace Inf
open PySem PySem.Spec PyProof.Rows L2 ClX
section
variable {M : Model} {A : Around} {E : Value → Shared → Prop} {s : Shared} {K : PySem.W.Frag} {env : Env} {pos : Pos} {first : List Value} {Q : Value → Shared → Prop} {kws : List Keyword} {q g : Addr} {self : Value}
/-- a bound method, called by names alone -/
theorem callWith_MK0 (hf : PySem.W.fnIn K g = true) (hall : (backToKw pos (keywordEach kws env)).all (·.1.isSome) = true)
    (h : wpAny M A (evalAll ((backToKw pos (keywordEach kws env)).map (·.2))) (fun ks s₂ => PySem.W.MethP K q g self s₂.heap ∧ wpAny M A (call (.ref q) (first ++ []) (((backToKw pos (keywordEach kws env)).filterMap (·.1)).zip ks)) Q E s₂) E s)
    (hplain : ((backTo pos (starEach [] env)).any (·.1) || (backToKw pos (keywordEach kws env)).any (·.1.isNone)) = false := by rfl) :
    wpAny M A (callWith pos (.ref q) first (backTo pos (starEach [] env)) (backToKw pos (keywordEach kws env))) Q E s :=
  PySem.W.callWith_of hplain (PySem.W.keeps_M hf) (evalArgs_kw2_nil hall h)
theorem callWith_MK {e : Expr} {rest : List Expr} (hf : PySem.W.fnIn K g = true) (hall : (backToKw pos (keywordEach kws env)).all (·.1.isSome) = true)
    (h : wpAny M A (spliced (backTo pos (starEach (e :: rest) env))) (fun vs s₁ => wpAny M A (evalAll ((backToKw pos (keywordEach kws env)).map (·.2)))
      (fun ks s₂ => PySem.W.MethP K q g self s₂.heap ∧ wpAny M A (call (.ref q) (first ++ vs) (((backToKw pos (keywordEach kws env)).filterMap (·.1)).zip ks)) Q E s₂) E s₁) E s)
    (hplain : ((backTo pos (starEach (e :: rest) env)).any (·.1) || (backToKw pos (keywordEach kws env)).any (·.1.isNone)) = false := by rfl) (he : starEach (e :: rest) env = (false, eval e env) :: starEach rest env := by rfl) :
    wpAny M A (callWith pos (.ref q) first (backTo pos (starEach (e :: rest) env)) (backToKw pos (keywordEach kws env))) Q E s :=
  PySem.W.callWith_of hplain (PySem.W.keeps_M hf) (evalArgs_kw2 hall h he)
end
section
variable {X : Cx} {CX : CXT} {k n : Nat} {f C p : Addr} {mc : Value} {fd : FuncData} {ps ks : List Str} {sp : Sp} {E : XK} {m x : Str} {pos apos : Pos} {e o : Expr} {es : List Expr} {kws : List Keyword} {ta : TE} {t tk : TA} {g : List Value → List Value → List Value} {gV : List V → List V → List V}
/-- the call of a bound classmethod by values and names -/
theorem run_cmN {pins : List (Addr × Obj)} {σ : L2.St} {H : Hp} {s : Shared} {Q : VK} {q : Addr} {us ws : List Value} {vs zs : List V} (F : FnOk X.prog X.w X.K X.mg X.base CX k f fd ps sp) (hr : Room k X.A) (hb : KBn X.K fd ps (n + 1) ks g gV) (hx : Passes CX X E)
    (I : Inv X ((q, PySem.W.methodObj (.ref f) (.ref C)) :: pins) σ H s) (r : Vals vs us) (rz : Vals zs ws) (l1 : vs.length = n) (l2 : zs.length = ks.length) (h : sp (gV (.ref C :: vs) zs) H Q E) :
    wpAny (model X.prog X.w) X.A (call (.ref q) us (ks.zip ws)) (EP X pins σ Q) X.xe s := by
  have r1 : Vals (V.ref C :: vs) (Value.ref C :: us) := .cons rfl r
  have r2 := hb.rel r1 rz
  have n1 : (Value.ref C :: us).length = n + 1 := by
    rw [List.length_cons, ← r.length, l1]
  have z : wpAny (model X.prog X.w) X.A (call (.ref q) us (ks.zip ws)) (EP X ((q, PySem.W.methodObj (.ref f) (.ref C)) :: pins) σ Q) X.xe s := by
    refine wpAny_call (PySem.W.method_call (pin_at I) (codeAny_mono (F.run X.A X.stack s H ⟨Value.ref C :: us, ks.zip ws⟩ (g (Value.ref C :: us) ws) _ Q E hr I.env0 (hb.to s _ ws I.kIn n1 (rz.length.symm.trans l2)) r2 h) fun r s' hq => ?_))
    cases r with
    | error e => exact hx _ σ H s e s' I hq
    | ok fl =>
      cases fl with
      | ret u => exact I.after hq
      | next => exact False.elim hq
      | brk => exact False.elim hq
      | cont => exact False.elim hq
  exact thn z fun _ _ y => unpinE y
/-- C.m(k = v, ..), m a classmethod: n values are written, then j names -/
def tCMethN (C : Addr) (n j : Nat) (sp : Sp) (gV : List V → List V → List V) (E : XK) (ta : TE) (t tk : TA) : TE := fun σ H Q => ta σ H fun x H1 => x = .ref C ∧ t σ H1 fun vs H2 => tk σ H2 fun zs H3 => vs.length = n ∧ zs.length = j ∧ sp (gV (.ref C :: vs) zs) H3 Q E
theorem pe_cmethK0 {pl : Sem Bool} (he : PE X o ta) (r : CRead X.K C mc) (c : CMet X.K C mc m p f) (F : FnOk X.prog X.w X.K X.mg X.base CX k f fd ps sp) (hr : Room k X.A) (hb : KBn X.K fd ps 1 ks g gV) (hx : Passes CX X E) (hkw : PK X kws tk)
    (hall : (backToKw pos (keywordEach kws X.env)).all (·.1.isSome) = true := by rfl) (hks : (backToKw pos (keywordEach kws X.env)).filterMap (·.1) = ks := by rfl)
    (hpl : ((backTo pos (starEach [] X.env)).any (·.1) || (backToKw pos (keywordEach kws X.env)).any (·.1.isNone)) = false := by rfl)
    (ht : eval (.Call (.Attribute o m apos) [] kws pos) X.env = (do
      let ov ← eval o X.env
      standAt apos.atName
      let (f, first) ← holding [ov] (getMethod ov m pl)
      callWith pos f first (backTo pos (starEach [] X.env)) (backToKw pos (keywordEach kws X.env))) := by rfl) :
    PE X (.Call (.Attribute o m apos) [] kws pos) (tCMethN C 0 ks.length sp gV E ta tNil tk) := by
  refine ⟨fun pins s σ H Q I h => ?_⟩
  refine PySem.W.methodCall_KW (pl := pl) (thn (he.run pins s σ H _ I h) fun u s1 ⟨x, H1, I1, rx, ex, q⟩ => ?_) ht
  subst ex
  obtain rfl : u = Value.ref C := rx
  refine getmethcm_ok I1 r c fun s2 I2 => ?_
  refine callWith_MK0 (first := []) c.fi hall (thn (hkw.run pos _ s2 σ H1 _ I2 q) fun ws s3 ⟨zs, H2, I3, rz, l1, l2, q2⟩ => ⟨⟨pin_at I3, I3.kIn⟩, ?_⟩) hpl
  rw [hks]
  exact run_cmN (us := []) (vs := []) F hr hb hx I3 .nil rz rfl l2 q2
theorem pe_cmethK {pl : Sem Bool} (he : PE X o ta) (r : CRead X.K C mc) (c : CMet X.K C mc m p f) (F : FnOk X.prog X.w X.K X.mg X.base CX k f fd ps sp) (hr : Room k X.A) (hb : KBn X.K fd ps (n + 1) ks g gV) (hx : Passes CX X E) (ha : PA X (e :: es) t) (hkw : PK X kws tk)
    (hall : (backToKw pos (keywordEach kws X.env)).all (·.1.isSome) = true := by rfl) (hks : (backToKw pos (keywordEach kws X.env)).filterMap (·.1) = ks := by rfl)
    (hst : starEach (e :: es) X.env = (false, eval e X.env) :: starEach es X.env := by rfl)
    (hpl : ((backTo pos (starEach (e :: es) X.env)).any (·.1) || (backToKw pos (keywordEach kws X.env)).any (·.1.isNone)) = false := by rfl)
    (ht : eval (.Call (.Attribute o m apos) (e :: es) kws pos) X.env = (do
      let ov ← eval o X.env
      standAt apos.atName
      let (f, first) ← holding [ov] (getMethod ov m pl)
      callWith pos f first (backTo pos (starEach (e :: es) X.env)) (backToKw pos (keywordEach kws X.env))) := by rfl) :
    PE X (.Call (.Attribute o m apos) (e :: es) kws pos) (tCMethN C n ks.length sp gV E ta t tk) := by
  refine ⟨fun pins s σ H Q I h => ?_⟩
  refine PySem.W.methodCall_KW (pl := pl) (thn (he.run pins s σ H _ I h) fun u s1 ⟨x, H1, I1, rx, ex, q⟩ => ?_) ht
  subst ex
  obtain rfl : u = Value.ref C := rx
  refine getmethcm_ok I1 r c fun s2 I2 => ?_
  refine callWith_MK (self := .ref C) (first := []) c.fi hall (thn (ha.run pos _ s2 σ H1 _ I2 q) fun us s3 ⟨vs, H2, I3, rv, q2⟩ => ?_) hpl hst
  refine thn (hkw.run pos _ s3 σ H2 _ I3 q2) fun ws s4 ⟨zs, H3, I4, rz, l1, l2, q3⟩ => ⟨⟨pin_at I4, I4.kIn⟩, ?_⟩
  rw [hks]
  exact run_cmN F hr hb hx I4 rv rz l1 l2 q3
/-- c(e, .., k = v, ..), c a local name that holds the class at C -/
def tMakeL (C : Addr) (n j : Nat) (sp : Sp) (gV : List V → List V → List V) (E : XK) (ta : TE) (t tk : TA) : TE := fun σ H Q => ta σ H fun x H0 => x = .ref C ∧ tMakeK C n j sp gV E t tk σ H0 Q
theorem pe_makeL (hc : PE X (.Name x pos) ta) (M : Mk X.K C f) (F : FnOk X.prog X.w X.K X.mg X.base CX k f fd ps sp) (hr : Room (k + 1) X.A) (hb : KBn X.K fd ps (n + 1) ks g gV) (hx : Passes CX X E) (ha : PA X (e :: es) t) (hkw : PK X kws tk)
    (hall : (backToKw apos (keywordEach kws X.env)).all (·.1.isSome) = true := by rfl) (hks : (backToKw apos (keywordEach kws X.env)).filterMap (·.1) = ks := by rfl)
    (he : starEach (e :: es) X.env = (false, eval e X.env) :: starEach es X.env := by rfl) (hpl : ((backTo apos (starEach (e :: es) X.env)).any (·.1) || (backToKw apos (keywordEach kws X.env)).any (·.1.isNone)) = false := by rfl) :
    PE X (.Call (.Name x pos) (e :: es) kws apos) (tMakeL C n ks.length sp gV E ta t tk) := by
  refine ⟨fun pins s σ H Q I h => ?_⟩
  refine wpAny_Call_Name_kw (thn (hc.run pins s σ H _ I h) fun u s0 ⟨y, H0, I0, ry, ey, h0⟩ => ?_)
  subst ey
  obtain rfl : u = Value.ref C := ry
  refine PySem.W.callWith_KW (h₀ := X.base) I0.ok.mod.kin M.kp hall (thn (ha.run apos pins s0 σ H0 _ I0 h0) fun us s1 ⟨vs, H1, I1, r, q⟩ => ?_) hpl he
  refine thn (hkw.run apos pins s1 σ H1 _ I1 q) fun ws s2 ⟨zs, H2, I2, rz, l1, l2, q2⟩ => ⟨I2.kIn, ?_⟩
  rw [hks]
  exact run_makeK M F hr hb hx I2 r rz l1 l2 q2
end
end Inf

set_option Elab.async false
set_option linter.all false
set_option maxRecDepth 100000
set_option maxHeartbeats 4000000
namespace Ob
open PySem PySem.Spec PyProof.Rows L2
/-! ### a def whose code object is named: it makes functions -/
structure FunT (K : PySem.W.Frag) (x qual : Str) (st : Stmt) (f : Addr) (fd : FuncData) (c : Addr) : Prop where
  ex : ∃ (oc : Value) (od : Option Addr) (kV doc pm : Value) (an : Option Addr) (ct : Value) (osl : Array (Option Value)),
    fd = PySem.W.fnOf x qual (defArgs st) (defBody st) (defScope st) .none kV doc pm an (.ref c) ct ∧ K.lookup f = some ⟨oc, od, .func fd, osl⟩ ∧ PySem.W.codeIn K (.ref c) qual = true
  kp : PySem.W.keepIn K (.ref f) = true
theorem FunT.ok {P : Program} {w : World} {K : PySem.W.Frag} {mg : Str → Option Value} {base : Heap} {x qual : Str} {st : Stmt} {f c : Addr} {fd : FuncData} {CX : CXT} {N ps : List Str} {k : Nat} {sp : Sp} (F : FunT K x qual st f fd c) (S : FnScope N ps (defScope st)) (len : ∀ vs H Q E, sp vs H Q E → vs.length = ps.length)
    (hbody : ∀ (A : Around) (outer : List Env) (s : Shared) (H : Hp) (vs : List V) (Q : VK) (E : XK), Room k (A.deeper (envOfC qual (defScope st) s.heap.objs.size f (.ref c))) → sp vs H Q E →
      ∃ t, PSs (cxOf CX P w K mg base N qual (defScope st) f (.ref c) A outer s H E) (defBody st) t ∧ t { nx := fun _ H' => Q .non H', rt := Q } (L2.start N vs) H) : FnOk P w K mg base CX (k + 1) f fd ps sp := by
  obtain ⟨oc, od, kV, doc, pm, an, ct, osl, rfl, lk, hcd⟩ := F.ex
  exact fn_of lk hcd S len fun A outer s H vs Q E hr hsp => hbody A outer s H vs Q E hr hsp
theorem FunT.okC {P : Program} {w : World} {K : PySem.W.Frag} {mg : Str → Option Value} {base : Heap} {x qual : Str} {st : Stmt} {f c : Addr} {fd : FuncData} {N ps : List Str} {k : Nat} {sp : Sp} (F : FunT K x qual st f fd c) (S : FnScope N ps (defScope st)) (len : ∀ vs H Q E, sp vs H Q E → vs.length = ps.length)
    (hbody : ∀ (A : Around) (outer : List Env) (s : Shared) (H : Hp) (vs : List V) (Q : VK) (E : XK), Room k (A.deeper (envOfC qual (defScope st) s.heap.objs.size f (.ref c))) → sp vs H Q E →
      ∃ t, Inf.PSsR (cxOf CX0 P w K mg base N qual (defScope st) f (.ref c) A outer s H E).nox (defBody st) t ∧
        t (fun σ v H' => ∀ H'', Inf.Fin (envOfC qual (defScope st) s.heap.objs.size f (.ref c)).cells (defScope st).names N σ H' H'' → Q v H'') (L2.start N vs) H) : FnOk P w K mg base CX0 (k + 1) f fd ps sp := by
  obtain ⟨oc, od, kV, doc, pm, an, ct, osl, rfl, lk, hcd⟩ := F.ex
  exact Inf.okC_of lk hcd S len hbody
theorem all_cons {α : Type} {P : α → Prop} {a : α} {l : List α} (h : P a) (t : ∀ x ∈ l, P x) : ∀ x ∈ a :: l, P x := fun x m => (List.mem_cons.mp m).elim (fun e => by rw [e]; exact h) (t x)

/-! ### the text -/
def topS (i : Nat) : Stmt := PySem.Challenge.pw_oncebuilt_k17_calls_by_names.main.body.getD i (.Pass ⟨0, 0, 0, 0⟩)
abbrev s_Asker_init : Stmt := inClass (topS 2) 0
abbrev n_Asker_init : List Str := ["self", "calls", "ask", "join", "zero"]
theorem sc_Asker_init : FnScope n_Asker_init ["self", "calls", "ask", "join", "zero"] (defScope s_Asker_init) := ⟨rfl, rfl, rfl, by decide +kernel, rfl, by decide +kernel, by decide +kernel⟩
abbrev s_Asker_answer : Stmt := inClass (topS 2) 1
abbrev n_Asker_answer : List Str := ["self", "parts", "question", "mark", "so_far", "many", "numbers", "block", "more", "found"]
theorem sc_Asker_answer : FnScope n_Asker_answer ["self", "parts", "question", "mark"] (defScope s_Asker_answer) := ⟨rfl, rfl, rfl, by decide +kernel, rfl, by decide +kernel, by decide +kernel⟩
abbrev s_block_sizes : Stmt := topS 9
abbrev n_block_sizes : List Str := ["many", "sizes", "rest", "size"]
theorem sc_block_sizes : FnScope n_block_sizes ["many"] (defScope s_block_sizes) := ⟨rfl, rfl, rfl, by decide +kernel, rfl, by decide +kernel, by decide +kernel⟩
abbrev s_exponent : Stmt := topS 10
abbrev n_exponent : List Str := ["number"]
theorem sc_exponent : FnScope n_exponent ["number"] (defScope s_exponent) := ⟨rfl, rfl, rfl, by decide +kernel, rfl, by decide +kernel, by decide +kernel⟩
abbrev s_lowest_power : Stmt := topS 11
abbrev n_lowest_power : List Str := ["number"]
theorem sc_lowest_power : FnScope n_lowest_power ["number"] (defScope s_lowest_power) := ⟨rfl, rfl, rfl, by decide +kernel, rfl, by decide +kernel, by decide +kernel⟩
abbrev s_greatest_power : Stmt := topS 12
abbrev n_greatest_power : List Str := ["number"]
theorem sc_greatest_power : FnScope n_greatest_power ["number"] (defScope s_greatest_power) := ⟨rfl, rfl, rfl, by decide +kernel, rfl, by decide +kernel, by decide +kernel⟩
abbrev s_is_integer : Stmt := topS 13
abbrev n_is_integer : List Str := ["value"]
theorem sc_is_integer : FnScope n_is_integer ["value"] (defScope s_is_integer) := ⟨rfl, rfl, rfl, by decide +kernel, rfl, by decide +kernel, by decide +kernel⟩
abbrev s_check_integer : Stmt := topS 14
abbrev n_check_integer : List Str := ["value"]
theorem sc_check_integer : FnScope n_check_integer ["value"] (defScope s_check_integer) := ⟨rfl, rfl, rfl, by decide +kernel, rfl, by decide +kernel, by decide +kernel⟩
abbrev s_check_number : Stmt := topS 15
abbrev n_check_number : List Str := ["value"]
theorem sc_check_number : FnScope n_check_number ["value"] (defScope s_check_number) := ⟨rfl, rfl, rfl, by decide +kernel, rfl, by decide +kernel, by decide +kernel⟩
abbrev s_Builder_init : Stmt := inClass (topS 17) 0
abbrev n_Builder_init : List Str := ["self", "calls", "build"]
theorem sc_Builder_init : FnScope n_Builder_init ["self", "calls", "build"] (defScope s_Builder_init) := ⟨rfl, rfl, rfl, by decide +kernel, rfl, by decide +kernel, by decide +kernel⟩
abbrev s_Builder_part : Stmt := inClass (topS 17) 1
abbrev n_Builder_part : List Str := ["self", "numbers", "held", "mark", "entry", "block", "number"]
theorem sc_Builder_part : FnScope n_Builder_part ["self", "numbers", "held", "mark"] (defScope s_Builder_part) := ⟨rfl, rfl, rfl, by decide +kernel, rfl, by decide +kernel, by decide +kernel⟩
abbrev s_Builder_row : Stmt := inClass (topS 17) 2
abbrev n_Builder_row : List Str := ["self", "numbers", "held", "mark", "some"]
theorem sc_Builder_row : FnScope n_Builder_row ["self", "numbers", "held", "mark"] (defScope s_Builder_row) := ⟨rfl, rfl, rfl, by decide +kernel, rfl, by decide +kernel, by decide +kernel⟩
abbrev s_Builder_grown_row : Stmt := inClass (topS 17) 3
abbrev n_Builder_grown_row : List Str := ["self", "parts", "many", "number", "held", "mark", "kept", "numbers"]
theorem sc_Builder_grown_row : FnScope n_Builder_grown_row ["self", "parts", "many", "number", "held", "mark"] (defScope s_Builder_grown_row) := ⟨rfl, rfl, rfl, by decide +kernel, rfl, by decide +kernel, by decide +kernel⟩
abbrev s_growth : Stmt := topS 18
abbrev n_growth : List Str := ["parts", "many", "number", "kept", "numbers", "some", "block"]
theorem sc_growth : FnScope n_growth ["parts", "many", "number"] (defScope s_growth) := ⟨rfl, rfl, rfl, by decide +kernel, rfl, by decide +kernel, by decide +kernel⟩
abbrev s_split_numbers : Stmt := topS 19
abbrev n_split_numbers : List Str := ["numbers", "found", "first", "size"]
theorem sc_split_numbers : FnScope n_split_numbers ["numbers"] (defScope s_split_numbers) := ⟨rfl, rfl, rfl, by decide +kernel, rfl, by decide +kernel, by decide +kernel⟩
abbrev s_build_entry : Stmt := topS 20
abbrev n_build_entry : List Str := ["numbers", "mark"]
theorem sc_build_entry : FnScope n_build_entry ["numbers", "mark"] (defScope s_build_entry) := ⟨rfl, rfl, rfl, by decide +kernel, rfl, by decide +kernel, by decide +kernel⟩
abbrev s_Calls_init : Stmt := inClass (topS 22) 0
abbrev n_Calls_init : List Str := ["self"]
theorem sc_Calls_init : FnScope n_Calls_init ["self"] (defScope s_Calls_init) := ⟨rfl, rfl, rfl, by decide +kernel, rfl, by decide +kernel, by decide +kernel⟩
abbrev s_Calls_check : Stmt := inClass (topS 22) 1
abbrev n_Calls_check : List Str := ["self"]
theorem sc_Calls_check : FnScope n_Calls_check ["self"] (defScope s_Calls_check) := ⟨rfl, rfl, rfl, by decide +kernel, rfl, by decide +kernel, by decide +kernel⟩
abbrev s_Calls_run : Stmt := inClass (topS 22) 2
abbrev n_Calls_run : List Str := ["self", "entry", "action", "values", "result"]
theorem sc_Calls_run : FnScope n_Calls_run ["self", "entry", "action", "values"] (defScope s_Calls_run) := ⟨rfl, rfl, rfl, by decide +kernel, rfl, by decide +kernel, by decide +kernel⟩
abbrev s_Blocks_init : Stmt := inClass (topS 24) 1
abbrev n_Blocks_init : List Str := ["self", "build", "ask", "join", "zero"]
theorem sc_Blocks_init : FnScope n_Blocks_init ["self", "build", "ask", "join", "zero"] (defScope s_Blocks_init) := ⟨rfl, rfl, rfl, by decide +kernel, rfl, by decide +kernel, by decide +kernel⟩
abbrev s_Blocks_of : Stmt := inClass (topS 24) 2
abbrev n_Blocks_of : List Str := ["cls", "members", "build", "ask", "join", "zero", "blocks", "held"]
theorem sc_Blocks_of : FnScope n_Blocks_of ["cls", "members", "build", "ask", "join", "zero"] (defScope s_Blocks_of) := ⟨rfl, rfl, rfl, by decide +kernel, rfl, by decide +kernel, by decide +kernel⟩
abbrev s_Blocks_add : Stmt := inClass (topS 24) 3
abbrev n_Blocks_add : List Str := ["self", "member", "number", "held"]
theorem sc_Blocks_add : FnScope n_Blocks_add ["self", "member"] (defScope s_Blocks_add) := ⟨rfl, rfl, rfl, by decide +kernel, rfl, by decide +kernel, by decide +kernel⟩
abbrev s_Blocks_query : Stmt := inClass (topS 24) 5
abbrev n_Blocks_query : List Str := ["self", "question"]
theorem sc_Blocks_query : FnScope n_Blocks_query ["self", "question"] (defScope s_Blocks_query) := ⟨rfl, rfl, rfl, by decide +kernel, rfl, by decide +kernel, by decide +kernel⟩
abbrev s_Blocks_members : Stmt := inClass (topS 24) 6
abbrev n_Blocks_members : List Str := ["self"]
theorem sc_Blocks_members : FnScope n_Blocks_members ["self"] (defScope s_Blocks_members) := ⟨rfl, rfl, rfl, by decide +kernel, rfl, by decide +kernel, by decide +kernel⟩
abbrev s_Blocks_sizes : Stmt := inClass (topS 24) 8
abbrev n_Blocks_sizes : List Str := ["self", "block", "numbers"]
theorem sc_Blocks_sizes : FnScope n_Blocks_sizes ["self"] (defScope s_Blocks_sizes) := ⟨rfl, rfl, rfl, by decide +kernel, rfl, by decide +kernel, by decide +kernel⟩
abbrev s_Blocks_log : Stmt := inClass (topS 24) 11
abbrev n_Blocks_log : List Str := ["self"]
theorem sc_Blocks_log : FnScope n_Blocks_log ["self"] (defScope s_Blocks_log) := ⟨rfl, rfl, rfl, by decide +kernel, rfl, by decide +kernel, by decide +kernel⟩
abbrev s_Blocks_version : Stmt := inClass (topS 24) 12
abbrev n_Blocks_version : List Str := ["self", "asker"]
theorem sc_Blocks_version : FnScope n_Blocks_version ["self"] (defScope s_Blocks_version) := ⟨rfl, rfl, rfl, by decide +kernel, rfl, by decide +kernel, by decide +kernel⟩
abbrev s_Blocks_branch : Stmt := inClass (topS 24) 13
abbrev n_Blocks_branch : List Str := ["self", "asker", "blocks"]
theorem sc_Blocks_branch : FnScope n_Blocks_branch ["self"] (defScope s_Blocks_branch) := ⟨rfl, rfl, rfl, by decide +kernel, rfl, by decide +kernel, by decide +kernel⟩
abbrev s_Version_init : Stmt := inClass (topS 25) 1
abbrev n_Version_init : List Str := ["self", "held", "parts", "ask", "join", "zero"]
theorem sc_Version_init : FnScope n_Version_init ["self", "held", "parts", "ask", "join", "zero"] (defScope s_Version_init) := ⟨rfl, rfl, rfl, by decide +kernel, rfl, by decide +kernel, by decide +kernel⟩
abbrev s_Version_query : Stmt := inClass (topS 25) 2
abbrev n_Version_query : List Str := ["self", "question"]
theorem sc_Version_query : FnScope n_Version_query ["self", "question"] (defScope s_Version_query) := ⟨rfl, rfl, rfl, by decide +kernel, rfl, by decide +kernel, by decide +kernel⟩
abbrev s_l_bag : Stmt := topS 27
abbrev n_l_bag : List Str := ["_law_script", "_law_at", "_law_cell", "_law_great", "_law_primes"]
theorem sc_l_bag : FnScope n_l_bag ["_law_script", "_law_at"] (defScope s_l_bag) := ⟨rfl, rfl, rfl, by decide +kernel, rfl, by decide +kernel, by decide +kernel⟩
abbrev s_l_take : Stmt := topS 28
abbrev n_l_take : List Str := ["_law_bag_here", "_law_many", "_law_digit"]
theorem sc_l_take : FnScope n_l_take ["_law_bag_here", "_law_many"] (defScope s_l_take) := ⟨rfl, rfl, rfl, by decide +kernel, rfl, by decide +kernel, by decide +kernel⟩
abbrev s_l_pair : Stmt := topS 29
abbrev n_l_pair : List Str := ["_law_way", "_law_one", "_law_other"]
theorem sc_l_pair : FnScope n_l_pair ["_law_way"] (defScope s_l_pair) := ⟨rfl, rfl, rfl, by decide +kernel, rfl, by decide +kernel, by decide +kernel⟩
abbrev s_l_of_right : Stmt := topS 30
abbrev n_l_of_right : List Str := ["_law_things", "_law_topic", "_law_home"]
theorem sc_l_of_right : FnScope n_l_of_right ["_law_things", "_law_topic"] (defScope s_l_of_right) := ⟨rfl, rfl, rfl, by decide +kernel, rfl, by decide +kernel, by decide +kernel⟩
abbrev s_law : Stmt := topS 31
abbrev n_law : List Str := ["_law_script", "_law_k", "_law_bag_here", "_law_one", "_law_other", "_law_bare", "_law_turn", "_law_thing", "_law_topic"]
theorem sc_law : FnScope n_law ["_law_script"] (defScope s_law) := ⟨rfl, rfl, rfl, by decide +kernel, rfl, by decide +kernel, by decide +kernel⟩
structure Txt (K : PySem.W.Frag) (mg : Str → Option Value) where
  C_Calls : Addr
  gc_Calls : mg "Calls" = some (.ref C_Calls)
  C_Asker : Addr
  gc_Asker : mg "Asker" = some (.ref C_Asker)
  C_Builder : Addr
  gc_Builder : mg "Builder" = some (.ref C_Builder)
  C_Blocks : Addr
  gc_Blocks : mg "Blocks" = some (.ref C_Blocks)
  C_Version : Addr
  gc_Version : mg "Version" = some (.ref C_Version)
  f_Asker_init : Addr
  d_Asker_init : FuncData
  -- 
  F_Asker_init : Fun K "__init__" "Asker.__init__" s_Asker_init f_Asker_init d_Asker_init
  b_Asker_init : Binds K d_Asker_init ["self", "calls", "ask", "join", "zero"] []
  m_Asker_init : PySem.W.findIn K (.ref C_Asker) "__init__" = some (some (.ref f_Asker_init))
  t_Asker_init : PySem.W.isFn K (.ref f_Asker_init) = true
  y_Asker_init : PySem.W.typeIn K (.ref f_Asker_init) = some (.type "function")
  k_Asker_init : PySem.W.keepIn K (.ref f_Asker_init) = true
  f_Asker_answer : Addr
  d_Asker_answer : FuncData
  E_Asker_answer : Addr
  F_Asker_answer : FunD K "answer" "Asker.answer" (defArgs s_Asker_answer) (defBody s_Asker_answer) (defScope s_Asker_answer) [V.ref E_Asker_answer] [] f_Asker_answer d_Asker_answer
  S_Asker_answer : ∀ H, SqT K H E_Asker_answer []
  ds_Asker_answer : List Value
  vd_Asker_answer : Vals [V.ref E_Asker_answer] ds_Asker_answer
  bd_Asker_answer : Binds K d_Asker_answer ["self", "parts", "question", "mark"] ds_Asker_answer
  b_Asker_answer : Binds K d_Asker_answer ["self", "parts", "question", "mark"] []
  m_Asker_answer : PySem.W.findIn K (.ref C_Asker) "answer" = some (some (.ref f_Asker_answer))
  t_Asker_answer : PySem.W.isFn K (.ref f_Asker_answer) = true
  y_Asker_answer : PySem.W.typeIn K (.ref f_Asker_answer) = some (.type "function")
  k_Asker_answer : PySem.W.keepIn K (.ref f_Asker_answer) = true
  f_Builder_init : Addr
  d_Builder_init : FuncData
  -- 
  F_Builder_init : Fun K "__init__" "Builder.__init__" s_Builder_init f_Builder_init d_Builder_init
  b_Builder_init : Binds K d_Builder_init ["self", "calls", "build"] []
  m_Builder_init : PySem.W.findIn K (.ref C_Builder) "__init__" = some (some (.ref f_Builder_init))
  t_Builder_init : PySem.W.isFn K (.ref f_Builder_init) = true
  y_Builder_init : PySem.W.typeIn K (.ref f_Builder_init) = some (.type "function")
  k_Builder_init : PySem.W.keepIn K (.ref f_Builder_init) = true
  f_Builder_part : Addr
  d_Builder_part : FuncData
  E_Builder_part : Addr
  F_Builder_part : FunD K "part" "Builder.part" (defArgs s_Builder_part) (defBody s_Builder_part) (defScope s_Builder_part) [V.ref E_Builder_part] [] f_Builder_part d_Builder_part
  S_Builder_part : ∀ H, SqT K H E_Builder_part []
  ds_Builder_part : List Value
  vd_Builder_part : Vals [V.ref E_Builder_part] ds_Builder_part
  bd_Builder_part : Binds K d_Builder_part ["self", "numbers", "held", "mark"] ds_Builder_part
  b_Builder_part : Binds K d_Builder_part ["self", "numbers", "held", "mark"] []
  m_Builder_part : PySem.W.findIn K (.ref C_Builder) "part" = some (some (.ref f_Builder_part))
  t_Builder_part : PySem.W.isFn K (.ref f_Builder_part) = true
  y_Builder_part : PySem.W.typeIn K (.ref f_Builder_part) = some (.type "function")
  k_Builder_part : PySem.W.keepIn K (.ref f_Builder_part) = true
  f_Builder_row : Addr
  d_Builder_row : FuncData
  E_Builder_row : Addr
  F_Builder_row : FunD K "row" "Builder.row" (defArgs s_Builder_row) (defBody s_Builder_row) (defScope s_Builder_row) [V.ref E_Builder_row] [] f_Builder_row d_Builder_row
  S_Builder_row : ∀ H, SqT K H E_Builder_row []
  ds_Builder_row : List Value
  vd_Builder_row : Vals [V.ref E_Builder_row] ds_Builder_row
  bd_Builder_row : Binds K d_Builder_row ["self", "numbers", "held", "mark"] ds_Builder_row
  b_Builder_row : Binds K d_Builder_row ["self", "numbers", "held", "mark"] []
  m_Builder_row : PySem.W.findIn K (.ref C_Builder) "row" = some (some (.ref f_Builder_row))
  t_Builder_row : PySem.W.isFn K (.ref f_Builder_row) = true
  y_Builder_row : PySem.W.typeIn K (.ref f_Builder_row) = some (.type "function")
  k_Builder_row : PySem.W.keepIn K (.ref f_Builder_row) = true
  f_Builder_grown_row : Addr
  d_Builder_grown_row : FuncData
  E_Builder_grown_row : Addr
  F_Builder_grown_row : FunD K "grown_row" "Builder.grown_row" (defArgs s_Builder_grown_row) (defBody s_Builder_grown_row) (defScope s_Builder_grown_row) [V.ref E_Builder_grown_row] [] f_Builder_grown_row d_Builder_grown_row
  S_Builder_grown_row : ∀ H, SqT K H E_Builder_grown_row []
  ds_Builder_grown_row : List Value
  vd_Builder_grown_row : Vals [V.ref E_Builder_grown_row] ds_Builder_grown_row
  bd_Builder_grown_row : Binds K d_Builder_grown_row ["self", "parts", "many", "number", "held", "mark"] ds_Builder_grown_row
  b_Builder_grown_row : Binds K d_Builder_grown_row ["self", "parts", "many", "number", "held", "mark"] []
  m_Builder_grown_row : PySem.W.findIn K (.ref C_Builder) "grown_row" = some (some (.ref f_Builder_grown_row))
  t_Builder_grown_row : PySem.W.isFn K (.ref f_Builder_grown_row) = true
  y_Builder_grown_row : PySem.W.typeIn K (.ref f_Builder_grown_row) = some (.type "function")
  k_Builder_grown_row : PySem.W.keepIn K (.ref f_Builder_grown_row) = true
  f_Calls_init : Addr
  d_Calls_init : FuncData
  -- 
  F_Calls_init : Fun K "__init__" "Calls.__init__" s_Calls_init f_Calls_init d_Calls_init
  b_Calls_init : Binds K d_Calls_init ["self"] []
  m_Calls_init : PySem.W.findIn K (.ref C_Calls) "__init__" = some (some (.ref f_Calls_init))
  t_Calls_init : PySem.W.isFn K (.ref f_Calls_init) = true
  y_Calls_init : PySem.W.typeIn K (.ref f_Calls_init) = some (.type "function")
  k_Calls_init : PySem.W.keepIn K (.ref f_Calls_init) = true
  f_Calls_check : Addr
  d_Calls_check : FuncData
  -- 
  F_Calls_check : Fun K "check" "Calls.check" s_Calls_check f_Calls_check d_Calls_check
  b_Calls_check : Binds K d_Calls_check ["self"] []
  m_Calls_check : PySem.W.findIn K (.ref C_Calls) "check" = some (some (.ref f_Calls_check))
  t_Calls_check : PySem.W.isFn K (.ref f_Calls_check) = true
  y_Calls_check : PySem.W.typeIn K (.ref f_Calls_check) = some (.type "function")
  k_Calls_check : PySem.W.keepIn K (.ref f_Calls_check) = true
  f_Calls_run : Addr
  d_Calls_run : FuncData
  -- 
  F_Calls_run : Fun K "run" "Calls.run" s_Calls_run f_Calls_run d_Calls_run
  m_Calls_run : PySem.W.findIn K (.ref C_Calls) "run" = some (some (.ref f_Calls_run))
  t_Calls_run : PySem.W.isFn K (.ref f_Calls_run) = true
  y_Calls_run : PySem.W.typeIn K (.ref f_Calls_run) = some (.type "function")
  k_Calls_run : PySem.W.keepIn K (.ref f_Calls_run) = true
  f_Blocks_init : Addr
  d_Blocks_init : FuncData
  -- 
  F_Blocks_init : FunD K "__init__" "Blocks.__init__" (defArgs s_Blocks_init) (defBody s_Blocks_init) (defScope s_Blocks_init) [] [("zero", V.non)] f_Blocks_init d_Blocks_init
  m_Blocks_init : PySem.W.findIn K (.ref C_Blocks) "__init__" = some (some (.ref f_Blocks_init))
  t_Blocks_init : PySem.W.isFn K (.ref f_Blocks_init) = true
  y_Blocks_init : PySem.W.typeIn K (.ref f_Blocks_init) = some (.type "function")
  k_Blocks_init : PySem.W.keepIn K (.ref f_Blocks_init) = true
  f_Blocks_of : Addr
  d_Blocks_of : FuncData
  cp_Blocks_of : Addr
  F_Blocks_of : FunD K "of" "Blocks.of" (defArgs s_Blocks_of) (defBody s_Blocks_of) (defScope s_Blocks_of) [] [("zero", V.non)] f_Blocks_of d_Blocks_of
  cr_Blocks : ClX.CRead K C_Blocks (.type "type")
  cm_Blocks_of : ClX.CMet K C_Blocks (.type "type") "of" cp_Blocks_of f_Blocks_of
  f_Blocks_add : Addr
  d_Blocks_add : FuncData
  -- 
  F_Blocks_add : Fun K "add" "Blocks.add" s_Blocks_add f_Blocks_add d_Blocks_add
  b_Blocks_add : Binds K d_Blocks_add ["self", "member"] []
  m_Blocks_add : PySem.W.findIn K (.ref C_Blocks) "add" = some (some (.ref f_Blocks_add))
  t_Blocks_add : PySem.W.isFn K (.ref f_Blocks_add) = true
  y_Blocks_add : PySem.W.typeIn K (.ref f_Blocks_add) = some (.type "function")
  k_Blocks_add : PySem.W.keepIn K (.ref f_Blocks_add) = true
  f_Blocks_query : Addr
  d_Blocks_query : FuncData
  -- 
  F_Blocks_query : Fun K "query" "Blocks.query" s_Blocks_query f_Blocks_query d_Blocks_query
  b_Blocks_query : Binds K d_Blocks_query ["self", "question"] []
  m_Blocks_query : PySem.W.findIn K (.ref C_Blocks) "query" = some (some (.ref f_Blocks_query))
  t_Blocks_query : PySem.W.isFn K (.ref f_Blocks_query) = true
  y_Blocks_query : PySem.W.typeIn K (.ref f_Blocks_query) = some (.type "function")
  k_Blocks_query : PySem.W.keepIn K (.ref f_Blocks_query) = true
  f_Blocks_members : Addr
  d_Blocks_members : FuncData
  -- 
  F_Blocks_members : Fun K "members" "Blocks.members" s_Blocks_members f_Blocks_members d_Blocks_members
  b_Blocks_members : Binds K d_Blocks_members ["self"] []
  m_Blocks_members : PySem.W.findIn K (.ref C_Blocks) "members" = some (some (.ref f_Blocks_members))
  t_Blocks_members : PySem.W.isFn K (.ref f_Blocks_members) = true
  y_Blocks_members : PySem.W.typeIn K (.ref f_Blocks_members) = some (.type "function")
  k_Blocks_members : PySem.W.keepIn K (.ref f_Blocks_members) = true
  f_Blocks_sizes : Addr
  d_Blocks_sizes : FuncData
  -- 
  F_Blocks_sizes : Fun K "sizes" "Blocks.sizes" s_Blocks_sizes f_Blocks_sizes d_Blocks_sizes
  b_Blocks_sizes : Binds K d_Blocks_sizes ["self"] []
  m_Blocks_sizes : PySem.W.findIn K (.ref C_Blocks) "sizes" = some (some (.ref f_Blocks_sizes))
  t_Blocks_sizes : PySem.W.isFn K (.ref f_Blocks_sizes) = true
  y_Blocks_sizes : PySem.W.typeIn K (.ref f_Blocks_sizes) = some (.type "function")
  k_Blocks_sizes : PySem.W.keepIn K (.ref f_Blocks_sizes) = true
  f_Blocks_log : Addr
  d_Blocks_log : FuncData
  -- 
  F_Blocks_log : Fun K "log" "Blocks.log" s_Blocks_log f_Blocks_log d_Blocks_log
  b_Blocks_log : Binds K d_Blocks_log ["self"] []
  m_Blocks_log : PySem.W.findIn K (.ref C_Blocks) "log" = some (some (.ref f_Blocks_log))
  t_Blocks_log : PySem.W.isFn K (.ref f_Blocks_log) = true
  y_Blocks_log : PySem.W.typeIn K (.ref f_Blocks_log) = some (.type "function")
  k_Blocks_log : PySem.W.keepIn K (.ref f_Blocks_log) = true
  f_Blocks_version : Addr
  d_Blocks_version : FuncData
  -- 
  F_Blocks_version : Fun K "version" "Blocks.version" s_Blocks_version f_Blocks_version d_Blocks_version
  b_Blocks_version : Binds K d_Blocks_version ["self"] []
  m_Blocks_version : PySem.W.findIn K (.ref C_Blocks) "version" = some (some (.ref f_Blocks_version))
  t_Blocks_version : PySem.W.isFn K (.ref f_Blocks_version) = true
  y_Blocks_version : PySem.W.typeIn K (.ref f_Blocks_version) = some (.type "function")
  k_Blocks_version : PySem.W.keepIn K (.ref f_Blocks_version) = true
  f_Blocks_branch : Addr
  d_Blocks_branch : FuncData
  -- 
  F_Blocks_branch : Fun K "branch" "Blocks.branch" s_Blocks_branch f_Blocks_branch d_Blocks_branch
  b_Blocks_branch : Binds K d_Blocks_branch ["self"] []
  m_Blocks_branch : PySem.W.findIn K (.ref C_Blocks) "branch" = some (some (.ref f_Blocks_branch))
  t_Blocks_branch : PySem.W.isFn K (.ref f_Blocks_branch) = true
  y_Blocks_branch : PySem.W.typeIn K (.ref f_Blocks_branch) = some (.type "function")
  k_Blocks_branch : PySem.W.keepIn K (.ref f_Blocks_branch) = true
  f_Version_init : Addr
  d_Version_init : FuncData
  -- 
  F_Version_init : Fun K "__init__" "Version.__init__" s_Version_init f_Version_init d_Version_init
  b_Version_init : Binds K d_Version_init ["self", "held", "parts", "ask", "join", "zero"] []
  m_Version_init : PySem.W.findIn K (.ref C_Version) "__init__" = some (some (.ref f_Version_init))
  t_Version_init : PySem.W.isFn K (.ref f_Version_init) = true
  y_Version_init : PySem.W.typeIn K (.ref f_Version_init) = some (.type "function")
  k_Version_init : PySem.W.keepIn K (.ref f_Version_init) = true
  f_Version_query : Addr
  d_Version_query : FuncData
  -- 
  F_Version_query : Fun K "query" "Version.query" s_Version_query f_Version_query d_Version_query
  b_Version_query : Binds K d_Version_query ["self", "question"] []
  m_Version_query : PySem.W.findIn K (.ref C_Version) "query" = some (some (.ref f_Version_query))
  t_Version_query : PySem.W.isFn K (.ref f_Version_query) = true
  y_Version_query : PySem.W.typeIn K (.ref f_Version_query) = some (.type "function")
  k_Version_query : PySem.W.keepIn K (.ref f_Version_query) = true
  f_block_sizes : Addr
  d_block_sizes : FuncData
  F_block_sizes : Fun K "block_sizes" "block_sizes" s_block_sizes f_block_sizes d_block_sizes
  b_block_sizes : Binds K d_block_sizes ["many"] []
  g_block_sizes : mg "block_sizes" = some (.ref f_block_sizes)
  f_exponent : Addr
  d_exponent : FuncData
  F_exponent : Fun K "exponent" "exponent" s_exponent f_exponent d_exponent
  b_exponent : Binds K d_exponent ["number"] []
  g_exponent : mg "exponent" = some (.ref f_exponent)
  f_lowest_power : Addr
  d_lowest_power : FuncData
  F_lowest_power : Fun K "lowest_power" "lowest_power" s_lowest_power f_lowest_power d_lowest_power
  b_lowest_power : Binds K d_lowest_power ["number"] []
  g_lowest_power : mg "lowest_power" = some (.ref f_lowest_power)
  f_greatest_power : Addr
  d_greatest_power : FuncData
  F_greatest_power : Fun K "greatest_power" "greatest_power" s_greatest_power f_greatest_power d_greatest_power
  b_greatest_power : Binds K d_greatest_power ["number"] []
  g_greatest_power : mg "greatest_power" = some (.ref f_greatest_power)
  f_is_integer : Addr
  d_is_integer : FuncData
  F_is_integer : Fun K "is_integer" "is_integer" s_is_integer f_is_integer d_is_integer
  b_is_integer : Binds K d_is_integer ["value"] []
  g_is_integer : mg "is_integer" = some (.ref f_is_integer)
  f_check_integer : Addr
  d_check_integer : FuncData
  F_check_integer : Fun K "check_integer" "check_integer" s_check_integer f_check_integer d_check_integer
  b_check_integer : Binds K d_check_integer ["value"] []
  g_check_integer : mg "check_integer" = some (.ref f_check_integer)
  f_check_number : Addr
  d_check_number : FuncData
  F_check_number : Fun K "check_number" "check_number" s_check_number f_check_number d_check_number
  b_check_number : Binds K d_check_number ["value"] []
  g_check_number : mg "check_number" = some (.ref f_check_number)
  f_growth : Addr
  d_growth : FuncData
  F_growth : Fun K "growth" "growth" s_growth f_growth d_growth
  b_growth : Binds K d_growth ["parts", "many", "number"] []
  g_growth : mg "growth" = some (.ref f_growth)
  f_split_numbers : Addr
  d_split_numbers : FuncData
  F_split_numbers : Fun K "split_numbers" "split_numbers" s_split_numbers f_split_numbers d_split_numbers
  b_split_numbers : Binds K d_split_numbers ["numbers"] []
  g_split_numbers : mg "split_numbers" = some (.ref f_split_numbers)
  f_build_entry : Addr
  d_build_entry : FuncData
  E_build_entry : Addr
  F_build_entry : FunD K "build_entry" "build_entry" (defArgs s_build_entry) (defBody s_build_entry) (defScope s_build_entry) [V.ref E_build_entry] [] f_build_entry d_build_entry
  S_build_entry : ∀ H, SqT K H E_build_entry []
  ds_build_entry : List Value
  vd_build_entry : Vals [V.ref E_build_entry] ds_build_entry
  bd_build_entry : Binds K d_build_entry ["numbers", "mark"] ds_build_entry
  b_build_entry : Binds K d_build_entry ["numbers", "mark"] []
  g_build_entry : mg "build_entry" = some (.ref f_build_entry)
  f_l_bag : Addr
  d_l_bag : FuncData
  F_l_bag : Fun K "_law_bag" "_law_bag" s_l_bag f_l_bag d_l_bag
  b_l_bag : Binds K d_l_bag ["_law_script", "_law_at"] []
  g_l_bag : mg "_law_bag" = some (.ref f_l_bag)
  f_l_take : Addr
  d_l_take : FuncData
  F_l_take : Fun K "_law_take" "_law_take" s_l_take f_l_take d_l_take
  b_l_take : Binds K d_l_take ["_law_bag_here", "_law_many"] []
  g_l_take : mg "_law_take" = some (.ref f_l_take)
  f_l_pair : Addr
  d_l_pair : FuncData
  c_l_pair : Addr
  p_l_pair : Addr
  F_l_pair : FunT K "_law_pair" "_law_pair" s_l_pair f_l_pair d_l_pair c_l_pair
  b_l_pair : Binds K d_l_pair ["_law_way"] []
  g_l_pair : mg "_law_pair" = some (.ref f_l_pair)
  f_l_of_right : Addr
  d_l_of_right : FuncData
  c_l_of_right : Addr
  p_l_of_right : Addr
  F_l_of_right : FunT K "_law_of_right" "_law_of_right" s_l_of_right f_l_of_right d_l_of_right c_l_of_right
  b_l_of_right : Binds K d_l_of_right ["_law_things", "_law_topic"] []
  g_l_of_right : mg "_law_of_right" = some (.ref f_l_of_right)
  pne_l_pair_l_of_right : p_l_pair ≠ p_l_of_right
  z_abs : mg "abs" = none
  z_bool : mg "bool" = none
  z_classmethod : mg "classmethod" = none
  z_int : mg "int" = none
  z_isinstance : mg "isinstance" = none
  z_len : mg "len" = none
  z_list : mg "list" = none
  z_min : mg "min" = none
  z_range : mg "range" = none
  z_repr : mg "repr" = none
  z_sum : mg "sum" = none
  z_tuple : mg "tuple" = none
  u_GREATEST : Value
  v_GREATEST : mg "GREATEST" = some u_GREATEST
  r_GREATEST : RelV (V.int (10 ^ (30 : Nat))) u_GREATEST
  cl_Calls : Cls K C_Calls
  mk_Calls : PySem.W.makesIn K C_Calls = true
  kp_Calls : PySem.W.keepIn K (.ref C_Calls) = true
  n_Calls_entries : NoAttr K C_Calls "entries"
  n_Calls_running : NoAttr K C_Calls "running"
  cl_Asker : Cls K C_Asker
  mk_Asker : PySem.W.makesIn K C_Asker = true
  kp_Asker : PySem.W.keepIn K (.ref C_Asker) = true
  n_Asker_calls : NoAttr K C_Asker "calls"
  n_Asker_ask_call : NoAttr K C_Asker "ask_call"
  n_Asker_join_call : NoAttr K C_Asker "join_call"
  n_Asker_zero : NoAttr K C_Asker "zero"
  cl_Builder : Cls K C_Builder
  mk_Builder : PySem.W.makesIn K C_Builder = true
  kp_Builder : PySem.W.keepIn K (.ref C_Builder) = true
  n_Builder_calls : NoAttr K C_Builder "calls"
  n_Builder_build_call : NoAttr K C_Builder "build_call"
  cl_Blocks : Cls K C_Blocks
  mk_Blocks : PySem.W.makesIn K C_Blocks = true
  kp_Blocks : PySem.W.keepIn K (.ref C_Blocks) = true
  n_Blocks_calls : NoAttr K C_Blocks "calls"
  n_Blocks_builder : NoAttr K C_Blocks "builder"
  n_Blocks_asker : NoAttr K C_Blocks "asker"
  n_Blocks_held : NoAttr K C_Blocks "held"
  n_Blocks_parts : NoAttr K C_Blocks "parts"
  cl_Version : Cls K C_Version
  mk_Version : PySem.W.makesIn K C_Version = true
  kp_Version : PySem.W.keepIn K (.ref C_Version) = true
  n_Version_calls : NoAttr K C_Version "calls"
  n_Version_asker : NoAttr K C_Version "asker"
  n_Version_held : NoAttr K C_Version "held"
  n_Version_parts : NoAttr K C_Version "parts"

theorem log_lo {n : Nat} (h : n ≠ 0) : 2 ^ n.log2 ≤ n := Nat.log2_self_le h
theorem log_hi {n : Nat} : n < 2 ^ (n.log2 + 1) := Nat.lt_log2_self
theorem log_lt {n f : Nat} (h : n ≠ 0) (hf : n < 2 ^ f) : n.log2 < f := (Nat.log2_lt h).mpr hf
theorem rest_lt {n : Nat} (h : n ≠ 0) : n - 2 ^ n.log2 < 2 ^ n.log2 := by
  have a := log_hi (n := n)
  have b := log_lo h
  rw [Nat.pow_succ] at a
  omega
theorem rest_lt' {n f : Nat} (h : n ≠ 0) (hf : n < 2 ^ (f + 1)) : n - 2 ^ n.log2 < 2 ^ f := by
  have a := rest_lt h
  have b := log_lt h hf
  have c : 2 ^ n.log2 ≤ 2 ^ f := Nat.pow_le_pow_right (by decide) (by omega)
  omega
/-- the lowest power -/
def low (n : Nat) : Nat := if h : n = 0 then 1 else if n % 2 = 0 then 2 * low (n / 2) else 1
termination_by n
decreasing_by omega
theorem low_even {n : Nat} (h : n ≠ 0) (e : n % 2 = 0) : low n = 2 * low (n / 2) := by
  rw [low, dif_neg h, if_pos e]
theorem low_odd {n : Nat} (e : n % 2 = 1) : low n = 1 := by
  rw [low, dif_neg (by omega), if_neg (by omega)]
theorem low_is : ∀ (j n : Nat), n ≠ 0 → n % 2 ^ j = 0 → ¬ n % 2 ^ (j + 1) = 0 → low n = 2 ^ j
  | 0, n, h, _, e => by
    rw [Nat.zero_add, Nat.pow_one] at e
    exact low_odd (by omega)
  | j + 1, n, h, a, b => by
    have e2 : n % 2 = 0 := by
      rw [Nat.pow_succ] at a
      have := Nat.mod_mod_of_dvd n (show 2 ∣ 2 ^ j * 2 from ⟨2 ^ j, Nat.mul_comm _ _⟩)
      rw [a] at this
      omega
    obtain ⟨m, rfl⟩ : ∃ m, n = 2 * m := ⟨n / 2, by omega⟩
    have hm : m ≠ 0 := by omega
    rw [low_even h e2, Nat.mul_div_cancel_left _ (by decide), Nat.pow_succ, Nat.mul_comm]
    have a' : m % 2 ^ j = 0 := by
      rw [Nat.pow_succ, Nat.mul_comm (2 ^ j) 2, Nat.mul_mod_mul_left] at a
      omega
    have b' : ¬ m % 2 ^ (j + 1) = 0 := fun z => by
      rw [Nat.pow_succ, Nat.mul_comm (2 ^ (j + 1)) 2, Nat.mul_mod_mul_left, z] at b
      exact b rfl
    rw [low_is j m hm a' b']
theorem low_pow (j : Nat) : low (2 ^ j) = 2 ^ j := by
  refine low_is j _ (Nat.pos_iff_ne_zero.mp (Nat.two_pow_pos j)) (Nat.mod_self _) fun z => ?_
  rw [Nat.mod_eq_of_lt (Nat.pow_lt_pow_right (by decide) (by omega))] at z
  have := Nat.two_pow_pos j
  omega

theorem ifT {c : Bool} {A B : Prop} (hc : c = true) (h : A) : if c = true then A else B := by
  rw [if_pos hc]
  exact h
theorem ifF {c : Bool} {A B : Prop} (hc : c = false) (h : B) : if c = true then A else B := by
  rw [hc, if_neg Bool.false_ne_true]
  exact h
theorem dF {p : Prop} [Decidable p] (h : ¬ p) : decide p = false := decide_eq_false h
theorem dT {p : Prop} [Decidable p] (h : p) : decide p = true := decide_eq_true h
theorem bits_nat {n : Nat} (h : n ≠ 0) : (Builtin.Int.intBits (n : Int) : Nat) = n.log2 + 1 := by
  unfold Builtin.Int.intBits
  rw [if_neg (show ¬ ((n : Int) == 0) = true by simpa using (show (n : Int) ≠ 0 by omega))]
  rfl
theorem gp_eq {n : Nat} (h : n ≠ 0) : (1 : Int) * 2 ^ (((Builtin.Int.intBits (n : Int) : Nat) : Int) - 1).toNat = ((2 ^ n.log2 : Nat) : Int) := by
  rw [bits_nat h, show (((n.log2 + 1 : Nat) : Int) - 1).toNat = n.log2 by omega, Int.one_mul]
  exact (PySem.W.kbt_cast _).symm
theorem gp_ok {n : Nat} (h : n ≠ 0) (hn : n < 2 ^ 200) : CShl 1 (((Builtin.Int.intBits (n : Int) : Nat) : Int) - 1) := by
  have a := log_lt h hn
  rw [bits_nat h, show (((n.log2 + 1 : Nat) : Int) - 1) = (n.log2 : Int) by omega]
  exact shl_ok (n := 1) (by decide) (by omega)
theorem nat_cast_lt {a : Nat} {n : Nat} (h : n < 2 ^ a) : (n : Int).natAbs < 2 ^ a := h
theorem pow_nat (k : Nat) : (2 : Int) ^ k = ((2 ^ k : Nat) : Int) := (PySem.W.kbt_cast k).symm
theorem p10 : (10 : Int) ^ Int.toNat 30 = ((10 ^ 30 : Nat) : Int) := by decide +kernel
theorem le6 : 6 ≤ sizeLine := by decide
theorem p100 : (10 ^ 30 : Nat) < 2 ^ 100 := by decide +kernel
def intAt (σ : L2.St) (i : Nat) : Nat := match σ[i]? with
  | some (some (V.int r)) => r.toNat
  | _ => 0
theorem le2 : 2 ≤ sizeLine := by decide
theorem cdiv_nat (a b : Nat) : ((a : Int) / (b : Int)) = ((a / b : Nat) : Int) := rfl

/-! ### heaps -/
theorem same_put {H H1 : Hp} {p : Addr} {o : HO} (h : Same H H1) (n : H p = none) : Same H (upd H1 p o) := fun b u e => by
  rw [upd_ne (ne_of_none e n)]
  exact h b u e
theorem same_new {H : Hp} {p : Addr} {o : HO} (n : H p = none) : Same H (upd H p o) := same_put (Same.refl H) n
theorem same_no {H H1 : Hp} {p : Addr} (h : Same H H1) (n : H1 p = none) : H p = none := h.free n
/-- all but p is as it was -/
def But (p : Addr) (H H' : Hp) : Prop := ∀ b o, H b = some o → b ≠ p → H' b = some o
theorem but_refl (p : Addr) (H : Hp) : But p H H := fun _ _ h _ => h
theorem but_trans {p : Addr} {H H1 H2 : Hp} (a : But p H H1) (b : But p H1 H2) : But p H H2 := fun c o h n => b c o (a c o h n) n
theorem but_of_same {p : Addr} {H H1 : Hp} (a : Same H H1) : But p H H1 := fun c o h _ => a c o h
theorem but_upd (p : Addr) (H : Hp) (o : HO) : But p H (upd H p o) := fun b u e n => by
  rw [upd_ne n]
  exact e
theorem but_fresh {p : Addr} {H0 H H1 : Hp} (s : Same H0 H) (n : H0 p = none) (b : But p H H1) : Same H0 H1 := fun c o e => b c o (s c o e) (ne_of_none e n)
/-! ### a bag of digits -/
def Bag (H : Hp) (p : Addr) : Prop := ∃ g m c : Int, H p = some (.lst [.int g, .int m, .int c]) ∧ 0 ≤ g ∧ 0 ≤ m ∧ m < 2147483648
theorem fm0 {a b : Int} (h : 0 < b) : 0 ≤ a.fmod b := by
  rw [Int.fmod_eq_emod_of_nonneg a (by omega)]
  exact Int.emod_nonneg a (by omega)
theorem fm1 {a b : Int} (h : 0 < b) : a.fmod b < b := by
  rw [Int.fmod_eq_emod_of_nonneg a (by omega)]
  exact Int.emod_lt_of_pos a h
theorem nz1 : (2147483647 : Int) ≠ 0 := by decide
theorem nz2 : (2147483629 : Int) ≠ 0 := by decide
section
variable {P : Program} {w : World} {K : PySem.W.Frag} {mg : Str → Option Value} {base : Heap}
def spTake : Sp := fun vs H Q _ => ∃ (p : Addr) (n : Int), vs = [.ref p, .int n] ∧ Bag H p ∧ 0 < n ∧ n.natAbs < 2 ^ 200 ∧
  ∀ r H', 0 ≤ r → r < n → Bag H' p → But p H H' → Q (.int r) H'
theorem ok_take (T : Txt K mg) : FnOk P w K mg base CX0 1 T.f_l_take T.d_l_take ["_law_bag_here", "_law_many"] spTake := by
  refine T.F_l_take.ok sc_l_take (fun vs H Q E h => ?_) (fun cdv A outer s H vs Q E hr h => ?_)
  · obtain ⟨p, n, rfl, _⟩ := h
    rfl
  · obtain ⟨p, n, rfl, ⟨g, m, c, hb, g0, m0, m1⟩, n0, n1, q⟩ := h
    refine ⟨_, (pss_cons (ps_if (pt_cmpR op_gt (pe_ix (r := rIxL K) ix_list (pv 0) pe_int (fun _ _ => rfl)) pe_int (nomark _)) (pss_cons (ps_set (i := 2) sc_l_take.nd rfl (.inl rfl) (pe_op op_modN (pe_ix (r := rIxL K) ix_list (pv 0) pe_int (fun _ _ => rfl)) (pv 1)))
        (pss_cons (ps_asg (pe_op op_fdivW (pe_ix (r := rIxL K) ix_list (pv 0) pe_int (fun _ _ => rfl)) (pv 1)) (pg_sub (pv 0) pe_int set_list))
        (pss_one (ps_ret (pv 2))))) pss_nil)
      (pss_cons (ps_asg (pe_op op_add (pe_ix (r := rIxL K) ix_list (pv 0) pe_int (fun _ _ => rfl)) pe_int) (pg_sub (pv 0) pe_int set_list))
      (pss_cons (ps_asg (pe_op op_modN (pe_op op_add (pe_op op_add (pe_op op_mul (pe_ix (r := rIxL K) ix_list (pv 0) pe_int (fun _ _ => rfl)) pe_int) (pe_op op_mul pe_int (pe_ix (r := rIxL K) ix_list (pv 0) pe_int (fun _ _ => rfl)))) pe_int) pe_int) (pg_sub (pv 0) pe_int set_list))
      (pss_one (ps_ret (pe_op op_modN (pe_op op_modN (pe_op op_pow (pe_op op_fdivW (pe_ix (r := rIxL K) ix_list (pv 0) pe_int (fun _ _ => rfl)) pe_int) pe_int) pe_int) (pv 1))))))), ?_⟩
    have hB : SqL K H p [.int g, .int m, .int c] := .inl (.inl hb)
    refine ⟨_, rfl, p, _, 0, .int g, rfl, rfl, hB, atI_nat (j := 0) rfl, _, _, rfl, rfl, _, rfl, ite2 (fun e => ?_) (fun e => ?_)⟩
    · refine ⟨_, rfl, p, _, 0, .int g, rfl, rfl, hB, atI_nat (j := 0) rfl, _, rfl, _, _, rfl, rfl, (by omega), ?_⟩
      refine ⟨_, rfl, p, _, 0, .int g, rfl, rfl, hB, atI_nat (j := 0) rfl, _, rfl, _, _, rfl, rfl, wide_div n0 n1 (by decide) (by decide), ?_⟩
      refine ⟨_, rfl, p, _, _, 0, rfl, rfl, hb, rfl, ?_⟩
      refine ⟨_, rfl, ?_⟩
      exact q _ _ (fm0 n0) (fm1 n0) ⟨g / n, m, c, upd_same, Int.ediv_nonneg g0 (by omega), m0, m1⟩ (but_upd _ _ _)
    · refine ⟨_, rfl, p, _, 2, .int c, rfl, rfl, hB, atI_nat (j := 2) rfl, _, _, rfl, rfl, ?_⟩
      refine ⟨_, rfl, p, _, _, 2, rfl, rfl, hb, rfl, ?_⟩
      have h2 : upd H p (.lst [.int g, .int m, .int (c + 1)]) p = some (.lst [.int g, .int m, .int (c + 1)]) := upd_same
      have hB2 : SqL K (upd H p (.lst [.int g, .int m, .int (c + 1)])) p [.int g, .int m, .int (c + 1)] := .inl (.inl h2)
      refine ⟨_, rfl, p, _, 1, .int m, rfl, rfl, hB2, atI_nat (j := 1) rfl, _, _, rfl, rfl, .inr ⟨by decide, by decide⟩, _, rfl, p, _, 2, .int (c + 1), rfl, rfl, hB2, atI_nat (j := 2) rfl, _, _, rfl, rfl, .inl ⟨by decide, by decide⟩, _, _, rfl, rfl, _, _, rfl, rfl, _, _, rfl, rfl, nz1, ?_⟩
      refine ⟨_, rfl, p, _, _, 1, rfl, rfl, h2, rfl, ?_⟩
      have m0' := fm0 (a := m * 69621 + 6007 * (c + 1) + 19) (show (0 : Int) < 2147483647 by decide)
      have m1' := fm1 (a := m * 69621 + 6007 * (c + 1) + 19) (show (0 : Int) < 2147483647 by decide)
      refine ⟨_, rfl, p, _, 1, _, rfl, rfl, .inl (.inl upd_same), atI_nat (j := 1) rfl, _, _, rfl, rfl, ⟨by decide, by decide⟩, _, _, rfl, rfl, ⟨by decide, by decide, ?_⟩, _, _, rfl, rfl, nz2, _, rfl, _, _, rfl, rfl, (by omega), ?_⟩
      · omega
      exact q _ _ (fm0 n0) (fm1 n0) ⟨g, _, c + 1, upd_same, g0, m0', by omega⟩ (but_trans (but_upd _ _ _) (but_upd _ _ _))
theorem le3 : 3 ≤ sizeLine := by decide
theorem nz3 : (8 : Int) ≠ 0 := by decide
theorem primes_at (k : Nat) : ∃ v : Int, 0 < v ∧ v < 2147483648 ∧ atI [V.int 2147483629, V.int 2147483587, V.int 2147483579, V.int 2147483563, V.int 2147483549, V.int 2147483543, V.int 2147483497, V.int 2147483489] ((k : Int).fmod 8) = some (.int v) := by
  have e : (k : Int).fmod 8 = ((k % 8 : Nat) : Int) := by
    rw [Int.fmod_eq_emod_of_nonneg _ (by decide)]
    rfl
  have h : k % 8 < 8 := Nat.mod_lt _ (by decide)
  rw [e]
  generalize k % 8 = j at h
  match j, h with
  | 0, _ => exact ⟨_, by decide, by decide, atI_nat (j := 0) rfl⟩
  | 1, _ => exact ⟨_, by decide, by decide, atI_nat (j := 1) rfl⟩
  | 2, _ => exact ⟨_, by decide, by decide, atI_nat (j := 2) rfl⟩
  | 3, _ => exact ⟨_, by decide, by decide, atI_nat (j := 3) rfl⟩
  | 4, _ => exact ⟨_, by decide, by decide, atI_nat (j := 4) rfl⟩
  | 5, _ => exact ⟨_, by decide, by decide, atI_nat (j := 5) rfl⟩
  | 6, _ => exact ⟨_, by decide, by decide, atI_nat (j := 6) rfl⟩
  | 7, _ => exact ⟨_, by decide, by decide, atI_nat (j := 7) rfl⟩
  | n + 8, h => exact absurd h (by omega)
def spBag (K : PySem.W.Frag) : Sp := fun vs H Q _ => ∃ (a : Addr) (ns : List Int) (k : Nat), vs = [.ref a, .int (k : Int)] ∧ SqL K H a (ns.map V.int) ∧ k ≤ 1000 ∧
  ∀ p H', H p = none → Same H H' → Bag H' p → Q (.ref p) H'
theorem ok_bag (T : Txt K mg) : FnOk P w K mg base CX0 1 T.f_l_bag T.d_l_bag ["_law_script", "_law_at"] (spBag K) := by
  refine T.F_l_bag.ok sc_l_bag (fun vs H Q E h => ?_) (fun cdv A outer s H vs Q E hr h => ?_)
  · obtain ⟨a, ns, k, rfl, _⟩ := h
    rfl
  · obtain ⟨a, ns, k, rfl, hS, hk, q⟩ := h
    refine ⟨_, (pss_cons (ps_set (i := 2) sc_l_bag.nd rfl (.inl rfl) pe_int)
      (C8.pss_cut (ps_if (pt_cmpR op_lt (pv 1) (pe_callB call_len_seq (by rfl) T.z_len (by decide +kernel) (pa_cons (pv 0) pa_nil)) (nomark _)) (pss_one (ps_set (i := 2) sc_l_bag.nd rfl (.inl rfl) (pe_ix (r := rIxL K) ix_list (pv 0) (pv 1) (fun _ _ => rfl)))) pss_nil)
      (pss_cons (ps_set (i := 3) sc_l_bag.nd rfl (.inl rfl) pe_int)
      (C8.pss_cut (ps_if (pt_cmpR op_ge (pe_callB call_abs (by rfl) T.z_abs (by decide +kernel) (pa_cons (pv 2) pa_nil)) (pe_op op_pow pe_int pe_int) (nomark _)) (pss_one (ps_set (i := 3) sc_l_bag.nd rfl (.inl rfl) (pe_callB call_abs (by rfl) T.z_abs (by decide +kernel) (pa_cons (pv 2) pa_nil)))) pss_nil)
      (pss_cons (ps_set (i := 4) sc_l_bag.nd rfl (.inl rfl) (pe_lst (pa_cons pe_int (pa_cons pe_int (pa_cons pe_int (pa_cons pe_int (pa_cons pe_int (pa_cons pe_int (pa_cons pe_int (pa_cons pe_int pa_nil))))))))))
      (pss_one (ps_ret (pe_lst (pa_cons (pv 3) (pa_cons (pe_op op_modN (pe_op op_pow (pe_op op_add (pe_op op_add (pe_op op_modN (pv 2) pe_int) (pe_op op_mul pe_int (pv 1))) pe_int) pe_int) (pe_ix (r := rIxL K) ix_list (pv 4) (pe_op op_modN (pv 1) pe_int) (fun _ _ => rfl))) (pa_cons pe_int pa_nil))))))))))), ?_⟩
    refine ⟨fun σ' H' => H' = H ∧ ∃ c : Int, σ' = [some (.ref a), some (.int (k : Int)), some (.int c), none, none], ?_, fun σ' H' hM => ?_⟩
    · refine ⟨_, rfl, _, rfl, a, _, rfl, .inl hS, _, _, rfl, rfl, _, rfl, ite2 (fun e => ?_) (fun e => ?_)⟩
      · have e2 := of_decide_eq_true e
        have e3 : k < ns.length := by
          rw [List.length_map] at e2
          omega
        have e4 : (ns.map V.int)[k]? = some (.int ns[k]) := by
          rw [List.getElem?_map, List.getElem?_eq_getElem e3]
          rfl
        exact ⟨_, rfl, _, rfl, a, _, _, _, rfl, rfl, hS, atI_nat e4, rfl, _, rfl⟩
      · exact ⟨rfl, _, rfl⟩
    · obtain ⟨rfl, c, rfl⟩ := hM
      refine ⟨fun σ'' H'' => H'' = H' ∧ ∃ g : Int, σ'' = [some (.ref a), some (.int (k : Int)), some (.int c), some (.int g), none] ∧ 0 ≤ g, ?_, fun σ'' H'' hM => ?_⟩
      · refine ⟨_, rfl, _, rfl, _, _, rfl, rfl, ⟨by decide, by decide, by decide⟩, _, _, rfl, rfl, _, rfl, ite2 (fun e => ?_) (fun e => ?_)⟩
        · refine ⟨_, rfl, _, rfl, rfl, _, rfl, ?_⟩
          split <;> omega
        · exact ⟨rfl, _, rfl, by decide⟩
      · obtain ⟨rfl, g, rfl, g0⟩ := hM
        refine ⟨by decide, fun o no => ?_⟩
        obtain ⟨v, v0, v1, hv⟩ := primes_at k
        have h0 := fm0 (a := c) (show (0 : Int) < 2147483647 by decide)
        have h1 := fm1 (a := c) (show (0 : Int) < 2147483647 by decide)
        refine ⟨_, rfl, _, rfl, _, _, rfl, rfl, nz1, _, rfl, _, _, rfl, rfl, .inl ⟨by decide, by decide⟩, _, _, rfl, rfl, _, _, rfl, rfl, _, _, rfl, rfl, ⟨by decide, by decide, by omega⟩, _, rfl, _, rfl, _, _, rfl, rfl, nz3, o, _, _, _, rfl, rfl, .inl (.inl upd_same), hv, _, _, rfl, rfl, by omega, ?_⟩
        refine ⟨le3, fun p np => ?_⟩
        have np' : H'' p = none := (same_new no).free np
        exact q _ _ np' (same_put (same_new no) np') ⟨g, _, 0, upd_same, g0, fm0 v0, by have := fm1 (a := (c.fmod 2147483647 + 104711 * (k : Int) + 23) ^ Int.toNat 5) v0; omega⟩
end
theorem but_put {p q : Addr} {H H1 : Hp} {o : HO} (b : But p H H1) (n : H1 q = none) : But p H (upd H1 q o) := fun c u e nc => by
  have e1 := b c u e nc
  rw [upd_ne (ne_of_none e1 n)]
  exact e1
theorem bag_put {p q : Addr} {H : Hp} {o : HO} (b : Bag H p) (n : H q = none) : Bag (upd H q o) p := by
  obtain ⟨g, m, c, e, r⟩ := b
  exact ⟨g, m, c, by rw [upd_ne (ne_of_none e n)]; exact e, r⟩
theorem bag_same {p : Addr} {H H1 : Hp} (b : Bag H p) (s : Same H H1) : Bag H1 p := by
  obtain ⟨g, m, c, e, r⟩ := b
  exact ⟨g, m, c, s _ _ e, r⟩
theorem bag_ne {p q : Addr} {H : Hp} (b : Bag H p) (n : H q = none) : q ≠ p := by
  obtain ⟨g, m, c, e, r⟩ := b
  exact (ne_of_none e n).symm

end Ob

set_option Elab.async false
set_option linter.all false
set_option maxRecDepth 100000
set_option maxHeartbeats 1000000
namespace Ob
open PySem PySem.Spec PyProof.Rows L2
open LamX (Tabs TabB TabS ExtN)

/-- nothing stands there -/
structure Fr (H : Hp) (p : Addr) : Prop where
  h : H p = none
theorem neN {H : Hp} {a b : Addr} {o : HO} (h' : Fr H b) (h : H a = some o) : a ≠ b := ne_of_none h h'.h
theorem neN' {H : Hp} {a b : Addr} {o : HO} (h' : Fr H a) (h : H b = some o) : a ≠ b := (ne_of_none h h'.h).symm
theorem atNew {H : Hp} {a p : Addr} {o u : HO} (n : Fr H p) (h : H a = some o) : upd H p u a = some o := (upd_ne (ne_of_none h n.h)).trans h
theorem atNe {H : Hp} {a p : Addr} {o u : HO} (n : a ≠ p) (h : H a = some o) : upd H p u a = some o := (upd_ne n).trans h
theorem atSame {H H1 : Hp} {a : Addr} {o : HO} (s : Same H H1) (h : H a = some o) : H1 a = some o := s _ _ h
/-- all is kept but what stands in cs -/
structure Kp (cs : List Addr) (H H' : Hp) : Prop where
  at_ : ∀ b o, H b = some o → b ∉ cs → H' b = some o
theorem kp_refl (cs : List Addr) (H : Hp) : Kp cs H H := ⟨fun _ _ e _ => e⟩
theorem kp_trans {cs : List Addr} {H H1 H2 : Hp} (a : Kp cs H H1) (b : Kp cs H1 H2) : Kp cs H H2 := ⟨fun c o e n => b.at_ c o (a.at_ c o e n) n⟩
theorem kp_up {cs : List Addr} {H H1 : Hp} {a : Addr} {o : HO} (m : a ∈ cs) (h : Kp cs H H1) : Kp cs H (upd H1 a o) := ⟨fun b u e n => by
  rw [upd_ne (show b ≠ a from fun z => n (by rw [z]; exact m))]
  exact h.at_ b u e n⟩
theorem kp_new {cs : List Addr} {H H1 : Hp} {a : Addr} {o : HO} (m : Fr H1 a) (h : Kp cs H H1) : Kp cs H (upd H1 a o) := ⟨fun b u e n => by
  rw [upd_ne (ne_of_none (h.at_ b u e n) m.h)]
  exact h.at_ b u e n⟩
theorem kp_newF {cs : List Addr} {H H1 : Hp} {a : Addr} {o : HO} (m : Fr H a) (h : Kp cs H H1) : Kp cs H (upd H1 a o) := ⟨fun b u e n => by
  rw [upd_ne (ne_of_none e m.h)]
  exact h.at_ b u e n⟩
theorem kp_same {cs : List Addr} {H H1 : Hp} (s : Same H H1) : Kp cs H H1 := ⟨fun b o e _ => s b o e⟩
theorem kp_more {cs ds : List Addr} {H H1 : Hp} (h : Kp cs H H1) (m : ∀ a ∈ cs, a ∈ ds) : Kp ds H H1 := ⟨fun b o e n => h.at_ b o e fun z => n (m b z)⟩
/-- what is changed is new, as H sees it -/
theorem kp_fresh {cs ds : List Addr} {H H1 H2 : Hp} (a : Kp cs H H1) (b : Kp ds H1 H2) (n : ∀ x ∈ ds, x ∈ cs ∨ Fr H x) : Kp cs H H2 := ⟨fun x o e m => b.at_ x o (a.at_ x o e m) fun z => (n x z).elim m fun f => ne_of_none e f.h rfl⟩
theorem atKp {cs : List Addr} {H H1 : Hp} {a : Addr} {o : HO} (s : Kp cs H H1) (n : a ∉ cs) (h : H a = some o) : H1 a = some o := s.at_ _ _ h n
theorem not_nil {a : Addr} : a ∉ ([] : List Addr) := fun z => nomatch z
theorem not_cons {a b : Addr} {l : List Addr} (h : a ≠ b) (t : a ∉ l) : a ∉ b :: l := fun z => (List.mem_cons.mp z).elim h t
theorem not_app {a : Addr} {l m : List Addr} (h : a ∉ l) (t : a ∉ m) : a ∉ l ++ m := fun z => (List.mem_append.mp z).elim h t
theorem sqlOf {K : PySem.W.Frag} {H : Hp} {a : Addr} {xs : List V} (h : H a = some (.lst xs)) : SqL K H a xs := .inl (.inl h)
theorem sqtOf {K : PySem.W.Frag} {H : Hp} {a : Addr} {xs : List V} (h : H a = some (.tup xs)) : SqT K H a xs := .inl (.inl h)
theorem sqlSame {K : PySem.W.Frag} {H H1 : Hp} {a : Addr} {xs : List V} (s : Same H H1) (h : SqL K H a xs) : SqL K H1 a xs := s.seq h
theorem neO {H : Hp} {a b : Addr} {x y : HO} (ha : H a = some x) (hb : H b = some y) (n : x ≠ y) : a ≠ b := fun z => by
  rw [z, hb] at ha
  exact n (Option.some.inj ha).symm
theorem noneOf {H H1 : Hp} {p : Addr} (h : Fr H1 p) (k : ∀ o, H p = some o → ∃ u, H1 p = some u) : Fr H p := ⟨by
  cases e : H p with
  | none => rfl
  | some o =>
    obtain ⟨u, z⟩ := k o e
    rw [h.h] at z
    cases z⟩
theorem same_newF {H : Hp} {p : Addr} {o : HO} (n : Fr H p) : Same H (upd H p o) := same_new n.h
theorem same_putF {H H1 : Hp} {p : Addr} {o : HO} (n : Fr H1 p) (h : Same H H1) : Same H (upd H1 p o) := h.trans (same_new n.h)
theorem same_putG {H H1 : Hp} {p : Addr} {o : HO} (n : Fr H p) (h : Same H H1) : Same H (upd H1 p o) := same_put h n.h
theorem memA {a : Addr} {l : List Addr} : a ∈ a :: l := List.mem_cons_self ..
theorem memB {a b : Addr} {l : List Addr} (h : a ∈ l) : a ∈ b :: l := List.mem_cons_of_mem _ h
theorem memL {a : Addr} {l m : List Addr} (h : a ∈ l) : a ∈ l ++ m := List.mem_append.mpr (.inl h)
theorem memR {a : Addr} {l m : List Addr} (h : a ∈ m) : a ∈ l ++ m := List.mem_append.mpr (.inr h)
theorem kp_transR {cs : List Addr} {H H1 H2 : Hp} (b : Kp cs H1 H2) (a : Kp cs H H1) : Kp cs H H2 := kp_trans a b
theorem kp_sameR {cs : List Addr} {H H1 H2 : Hp} (b : Same H1 H2) (a : Kp cs H H1) : Kp cs H H2 := kp_trans a (kp_same b)
theorem kp_freshR {cs ds : List Addr} {H H1 H2 : Hp} (b : Kp ds H1 H2) (n : ∀ x ∈ ds, x ∈ cs ∨ Fr H x) (a : Kp cs H H1) : Kp cs H H2 := kp_fresh a b n
theorem same_transR {H H1 H2 : Hp} (b : Same H1 H2) (a : Same H H1) : Same H H2 := a.trans b
theorem subNil {P : Addr → Prop} : ∀ x ∈ ([] : List Addr), P x := fun _ h => nomatch h
theorem subCons {P : Addr → Prop} {a : Addr} {l : List Addr} (h : P a) (t : ∀ x ∈ l, P x) : ∀ x ∈ a :: l, P x := fun x m => (List.mem_cons.mp m).elim (fun e => by rw [e]; exact h) (t x)
theorem subApp {P : Addr → Prop} {l m : List Addr} (h : ∀ x ∈ l, P x) (t : ∀ x ∈ m, P x) : ∀ x ∈ l ++ m, P x := fun x e => (List.mem_append.mp e).elim (h x) (t x)
theorem sqtAll {K : PySem.W.Frag} {H : Hp} {a : Addr} {xs : List V} (h : ∀ H, SqT K H a xs) : SqT K H a xs := h H
theorem sqtSame {K : PySem.W.Frag} {H H1 : Hp} {a : Addr} {xs : List V} (s : Same H H1) (h : SqT K H a xs) : SqT K H1 a xs := by
  rcases h with (h | ⟨o, h⟩) | h
  · exact .inl (.inl (s _ _ h))
  · exact .inl (.inr ⟨o, s _ _ h⟩)
  · exact .inr h
theorem frUp {H : Hp} {a p : Addr} {o : HO} (n : p ≠ a) (h : Fr H p) : Fr (upd H a o) p := ⟨by rw [upd_ne n]; exact h.h⟩
theorem bag_putF {p q : Addr} {H : Hp} {o : HO} (n : Fr H q) (b : Bag H p) : Bag (upd H q o) p := bag_put b n.h
theorem bag_kpR {p : Addr} {cs : List Addr} {H H1 : Hp} (k : Kp cs H H1) (n : p ∉ cs) (h : Bag H p) : Bag H1 p := by
  obtain ⟨g, m, c, e, z⟩ := h
  exact ⟨g, m, c, k.at_ _ _ e n, z⟩

/-- a promise that a run does not open by itself -/
structure Bx (p : Prop) : Prop where
  h : p
def bx (sp : Sp) : Sp := fun vs H Q E => Bx (sp vs H Q E)
theorem fnBx {P : Program} {w : World} {K : PySem.W.Frag} {mg : Str → Option Value} {base : Heap} {CX : CXT} {k : Nat} {f : Addr} {fd : FuncData} {ps : List Str} {sp : Sp} (F : FnOk P w K mg base CX k f fd ps sp) : FnOk P w K mg base CX k f fd ps (bx sp) := F.imp fun _ _ _ _ h => h.h

set_option hygiene false in
local macro_rules
  | `(tactic| kp_flats) => `(tactic| first
    | assumption
    | exact upd_same
    | (apply atNew; assumption; kp_flats)
    | (apply atNe; (next => kbo_bools); kp_flats)
    | (apply atSame; assumption; kp_flats)
    | (apply atKp; assumption; (next => kaf_pre); kp_flats))
set_option hygiene false in
local macro_rules
  | `(tactic| kaf_pre) => `(tactic| first
    | assumption
    | exact not_nil
    | (apply not_cons; (next => kbo_bools); kaf_pre)
    | (apply not_app; (next => kaf_pre); kaf_pre))
set_option hygiene false in
local macro_rules
  | `(tactic| kbo_bools) => `(tactic| first
    | assumption
    | (apply Ne.symm; assumption)
    | (apply neN; assumption; kp_flats)
    | (apply neN'; assumption; kp_flats))
set_option hygiene false in
local macro_rules
  | `(tactic| o_reads) => `(tactic| first
    | with_reducible rfl
    | assumption
    | rfl
    | kp_flats
    | (show SqL _ _ _ _; first | assumption | (apply sqlOf; kp_flats) | (apply sqlSame; assumption; o_reads))
    | (show SqT _ _ _ _; first | assumption | (apply sqtOf; kp_flats) | (apply sqtAll; assumption) | (apply sqtSame; assumption; o_reads))
    | (show Cls _ _; first | exact T.cl_Calls | exact T.cl_Asker | exact T.cl_Builder | exact T.cl_Blocks | exact T.cl_Version)
    | (show NoAttr _ _ _; first | exact T.n_Calls_entries | exact T.n_Calls_running | exact T.n_Asker_calls | exact T.n_Asker_ask_call | exact T.n_Asker_join_call | exact T.n_Asker_zero | exact T.n_Builder_calls | exact T.n_Builder_build_call | exact T.n_Blocks_calls | exact T.n_Blocks_builder | exact T.n_Blocks_asker | exact T.n_Blocks_held | exact T.n_Blocks_parts | exact T.n_Version_calls | exact T.n_Version_asker | exact T.n_Version_held | exact T.n_Version_parts)
    | (apply Or.inl; o_reads)
    | (apply Or.inr; o_reads)
    | (apply And.intro; (next => o_reads); o_reads)
    | (apply Exists.intro; o_reads)
    | exact Nat.le_of_ble_eq_true rfl
    | exact Nat.succ_ne_zero _
    | (show Fr _ _; kba_ints)
    | (show Same _ _; kd_subs)
    | (show Kp _ _ _; kxs_still)
    | (show (_ : Nat) ≤ _; simp only [List.length_append, List.length_map, List.length_cons, List.length_nil, List.length_take, List.length_drop, List.length_replicate, List.length_range, sizeLine_eq]; omega)
    | (show _ = none; apply Fr.h; kba_ints)
    | (show Bag _ _; first | assumption | (apply bag_putF; assumption; o_reads) | (apply bag_neF; (next => kbo_bools); o_reads) | (apply bag_kpR; assumption; (next => kaf_pre); o_reads))
    | omega
    | decide)
local macro_rules
  | `(tactic| o_readsAll) => `(tactic| repeat (first
    | (refine fun (pNew : Addr) (nNew : _ = none) => ?_; replace nNew := Fr.mk nNew)
    | (refine fun (xNew dNew : Addr) (nNew : _ = none) (mNew : _ = none) (eNew : dNew ≠ xNew) => ?_; replace nNew := Fr.mk nNew; replace mNew := Fr.mk mNew)
    | (apply And.intro; next => o_reads)
    | apply Exists.intro (α := V)
    | apply Exists.intro (α := Addr)
    | apply Exists.intro (α := Int)
    | apply Exists.intro (α := Bool)
    | apply Exists.intro (α := List V)
    | apply Exists.intro (α := List Nat)
    | apply Exists.intro (α := List (Str × V))
    | apply Exists.intro (α := List _)
    | apply Exists.intro (α := Str)
    | apply Exists.intro (α := HO)
    | apply Exists.intro (α := Sp)
    | apply Exists.intro (α := VK)))
set_option hygiene false in
local macro_rules
  | `(tactic| kba_ints) => `(tactic| first
    | assumption
    | (apply frUp; (first | assumption | (apply Ne.symm; assumption)); kba_ints)
    | (apply noneOf; assumption; intro oF eF; apply Exists.intro; kp_flats)
    | (apply frUp; (next => kbo_bools); kba_ints))
set_option hygiene false in
local macro_rules
  | `(tactic| kxs_still) => `(tactic| first
    | assumption
    | exact kp_refl _ _
    | (apply kp_newF; assumption; kxs_still)
    | (apply kp_new; assumption; kxs_still)
    | (apply kp_up; (next => o_fieldsN); kxs_still)
    | (apply kp_new; (next => kba_ints); kxs_still)
    | (apply kp_sameR; assumption; kxs_still)
    | (apply kp_transR; assumption; kxs_still)
    | (apply kp_freshR; assumption; (next => kaf_suf); kxs_still))
set_option hygiene false in
local macro_rules
  | `(tactic| kaf_suf) => `(tactic| first
    | assumption
    | exact subNil
    | (apply subCons; (first | (apply Or.inl; o_fieldsN) | (apply Or.inr; kba_ints)); kaf_suf)
    | (apply subApp; (next => kaf_suf); kaf_suf))
set_option hygiene false in
local macro_rules
  | `(tactic| o_fieldsN) => `(tactic| first
    | assumption
    | exact memA
    | (apply memB; o_fieldsN)
    | (apply memL; o_fieldsN)
    | (apply memR; o_fieldsN))
set_option hygiene false in
local macro_rules
  | `(tactic| kd_subs) => `(tactic| first
    | assumption
    | exact Same.refl _
    | (apply same_putF; assumption; kd_subs)
    | (apply same_putG; assumption; kd_subs)
    | (apply same_putF; (next => kba_ints); kd_subs)
    | (apply same_transR; assumption; kd_subs))

/-! ### the calls of a collection -/
def CO (C dx l : Addr) (r : Bool) : HO := .ins C dx [("entries", .ref l), ("running", .bl r)]
section
variable {P : Program} {w : World} {K : PySem.W.Frag} {mg : Str → Option Value} {base : Heap} {n : Nat}
def spCI (C : Addr) : Sp := fun vs H Q _ => ∃ (a dx : Addr), vs = [.ref a] ∧ H a = some (.ins C dx []) ∧ ∀ l H', Fr H l → H' a = some (CO C dx l false) → H' l = some (.lst []) → Kp [a] H H' → Q .non H'
theorem ok_ci (T : Txt K mg) : FnOk P w K mg base CX0 1 T.f_Calls_init T.d_Calls_init ["self"] (spCI T.C_Calls) := by
  refine T.F_Calls_init.ok sc_Calls_init (fun vs H Q E h => ?_) (fun cdv A outer s H vs Q E hr h => ?_)
  · obtain ⟨a, dx, rfl, _⟩ := h
    rfl
  · obtain ⟨a, dx, rfl, ha, q⟩ := h
    refine ⟨_, (pss_cons (ps_fld (pv 0) (pe_lst pa_nil) rfl)
      (pss_one (ps_fld (pv 0) pe_bl rfl))), ?_⟩
    o_readsAll
    rename_i l nl
    exact q _ _ nl (by kp_flats) (by kp_flats) (by kxs_still)
def spChk (C : Addr) : Sp := fun vs H Q _ => ∃ (c dx l : Addr), vs = [.ref c] ∧ H c = some (CO C dx l false) ∧ Q .non H
theorem ok_chk (T : Txt K mg) : FnOk P w K mg base CX0 1 T.f_Calls_check T.d_Calls_check ["self"] (spChk T.C_Calls) := by
  refine T.F_Calls_check.ok sc_Calls_check (fun vs H Q E h => ?_) (fun cdv A outer s H vs Q E hr h => ?_)
  · obtain ⟨a, dx, l, rfl, _⟩ := h
    rfl
  · obtain ⟨c, dx, l, rfl, hc, q⟩ := h
    refine ⟨_, (pss_one (ps_if (pt_val (pe_fld (pv 0) rfl)) pss_never pss_nil)), ?_⟩
    o_readsAll
    exact iteF q
/-- the callable f, called with xs in H: what it does brings Q -/
def Act (P : Program) (w : World) (K : PySem.W.Frag) (mg : Str → Option Value) (base : Heap) (n : Nat) (f : V) (xs : List V) (H : Hp) (Q : VK) : Prop :=
  ∃ (a : Addr) (o : HO) (sp : Sp) (Q0 : VK), f = .ref a ∧ H a = some o ∧ Inf.FnHO a o ∧ FnR P w K mg base CX0 n a sp ∧ sp xs H Q0 E0 ∧ ∀ v H', Q0 v H' → Q v H'
theorem Act.imp {f : V} {xs : List V} {H : Hp} {Q Q' : VK} (h : Act P w K mg base n f xs H Q) (i : ∀ v H', Q v H' → Q' v H') : Act P w K mg base n f xs H Q' := by
  obtain ⟨a, o, sp, Q0, h1, h2, h3, h4, h5, h6⟩ := h
  exact ⟨a, o, sp, Q0, h1, h2, h3, h4, h5, fun v H' z => i _ _ (h6 _ _ z)⟩
theorem fnR_q {k : Nat} {f : Addr} {sp : Sp} (F : FnR P w K mg base CX0 k f sp) : FnR P w K mg base CX0 k f (fun vs H Q E => ∃ Q0 : VK, sp vs H Q0 E ∧ ∀ v H', Q0 v H' → Q v H') := fun A outer s H us vs Q E hr e0 r h => by
  obtain ⟨Q0, h0, hi⟩ := h
  refine codeAny_mono (F A outer s H us vs Q0 E hr e0 r h0) fun res s' hq => ?_
  match res, hq with
  | .error e, z => exact z
  | .ok .next, z => exact z
  | .ok .brk, z => exact z
  | .ok .cont, z => exact z
  | .ok (.ret u), z =>
    obtain ⟨v, H', h1, h2, h3, h4, h5, h6⟩ := z
    exact ⟨v, H', h1, h2, h3, h4, h5, hi _ _ h6⟩
/-- run(entry, action, *values) -/
def spRun (P : Program) (w : World) (K : PySem.W.Frag) (mg : Str → Option Value) (base : Heap) (C : Addr) (n : Nat) : Sp := fun vs H Q E => ∃ (c dx l : Addr) (en f : V) (xs : List V), vs = [.ref c, en, f] ++ xs ∧ xs.length ≤ sizeLine ∧ H c = some (CO C dx l false) ∧
  ∀ H1, Kp [c] H H1 → H1 c = some (CO C dx l true) → Act P w K mg base n f xs H1 (fun v H2 => H2 c = some (CO C dx l true) ∧ ∃ es, H2 l = some (.lst es) ∧ es.length < sizeLine ∧
    ∀ H3, Kp [c, l] H2 H3 → H3 c = some (CO C dx l false) → H3 l = some (.lst (es ++ [en])) → Q v H3)
theorem ok_run (T : Txt K mg) : FnR P w K mg base CX0 (n + 1) T.f_Calls_run (spRun P w K mg base T.C_Calls n) := by
  obtain ⟨oc, od, kV, doc, pm, an, cdv, ct, osl, hfd, lk, hcd⟩ := T.F_Calls_run.ex
  rw [hfd] at lk
  have key := StX.fn_star (P := P) (w := w) (mg := mg) (base := base) (CX := CX0) (k := n) (ps := ["self", "entry", "action"]) (pv := "values") (sp := fun us H Q E => ∃ ws rest p H0, us = ws ++ [.ref p] ∧ ws.length = 3 ∧ H0 p = none ∧ H = upd H0 p (.tup rest) ∧ spRun P w K mg base T.C_Calls n (ws ++ rest) H0 Q E) lk hcd sc_Calls_run StX.cxUp_none (fun us rest hl => ?_) (fun A outer s H vs Q E hr h => ?_)
  · refine key.imp fun vs H Q E h => ?_
    have h' := h
    obtain ⟨c, dx, l, en, f, xs, rfl, lx, _⟩ := h
    exact ⟨[.ref c, en, f], xs, rfl, rfl, lx, fun p np => ⟨[.ref c, en, f], xs, p, H, rfl, rfl, np, rfl, h'⟩⟩
  · match us, hl, rest with
    | [a, b, c], _, [] => rfl
    | [a, b, c], _, r :: rs => rfl
  · obtain ⟨ws, rest, p, H0, rfl, hw, np, rfl, c, dx, l, en, f, xs, e1, lx, hc, q⟩ := h
    obtain ⟨rfl, rfl⟩ := List.append_inj e1 hw
    replace np := Fr.mk np
    refine ⟨_, (pss_cons (ps_fld (pv 0) pe_bl rfl)
      (pss_cons (Inf.ps_fin0 (pss_one (ps_set (i := 4) sc_Calls_run.nd rfl (.inl rfl) (Inf.pe_act (i := 2) (CX := CX0) (k := n) (E := fun _ => E0) rfl (.inl rfl) hr (fun _ _ _ _ _ _ _ z => False.elim z) (pv 3)))) (pss_one (ps_fld (pv 0) pe_bl rfl)))
      (pss_cons (ps_expr (pe_bm PySem.F.plainAttrs_list PySem.F.slot_list_append PySem.F.type_list_append mt_append (pe_fld (pv 0) rfl) (pa_cons (pv 1) pa_nil)))
      (pss_one (ps_ret (pv 4)))))), ?_⟩
    obtain ⟨a, o, sp, Q0, rfl, h2, h3, h4, h5, h6⟩ := q (upd (upd H0 p (.tup rest)) c (CO T.C_Calls dx l true)) (by kxs_still) upd_same
    replace h4 := fnR_q h4
    o_readsAll
    intro v H2 hv
    obtain ⟨hc2, es, hl, hs, q2⟩ := h6 v H2 hv
    have hlc : l ≠ c := neO hl hc2 (fun z => nomatch z)
    o_readsAll
    exact q2 _ (by kxs_still) (by kp_flats) (by kp_flats)
end
end Ob

set_option Elab.async false
set_option linter.all false
set_option maxRecDepth 100000
set_option maxHeartbeats 1000000
namespace Ob
open PySem PySem.Spec PyProof.Rows L2
open LamX (Tabs TabB TabS ExtN)

/-! ### xs.extend(t), t a tuple -/
theorem ext_meets (l b : Addr) (xs ys : Array Value) (n m : Nat) (dd : Option Addr) (sl : Array (Option Value)) (h0 : ¬(!xs.isEmpty && Builtin.List.listTooLong (xs.size + ys.size)) = true) (h1 : xs.size ≤ sizeLine) (h2 : xs.size + ys.size ≤ sizeLine + 1) :
    PySem.Meets (Builtin.«list.extend» ⟨[.ref l, .ref b], []⟩) (fun _ R s => s.heap.get? l = some { cls := .type "list", dict := none, data := .seq xs n, slots := #[] } ∧ s.heap.get? b = some { cls := .type "tuple", dict := dd, data := .seq ys m, slots := sl } ∧
      R (.ok (.ret Value.none)) { s with heap := s.heap.update l (Obj.mapSeq fun x => x ++ ys), toks := s.toks }) :=
  .of_wp fun prog w A R s h => by
    obtain ⟨hp, g, d, tk, os⟩ := s
    obtain ⟨hl, hb, h⟩ := h
    have f1 := PySem.AutoSeq1.sub_tuple_tuple
    have f2 := PySem.AutoSeq1.sub_list_list
    have f3 := PySem.AutoSeq1.sub_tuple_list
    have f4 := PySem.AutoSeq1.sub_list_tuple
    have hz' : (xs ++ ys).size ≤ sizeLine + 1 := by rw [Array.size_append]; exact h2
    wp_walk using (wpAny_updateSeq hl rfl (hz := h1) (_hz' := hz')), PySem.AutoSeq1.wpAny_loadPart' hl, PySem.AutoSeq1.wpAny_loadPart' hb
    exact ⟨_, rfl, h⟩
def rExtendT : V → List V → Hp → VK → Prop := fun x vs H Q => ∃ l b xs zs, x = .ref l ∧ vs = [.ref b] ∧ H l = some (.lst xs) ∧ H b = some (.tup zs) ∧ xs.length + zs.length ≤ sizeLine ∧ Q .non (upd H l (.lst (xs ++ zs)))
theorem mt_extendT {X : Cx} : MtM X "list.extend" rExtendT := by
  intro pins s σ H x vs v us Q I rx rv h
  obtain ⟨l, b, xs, zs, rfl, rfl, hH, hB, hz, q⟩ := h
  cases rx
  obtain ⟨u, rfl, ru⟩ := rv.one
  cases ru
  obtain ⟨z, its, n, r, hl, e⟩ := I.lstM hH
  obtain ⟨_, its2, r2, o, e2, c2, n2, d2⟩ := I.hok b _ hB
  have hl2 := r2.length
  obtain ⟨oc, od, odt, osl⟩ := o
  cases c2
  cases d2
  have hsz : its.toArray.size + its2.toArray.size ≤ sizeLine := by rw [List.size_toArray, List.size_toArray]; omega
  have hlong : ¬ (!its.toArray.isEmpty && Builtin.List.listTooLong (its.toArray.size + its2.toArray.size)) = true := by
    rw [notLongL hsz, Bool.and_false]
    exact Bool.false_ne_true
  refine call_meets PySem.F.slot_list_extend ⟨_, e, rfl⟩ PySem.F.entry_list_extend (PySem.F.args_list_extend_2 _ _)
    (ext_meets l b its.toArray its2.toArray n n2 od osl hlong (by rw [List.size_toArray]; omega) (by omega)) ⟨e, e2, ?_⟩
  refine ⟨.non, _, I.lset (its' := its ++ its2) hH e (by simp) (r.append r2) ?_, rfl, q⟩
  rw [List.length_append]
  omega

end Ob

set_option Elab.async false
set_option linter.all false
set_option maxRecDepth 100000
set_option maxHeartbeats 1000000
namespace Ob
open PySem PySem.Spec PyProof.Rows L2
open LamX (Tabs TabB TabS ExtN)

set_option hygiene false in
local macro_rules
  | `(tactic| kp_flats) => `(tactic| first
    | assumption
    | exact upd_same
    | (apply atNew; assumption; kp_flats)
    | (apply atNe; (next => kbo_bools); kp_flats)
    | (apply atSame; assumption; kp_flats)
    | (apply atKp; assumption; (next => kaf_pre); kp_flats))
set_option hygiene false in
local macro_rules
  | `(tactic| kaf_pre) => `(tactic| first
    | assumption
    | exact not_nil
    | (apply not_cons; (next => kbo_bools); kaf_pre)
    | (apply not_app; (next => kaf_pre); kaf_pre))
set_option hygiene false in
local macro_rules
  | `(tactic| kbo_bools) => `(tactic| first
    | assumption
    | (apply Ne.symm; assumption)
    | (apply neN; assumption; kp_flats)
    | (apply neN'; assumption; kp_flats))
set_option hygiene false in
local macro_rules
  | `(tactic| o_reads) => `(tactic| first
    | with_reducible rfl
    | assumption
    | rfl
    | kp_flats
    | (show SqL _ _ _ _; first | assumption | (apply sqlOf; kp_flats) | (apply sqlSame; assumption; o_reads))
    | (show SqT _ _ _ _; first | assumption | (apply sqtOf; kp_flats) | (apply sqtAll; assumption) | (apply sqtSame; assumption; o_reads))
    | (show Cls _ _; first | exact T.cl_Calls | exact T.cl_Asker | exact T.cl_Builder | exact T.cl_Blocks | exact T.cl_Version)
    | (show NoAttr _ _ _; first | exact T.n_Calls_entries | exact T.n_Calls_running | exact T.n_Asker_calls | exact T.n_Asker_ask_call | exact T.n_Asker_join_call | exact T.n_Asker_zero | exact T.n_Builder_calls | exact T.n_Builder_build_call | exact T.n_Blocks_calls | exact T.n_Blocks_builder | exact T.n_Blocks_asker | exact T.n_Blocks_held | exact T.n_Blocks_parts | exact T.n_Version_calls | exact T.n_Version_asker | exact T.n_Version_held | exact T.n_Version_parts)
    | (apply Or.inl; o_reads)
    | (apply Or.inr; o_reads)
    | (apply And.intro; (next => o_reads); o_reads)
    | (apply Exists.intro; o_reads)
    | exact Nat.le_of_ble_eq_true rfl
    | exact Nat.succ_ne_zero _
    | (show Fr _ _; kba_ints)
    | (show Same _ _; kd_subs)
    | (show Kp _ _ _; kxs_still)
    | (show (_ : Nat) ≤ _; simp only [List.length_append, List.length_map, List.length_cons, List.length_nil, List.length_take, List.length_drop, List.length_replicate, List.length_range, sizeLine_eq]; omega)
    | (show _ = none; apply Fr.h; kba_ints)
    | (show Bag _ _; first | assumption | (apply bag_putF; assumption; o_reads) | (apply bag_neF; (next => kbo_bools); o_reads) | (apply bag_kpR; assumption; (next => kaf_pre); o_reads))
    | omega
    | decide)
local macro_rules
  | `(tactic| o_readsAll) => `(tactic| repeat (first
    | (refine fun (pNew : Addr) (nNew : _ = none) => ?_; replace nNew := Fr.mk nNew)
    | (refine fun (xNew dNew : Addr) (nNew : _ = none) (mNew : _ = none) (eNew : dNew ≠ xNew) => ?_; replace nNew := Fr.mk nNew; replace mNew := Fr.mk mNew)
    | (apply And.intro; next => o_reads)
    | apply Exists.intro (α := V)
    | apply Exists.intro (α := Addr)
    | apply Exists.intro (α := Int)
    | apply Exists.intro (α := Bool)
    | apply Exists.intro (α := List V)
    | apply Exists.intro (α := List Nat)
    | apply Exists.intro (α := List (Str × V))
    | apply Exists.intro (α := List _)
    | apply Exists.intro (α := Str)
    | apply Exists.intro (α := HO)
    | apply Exists.intro (α := Sp)
    | apply Exists.intro (α := VK)))
set_option hygiene false in
local macro_rules
  | `(tactic| kba_ints) => `(tactic| first
    | assumption
    | (apply frUp; (first | assumption | (apply Ne.symm; assumption)); kba_ints)
    | (apply noneOf; assumption; intro oF eF; apply Exists.intro; kp_flats)
    | (apply frUp; (next => kbo_bools); kba_ints))
set_option hygiene false in
local macro_rules
  | `(tactic| kxs_still) => `(tactic| first
    | assumption
    | exact kp_refl _ _
    | (apply kp_newF; assumption; kxs_still)
    | (apply kp_new; assumption; kxs_still)
    | (apply kp_up; (next => o_fieldsN); kxs_still)
    | (apply kp_new; (next => kba_ints); kxs_still)
    | (apply kp_sameR; assumption; kxs_still)
    | (apply kp_transR; assumption; kxs_still)
    | (apply kp_freshR; assumption; (next => kaf_suf); kxs_still))
set_option hygiene false in
local macro_rules
  | `(tactic| kaf_suf) => `(tactic| first
    | assumption
    | exact subNil
    | (apply subCons; (first | (apply Or.inl; o_fieldsN) | (apply Or.inr; kba_ints)); kaf_suf)
    | (apply subApp; (next => kaf_suf); kaf_suf))
set_option hygiene false in
local macro_rules
  | `(tactic| o_fieldsN) => `(tactic| first
    | assumption
    | exact memA
    | (apply memB; o_fieldsN)
    | (apply memL; o_fieldsN)
    | (apply memR; o_fieldsN))
set_option hygiene false in
local macro_rules
  | `(tactic| kd_subs) => `(tactic| first
    | assumption
    | exact Same.refl _
    | (apply same_putF; assumption; kd_subs)
    | (apply same_putG; assumption; kd_subs)
    | (apply same_putF; (next => kba_ints); kd_subs)
    | (apply same_transR; assumption; kd_subs))

/-! ### the lowest power by the and of both signs -/
theorem and_parts (a b : Nat) : a &&& b = 2 * (a / 2 &&& b / 2) + (a % 2 &&& b % 2) := by
  have h1 : (a &&& b) / 2 = a / 2 &&& b / 2 := Nat.and_div_two
  have h2 : (a &&& b) % 2 = a % 2 &&& b % 2 := by
    have := Nat.and_mod_two_pow (a := a) (b := b) (n := 1)
    simpa using this
  omega
theorem low_and : ∀ n : Nat, n ≠ 0 → n - (n &&& (n - 1)) = low n := by
  intro n
  induction n using Nat.strongRecOn with
  | ind n ih =>
    intro h
    by_cases e : n % 2 = 0
    · obtain ⟨m, rfl⟩ : ∃ m, n = 2 * m := ⟨n / 2, by omega⟩
      have hm : m ≠ 0 := by omega
      have i := ih m (by omega) hm
      rw [low_even h e, and_parts, show 2 * m / 2 = m by omega, show (2 * m - 1) / 2 = m - 1 by omega, show 2 * m % 2 = 0 by omega, Nat.zero_and, ← i]
      omega
    · rw [low_odd (by omega), and_parts, show (n - 1) / 2 = n / 2 by omega, show (n - 1) % 2 = 0 by omega, Nat.and_zero, Nat.and_self]
      omega
theorem low_bits {n : Nat} (h : n ≠ 0) : Builtin.bitAnd (n : Int) (-(n : Int)) = (low n : Int) := by
  have e1 : (Builtin.bitNot (-(n : Int))).toNat = n - 1 := by
    show (-(-(n : Int)) - 1).toNat = n - 1
    omega
  have e2 : n &&& (n - 1) ≤ n := Nat.and_le_left
  rw [bitAnd_pn (by omega) (by omega), e1, Int.toNat_natCast, ← low_and n h]
  omega
theorem low_spec : ∀ n : Nat, n ≠ 0 → ∃ e, low n = 2 ^ e ∧ n % 2 ^ e = 0 ∧ n % 2 ^ (e + 1) ≠ 0 := by
  intro n
  induction n using Nat.strongRecOn with
  | ind n ih =>
    intro h
    by_cases e : n % 2 = 0
    · obtain ⟨m, rfl⟩ : ∃ m, n = 2 * m := ⟨n / 2, by omega⟩
      have hm : m ≠ 0 := by omega
      obtain ⟨k, e1, e2, e3⟩ := ih m (by omega) hm
      refine ⟨k + 1, ?_, ?_, ?_⟩
      · rw [low_even h e, show 2 * m / 2 = m by omega, e1, Nat.pow_succ, Nat.mul_comm]
      · rw [Nat.pow_succ, Nat.mul_comm (2 ^ k) 2, Nat.mul_mod_mul_left, e2]
      · rw [Nat.pow_succ, Nat.mul_comm (2 ^ (k + 1)) 2, Nat.mul_mod_mul_left]
        omega
    · exact ⟨0, low_odd (by omega), Nat.mod_one _, by rw [Nat.zero_add, Nat.pow_one]; omega⟩
/-! ### pieces -/
def szP (a r : Nat) : Nat := if a = 0 then 2 ^ r.log2 else min (2 ^ r.log2) (low a)
def pcF : Nat → Nat → Nat → List (Nat × Nat)
  | 0, _, _ => []
  | f + 1, a, r => if r = 0 then [] else (a, szP a r) :: pcF f (a + szP a r) (r - szP a r)
def enough (k a r : Nat) : Prop := ∃ m, r < 2 ^ m ∧ (((a = 0 ∨ a % 2 ^ m = 0) ∧ m ≤ k) ∨ ∃ j, a ≠ 0 ∧ a % 2 ^ j = 0 ∧ j ≤ 100 ∧ (100 - j) + m + 1 ≤ k)
theorem mod_le {a i j : Nat} (h : a % 2 ^ j = 0) (l : i ≤ j) : a % 2 ^ i = 0 := by
  have d : 2 ^ i ∣ 2 ^ j := Nat.pow_dvd_pow 2 l
  exact Nat.mod_eq_zero_of_dvd (Nat.dvd_trans d (Nat.dvd_of_mod_eq_zero h))
theorem mod_add {a b i : Nat} (h : a % 2 ^ i = 0) (h2 : b % 2 ^ i = 0) : (a + b) % 2 ^ i = 0 := by
  rw [Nat.add_mod, h, h2]
  simp
theorem odd_up {a e : Nat} (h : a % 2 ^ e = 0) (h2 : a % 2 ^ (e + 1) ≠ 0) : (a + 2 ^ e) % 2 ^ (e + 1) = 0 := by
  obtain ⟨q, rfl⟩ := Nat.dvd_of_mod_eq_zero h
  have hp := Nat.two_pow_pos e
  rw [Nat.pow_succ, Nat.mul_mod_mul_left] at h2
  have h3 : q % 2 = 1 := by
    rcases Nat.mod_two_eq_zero_or_one q with z | z
    · rw [z] at h2
      exact absurd rfl h2
    · exact z
  rw [show 2 ^ e * q + 2 ^ e = 2 ^ e * (q + 1) by rw [Nat.mul_add, Nat.mul_one], Nat.pow_succ, Nat.mul_mod_mul_left, show (q + 1) % 2 = 0 by omega, Nat.mul_zero]
theorem szP_le {a r : Nat} (h : r ≠ 0) : szP a r ≤ r := by
  have l2 := log_lo h
  unfold szP
  split
  · exact l2
  · exact Nat.le_trans (Nat.min_le_left _ _) l2
theorem enough_step {k a r : Nat} (h : enough k a r) (hr : r ≠ 0) (hb : a + r ≤ 2 ^ 100) :
    ∃ k', k = k' + 1 ∧ enough k' (a + szP a r) (r - szP a r) ∧ szP a r ≤ r ∧ 0 < szP a r ∧ ∃ j, szP a r = 2 ^ j ∧ a % 2 ^ j = 0 := by
  obtain ⟨m, hm, hc⟩ := h
  have lo := log_lo hr
  have rl := rest_lt hr
  have ll := log_lt hr hm
  have hp := Nat.two_pow_pos r.log2
  rcases hc with ⟨hz, hk⟩ | ⟨j, ha, hj, hj1, hk⟩
  · have es : szP a r = 2 ^ r.log2 := by
      unfold szP
      by_cases z : a = 0
      · rw [if_pos z]
      · rw [if_neg z]
        obtain ⟨e, e1, e2, e3⟩ := low_spec a z
        rw [e1]
        rcases hz with hz | hz
        · exact absurd hz z
        · have : m ≤ e := by
            refine Nat.le_of_not_lt fun q => e3 (mod_le hz (by omega))
          exact Nat.min_eq_left (Nat.pow_le_pow_right (by decide) (by omega))
    have ad : a % 2 ^ r.log2 = 0 := by
      rcases hz with hz | hz
      · rw [hz]
        exact Nat.zero_mod _
      · exact mod_le hz (by omega)
    rw [es]
    exact ⟨k - 1, by omega, ⟨r.log2, rl, .inl ⟨.inr (mod_add ad (Nat.mod_self _)), by omega⟩⟩, lo, hp, _, rfl, ad⟩
  · obtain ⟨e, e1, e2, e3⟩ := low_spec a ha
    have hje : j ≤ e := Nat.le_of_not_lt fun q => e3 (mod_le hj (by omega))
    by_cases c : 2 ^ e ≤ 2 ^ r.log2
    · have es : szP a r = 2 ^ e := by
        unfold szP
        rw [if_neg ha, e1]
        exact Nat.min_eq_right c
      rw [es]
      have he : e < 100 := by
        have h1 : 2 ^ e < 2 ^ 100 := by omega
        exact (Nat.pow_lt_pow_iff_right (by decide)).mp h1
      have hpe := Nat.two_pow_pos e
      exact ⟨k - 1, by omega, ⟨m, by omega, .inr ⟨e + 1, by omega, odd_up e2 e3, by omega, by omega⟩⟩, by omega, hpe, _, rfl, e2⟩
    · have es : szP a r = 2 ^ r.log2 := by
        unfold szP
        rw [if_neg ha, e1]
        exact Nat.min_eq_left (by omega)
      have hle : r.log2 ≤ e := by
        refine Nat.le_of_not_lt fun q => c (Nat.pow_le_pow_right (by decide) (by omega))
      rw [es]
      exact ⟨k - 1, by omega, ⟨r.log2, rl, .inl ⟨.inr (mod_add (mod_le e2 hle) (Nat.mod_self _)), by omega⟩⟩, lo, hp, _, rfl, mod_le e2 hle⟩
theorem enough_all {a r : Nat} (h : a + r ≤ 10 ^ 30) : enough 201 a r := by
  have h1 : (10 ^ 30 : Nat) < 2 ^ 100 := by decide +kernel
  by_cases z : a = 0
  · exact ⟨100, by omega, .inl ⟨.inl z, by decide⟩⟩
  · exact ⟨100, by omega, .inr ⟨0, z, Nat.mod_one _, by decide, by decide⟩⟩
theorem pcF_zero (f a : Nat) : pcF f a 0 = [] := by
  cases f with
  | zero => rfl
  | succ f => exact if_pos rfl
theorem pcF_pos {f a r : Nat} (h : r ≠ 0) : pcF (f + 1) a r = (a, szP a r) :: pcF f (a + szP a r) (r - szP a r) := if_neg h
theorem pcF_len : ∀ (f a r : Nat), (pcF f a r).length ≤ f
  | 0, _, _ => Nat.le_refl _
  | f + 1, a, r => by
    by_cases h : r = 0
    · subst h
      rw [pcF_zero]
      exact Nat.zero_le _
    · rw [pcF_pos h, List.length_cons]
      have := pcF_len f (a + szP a r) (r - szP a r)
      omega

theorem low_ne (n : Nat) (h : n ≠ 0) : low n ≠ 0 := by
  obtain ⟨e, e1, _⟩ := low_spec n h
  have := Nat.two_pow_pos e
  omega
theorem low_le (n : Nat) (h : n ≠ 0) : low n ≤ n := by
  obtain ⟨e, e1, e2, _⟩ := low_spec n h
  rw [e1]
  exact Nat.le_of_dvd (by omega) (Nat.dvd_of_mod_eq_zero e2)
def expo (n : Nat) : Nat := (low n).log2
def nV (k : Nat) : V := .int (k : Int)
/-- a part: its tuple, the tuple of its numbers, those, and its block -/
structure Part where
  tp : Addr
  tn : Addr
  ns : List Nat
  blk : V
structure PartAt (H : Hp) (x : Part) : Prop where
  t : H x.tp = some (.tup [.ref x.tn, x.blk])
  n : H x.tn = some (.tup (x.ns.map nV))
def tps (ps : List Part) : List V := ps.map fun x => V.ref x.tp
def nums (ps : List Part) : List Nat := ps.flatMap Part.ns
theorem PartAt.same {H H1 : Hp} {x : Part} (h : PartAt H x) (s : Same H H1) : PartAt H1 x := ⟨s _ _ h.t, s _ _ h.n⟩
def NoTup (H : Hp) (a : Addr) : Prop := ∀ xs, H a ≠ some (.tup xs)
section
variable {P : Program} {w : World} {K : PySem.W.Frag} {mg : Str → Option Value} {base : Heap} {n : Nat}
def spLp : Sp := fun vs H Q _ => ∃ n : Nat, vs = [.int (n : Int)] ∧ n ≠ 0 ∧ Q (.int (low n : Int)) H
theorem ok_lp (T : Txt K mg) : FnOk P w K mg base CX0 1 T.f_lowest_power T.d_lowest_power ["number"] spLp := by
  refine T.F_lowest_power.ok sc_lowest_power (fun vs H Q E h => ?_) (fun cdv A outer s H vs Q E hr h => ?_)
  · obtain ⟨n, rfl, _⟩ := h
    rfl
  · obtain ⟨n, rfl, h0, q⟩ := h
    refine ⟨_, (pss_one (ps_ret (pe_op op_and (pv 0) (pe_un un_neg (pv 0))))), ?_⟩
    rw [← low_bits h0] at q
    o_readsAll
    exact q
def spEx : Sp := fun vs H Q _ => ∃ n : Nat, vs = [.int (n : Int)] ∧ n ≠ 0 ∧ Q (.int (expo n : Nat)) H
theorem ok_ex (T : Txt K mg) : FnOk P w K mg base CX0 2 T.f_exponent T.d_exponent ["number"] spEx := by
  have G_lowest_power := ok_lp (P := P) (w := w) (base := base) T
  refine T.F_exponent.ok sc_exponent (fun vs H Q E h => ?_) (fun cdv A outer s H vs Q E hr h => ?_)
  · obtain ⟨n, rfl, _⟩ := h
    rfl
  · obtain ⟨n, rfl, h0, q⟩ := h
    refine ⟨_, (pss_one (ps_ret (pe_op op_sub (pe_bits (pe_call G_lowest_power (hr.mono (by omega)) rfl T.g_lowest_power T.F_lowest_power.kp T.b_lowest_power .nil pass0 (pa_cons (pv 0) pa_nil))) pe_int))), ?_⟩
    have e : ((Builtin.Int.intBits (low n : Int) : Nat) : Int) - 1 = (expo n : Nat) := by
      rw [bits_nat (low_ne n h0)]
      show ((low n).log2 + 1 : Nat) - (1 : Int) = ((low n).log2 : Nat)
      omega
    rw [← e] at q
    o_readsAll
    exact q
def spGr : Sp := fun vs H Q _ => ∃ (p : Addr) (many num : Nat) (ps : List Part), vs = [.ref p, .int (many : Int), .int (num : Int)] ∧ H p = some (.lst (tps ps)) ∧ (∀ x ∈ ps, PartAt H x) ∧ ps.length ≤ 1000 ∧ (nums ps).length ≤ 10000 ∧ expo (many + 1) ≤ ps.length ∧
  ∀ t tn H', Fr H t → Fr H tn → Same H H' → H' t = some (.tup [.int ((ps.length - expo (many + 1) : Nat) : Int), .ref tn]) → H' tn = some (.tup ((nums (ps.drop (ps.length - expo (many + 1))) ++ [num]).map nV)) → Q (.ref t) H'
theorem nums_take {ps : List Part} {i : Nat} {x : Part} (e : ps[i]? = some x) : nums (ps.take (i + 1)) = nums (ps.take i) ++ x.ns := by
  unfold nums
  rw [List.take_succ, e, List.flatMap_append]
  exact congrArg _ (List.append_nil _)
theorem nums_le (ps : List Part) (i : Nat) : (nums (ps.take i)).length ≤ (nums ps).length := by
  have := congrArg (fun z => (nums z).length) (List.take_append_drop i ps)
  simp only [nums, List.flatMap_append, List.length_append] at this
  unfold nums
  omega
theorem nums_drop (ps : List Part) (i : Nat) : (nums (ps.drop i)).length ≤ (nums ps).length := by
  have := congrArg (fun z => (nums z).length) (List.take_append_drop i ps)
  simp only [nums, List.flatMap_append, List.length_append] at this
  unfold nums
  omega
theorem ok_gr (T : Txt K mg) : FnOk P w K mg base CX0 3 T.f_growth T.d_growth ["parts", "many", "number"] spGr := by
  have G_exponent := ok_ex (P := P) (w := w) (base := base) T
  refine T.F_growth.ok sc_growth (fun vs H Q E h => ?_) (fun cdv A outer s H vs Q E hr h => ?_)
  · obtain ⟨p, many, num, ps, rfl, _⟩ := h
    rfl
  · obtain ⟨p, many, num, ps, rfl, hp, hx, l1, l2, l3, q⟩ := h
    refine ⟨_, (pss_cons (ps_set (i := 3) sc_growth.nd rfl (.inl rfl) (pe_op op_sub (pe_callB call_len_seq (by rfl) T.z_len (by decide +kernel) (pa_cons (pv 0) pa_nil)) (pe_call G_exponent (hr.mono (by omega)) rfl T.g_exponent T.F_exponent.kp T.b_exponent .nil pass0 (pa_cons (pe_op op_add (pv 1) pe_int) pa_nil))))
      (pss_cons (ps_set (i := 4) sc_growth.nd rfl (.inl rfl) (pe_lst pa_nil))
      (pss_cons (ps_for PassesOwn.never rfl (pi_list (pe_slice sl_list (pv 0) (po_some (pv 3)) po_none)) (pg_tup (by rfl) (pgs_cons (pg_name (i := 5) sc_growth.nd rfl (.inl rfl)) (pgs_cons (pg_name (i := 6) sc_growth.nd rfl (.inl rfl)) pgs_nil))) (pss_one (ps_expr (pe_bm PySem.F.plainAttrs_list PySem.F.slot_list_extend PySem.F.type_list_extend mt_extendT (pv 4) (pa_cons (pv 5) pa_nil)))))
      (pss_one (ps_ret (pe_tup (pa_cons (pv 3) (pa_cons (pe_tup (StX.pa_star (pv 4) (pa_cons (pv 2) pa_nil))) pa_nil)))))))), ?_⟩
    o_readsAll
    have hc : cutV (tps ps) (some (((tps ps).length : Int) - (expo (many + 1) : Nat))) none = tps (ps.drop (ps.length - expo (many + 1))) := by
      unfold cutV tps
      rw [List.length_map, HT.sIx_none, show ((ps.length : Int) - (expo (many + 1) : Nat)) = ((ps.length - expo (many + 1) : Nat) : Int) by omega, HT.sIx_nat, Nat.min_eq_left (Nat.sub_le _ _), List.map_drop]
      exact List.take_of_length_le (by rw [List.length_drop, List.length_map]; exact Nat.le_refl _)
    rw [hc]
    rename_i o1 n1 o2 n2
    have no : o2 ≠ o1 := by kbo_bools
    have hk : ((tps ps).length : Int) - (expo (many + 1) : Nat) = ((ps.length - expo (many + 1) : Nat) : Int) := by
      rw [show (tps ps).length = ps.length from List.length_map ..]
      omega
    refine for_list (xs := tps (ps.drop (ps.length - expo (many + 1)))) (fun i σ H' => ∃ y5 y6, σ = [some (.ref p), some (.int many), some (.int num), some (.int (((tps ps).length : Int) - (expo (many + 1) : Nat))), some (.ref o1), y5, y6] ∧ Same H H' ∧ Fr H o1 ∧
      H' o1 = some (.lst ((nums ((ps.drop (ps.length - expo (many + 1))).take i)).map nV)) ∧ H' o2 = some (.lst (tps (ps.drop (ps.length - expo (many + 1)))))) ⟨_, _, rfl, ?_, n1, ?_, upd_same⟩ ?_ ?_ ?_
    · kd_subs
    · kp_flats
    · rintro i σ H' hi ⟨y5, y6, rfl, s1, n3, e1, e2⟩
      exact sqlOf e2
    · rintro i y σ H' hy ⟨y5, y6, rfl, s1, n3, e1, e2⟩
      unfold tps at hy
      rw [List.getElem?_map] at hy
      obtain ⟨x, hx1, rfl⟩ := Option.map_eq_some_iff.mp hy
      have hx2 := hx x (List.mem_of_mem_drop (List.mem_of_getElem? hx1))
      have ht := s1 _ _ hx2.t
      have hn := s1 _ _ hx2.n
      have b1 := nums_le (ps.drop (ps.length - expo (many + 1))) (i + 1)
      rw [nums_take hx1, List.length_append] at b1
      have b2 := nums_drop ps (ps.length - expo (many + 1))
      o_readsAll
      refine ⟨_, _, rfl, same_putG n3 s1, n3, ?_, ?_⟩
      · rw [nums_take hx1, List.map_append]
        exact upd_same
      · kp_flats
    · rintro σ H' ⟨y5, y6, rfl, s1, n3, e1, e2⟩
      rw [show (tps (ps.drop (ps.length - expo (many + 1)))).length = (ps.drop (ps.length - expo (many + 1))).length from List.length_map .., List.take_length] at e1
      have b2 := nums_drop ps (ps.length - expo (many + 1))
      o_readsAll
      rename_i t nt tt nn
      refine q tt t _ (by kba_ints) (by kba_ints) (by kd_subs) (by rw [← hk]; kp_flats) ?_
      rw [List.map_append]
      kp_flats
end
end Ob

set_option Elab.async false
set_option linter.all false
set_option maxRecDepth 100000
set_option maxHeartbeats 1000000
namespace Ob
open PySem PySem.Spec PyProof.Rows L2
open LamX (Tabs TabB TabS ExtN)

set_option hygiene false in
local macro_rules
  | `(tactic| kp_flats) => `(tactic| first
    | assumption
    | exact upd_same
    | (apply atNew; assumption; kp_flats)
    | (apply atNe; (next => kbo_bools); kp_flats)
    | (apply atSame; assumption; kp_flats)
    | (apply atKp; assumption; (next => kaf_pre); kp_flats))
set_option hygiene false in
local macro_rules
  | `(tactic| kaf_pre) => `(tactic| first
    | assumption
    | exact not_nil
    | (apply not_cons; (next => kbo_bools); kaf_pre)
    | (apply not_app; (next => kaf_pre); kaf_pre))
set_option hygiene false in
local macro_rules
  | `(tactic| kbo_bools) => `(tactic| first
    | assumption
    | (apply Ne.symm; assumption)
    | (apply neN; assumption; kp_flats)
    | (apply neN'; assumption; kp_flats))
set_option hygiene false in
local macro_rules
  | `(tactic| o_reads) => `(tactic| first
    | with_reducible rfl
    | assumption
    | rfl
    | kp_flats
    | (show SqL _ _ _ _; first | assumption | (apply sqlOf; kp_flats) | (apply sqlSame; assumption; o_reads))
    | (show SqT _ _ _ _; first | assumption | (apply sqtOf; kp_flats) | (apply sqtAll; assumption) | (apply sqtSame; assumption; o_reads))
    | (show Cls _ _; first | exact T.cl_Calls | exact T.cl_Asker | exact T.cl_Builder | exact T.cl_Blocks | exact T.cl_Version)
    | (show NoAttr _ _ _; first | exact T.n_Calls_entries | exact T.n_Calls_running | exact T.n_Asker_calls | exact T.n_Asker_ask_call | exact T.n_Asker_join_call | exact T.n_Asker_zero | exact T.n_Builder_calls | exact T.n_Builder_build_call | exact T.n_Blocks_calls | exact T.n_Blocks_builder | exact T.n_Blocks_asker | exact T.n_Blocks_held | exact T.n_Blocks_parts | exact T.n_Version_calls | exact T.n_Version_asker | exact T.n_Version_held | exact T.n_Version_parts)
    | (apply Or.inl; o_reads)
    | (apply Or.inr; o_reads)
    | (apply And.intro; (next => o_reads); o_reads)
    | (apply Exists.intro; o_reads)
    | exact Nat.le_of_ble_eq_true rfl
    | exact Nat.succ_ne_zero _
    | (show Fr _ _; kba_ints)
    | (show Same _ _; kd_subs)
    | (show Kp _ _ _; kxs_still)
    | (show (_ : Nat) ≤ _; simp only [List.length_append, List.length_map, List.length_cons, List.length_nil, List.length_take, List.length_drop, List.length_replicate, List.length_range, sizeLine_eq]; omega)
    | (show _ = none; apply Fr.h; kba_ints)
    | (show Bag _ _; first | assumption | (apply bag_putF; assumption; o_reads) | (apply bag_neF; (next => kbo_bools); o_reads) | (apply bag_kpR; assumption; (next => kaf_pre); o_reads))
    | omega
    | decide)
local macro_rules
  | `(tactic| o_readsAll) => `(tactic| repeat (first
    | (refine fun (pNew : Addr) (nNew : _ = none) => ?_; replace nNew := Fr.mk nNew)
    | (refine fun (xNew dNew : Addr) (nNew : _ = none) (mNew : _ = none) (eNew : dNew ≠ xNew) => ?_; replace nNew := Fr.mk nNew; replace mNew := Fr.mk mNew)
    | (apply And.intro; next => o_reads)
    | apply Exists.intro (α := V)
    | apply Exists.intro (α := Addr)
    | apply Exists.intro (α := Int)
    | apply Exists.intro (α := Bool)
    | apply Exists.intro (α := List V)
    | apply Exists.intro (α := List Nat)
    | apply Exists.intro (α := List (Str × V))
    | apply Exists.intro (α := List _)
    | apply Exists.intro (α := Str)
    | apply Exists.intro (α := HO)
    | apply Exists.intro (α := Sp)
    | apply Exists.intro (α := VK)))
set_option hygiene false in
local macro_rules
  | `(tactic| kba_ints) => `(tactic| first
    | assumption
    | (apply frUp; (first | assumption | (apply Ne.symm; assumption)); kba_ints)
    | (apply noneOf; assumption; intro oF eF; apply Exists.intro; kp_flats)
    | (apply frUp; (next => kbo_bools); kba_ints))
set_option hygiene false in
local macro_rules
  | `(tactic| kxs_still) => `(tactic| first
    | assumption
    | exact kp_refl _ _
    | (apply kp_newF; assumption; kxs_still)
    | (apply kp_new; assumption; kxs_still)
    | (apply kp_up; (next => o_fieldsN); kxs_still)
    | (apply kp_new; (next => kba_ints); kxs_still)
    | (apply kp_sameR; assumption; kxs_still)
    | (apply kp_transR; assumption; kxs_still)
    | (apply kp_freshR; assumption; (next => kaf_suf); kxs_still))
set_option hygiene false in
local macro_rules
  | `(tactic| kaf_suf) => `(tactic| first
    | assumption
    | exact subNil
    | (apply subCons; (first | (apply Or.inl; o_fieldsN) | (apply Or.inr; kba_ints)); kaf_suf)
    | (apply subApp; (next => kaf_suf); kaf_suf))
set_option hygiene false in
local macro_rules
  | `(tactic| o_fieldsN) => `(tactic| first
    | assumption
    | exact memA
    | (apply memB; o_fieldsN)
    | (apply memL; o_fieldsN)
    | (apply memR; o_fieldsN))
set_option hygiene false in
local macro_rules
  | `(tactic| kd_subs) => `(tactic| first
    | assumption
    | exact Same.refl _
    | (apply same_putF; assumption; kd_subs)
    | (apply same_putG; assumption; kd_subs)
    | (apply same_putF; (next => kba_ints); kd_subs)
    | (apply same_transR; assumption; kd_subs))

section
variable {P : Program} {w : World} {K : PySem.W.Frag} {mg : Str → Option Value} {base : Heap} {n : Nat}
def spBE (K : PySem.W.Frag) : Sp := fun vs H Q _ => ∃ (x : V) (e : Addr) (ms : List V), vs = [x, .ref e] ∧ (∀ H, SqT K H e ms) ∧ ms.length ≤ 10 ∧ ∀ te H', Fr H te → Same H H' → H' te = some (.tup (.str "build" :: (ms ++ [x]))) → Q (.ref te) H'
theorem ok_be (T : Txt K mg) : FnOk P w K mg base CX0 1 T.f_build_entry T.d_build_entry ["numbers", "mark"] (spBE K) := by
  refine T.F_build_entry.ok sc_build_entry (fun vs H Q E h => ?_) (fun cdv A outer s H vs Q E hr h => ?_)
  · obtain ⟨x, e, ms, rfl, _⟩ := h
    rfl
  · obtain ⟨x, e, ms, rfl, h1, h2, q⟩ := h
    refine ⟨_, (pss_one (ps_ret (pe_tup (pa_cons pe_str (StX.pa_star (pv 1) (pa_cons (pv 0) pa_nil)))))), ?_⟩
    o_readsAll
    rename_i te nt
    exact q te _ (by kba_ints) (by kd_subs) (by kp_flats)
def BuO (C dx c : Addr) (fb : V) : HO := .ins C dx [("calls", .ref c), ("build_call", fb)]
def pick (ms : List V) (ns : List Nat) : List V := ns.map fun i => ms.getD i .non
theorem pick_at {ms : List V} {i : Nat} (h : i < ms.length) : ms[i]? = some (ms.getD i .non) := by
  rw [List.getD_eq_getElem?_getD, List.getElem?_eq_getElem h]
  rfl
def spPart (P : Program) (w : World) (K : PySem.W.Frag) (mg : Str → Option Value) (base : Heap) (CB CC : Addr) (n : Nat) : Sp := fun vs H Q _ => ∃ (b dx c cdx l tn h e : Addr) (fb : V) (ns : List Nat) (ms mk : List V), vs = [.ref b, .ref tn, .ref h, .ref e] ∧
  H b = some (BuO CB dx c fb) ∧ H c = some (CO CC cdx l false) ∧ H tn = some (.tup (ns.map nV)) ∧ H h = some (.lst ms) ∧ (∀ H, SqT K H e mk) ∧ mk.length ≤ 10 ∧ (∀ i ∈ ns, i < ms.length) ∧ ns.length ≤ 10000 ∧
  ∀ te sl H1, Fr H te → Fr H sl → Kp [c] H H1 → H1 c = some (CO CC cdx l true) → H1 te = some (.tup (.str "build" :: (mk ++ [.ref tn]))) → H1 sl = some (.lst (pick ms ns)) →
    Act P w K mg base n fb [.ref sl] H1 (fun v H2 => H2 c = some (CO CC cdx l true) ∧ ∃ es, H2 l = some (.lst es) ∧ es.length < sizeLine ∧
      ∀ q H3, Kp [c, l] H2 H3 → Fr H2 q → H3 c = some (CO CC cdx l false) → H3 l = some (.lst (es ++ [.ref te])) → H3 q = some (.tup [.ref tn, v]) → Q (.ref q) H3)
theorem ok_part (T : Txt K mg) : FnOk P w K mg base CX0 (n + 2) T.f_Builder_part T.d_Builder_part ["self", "numbers", "held", "mark"] (spPart P w K mg base T.C_Builder T.C_Calls n) := by
  have G_build_entry := ok_be (P := P) (w := w) (base := base) T
  have G_Calls_run := ok_run (P := P) (w := w) (base := base) (n := n) T
  refine T.F_Builder_part.ok sc_Builder_part (fun vs H Q E h => ?_) (fun cdv A outer s H vs Q E hr h => ?_)
  · obtain ⟨b, dx, c, cdx, l, tn, hh, e, fb, ns, ms, mk, rfl, _⟩ := h
    rfl
  · obtain ⟨b, dx, c, cdx, l, tn, hh, e, fb, ns, ms, mk, rfl, hb, hc, ht, hm, he, l1, l2, l3, q⟩ := h
    refine ⟨_, (pss_cons (ps_set (i := 4) sc_Builder_part.nd rfl (.inl rfl) (pe_call G_build_entry (hr.mono (by omega)) rfl T.g_build_entry T.F_build_entry.kp T.b_build_entry .nil pass0 (pa_cons (pv 1) (pa_cons (pv 3) pa_nil))))
      (pss_cons (ps_set (i := 5) sc_Builder_part.nd rfl (.inl rfl) (pe_methR (pe_fld (pv 0) rfl) T.cl_Calls ⟨T.m_Calls_run, T.t_Calls_run, T.k_Calls_run⟩ G_Calls_run (hr.mono (by omega)) pass0 (pa_cons (pv 4) (pa_cons (pe_fld (pv 0) rfl) (pa_cons (pe_lc (own := [("number", 6)]) (g := gName 6) (tt := tYes) rfl sc_Builder_part.nd (pi_tup (pv 1)) (blkOk_by (N := n_Builder_part) (sc := defScope s_Builder_part) (by decide +kernel)) (fun _ _ _ _ _ => (pg_name (i := 6) sc_Builder_part.nd rfl (.inl rfl))) (fun _ _ _ _ _ => pts_nil) (fun _ _ _ _ _ => (pe_ix (r := rIxL K) ix_list (pv 2) (pv 6) (fun _ _ => rfl)))) pa_nil)))))
      (pss_one (ps_ret (pe_tup (pa_cons (pv 1) (pa_cons (pv 5) pa_nil))))))), ?_⟩
    o_readsAll
    intro te H1 nte s1 e1
    o_readsAll
    rename_i sl nsl
    refine lc_tup (K := K) (a := tn) (xs := ns.map nV) (fun i H' => Same H1 H' ∧ H' sl = some (.lst (pick ms (ns.take i)))) ⟨by kd_subs, upd_same⟩ ?_ ?_ ?_
    · rintro i H' _ ⟨s2, _⟩
      exact sqtOf (s2 _ _ (s1 _ _ ht))
    · rintro i y H' hy ⟨s2, e2⟩
      rw [List.getElem?_map] at hy
      obtain ⟨k, hk, rfl⟩ := Option.map_eq_some_iff.mp hy
      have hl := l2 k (List.mem_of_getElem? hk)
      have hh' := s2 _ _ (s1 _ _ hm)
      have ha : atI ms (k : Int) = some (ms.getD k .non) := atI_nat (pick_at hl)
      have hi : i < ns.length := (List.getElem?_eq_some_iff.mp hk).1
      o_readsAll
      refine ⟨by rw [sizeLine_eq]; unfold pick; rw [List.length_map, List.length_take]; omega, by kd_subs, ?_⟩
      rw [show pick ms (ns.take (i + 1)) = pick ms (ns.take i) ++ [ms.getD k .non] by unfold pick; rw [List.take_succ, hk, List.map_append]; rfl]
      kp_flats
    · rintro H' ⟨s2, e2⟩
      rw [List.length_map, List.take_length] at e2
      o_readsAll
      intro H3 k3 c3
      refine (q te sl H3 (by kba_ints) (by kba_ints) (by kxs_still) c3 (by kp_flats) (by kp_flats)).imp fun v H4 ⟨a1, es, a2, a3, a4⟩ => ⟨a1, es, a2, a3, fun H5 k5 c5 l5 => ?_⟩
      o_readsAll
      rename_i qq nq
      exact a4 qq _ (by kxs_still) (by kba_ints) (by kp_flats) (by kp_flats) (by kp_flats)
theorem cut_tps (ps : List Part) (k : Nat) (h : k ≤ ps.length) : cutV (tps ps) none (some (k : Int)) = tps (ps.take k) := by
  unfold cutV tps
  rw [List.length_map, HT.sIx_none, HT.sIx_nat, Nat.min_eq_left h, List.drop_zero, Nat.sub_zero, List.map_take]
def spGrow (P : Program) (w : World) (K : PySem.W.Frag) (mg : Str → Option Value) (base : Heap) (CB CC : Addr) (n : Nat) : Sp := fun vs H Q _ => ∃ (b dx c cdx l p h e : Addr) (fb : V) (many num : Nat) (ps : List Part) (ms mk es0 : List V), vs = [.ref b, .ref p, .int (many : Int), .int (num : Int), .ref h, .ref e] ∧
  H b = some (BuO CB dx c fb) ∧ H c = some (CO CC cdx l false) ∧ H l = some (.lst es0) ∧ H p = some (.lst (tps ps)) ∧ (∀ x ∈ ps, PartAt H x) ∧ H h = some (.lst ms) ∧ (∀ H, SqT K H e mk) ∧ mk.length ≤ 10 ∧ ps.length ≤ 1000 ∧ (nums ps).length ≤ 1000 ∧ expo (many + 1) ≤ ps.length ∧
  (∀ i ∈ nums (ps.drop (ps.length - expo (many + 1))) ++ [num], i < ms.length) ∧
  ∀ tn te sl g H1, Fr H tn → Fr H te → Fr H sl → Fr H g → sl ≠ g → Kp [c] H H1 → H1 c = some (CO CC cdx l true) → H1 tn = some (.tup ((nums (ps.drop (ps.length - expo (many + 1))) ++ [num]).map nV)) → H1 te = some (.tup (.str "build" :: (mk ++ [.ref tn]))) →
    H1 sl = some (.lst (pick ms (nums (ps.drop (ps.length - expo (many + 1))) ++ [num]))) → H1 g = some (.lst (tps (ps.take (ps.length - expo (many + 1))))) →
    Act P w K mg base n fb [.ref sl] H1 (fun v H2 => H2 c = some (CO CC cdx l true) ∧ H2 g = some (.lst (tps (ps.take (ps.length - expo (many + 1))))) ∧ ∃ es, H2 l = some (.lst es) ∧ es.length < sizeLine ∧
      ∀ q p2 H3, Kp [c, l] H2 H3 → Fr H2 q → Fr H2 p2 → H3 c = some (CO CC cdx l false) → H3 l = some (.lst (es ++ [.ref te])) → H3 q = some (.tup [.ref tn, v]) →
        H3 p2 = some (.lst (tps (ps.take (ps.length - expo (many + 1))) ++ [.ref q])) → Q (.ref p2) H3)
theorem ok_grow (T : Txt K mg) : FnOk P w K mg base CX0 (n + 4) T.f_Builder_grown_row T.d_Builder_grown_row ["self", "parts", "many", "number", "held", "mark"] (spGrow P w K mg base T.C_Builder T.C_Calls n) := by
  have G_growth := ok_gr (P := P) (w := w) (base := base) T
  have G_Builder_part := ok_part (P := P) (w := w) (base := base) (n := n) T
  refine T.F_Builder_grown_row.ok sc_Builder_grown_row (fun vs H Q E h => ?_) (fun cdv A outer s H vs Q E hr h => ?_)
  · obtain ⟨b, dx, c, cdx, l, p, hh, e, fb, many, num, ps, ms, mk, es0, rfl, _⟩ := h
    rfl
  · obtain ⟨b, dx, c, cdx, l, p, hh, e, fb, many, num, ps, ms, mk, es0, rfl, hb, hc, hl, hp, hx, hm, he, l1, l2, l3, l4, l5, q⟩ := h
    refine ⟨_, (pss_cons (ps_asg (pe_call G_growth (hr.mono (by omega)) rfl T.g_growth T.F_growth.kp T.b_growth .nil pass0 (pa_cons (pv 1) (pa_cons (pv 2) (pa_cons (pv 3) pa_nil)))) (pg_tup (by rfl) (pgs_cons (pg_name (i := 6) sc_Builder_grown_row.nd rfl (.inl rfl)) (pgs_cons (pg_name (i := 7) sc_Builder_grown_row.nd rfl (.inl rfl)) pgs_nil))))
      (pss_one (ps_ret (pe_op op_cat (pe_slice sl_list (pv 1) po_none (po_some (pv 6))) (pe_lst (pa_cons (pe_meth (pv 0) T.cl_Builder ⟨T.m_Builder_part, T.t_Builder_part, T.k_Builder_part⟩ G_Builder_part (hr.mono (by omega)) T.b_Builder_part .nil pass0 (pa_cons (pv 7) (pa_cons (pv 4) (pa_cons (pv 5) pa_nil)))) pa_nil)))))), ?_⟩
    o_readsAll
    intro t tn H1 nt ntn s1 e1 e2
    have b2 := nums_drop ps (ps.length - expo (many + 1))
    o_readsAll
    rename_i g ng
    rw [cut_tps ps _ (Nat.sub_le _ _)]
    intro te sl H2 nte nsl k2 c2 e3 e4
    refine (q tn te sl g H2 ntn (by kba_ints) (by kba_ints) (by kba_ints) (by kbo_bools) (by kxs_still) c2 (by kp_flats) e3 e4 (by kp_flats)).imp fun v H3 ⟨a1, a2, es, a3, a4, a5⟩ => ⟨a1, es, a3, a4, fun qq H4 k4 nq c4 l4' t4 => ?_⟩
    o_readsAll
    refine ⟨by rw [sizeLine_eq]; unfold tps; rw [List.length_map, List.length_take]; show _ + 1 ≤ _; omega, ?_⟩
    o_readsAll
    rename_i g2 n2 p2 np2
    exact a5 qq p2 _ (by kxs_still) nq (by kba_ints) (by kp_flats) (by kp_flats) (by kp_flats) (by kp_flats)
end
end Ob

set_option Elab.async false
set_option linter.all false
set_option maxRecDepth 100000
set_option maxHeartbeats 1000000
namespace Ob
open PySem PySem.Spec PyProof.Rows L2
open LamX (Tabs TabB TabS ExtN)

set_option hygiene false in
local macro_rules
  | `(tactic| kp_flats) => `(tactic| first
    | assumption
    | exact upd_same
    | (apply atNew; assumption; kp_flats)
    | (apply atNe; (next => kbo_bools); kp_flats)
    | (apply atSame; assumption; kp_flats)
    | (apply atKp; assumption; (next => kaf_pre); kp_flats))
set_option hygiene false in
local macro_rules
  | `(tactic| kaf_pre) => `(tactic| first
    | assumption
    | exact not_nil
    | (apply not_cons; (next => kbo_bools); kaf_pre)
    | (apply not_app; (next => kaf_pre); kaf_pre))
set_option hygiene false in
local macro_rules
  | `(tactic| kbo_bools) => `(tactic| first
    | assumption
    | (apply Ne.symm; assumption)
    | (apply neN; assumption; kp_flats)
    | (apply neN'; assumption; kp_flats))
set_option hygiene false in
local macro_rules
  | `(tactic| o_reads) => `(tactic| first
    | with_reducible rfl
    | assumption
    | rfl
    | kp_flats
    | (show SqL _ _ _ _; first | assumption | (apply sqlOf; kp_flats) | (apply sqlSame; assumption; o_reads))
    | (show SqT _ _ _ _; first | assumption | (apply sqtOf; kp_flats) | (apply sqtAll; assumption) | (apply sqtSame; assumption; o_reads))
    | (show Cls _ _; first | exact T.cl_Calls | exact T.cl_Asker | exact T.cl_Builder | exact T.cl_Blocks | exact T.cl_Version)
    | (show NoAttr _ _ _; first | exact T.n_Calls_entries | exact T.n_Calls_running | exact T.n_Asker_calls | exact T.n_Asker_ask_call | exact T.n_Asker_join_call | exact T.n_Asker_zero | exact T.n_Builder_calls | exact T.n_Builder_build_call | exact T.n_Blocks_calls | exact T.n_Blocks_builder | exact T.n_Blocks_asker | exact T.n_Blocks_held | exact T.n_Blocks_parts | exact T.n_Version_calls | exact T.n_Version_asker | exact T.n_Version_held | exact T.n_Version_parts)
    | (apply Or.inl; o_reads)
    | (apply Or.inr; o_reads)
    | (apply And.intro; (next => o_reads); o_reads)
    | (apply Exists.intro; o_reads)
    | exact Nat.le_of_ble_eq_true rfl
    | exact Nat.succ_ne_zero _
    | (show Fr _ _; kba_ints)
    | (show Same _ _; kd_subs)
    | (show Kp _ _ _; kxs_still)
    | (show (_ : Nat) ≤ _; simp only [List.length_append, List.length_map, List.length_cons, List.length_nil, List.length_take, List.length_drop, List.length_replicate, List.length_range, sizeLine_eq]; omega)
    | (show _ = none; apply Fr.h; kba_ints)
    | (show Bag _ _; first | assumption | (apply bag_putF; assumption; o_reads) | (apply bag_neF; (next => kbo_bools); o_reads) | (apply bag_kpR; assumption; (next => kaf_pre); o_reads))
    | omega
    | decide)
local macro_rules
  | `(tactic| o_readsAll) => `(tactic| repeat (first
    | (refine fun (pNew : Addr) (nNew : _ = none) => ?_; replace nNew := Fr.mk nNew)
    | (refine fun (xNew dNew : Addr) (nNew : _ = none) (mNew : _ = none) (eNew : dNew ≠ xNew) => ?_; replace nNew := Fr.mk nNew; replace mNew := Fr.mk mNew)
    | (apply And.intro; next => o_reads)
    | apply Exists.intro (α := V)
    | apply Exists.intro (α := Addr)
    | apply Exists.intro (α := Int)
    | apply Exists.intro (α := Bool)
    | apply Exists.intro (α := List V)
    | apply Exists.intro (α := List Nat)
    | apply Exists.intro (α := List (Str × V))
    | apply Exists.intro (α := List _)
    | apply Exists.intro (α := Str)
    | apply Exists.intro (α := HO)
    | apply Exists.intro (α := Sp)
    | apply Exists.intro (α := VK)))
set_option hygiene false in
local macro_rules
  | `(tactic| kba_ints) => `(tactic| first
    | assumption
    | (apply frUp; (first | assumption | (apply Ne.symm; assumption)); kba_ints)
    | (apply noneOf; assumption; intro oF eF; apply Exists.intro; kp_flats)
    | (apply frUp; (next => kbo_bools); kba_ints))
set_option hygiene false in
local macro_rules
  | `(tactic| kxs_still) => `(tactic| first
    | assumption
    | exact kp_refl _ _
    | (apply kp_newF; assumption; kxs_still)
    | (apply kp_new; assumption; kxs_still)
    | (apply kp_up; (next => o_fieldsN); kxs_still)
    | (apply kp_new; (next => kba_ints); kxs_still)
    | (apply kp_sameR; assumption; kxs_still)
    | (apply kp_transR; assumption; kxs_still)
    | (apply kp_freshR; assumption; (next => kaf_suf); kxs_still))
set_option hygiene false in
local macro_rules
  | `(tactic| kaf_suf) => `(tactic| first
    | assumption
    | exact subNil
    | (apply subCons; (first | (apply Or.inl; o_fieldsN) | (apply Or.inr; kba_ints)); kaf_suf)
    | (apply subApp; (next => kaf_suf); kaf_suf))
set_option hygiene false in
local macro_rules
  | `(tactic| o_fieldsN) => `(tactic| first
    | assumption
    | exact memA
    | (apply memB; o_fieldsN)
    | (apply memL; o_fieldsN)
    | (apply memR; o_fieldsN))
set_option hygiene false in
local macro_rules
  | `(tactic| kd_subs) => `(tactic| first
    | assumption
    | exact Same.refl _
    | (apply same_putF; assumption; kd_subs)
    | (apply same_putG; assumption; kd_subs)
    | (apply same_putF; (next => kba_ints); kd_subs)
    | (apply same_transR; assumption; kd_subs))

section
variable {P : Program} {w : World} {K : PySem.W.Frag} {mg : Str → Option Value} {base : Heap} {n : Nat}
def AO (C dx : Addr) (c : Addr) (fa fj z : V) : HO := .ins C dx [("calls", .ref c), ("ask_call", fa), ("join_call", fj), ("zero", z)]
def manyOf (ps : List Part) : Nat := (nums ps).length
theorem many_take {ps : List Part} {i : Nat} {x : Part} (e : ps[i]? = some x) : manyOf (ps.take (i + 1)) = manyOf (ps.take i) + x.ns.length := by
  unfold manyOf
  rw [nums_take e, List.length_append]
def spAns (P : Program) (w : World) (K : PySem.W.Frag) (mg : Str → Option Value) (base : Heap) (CC CA : Addr) (n : Nat) : Sp := fun vs H Q _ => ∃ (k dx c cdx l p e : Addr) (fa fj z qn : V) (ps : List Part) (mk : List V) (J : Nat → V → Hp → Prop), vs = [.ref k, .ref p, qn, .ref e] ∧ (∀ H, SqT K H e mk) ∧ mk.length ≤ 10 ∧ H k = some (AO CA dx c fa fj z) ∧ J 0 z H ∧
  (∀ i v H', i ≤ ps.length → J i v H' → H' k = some (AO CA dx c fa fj z) ∧ H' c = some (CO CC cdx l false) ∧ H' p = some (.lst (tps ps))) ∧
  (∀ i v H' x, ps[i]? = some x → J i v H' → PartAt H' x ∧ 0 < x.ns.length ∧
    ∀ te H1, Fr H' te → Kp [c] H' H1 → H1 c = some (CO CC cdx l true) → H1 te = some (.tup (.str "ask" :: (mk ++ [.ref x.tn]))) →
      Act P w K mg base n fa [x.blk, qn] H1 (fun v1 H2 => H2 c = some (CO CC cdx l true) ∧ ∃ es, H2 l = some (.lst es) ∧ es.length < sizeLine ∧
        ∀ H3, Kp [c, l] H2 H3 → H3 c = some (CO CC cdx l false) → H3 l = some (.lst (es ++ [.ref te])) → (i = 0 → J 1 v1 H3) ∧ (i ≠ 0 → H3 k = some (AO CA dx c fa fj z) ∧
          ∀ t2 H4, Fr H3 t2 → Kp [c] H3 H4 → H4 c = some (CO CC cdx l true) → H4 t2 = some (.tup (.str "join" :: (mk ++ [.int (manyOf (ps.take i) : Nat), .int (x.ns.length : Nat)]))) →
            Act P w K mg base n fj [v, v1] H4 (fun v2 H5 => H5 c = some (CO CC cdx l true) ∧ ∃ es, H5 l = some (.lst es) ∧ es.length < sizeLine ∧
              ∀ H6, Kp [c, l] H5 H6 → H6 c = some (CO CC cdx l false) → H6 l = some (.lst (es ++ [.ref t2])) → J (i + 1) v2 H6)))) ∧
  ∀ v H', J ps.length v H' → Q v H'
theorem ok_ans (T : Txt K mg) : FnOk P w K mg base CX0 (n + 2) T.f_Asker_answer T.d_Asker_answer ["self", "parts", "question", "mark"] (spAns P w K mg base T.C_Calls T.C_Asker n) := by
  have G_Calls_run := ok_run (P := P) (w := w) (base := base) (n := n) T
  refine T.F_Asker_answer.ok sc_Asker_answer (fun vs H Q E h => ?_) (fun cdv A outer s H vs Q E hr h => ?_)
  · obtain ⟨k, dx, c, cdx, l, p, e, fa, fj, z, qn, ps, mk, J, rfl, _⟩ := h
    rfl
  · obtain ⟨k, dx, c, cdx, l, p, e, fa, fj, z, qn, ps, mk, J, rfl, he, lm, hk, j0, hJ, hS, hQ⟩ := h
    refine ⟨_, (pss_cons (ps_set (i := 4) sc_Asker_answer.nd rfl (.inl rfl) (pe_fld (pv 0) rfl))
      (pss_cons (ps_set (i := 5) sc_Asker_answer.nd rfl (.inl rfl) pe_int)
      (pss_cons (ps_for (passes_of rfl) rfl (pi_list (pv 1)) (pg_tup (by rfl) (pgs_cons (pg_name (i := 6) sc_Asker_answer.nd rfl (.inl rfl)) (pgs_cons (pg_name (i := 7) sc_Asker_answer.nd rfl (.inl rfl)) pgs_nil))) (pss_cons (ps_set (i := 8) sc_Asker_answer.nd rfl (.inl rfl) (pe_callB call_len_seq (by rfl) T.z_len (by decide +kernel) (pa_cons (pv 6) pa_nil)))
        (pss_cons (ps_set (i := 9) sc_Asker_answer.nd rfl (.inl rfl) (pe_methR (pe_fld (pv 0) rfl) T.cl_Calls ⟨T.m_Calls_run, T.t_Calls_run, T.k_Calls_run⟩ G_Calls_run (hr.mono (by omega)) pass0 (pa_cons (pe_tup (pa_cons pe_str (StX.pa_star (pv 3) (pa_cons (pv 6) pa_nil)))) (pa_cons (pe_fld (pv 0) rfl) (pa_cons (pv 7) (pa_cons (pv 2) pa_nil))))))
        (pss_cons (ps_if (pt_cmpR op_gt (pv 5) pe_int (nomark _)) (pss_one (ps_set (i := 9) sc_Asker_answer.nd rfl (.inl rfl) (pe_methR (pe_fld (pv 0) rfl) T.cl_Calls ⟨T.m_Calls_run, T.t_Calls_run, T.k_Calls_run⟩ G_Calls_run (hr.mono (by omega)) pass0 (pa_cons (pe_tup (pa_cons pe_str (StX.pa_star (pv 3) (pa_cons (pv 5) (pa_cons (pv 8) pa_nil))))) (pa_cons (pe_fld (pv 0) rfl) (pa_cons (pv 4) (pa_cons (pv 9) pa_nil))))))) pss_nil)
        (pss_cons (ps_set (i := 4) sc_Asker_answer.nd rfl (.inl rfl) (pv 9))
        (pss_one (ps_aug (i := 5) sc_Asker_answer.nd rfl (.inl rfl) (pv 8) ip_add)))))))
      (pss_one (ps_ret (pv 4)))))), ?_⟩
    obtain ⟨hk0, hc0, hp0⟩ := hJ 0 z H (Nat.zero_le _) j0
    o_readsAll
    refine for_list (xs := tps ps) (fun i σ H' => ∃ v y5 y6 y7 y8, σ = [some (.ref k), some (.ref p), some qn, some (.ref e), some v, some (.int (manyOf (ps.take i) : Nat)), y5, y6, y7, y8] ∧ (i ≠ 0 → 0 < manyOf (ps.take i)) ∧ J i v H')
      ⟨z, _, _, _, _, rfl, fun n => absurd rfl n, j0⟩ ?_ ?_ ?_
    · rintro i σ H' hi ⟨v, y5, y6, y7, y8, _, _, j⟩
      unfold tps at hi
      rw [List.length_map] at hi
      exact sqlOf (hJ i v H' hi j).2.2
    · rintro i y σ H' hy ⟨v, y5, y6, y7, y8, rfl, hpos, j⟩
      unfold tps at hy
      rw [List.getElem?_map] at hy
      obtain ⟨x, hx, rfl⟩ := Option.map_eq_some_iff.mp hy
      have hi : i < ps.length := (List.getElem?_eq_some_iff.mp hx).1
      obtain ⟨hk', hc', _⟩ := hJ i v H' (Nat.le_of_lt hi) j
      obtain ⟨⟨h1, h2⟩, h3, hst⟩ := hS i v H' x hx j
      have mt := many_take hx
      have l4 : (x.ns.map nV).length = x.ns.length := List.length_map ..
      o_readsAll
      rename_i te nte
      intro H1 k1 c1
      refine (hst te H1 nte (by kxs_still) c1 (by kp_flats)).imp fun v1 H2 ⟨a1, es, a2, a3, a4⟩ => ⟨a1, es, a2, a3, fun H3 k3 c3 l3 => ?_⟩
      obtain ⟨a5, a6⟩ := a4 H3 k3 c3 l3
      o_readsAll
      by_cases h0 : i = 0
      · subst h0
        refine ifF (dF (by show ¬ (0 : Int) < ((0 : Nat) : Int); omega)) ?_
        o_readsAll
        exact ⟨_, _, _, _, by rw [mt, ← l4]; rfl, fun _ => by rw [mt]; omega, a5 rfl⟩
      · have hp := hpos h0
        obtain ⟨hk3, hj⟩ := a6 h0
        refine ifT (dT (by omega)) ?_
        o_readsAll
        rename_i t2 nt2
        intro H4 k4 c4
        refine (hj t2 H4 nt2 (by kxs_still) c4 (by rw [← l4]; kp_flats)).imp fun v2 H5 ⟨b1, es2, b2, b3, b4⟩ => ⟨b1, es2, b2, b3, fun H6 k6 c6 l6 => ?_⟩
        have b5 := b4 H6 k6 c6 l6
        o_readsAll
        exact ⟨_, _, _, _, by rw [mt, ← l4]; rfl, fun _ => by rw [mt]; omega, b5⟩
    · rintro σ H' ⟨v, y5, y6, y7, y8, rfl, _, j⟩
      rw [show (tps ps).length = ps.length from List.length_map ..] at j
      o_readsAll
      exact hQ v H' j
end
end Ob

set_option Elab.async false
set_option linter.all false
set_option maxRecDepth 100000
set_option maxHeartbeats 1000000
namespace Ob
open PySem PySem.Spec PyProof.Rows L2
open LamX (Tabs TabB TabS ExtN)

set_option hygiene false in
local macro_rules
  | `(tactic| kp_flats) => `(tactic| first
    | assumption
    | exact upd_same
    | (apply atNew; assumption; kp_flats)
    | (apply atNe; (next => kbo_bools); kp_flats)
    | (apply atSame; assumption; kp_flats)
    | (apply atKp; assumption; (next => kaf_pre); kp_flats))
set_option hygiene false in
local macro_rules
  | `(tactic| kaf_pre) => `(tactic| first
    | assumption
    | exact not_nil
    | (apply not_cons; (next => kbo_bools); kaf_pre)
    | (apply not_app; (next => kaf_pre); kaf_pre))
set_option hygiene false in
local macro_rules
  | `(tactic| kbo_bools) => `(tactic| first
    | assumption
    | (apply Ne.symm; assumption)
    | (apply neN; assumption; kp_flats)
    | (apply neN'; assumption; kp_flats))
set_option hygiene false in
local macro_rules
  | `(tactic| o_reads) => `(tactic| first
    | with_reducible rfl
    | assumption
    | rfl
    | kp_flats
    | (show SqL _ _ _ _; first | assumption | (apply sqlOf; kp_flats) | (apply sqlSame; assumption; o_reads))
    | (show SqT _ _ _ _; first | assumption | (apply sqtOf; kp_flats) | (apply sqtAll; assumption) | (apply sqtSame; assumption; o_reads))
    | (show Cls _ _; first | exact T.cl_Calls | exact T.cl_Asker | exact T.cl_Builder | exact T.cl_Blocks | exact T.cl_Version)
    | (show NoAttr _ _ _; first | exact T.n_Calls_entries | exact T.n_Calls_running | exact T.n_Asker_calls | exact T.n_Asker_ask_call | exact T.n_Asker_join_call | exact T.n_Asker_zero | exact T.n_Builder_calls | exact T.n_Builder_build_call | exact T.n_Blocks_calls | exact T.n_Blocks_builder | exact T.n_Blocks_asker | exact T.n_Blocks_held | exact T.n_Blocks_parts | exact T.n_Version_calls | exact T.n_Version_asker | exact T.n_Version_held | exact T.n_Version_parts)
    | (apply Or.inl; o_reads)
    | (apply Or.inr; o_reads)
    | (apply And.intro; (next => o_reads); o_reads)
    | (apply Exists.intro; o_reads)
    | exact Nat.le_of_ble_eq_true rfl
    | exact Nat.succ_ne_zero _
    | (show Fr _ _; kba_ints)
    | (show Same _ _; kd_subs)
    | (show Kp _ _ _; kxs_still)
    | (show (_ : Nat) ≤ _; simp only [List.length_append, List.length_map, List.length_cons, List.length_nil, List.length_take, List.length_drop, List.length_replicate, List.length_range, sizeLine_eq]; omega)
    | (show _ = none; apply Fr.h; kba_ints)
    | (show Bag _ _; first | assumption | (apply bag_putF; assumption; o_reads) | (apply bag_neF; (next => kbo_bools); o_reads) | (apply bag_kpR; assumption; (next => kaf_pre); o_reads))
    | omega
    | decide)
local macro_rules
  | `(tactic| o_readsAll) => `(tactic| repeat (first
    | (refine fun (pNew : Addr) (nNew : _ = none) => ?_; replace nNew := Fr.mk nNew)
    | (refine fun (xNew dNew : Addr) (nNew : _ = none) (mNew : _ = none) (eNew : dNew ≠ xNew) => ?_; replace nNew := Fr.mk nNew; replace mNew := Fr.mk mNew)
    | (apply And.intro; next => o_reads)
    | apply Exists.intro (α := V)
    | apply Exists.intro (α := Addr)
    | apply Exists.intro (α := Int)
    | apply Exists.intro (α := Bool)
    | apply Exists.intro (α := List V)
    | apply Exists.intro (α := List Nat)
    | apply Exists.intro (α := List (Str × V))
    | apply Exists.intro (α := List _)
    | apply Exists.intro (α := Str)
    | apply Exists.intro (α := HO)
    | apply Exists.intro (α := Sp)
    | apply Exists.intro (α := VK)))
set_option hygiene false in
local macro_rules
  | `(tactic| kba_ints) => `(tactic| first
    | assumption
    | (apply frUp; (first | assumption | (apply Ne.symm; assumption)); kba_ints)
    | (apply noneOf; assumption; intro oF eF; apply Exists.intro; kp_flats)
    | (apply frUp; (next => kbo_bools); kba_ints))
set_option hygiene false in
local macro_rules
  | `(tactic| kxs_still) => `(tactic| first
    | assumption
    | exact kp_refl _ _
    | (apply kp_newF; assumption; kxs_still)
    | (apply kp_new; assumption; kxs_still)
    | (apply kp_up; (next => o_fieldsN); kxs_still)
    | (apply kp_new; (next => kba_ints); kxs_still)
    | (apply kp_sameR; assumption; kxs_still)
    | (apply kp_transR; assumption; kxs_still)
    | (apply kp_freshR; assumption; (next => kaf_suf); kxs_still))
set_option hygiene false in
local macro_rules
  | `(tactic| kaf_suf) => `(tactic| first
    | assumption
    | exact subNil
    | (apply subCons; (first | (apply Or.inl; o_fieldsN) | (apply Or.inr; kba_ints)); kaf_suf)
    | (apply subApp; (next => kaf_suf); kaf_suf))
set_option hygiene false in
local macro_rules
  | `(tactic| o_fieldsN) => `(tactic| first
    | assumption
    | exact memA
    | (apply memB; o_fieldsN)
    | (apply memL; o_fieldsN)
    | (apply memR; o_fieldsN))
set_option hygiene false in
local macro_rules
  | `(tactic| kd_subs) => `(tactic| first
    | assumption
    | exact Same.refl _
    | (apply same_putF; assumption; kd_subs)
    | (apply same_putG; assumption; kd_subs)
    | (apply same_putF; (next => kba_ints); kd_subs)
    | (apply same_transR; assumption; kd_subs))

section
variable {P : Program} {w : World} {K : PySem.W.Frag} {mg : Str → Option Value} {base : Heap} {n : Nat}
def spAI (C : Addr) : Sp := fun vs H Q _ => ∃ (a dx c : Addr) (x2 x3 x4 : V), vs = [.ref a, .ref c, x2, x3, x4] ∧ H a = some (.ins C dx []) ∧ ∀ H', H' a = some (AO C dx c x2 x3 x4) → Kp [a] H H' → (∀ b, Fr H' b → Fr H b) → Q .non H'
theorem ok_ai (T : Txt K mg) : FnOk P w K mg base CX0 1 T.f_Asker_init T.d_Asker_init ["self", "calls", "ask", "join", "zero"] (spAI T.C_Asker) := by
  refine T.F_Asker_init.ok sc_Asker_init (fun vs H Q E h => ?_) (fun cdv A outer s H vs Q E hr h => ?_)
  · obtain ⟨a, dx, c, x2, x3, x4, rfl, _⟩ := h
    rfl
  · obtain ⟨a, dx, c, x2, x3, x4, rfl, ha, q⟩ := h
    refine ⟨_, (pss_cons (ps_fld (pv 0) (pv 1) rfl)
      (pss_cons (ps_fld (pv 0) (pv 2) rfl)
      (pss_cons (ps_fld (pv 0) (pv 3) rfl)
      (pss_one (ps_fld (pv 0) (pv 4) rfl))))), ?_⟩
    o_readsAll
    exact q _ (by kp_flats) (by kxs_still) fun b fb => by kba_ints
def spBuI (C : Addr) : Sp := fun vs H Q _ => ∃ (a dx c : Addr) (x2 : V), vs = [.ref a, .ref c, x2] ∧ H a = some (.ins C dx []) ∧ ∀ H', H' a = some (BuO C dx c x2) → Kp [a] H H' → (∀ b, Fr H' b → Fr H b) → Q .non H'
theorem ok_bui (T : Txt K mg) : FnOk P w K mg base CX0 1 T.f_Builder_init T.d_Builder_init ["self", "calls", "build"] (spBuI T.C_Builder) := by
  refine T.F_Builder_init.ok sc_Builder_init (fun vs H Q E h => ?_) (fun cdv A outer s H vs Q E hr h => ?_)
  · obtain ⟨a, dx, c, x2, rfl, _⟩ := h
    rfl
  · obtain ⟨a, dx, c, x2, rfl, ha, q⟩ := h
    refine ⟨_, (pss_cons (ps_fld (pv 0) (pv 1) rfl)
      (pss_one (ps_fld (pv 0) (pv 2) rfl))), ?_⟩
    o_readsAll
    exact q _ (by kp_flats) (by kxs_still) fun b fb => by kba_ints
def BlO (C dx c bu k h p : Addr) : HO := .ins C dx [("calls", .ref c), ("builder", .ref bu), ("asker", .ref k), ("held", .ref h), ("parts", .ref p)]
def spBI (CB CC CU CA : Addr) : Sp := fun vs H Q _ => ∃ (b dx : Addr) (fb fa fj z : V), vs = [.ref b, fb, fa, fj, z] ∧ H b = some (.ins CB dx []) ∧ ∀ (c cdx l bu bdx k kdx h p : Addr) H', Fr H c → Fr H l → Fr H bu → Fr H k → Fr H h → Fr H p →
  H' b = some (BlO CB dx c bu k h p) → H' c = some (CO CC cdx l false) → H' l = some (.lst []) → H' bu = some (BuO CU bdx c fb) → H' k = some (AO CA kdx c fa fj z) → H' h = some (.lst []) → H' p = some (.lst []) → l ≠ h → l ≠ p → h ≠ p → bu ≠ b → bu ≠ c → k ≠ b → k ≠ c → b ≠ c → Kp [b] H H' → Q .non H'
theorem ok_bi (T : Txt K mg) : FnOk P w K mg base CX0 4 T.f_Blocks_init T.d_Blocks_init ["self", "build", "ask", "join", "zero"] (spBI T.C_Blocks T.C_Calls T.C_Builder T.C_Asker) := by
  have G_Calls_init := ok_ci (P := P) (w := w) (base := base) T
  have G_Asker_init := ok_ai (P := P) (w := w) (base := base) T
  have G_Builder_init := ok_bui (P := P) (w := w) (base := base) T
  refine T.F_Blocks_init.ok sc_Blocks_init (fun vs H Q E h => ?_) (fun cdv A outer s H vs Q E hr h => ?_)
  · obtain ⟨b, dx, fb, fa, fj, z, rfl, _⟩ := h
    rfl
  · obtain ⟨b, dx, fb, fa, fj, z, rfl, hb, q⟩ := h
    refine ⟨_, (pss_cons (ps_fld (pv 0) (pe_make0 ⟨T.mk_Calls, T.m_Calls_init, T.t_Calls_init, T.kp_Calls⟩ G_Calls_init (hr.mono (by omega)) rfl T.gc_Calls T.b_Calls_init .nil pass0) rfl)
      (pss_cons (ps_fld (pv 0) (pe_make ⟨T.mk_Builder, T.m_Builder_init, T.t_Builder_init, T.kp_Builder⟩ G_Builder_init (hr.mono (by omega)) rfl T.gc_Builder T.b_Builder_init .nil pass0 (pa_cons (pe_fld (pv 0) rfl) (pa_cons (pv 1) pa_nil))) rfl)
      (pss_cons (ps_fld (pv 0) (pe_make ⟨T.mk_Asker, T.m_Asker_init, T.t_Asker_init, T.kp_Asker⟩ G_Asker_init (hr.mono (by omega)) rfl T.gc_Asker T.b_Asker_init .nil pass0 (pa_cons (pe_fld (pv 0) rfl) (pa_cons (pv 2) (pa_cons (pv 3) (pa_cons (pv 4) pa_nil))))) rfl)
      (pss_cons (ps_fld (pv 0) (pe_lst pa_nil) rfl)
      (pss_one (ps_fld (pv 0) (pe_lst pa_nil) rfl)))))), ?_⟩
    o_readsAll
    rename_i c cdx nec nc ncd
    intro l H1 nl e1 e2 k1
    o_readsAll
    rename_i bu bdx neb nb nbd
    intro H2 e3 k2 f2
    o_readsAll
    rename_i k kdx nek nk nkd
    intro H3 e4 k3 f3
    o_readsAll
    rename_i h nh p np
    exact q c cdx l bu bdx k kdx h p _ (by kba_ints) (by kba_ints) (by kba_ints) (by kba_ints) (by kba_ints) (by kba_ints) (by kp_flats) (by kp_flats) (by kp_flats) (by kp_flats) (by kp_flats) (by kp_flats) (by kp_flats) (by kbo_bools) (by kbo_bools) (by kbo_bools) (by kbo_bools) (by kbo_bools) (by kbo_bools) (by kbo_bools) (by kbo_bools) (by kxs_still)
end
end Ob

set_option Elab.async false
set_option linter.all false
set_option maxRecDepth 100000
set_option maxHeartbeats 1000000
namespace Ob
open PySem PySem.Spec PyProof.Rows L2
open LamX (Tabs TabB TabS ExtN)

/-! ### the blocks of n members -/
def bl (n : Nat) : List (Nat × Nat) := if h : n = 0 then [] else bl (n - low n) ++ [(n - low n, low n)]
termination_by n
decreasing_by
  have := Nat.pos_of_ne_zero (low_ne n h)
  omega
theorem bl_zero : bl 0 = [] := by
  rw [bl, dif_pos rfl]
theorem bl_pos {n : Nat} (h : n ≠ 0) : bl n = bl (n - low n) ++ [(n - low n, low n)] := by
  rw [bl, dif_neg h]
theorem low_up {m e : Nat} (h : m % 2 ^ (e + 1) = 0) : low (m + 2 ^ e) = 2 ^ e := by
  have hp := Nat.two_pow_pos e
  obtain ⟨q, rfl⟩ := Nat.dvd_of_mod_eq_zero h
  refine low_is e _ (by omega) ?_ fun z => ?_
  · rw [Nat.pow_succ, Nat.mul_assoc, show 2 ^ e * (2 * q) + 2 ^ e = 2 ^ e * (2 * q + 1) by rw [Nat.mul_add, Nat.mul_one]]
    exact Nat.mul_mod_right _ _
  · rw [Nat.add_comm, Nat.add_mul_mod_self_left, Nat.mod_eq_of_lt (Nat.pow_lt_pow_right (by decide) (by omega))] at z
    omega
theorem bl_up {m e : Nat} (h : m % 2 ^ (e + 1) = 0) : bl (m + 2 ^ e) = bl m ++ [(m, 2 ^ e)] := by
  have hp := Nat.two_pow_pos e
  rw [bl_pos (by omega), low_up h, Nat.add_sub_cancel]
theorem bl_run : ∀ (e m : Nat), m % 2 ^ e = 0 → ∃ t, bl (m + (2 ^ e - 1)) = bl m ++ t ∧ t.length = e
  | 0, m, _ => ⟨[], by rw [Nat.pow_zero, Nat.sub_self, Nat.add_zero, List.append_nil], rfl⟩
  | e + 1, m, h => by
    have hp := Nat.two_pow_pos e
    have hm : (m + 2 ^ e) % 2 ^ e = 0 := by
      obtain ⟨q, rfl⟩ := Nat.dvd_of_mod_eq_zero h
      rw [Nat.pow_succ, Nat.mul_assoc, Nat.add_mod_right]
      exact Nat.mul_mod_right _ _
    obtain ⟨t, e1, e2⟩ := bl_run e (m + 2 ^ e) hm
    refine ⟨(m, 2 ^ e) :: t, ?_, ?_⟩
    · rw [show m + (2 ^ (e + 1) - 1) = m + 2 ^ e + (2 ^ e - 1) by rw [Nat.pow_succ]; omega, e1, bl_up h, List.append_assoc]
      rfl
    · rw [List.length_cons, e2]
theorem bl_step (n : Nat) : expo (n + 1) ≤ (bl n).length ∧ bl (n + 1) = (bl n).take ((bl n).length - expo (n + 1)) ++ [(n + 1 - low (n + 1), low (n + 1))] := by
  obtain ⟨e, e1, e2, e3⟩ := low_spec (n + 1) (Nat.succ_ne_zero _)
  have hx : expo (n + 1) = e := by
    unfold expo
    rw [e1]
    exact Nat.log2_two_pow
  have le := low_le (n + 1) (Nat.succ_ne_zero _)
  have hp := Nat.two_pow_pos e
  have hm : (n + 1 - low (n + 1)) % 2 ^ e = 0 := by
    rw [e1]
    rw [← Nat.mod_eq_sub_mod (by omega)]
    exact e2
  obtain ⟨t, h1, h2⟩ := bl_run e _ hm
  have hn : n + 1 - low (n + 1) + (2 ^ e - 1) = n := by omega
  rw [hn] at h1
  refine ⟨by rw [hx, h1, List.length_append]; omega, ?_⟩
  rw [bl_pos (Nat.succ_ne_zero n), hx, h1, List.length_append, h2, Nat.add_sub_cancel, List.take_left']
  rfl
/-- what stands one behind the other, from a to b -/
def Tiles : Nat → List (Nat × Nat) → Nat → Prop
  | a, [], b => a = b
  | a, (f, s) :: r, b => f = a ∧ 0 < s ∧ Tiles (a + s) r b
theorem tiles_add : ∀ {a b c : Nat} {x y : List (Nat × Nat)}, Tiles a x b → Tiles b y c → Tiles a (x ++ y) c
  | _, _, _, [], _, h, k => by
    cases h
    exact k
  | _, _, _, (f, s) :: x, _, ⟨h1, h2, h3⟩, k => ⟨h1, h2, tiles_add h3 k⟩
theorem bl_tiles (n : Nat) : Tiles 0 (bl n) n := by
  induction n using Nat.strongRecOn with
  | ind n ih =>
    by_cases h : n = 0
    · subst h
      rw [bl_zero]
      exact rfl
    · have l := low_le n h
      have p := Nat.pos_of_ne_zero (low_ne n h)
      rw [bl_pos h]
      exact tiles_add (ih _ (by omega)) ⟨rfl, p, by show n - low n + low n = n; omega⟩
theorem bl_len (n : Nat) : (bl n).length ≤ n := by
  have key : ∀ (x : List (Nat × Nat)) (a b : Nat), Tiles a x b → a + x.length ≤ b := by
    intro x
    induction x with
    | nil => intro a b h; exact Nat.le_of_eq h
    | cons y x ih =>
      intro a b h
      obtain ⟨f, s⟩ := y
      obtain ⟨h1, h2, h3⟩ := h
      have := ih _ _ h3
      rw [List.length_cons]
      omega
  have := key _ _ _ (bl_tiles n)
  omega
theorem tiles_split : ∀ {a b : Nat} {x y : List (Nat × Nat)}, Tiles a (x ++ y) b → ∃ c, Tiles a x c ∧ Tiles c y b
  | a, _, [], _, h => ⟨a, rfl, h⟩
  | _, _, (f, s) :: x, _, ⟨h1, h2, h3⟩ => by
    obtain ⟨c, k1, k2⟩ := tiles_split h3
    exact ⟨c, ⟨h1, h2, k1⟩, k2⟩
theorem tiles_end : ∀ {a b c : Nat} {x : List (Nat × Nat)}, Tiles a x b → Tiles a x c → b = c
  | _, _, _, [], h, k => h.symm.trans k
  | _, _, _, (f, s) :: x, ⟨_, _, h⟩, ⟨_, _, k⟩ => tiles_end h k
def rg (x : Nat × Nat) : List Nat := List.range' x.1 x.2
theorem tiles_le : ∀ {a b : Nat} {x : List (Nat × Nat)}, Tiles a x b → a ≤ b
  | _, _, [], h => Nat.le_of_eq h
  | a, _, (f, s) :: x, ⟨_, _, h⟩ => Nat.le_trans (Nat.le_add_right a s) (tiles_le h)
theorem tiles_rg : ∀ {a b : Nat} {x : List (Nat × Nat)}, Tiles a x b → x.flatMap rg = List.range' a (b - a)
  | _, _, [], h => by
    cases h
    rw [Nat.sub_self]
    rfl
  | a, b, (f, s) :: x, ⟨h1, h2, h3⟩ => by
    subst h1
    have le := tiles_le h3
    rw [List.flatMap_cons, tiles_rg h3, show b - f = s + (b - (f + s)) by omega, ← List.range'_append_1]
    rfl
def bns (n : Nat) : List (List Nat) := (bl n).map rg
theorem bns_flat (n : Nat) : (bns n).flatten = List.range' 0 n := by
  have := tiles_rg (bl_tiles n)
  rw [Nat.sub_zero] at this
  rw [← this, List.flatMap_def]
  rfl
theorem bns_len (n : Nat) : (bns n).length = (bl n).length := List.length_map ..
theorem bns_step (n : Nat) : expo (n + 1) ≤ (bns n).length ∧ ((bns n).drop ((bns n).length - expo (n + 1))).flatten ++ [n] = List.range' (n + 1 - low (n + 1)) (low (n + 1)) ∧
    bns (n + 1) = (bns n).take ((bns n).length - expo (n + 1)) ++ [List.range' (n + 1 - low (n + 1)) (low (n + 1))] := by
  obtain ⟨h1, h2⟩ := bl_step n
  have le := low_le (n + 1) (Nat.succ_ne_zero _)
  have ps := Nat.pos_of_ne_zero (low_ne (n + 1) (Nat.succ_ne_zero _))
  rw [bns_len]
  refine ⟨h1, ?_, ?_⟩
  · have t1 := bl_tiles (n + 1)
    rw [h2] at t1
    obtain ⟨c, c1, c2, _, c3⟩ := tiles_split t1
    have t2 := bl_tiles n
    rw [← List.take_append_drop ((bl n).length - expo (n + 1)) (bl n)] at t2
    obtain ⟨d, d1, d2⟩ := tiles_split t2
    have e1 := tiles_end d1 c1
    have e2 : n + 1 - low (n + 1) = c := c2
    have e3 := tiles_rg d2
    have e4 : ((bns n).drop ((bl n).length - expo (n + 1))).flatten = ((bl n).drop ((bl n).length - expo (n + 1))).flatMap rg := by
      rw [List.flatMap_def, bns, ← List.map_drop]
    rw [e4, e3, e1, ← e2, show low (n + 1) = (n - (n + 1 - low (n + 1))) + 1 by omega, List.range'_concat, Nat.one_mul, show n + 1 - (n - (n + 1 - low (n + 1)) + 1) = n + 1 - low (n + 1) by omega]
    congr 2
    omega
  · unfold bns
    rw [h2, List.map_append, List.map_take]
    rfl
theorem bns_mem {n : Nat} {x : List Nat} (h : x ∈ bns n) : (∀ i ∈ x, i < n) ∧ x ≠ [] := by
  obtain ⟨⟨f, s⟩, h1, rfl⟩ := List.mem_map.mp h
  obtain ⟨l, r, e⟩ := List.append_of_mem h1
  have t := bl_tiles n
  rw [e] at t
  obtain ⟨c, c1, c2, c3, c4⟩ := tiles_split t
  have le := tiles_le c4
  refine ⟨fun i hi => ?_, fun z => ?_⟩
  · have := List.mem_range'_1.mp hi
    omega
  · have := congrArg List.length z
    rw [rg, List.length_range'] at this
    show False
    simp at this
    omega

end Ob

set_option Elab.async false
set_option linter.all false
set_option maxRecDepth 100000
set_option maxHeartbeats 1000000
namespace Ob
open PySem PySem.Spec PyProof.Rows L2
open LamX (Tabs TabB TabS ExtN)

set_option hygiene false in
local macro_rules
  | `(tactic| kp_flats) => `(tactic| first
    | assumption
    | exact upd_same
    | (apply atNew; assumption; kp_flats)
    | (apply atNe; (next => kbo_bools); kp_flats)
    | (apply atSame; assumption; kp_flats)
    | (apply atKp; assumption; (next => kaf_pre); kp_flats))
set_option hygiene false in
local macro_rules
  | `(tactic| kaf_pre) => `(tactic| first
    | assumption
    | exact not_nil
    | (apply not_cons; (next => kbo_bools); kaf_pre)
    | (apply not_app; (next => kaf_pre); kaf_pre))
set_option hygiene false in
local macro_rules
  | `(tactic| kbo_bools) => `(tactic| first
    | assumption
    | (apply Ne.symm; assumption)
    | (apply neN; assumption; kp_flats)
    | (apply neN'; assumption; kp_flats))
set_option hygiene false in
local macro_rules
  | `(tactic| o_reads) => `(tactic| first
    | with_reducible rfl
    | assumption
    | rfl
    | kp_flats
    | (show SqL _ _ _ _; first | assumption | (apply sqlOf; kp_flats) | (apply sqlSame; assumption; o_reads))
    | (show SqT _ _ _ _; first | assumption | (apply sqtOf; kp_flats) | (apply sqtAll; assumption) | (apply sqtSame; assumption; o_reads))
    | (show Cls _ _; first | exact T.cl_Calls | exact T.cl_Asker | exact T.cl_Builder | exact T.cl_Blocks | exact T.cl_Version)
    | (show NoAttr _ _ _; first | exact T.n_Calls_entries | exact T.n_Calls_running | exact T.n_Asker_calls | exact T.n_Asker_ask_call | exact T.n_Asker_join_call | exact T.n_Asker_zero | exact T.n_Builder_calls | exact T.n_Builder_build_call | exact T.n_Blocks_calls | exact T.n_Blocks_builder | exact T.n_Blocks_asker | exact T.n_Blocks_held | exact T.n_Blocks_parts | exact T.n_Version_calls | exact T.n_Version_asker | exact T.n_Version_held | exact T.n_Version_parts)
    | (apply Or.inl; o_reads)
    | (apply Or.inr; o_reads)
    | (apply And.intro; (next => o_reads); o_reads)
    | (apply Exists.intro; o_reads)
    | exact Nat.le_of_ble_eq_true rfl
    | exact Nat.succ_ne_zero _
    | (show Fr _ _; kba_ints)
    | (show Same _ _; kd_subs)
    | (show Kp _ _ _; kxs_still)
    | (show (_ : Nat) ≤ _; simp only [List.length_append, List.length_map, List.length_cons, List.length_nil, List.length_take, List.length_drop, List.length_replicate, List.length_range, sizeLine_eq]; omega)
    | (show _ = none; apply Fr.h; kba_ints)
    | (show Bag _ _; first | assumption | (apply bag_putF; assumption; o_reads) | (apply bag_neF; (next => kbo_bools); o_reads) | (apply bag_kpR; assumption; (next => kaf_pre); o_reads))
    | omega
    | decide)
local macro_rules
  | `(tactic| o_readsAll) => `(tactic| repeat (first
    | (refine fun (pNew : Addr) (nNew : _ = none) => ?_; replace nNew := Fr.mk nNew)
    | (refine fun (xNew dNew : Addr) (nNew : _ = none) (mNew : _ = none) (eNew : dNew ≠ xNew) => ?_; replace nNew := Fr.mk nNew; replace mNew := Fr.mk mNew)
    | (apply And.intro; next => o_reads)
    | apply Exists.intro (α := V)
    | apply Exists.intro (α := Addr)
    | apply Exists.intro (α := Int)
    | apply Exists.intro (α := Bool)
    | apply Exists.intro (α := List V)
    | apply Exists.intro (α := List Nat)
    | apply Exists.intro (α := List (Str × V))
    | apply Exists.intro (α := List _)
    | apply Exists.intro (α := Str)
    | apply Exists.intro (α := HO)
    | apply Exists.intro (α := Sp)
    | apply Exists.intro (α := VK)))
set_option hygiene false in
local macro_rules
  | `(tactic| kba_ints) => `(tactic| first
    | assumption
    | (apply frUp; (first | assumption | (apply Ne.symm; assumption)); kba_ints)
    | (apply noneOf; assumption; intro oF eF; apply Exists.intro; kp_flats)
    | (apply frUp; (next => kbo_bools); kba_ints))
set_option hygiene false in
local macro_rules
  | `(tactic| kxs_still) => `(tactic| first
    | assumption
    | exact kp_refl _ _
    | (apply kp_newF; assumption; kxs_still)
    | (apply kp_new; assumption; kxs_still)
    | (apply kp_up; (next => o_fieldsN); kxs_still)
    | (apply kp_new; (next => kba_ints); kxs_still)
    | (apply kp_sameR; assumption; kxs_still)
    | (apply kp_transR; assumption; kxs_still)
    | (apply kp_freshR; assumption; (next => kaf_suf); kxs_still))
set_option hygiene false in
local macro_rules
  | `(tactic| kaf_suf) => `(tactic| first
    | assumption
    | exact subNil
    | (apply subCons; (first | (apply Or.inl; o_fieldsN) | (apply Or.inr; kba_ints)); kaf_suf)
    | (apply subApp; (next => kaf_suf); kaf_suf))
set_option hygiene false in
local macro_rules
  | `(tactic| o_fieldsN) => `(tactic| first
    | assumption
    | exact memA
    | (apply memB; o_fieldsN)
    | (apply memL; o_fieldsN)
    | (apply memR; o_fieldsN))
set_option hygiene false in
local macro_rules
  | `(tactic| kd_subs) => `(tactic| first
    | assumption
    | exact Same.refl _
    | (apply same_putF; assumption; kd_subs)
    | (apply same_putG; assumption; kd_subs)
    | (apply same_putF; (next => kba_ints); kd_subs)
    | (apply same_transR; assumption; kd_subs))

/-! ### a collection of blocks, its callables described by what they do -/
inductive Ent where
  | build (ns : List Nat) | ask (ns : List Nat) | join (m k : Nat)
inductive Ev where
  | build (ns : List Nat) (xs : List V) (v : V) | ask (ns : List Nat) (xs : List V) (blk qn v : V) | join (m k : Nat) (a b v : V)
def Ev.ent : Ev → Ent
  | .build ns _ _ => .build ns
  | .ask ns _ _ _ _ => .ask ns
  | .join m k _ _ _ => .join m k
/-- an entry of the log, as a value, in a row of the mark mk -/
def EntAt (mk : List V) (H : Hp) : V → Ent → Prop
  | v, .build ns => ∃ t tn, v = .ref t ∧ H t = some (.tup (.str "build" :: (mk ++ [.ref tn]))) ∧ H tn = some (.tup (ns.map nV))
  | v, .ask ns => ∃ t tn, v = .ref t ∧ H t = some (.tup (.str "ask" :: (mk ++ [.ref tn]))) ∧ H tn = some (.tup (ns.map nV))
  | v, .join m k => ∃ t, v = .ref t ∧ H t = some (.tup (.str "join" :: (mk ++ [.int (m : Nat), .int (k : Nat)])))
/-- what changes: it stands there, it is no tuple, and nothing by a word of its own -/
def Mu (H : Hp) (cs : List Addr) : Prop := ∀ a ∈ cs, ∃ o, H a = some o ∧ (∀ xs, o ≠ .tup xs) ∧ ∀ φ, o ≠ .ext φ
theorem Mu.tup {H : Hp} {cs : List Addr} {t : Addr} {xs : List V} (n : Mu H cs) (h : H t = some (.tup xs)) : t ∉ cs := fun m => by
  obtain ⟨o, e, k, _⟩ := n t m
  rw [h] at e
  exact k xs (Option.some.inj e).symm
theorem Mu.ext {H : Hp} {cs : List Addr} {t : Addr} {φ : Heap → Prop} (n : Mu H cs) (h : H t = some (.ext φ)) : t ∉ cs := fun m => by
  obtain ⟨o, e, _, k⟩ := n t m
  rw [h] at e
  exact k φ (Option.some.inj e).symm
theorem Mu.fr {H : Hp} {cs : List Addr} {a : Addr} (n : Mu H cs) (f : Fr H a) : a ∉ cs := fun m => by
  obtain ⟨o, e, _⟩ := n a m
  rw [f.h] at e
  cases e
theorem Mu.sub {H : Hp} {cs ds : List Addr} (n : Mu H cs) (s : ∀ a ∈ ds, a ∈ cs) : Mu H ds := fun a m => n a (s a m)
theorem mu_nil {H : Hp} : Mu H [] := fun _ m => nomatch m
theorem mu_cons {H : Hp} {a : Addr} {o : HO} {l : List Addr} (e : H a = some o) (k : ∀ xs, o ≠ .tup xs) (k2 : ∀ φ, o ≠ .ext φ) (t : Mu H l) : Mu H (a :: l) := fun x m => (List.mem_cons.mp m).elim (fun z => by rw [z]; exact ⟨o, e, k, k2⟩) (t x)
theorem mu_lst {H : Hp} {a : Addr} {xs : List V} {l : List Addr} (e : H a = some (.lst xs)) (t : Mu H l) : Mu H (a :: l) := mu_cons e (fun _ z => nomatch z) (fun _ z => nomatch z) t
theorem mu_ins {H : Hp} {a C dx : Addr} {fs : List (Str × V)} {l : List Addr} (e : H a = some (.ins C dx fs)) (t : Mu H l) : Mu H (a :: l) := mu_cons e (fun _ z => nomatch z) (fun _ z => nomatch z) t
theorem mu_app {H : Hp} {l m : List Addr} (a : Mu H l) (b : Mu H m) : Mu H (l ++ m) := fun x h => (List.mem_append.mp h).elim (a x) (b x)
/-- what does not change stays; what changes is told again -/
theorem Mu.kp {H H1 : Hp} {cs ds : List Addr} (n : Mu H cs) (k : Kp ds H H1) (m : Mu H1 ds) : Mu H1 cs := fun a ha => by
  by_cases e : a ∈ ds
  · exact m a e
  · obtain ⟨o, h1, h2⟩ := n a ha
    exact ⟨o, k.at_ _ _ h1 e, h2⟩
theorem Mu.same {H H1 : Hp} {cs : List Addr} (n : Mu H cs) (s : Same H H1) : Mu H1 cs := fun a m => (n a m).imp fun _ z => ⟨s _ _ z.1, z.2⟩
theorem kp_tup {cs : List Addr} {H H1 : Hp} (k : Kp cs H H1) (n : Mu H cs) {t : Addr} {xs : List V} (h : H t = some (.tup xs)) : H1 t = some (.tup xs) := k.at_ _ _ h (n.tup h)
theorem kp_ext {cs : List Addr} {H H1 : Hp} (k : Kp cs H H1) (n : Mu H cs) {t : Addr} {φ : Heap → Prop} (h : H t = some (.ext φ)) : H1 t = some (.ext φ) := k.at_ _ _ h (n.ext h)
theorem EntAt.kp {mk : List V} {cs : List Addr} {H H1 : Hp} (k : Kp cs H H1) (n : Mu H cs) : ∀ {v : V} {e : Ent}, EntAt mk H v e → EntAt mk H1 v e
  | _, .build _, ⟨t, tn, e, h1, h2⟩ => ⟨t, tn, e, kp_tup k n h1, kp_tup k n h2⟩
  | _, .ask _, ⟨t, tn, e, h1, h2⟩ => ⟨t, tn, e, kp_tup k n h1, kp_tup k n h2⟩
  | _, .join _ _, ⟨t, e, h1⟩ => ⟨t, e, kp_tup k n h1⟩
theorem PartAt.kp {cs : List Addr} {H H1 : Hp} (k : Kp cs H H1) (n : Mu H cs) {x : Part} (h : PartAt H x) : PartAt H1 x := ⟨kp_tup k n h.t, kp_tup k n h.n⟩
inductive LogAt (mk : List V) (H : Hp) : List V → List Ent → Prop where
  | nil : LogAt mk H [] []
  | cons {v : V} {e : Ent} {vs : List V} {es : List Ent} (h : EntAt mk H v e) (t : LogAt mk H vs es) : LogAt mk H (v :: vs) (e :: es)
theorem LogAt.kp {mk : List V} {cs : List Addr} {H H1 : Hp} (k : Kp cs H H1) (n : Mu H cs) : ∀ {vs : List V} {es : List Ent}, LogAt mk H vs es → LogAt mk H1 vs es
  | _, _, .nil => .nil
  | _, _, .cons h t => .cons (h.kp k n) (t.kp k n)
theorem LogAt.add {mk : List V} {H : Hp} {v : V} {e : Ent} : ∀ {vs : List V} {es : List Ent}, LogAt mk H vs es → EntAt mk H v e → LogAt mk H (vs ++ [v]) (es ++ [e])
  | _, _, .nil, h => .cons h .nil
  | _, _, .cons h t, q => .cons h (t.add q)
theorem LogAt.len {mk : List V} {H : Hp} : ∀ {vs : List V} {es : List Ent}, LogAt mk H vs es → vs.length = es.length
  | _, _, .nil => rfl
  | _, _, .cons _ t => congrArg Nat.succ t.len
theorem LogAt.same {mk : List V} {H H1 : Hp} {vs : List V} {es : List Ent} (h : LogAt mk H vs es) (s : Same H H1) : LogAt mk H1 vs es := h.kp (cs := []) (kp_same s) mu_nil
/-- what the callables of a collection do: cs, all that changes; uv, what they change -/
structure US (P : Program) (w : World) (K : PySem.W.Frag) (mg : Str → Option Value) (base : Heap) (n : Nat) (cs uv : List Addr) (fb fa fj : V) (UR : List Ev → Hp → Prop) (Mem : V → Hp → Prop) (Blk : List V → V → Hp → Prop) (Qst : V → Hp → Prop) (Ans : V → List V → V → Hp → Prop) : Prop where
  sub : ∀ a ∈ uv, a ∈ cs
  uk : ∀ {u H H' ds}, UR u H → Mu H cs → Kp ds H H' → (∀ a ∈ ds, a ∈ cs ∧ a ∉ uv) → UR u H'
  mk' : ∀ {x H H'}, Mem x H → Mu H cs → Kp cs H H' → Mem x H'
  bk : ∀ {xs v H H'}, Blk xs v H → Mu H cs → Kp cs H H' → Blk xs v H'
  qk : ∀ {q H H'}, Qst q H → Mu H cs → Kp cs H H' → Qst q H'
  ak : ∀ {q xs v H H'}, Ans q xs v H → Mu H cs → Kp cs H H' → Ans q xs v H'
  hb : ∀ {u H sl xs ns}, UR u H → u.length < 100000 → Mu H cs → xs ≠ [] → xs.length ≤ 1000 → (∀ x ∈ xs, Mem x H) → H sl = some (.lst xs) → sl ∉ cs →
    Act P w K mg base n fb [.ref sl] H (fun v H' => Kp (sl :: uv) H H' ∧ Mu H' uv ∧ Blk xs v H' ∧ UR (u ++ [.build ns xs v]) H')
  ha : ∀ {u H xs blk qn ns}, UR u H → u.length < 100000 → Mu H cs → Qst qn H → Blk xs blk H →
    Act P w K mg base n fa [blk, qn] H (fun v H' => Kp uv H H' ∧ Mu H' uv ∧ Ans qn xs v H' ∧ UR (u ++ [.ask ns xs blk qn v]) H')
  hj : ∀ {u H xs ys a b qn m k}, UR u H → u.length < 100000 → Mu H cs → Qst qn H → Ans qn xs a H → Ans qn ys b H → xs ≠ [] → ys ≠ [] → xs.length = m → ys.length = k → m + k ≤ 1000 →
    Act P w K mg base n fj [a, b] H (fun v H' => Kp uv H H' ∧ Mu H' uv ∧ Ans qn (xs ++ ys) v H' ∧ UR (u ++ [.join m k a b v]) H')
/-- what a Blocks and a Version have: their calls, their asker, their members, their parts -/
structure Core (CC CA : Addr) (cs : List Addr) (c l k h p : Addr) (fa fj z : V) (Mem : V → Hp → Prop) (Blk : List V → V → Hp → Prop) (ms : List V) (es : List Ent) (H : Hp) : Prop where
  at_ : ∃ (cdx kdx : Addr) (ps : List Part) (vs : List V), H c = some (CO CC cdx l false) ∧ H l = some (.lst vs) ∧ LogAt [] H vs es ∧ H k = some (AO CA kdx c fa fj z) ∧
    H h = some (.lst ms) ∧ H p = some (.lst (tps ps)) ∧ (∀ x ∈ ps, PartAt H x ∧ Blk (pick ms x.ns) x.blk H) ∧ ps.map Part.ns = bns ms.length
  mem : ∀ x ∈ ms, Mem x H
  mu : Mu H cs
  im : k ∉ cs ∧ h ∉ cs ∧ p ∉ cs
  own : c ∈ cs ∧ l ∈ cs
/-- the collection at b -/
structure Coll (CB CC CU CA : Addr) (cs : List Addr) (b c l : Addr) (fb fa fj z : V) (Mem : V → Hp → Prop) (Blk : List V → V → Hp → Prop) (ms : List V) (es : List Ent) (H : Hp) : Prop where
  at_ : ∃ (dx bu bdx k h p : Addr), H b = some (BlO CB dx c bu k h p) ∧ H bu = some (BuO CU bdx c fb) ∧ bu ∉ cs ∧ Core CC CA cs c l k h p fa fj z Mem Blk ms es H
  own : b ∈ cs
theorem neIns {H : Hp} {a b C D dx dy : Addr} {fs gs : List (Str × V)} (h1 : H a = some (.ins C dx fs)) (h2 : H b = some (.ins D dy gs)) (n : fs.length ≠ gs.length) : a ≠ b := fun z => by
  rw [z, h2] at h1
  have := Option.some.inj h1
  injection this with _ _ e
  rw [e] at n
  exact n rfl
theorem Core.kp {P : Program} {w : World} {K : PySem.W.Frag} {mg : Str → Option Value} {base : Heap} {n : Nat} {CC CA : Addr} {cs uv ds : List Addr} {c l k h p : Addr} {fb fa fj z : V} {UR : List Ev → Hp → Prop} {Mem : V → Hp → Prop} {Blk : List V → V → Hp → Prop} {Qst : V → Hp → Prop} {Ans : V → List V → V → Hp → Prop} {ms : List V} {es : List Ent} {H H' : Hp}
    (U : US P w K mg base n cs uv fb fa fj UR Mem Blk Qst Ans) (C : Core CC CA cs c l k h p fa fj z Mem Blk ms es H) (kk : Kp ds H H') (s : ∀ a ∈ ds, a ∈ cs) (nc : c ∉ ds) (nl : l ∉ ds) (m : Mu H' ds) : Core CC CA cs c l k h p fa fj z Mem Blk ms es H' := by
  obtain ⟨⟨cdx, kdx, ps, vs, h1, h2, h3, h4, h5, h6, h7, h8⟩, hm, mu, ⟨i1, i2, i3⟩, o⟩ := C
  have k2 : Kp cs H H' := kp_more kk s
  have md := mu.sub s
  exact ⟨⟨cdx, kdx, ps, vs, kk.at_ _ _ h1 nc, kk.at_ _ _ h2 nl, h3.kp kk md, kk.at_ _ _ h4 fun z => i1 (s _ z), kk.at_ _ _ h5 fun z => i2 (s _ z), kk.at_ _ _ h6 fun z => i3 (s _ z), fun x hx => ⟨(h7 x hx).1.kp kk md, U.bk (h7 x hx).2 mu k2⟩, h8⟩, fun x hx => U.mk' (hm x hx) mu k2, mu.kp kk m, ⟨i1, i2, i3⟩, o⟩
theorem Coll.kp {P : Program} {w : World} {K : PySem.W.Frag} {mg : Str → Option Value} {base : Heap} {n : Nat} {CB CC CU CA : Addr} {cs uv ds : List Addr} {b c l : Addr} {fb fb' fa fj z : V} {UR : List Ev → Hp → Prop} {Mem : V → Hp → Prop} {Blk : List V → V → Hp → Prop} {Qst : V → Hp → Prop} {Ans : V → List V → V → Hp → Prop} {ms : List V} {es : List Ent} {H H' : Hp}
    (U : US P w K mg base n cs uv fb' fa fj UR Mem Blk Qst Ans) (C : Coll CB CC CU CA cs b c l fb fa fj z Mem Blk ms es H) (kk : Kp ds H H') (s : ∀ a ∈ ds, a ∈ cs) (nb : b ∉ ds) (nc : c ∉ ds) (nl : l ∉ ds) (m : Mu H' ds) : Coll CB CC CU CA cs b c l fb fa fj z Mem Blk ms es H' := by
  obtain ⟨⟨dx, bu, bdx, k, h, p, h1, h2, h3, h4⟩, o⟩ := C
  exact ⟨⟨dx, bu, bdx, k, h, p, kk.at_ _ _ h1 nb, kk.at_ _ _ h2 fun z => h3 (s _ z), h3, h4.kp U kk s nc nl m⟩, o⟩
/-- more that changes: it is new -/
theorem Core.more {CC CA : Addr} {cs ds : List Addr} {c l k h p : Addr} {fa fj z : V} {Mem Mem' : V → Hp → Prop} {Blk Blk' : List V → V → Hp → Prop} {ms : List V} {es : List Ent} {H H' : Hp} (C : Core CC CA cs c l k h p fa fj z Mem Blk ms es H) (s : Same H H') (f : ∀ a ∈ ds, Fr H a) (m : Mu H' ds)
    (hB : ∀ xs v, Blk xs v H → Blk' xs v H') (hM : ∀ x, Mem x H → Mem' x H') : Core CC CA (ds ++ cs) c l k h p fa fj z Mem' Blk' ms es H' := by
  obtain ⟨⟨cdx, kdx, ps, vs, h1, h2, h3, h4, h5, h6, h7, h8⟩, hm, mu, ⟨i1, i2, i3⟩, o⟩ := C
  have ne : ∀ {a : Addr} {u : HO}, H a = some u → a ∉ cs → a ∉ ds ++ cs := fun {a u} e n => not_app (fun z => ne_of_none e (f a z).h rfl) n
  exact ⟨⟨cdx, kdx, ps, vs, s _ _ h1, s _ _ h2, h3.same s, s _ _ h4, s _ _ h5, s _ _ h6, fun x hx => ⟨(h7 x hx).1.same s, hB _ _ (h7 x hx).2⟩, h8⟩, fun x hx => hM _ (hm x hx), mu_app m (mu.same s), ⟨ne h4 i1, ne h5 i2, ne h6 i3⟩, memR o.1, memR o.2⟩
theorem Coll.more {CB CC CU CA : Addr} {cs ds : List Addr} {b c l : Addr} {fb fa fj z : V} {Mem Mem' : V → Hp → Prop} {Blk Blk' : List V → V → Hp → Prop} {ms : List V} {es : List Ent} {H H' : Hp} (C : Coll CB CC CU CA cs b c l fb fa fj z Mem Blk ms es H) (s : Same H H') (f : ∀ a ∈ ds, Fr H a) (m : Mu H' ds)
    (hB : ∀ xs v, Blk xs v H → Blk' xs v H') (hM : ∀ x, Mem x H → Mem' x H') : Coll CB CC CU CA (ds ++ cs) b c l fb fa fj z Mem' Blk' ms es H' := by
  obtain ⟨⟨dx, bu, bdx, k, h, p, h1, h2, h3, h4⟩, o⟩ := C
  exact ⟨⟨dx, bu, bdx, k, h, p, s _ _ h1, s _ _ h2, not_app (fun z => ne_of_none h2 (f _ z).h rfl) h3, h4.more s f m hB hM⟩, memR o⟩
theorem pick_app (ms : List V) (a b : List Nat) : pick ms (a ++ b) = pick ms a ++ pick ms b := List.map_append ..
theorem pick_more {ms : List V} {m : V} {ns : List Nat} (h : ∀ i ∈ ns, i < ms.length) : pick (ms ++ [m]) ns = pick ms ns := by
  unfold pick
  refine List.map_congr_left fun i hi => ?_
  rw [List.getD_eq_getElem?_getD, List.getD_eq_getElem?_getD, List.getElem?_append_left (h i hi)]
theorem pick_all (ms : List V) : pick ms (List.range' 0 ms.length) = ms := by
  unfold pick
  refine List.ext_getElem? fun i => ?_
  by_cases h : i < ms.length
  · rw [List.getElem?_map, List.getElem?_range' h]
    show some (ms.getD (0 + 1 * i) .non) = _
    rw [Nat.one_mul, Nat.zero_add, List.getD_eq_getElem?_getD, List.getElem?_eq_getElem h]
    rfl
  · rw [List.getElem?_eq_none (by rw [List.length_map, List.length_range']; exact Nat.le_of_not_lt h), List.getElem?_eq_none (Nat.le_of_not_lt h)]
theorem pick_mem {ms : List V} {ns : List Nat} (h : ∀ i ∈ ns, i < ms.length) {x : V} (hx : x ∈ pick ms ns) : x ∈ ms := by
  obtain ⟨i, hi, rfl⟩ := List.mem_map.mp hx
  exact List.mem_of_getElem? (pick_at (h i hi))

end Ob

set_option Elab.async false
set_option linter.all false
set_option maxRecDepth 100000
set_option maxHeartbeats 1000000
namespace Ob
open PySem PySem.Spec PyProof.Rows L2
open LamX (Tabs TabB TabS ExtN)

set_option hygiene false in
local macro_rules
  | `(tactic| kp_flats) => `(tactic| first
    | assumption
    | exact upd_same
    | (apply atNew; assumption; kp_flats)
    | (apply atNe; (next => kbo_bools); kp_flats)
    | (apply atSame; assumption; kp_flats)
    | (apply atKp; assumption; (next => kaf_pre); kp_flats))
set_option hygiene false in
local macro_rules
  | `(tactic| kaf_pre) => `(tactic| first
    | assumption
    | exact not_nil
    | (apply not_cons; (next => kbo_bools); kaf_pre)
    | (apply not_app; (next => kaf_pre); kaf_pre))
set_option hygiene false in
local macro_rules
  | `(tactic| kbo_bools) => `(tactic| first
    | assumption
    | (apply Ne.symm; assumption)
    | (apply neN; assumption; kp_flats)
    | (apply neN'; assumption; kp_flats))
set_option hygiene false in
local macro_rules
  | `(tactic| o_reads) => `(tactic| first
    | with_reducible rfl
    | assumption
    | rfl
    | kp_flats
    | (show SqL _ _ _ _; first | assumption | (apply sqlOf; kp_flats) | (apply sqlSame; assumption; o_reads))
    | (show SqT _ _ _ _; first | assumption | (apply sqtOf; kp_flats) | (apply sqtAll; assumption) | (apply sqtSame; assumption; o_reads))
    | (show Cls _ _; first | exact T.cl_Calls | exact T.cl_Asker | exact T.cl_Builder | exact T.cl_Blocks | exact T.cl_Version)
    | (show NoAttr _ _ _; first | exact T.n_Calls_entries | exact T.n_Calls_running | exact T.n_Asker_calls | exact T.n_Asker_ask_call | exact T.n_Asker_join_call | exact T.n_Asker_zero | exact T.n_Builder_calls | exact T.n_Builder_build_call | exact T.n_Blocks_calls | exact T.n_Blocks_builder | exact T.n_Blocks_asker | exact T.n_Blocks_held | exact T.n_Blocks_parts | exact T.n_Version_calls | exact T.n_Version_asker | exact T.n_Version_held | exact T.n_Version_parts)
    | (apply Or.inl; o_reads)
    | (apply Or.inr; o_reads)
    | (apply And.intro; (next => o_reads); o_reads)
    | (apply Exists.intro; o_reads)
    | exact Nat.le_of_ble_eq_true rfl
    | exact Nat.succ_ne_zero _
    | (show Fr _ _; kba_ints)
    | (show Same _ _; kd_subs)
    | (show Kp _ _ _; kxs_still)
    | (show (_ : Nat) ≤ _; simp only [List.length_append, List.length_map, List.length_cons, List.length_nil, List.length_take, List.length_drop, List.length_replicate, List.length_range, sizeLine_eq]; omega)
    | (show _ = none; apply Fr.h; kba_ints)
    | (show Bag _ _; first | assumption | (apply bag_putF; assumption; o_reads) | (apply bag_neF; (next => kbo_bools); o_reads) | (apply bag_kpR; assumption; (next => kaf_pre); o_reads))
    | omega
    | decide)
local macro_rules
  | `(tactic| o_readsAll) => `(tactic| repeat (first
    | (refine fun (pNew : Addr) (nNew : _ = none) => ?_; replace nNew := Fr.mk nNew)
    | (refine fun (xNew dNew : Addr) (nNew : _ = none) (mNew : _ = none) (eNew : dNew ≠ xNew) => ?_; replace nNew := Fr.mk nNew; replace mNew := Fr.mk mNew)
    | (apply And.intro; next => o_reads)
    | apply Exists.intro (α := V)
    | apply Exists.intro (α := Addr)
    | apply Exists.intro (α := Int)
    | apply Exists.intro (α := Bool)
    | apply Exists.intro (α := List V)
    | apply Exists.intro (α := List Nat)
    | apply Exists.intro (α := List (Str × V))
    | apply Exists.intro (α := List _)
    | apply Exists.intro (α := Str)
    | apply Exists.intro (α := HO)
    | apply Exists.intro (α := Sp)
    | apply Exists.intro (α := VK)))
set_option hygiene false in
local macro_rules
  | `(tactic| kba_ints) => `(tactic| first
    | assumption
    | (apply frUp; (first | assumption | (apply Ne.symm; assumption)); kba_ints)
    | (apply noneOf; assumption; intro oF eF; apply Exists.intro; kp_flats)
    | (apply frUp; (next => kbo_bools); kba_ints))
set_option hygiene false in
local macro_rules
  | `(tactic| kxs_still) => `(tactic| first
    | assumption
    | exact kp_refl _ _
    | (apply kp_newF; assumption; kxs_still)
    | (apply kp_new; assumption; kxs_still)
    | (apply kp_up; (next => o_fieldsN); kxs_still)
    | (apply kp_new; (next => kba_ints); kxs_still)
    | (apply kp_sameR; assumption; kxs_still)
    | (apply kp_transR; assumption; kxs_still)
    | (apply kp_freshR; assumption; (next => kaf_suf); kxs_still))
set_option hygiene false in
local macro_rules
  | `(tactic| kaf_suf) => `(tactic| first
    | assumption
    | exact subNil
    | (apply subCons; (first | (apply Or.inl; o_fieldsN) | (apply Or.inr; kba_ints)); kaf_suf)
    | (apply subApp; (next => kaf_suf); kaf_suf))
set_option hygiene false in
local macro_rules
  | `(tactic| o_fieldsN) => `(tactic| first
    | assumption
    | exact memA
    | (apply memB; o_fieldsN)
    | (apply memL; o_fieldsN)
    | (apply memR; o_fieldsN))
set_option hygiene false in
local macro_rules
  | `(tactic| kd_subs) => `(tactic| first
    | assumption
    | exact Same.refl _
    | (apply same_putF; assumption; kd_subs)
    | (apply same_putG; assumption; kd_subs)
    | (apply same_putF; (next => kba_ints); kd_subs)
    | (apply same_transR; assumption; kd_subs))

section
variable {P : Program} {w : World} {K : PySem.W.Frag} {mg : Str → Option Value} {base : Heap} {n : Nat}
theorem Mu.put1 {H H1 : Hp} {cs : List Addr} {c C dx : Addr} {fs : List (Str × V)} (t : Mu H cs) (k : Kp [c] H H1) (h : H1 c = some (.ins C dx fs)) : Mu H1 cs := t.kp k (mu_ins h mu_nil)
theorem Mu.over {H1 H2 : Hp} {cs uv : List Addr} {sl : Addr} (t : Mu H1 cs) (k : Kp (sl :: uv) H1 H2) (m : Mu H2 uv) (n : sl ∉ cs) : Mu H2 cs := fun a ha => by
  by_cases e : a ∈ uv
  · exact m a e
  · obtain ⟨o, h1, h2⟩ := t a ha
    exact ⟨o, k.at_ _ _ h1 (not_cons (fun z => n (by rw [← z]; exact ha)) e), h2⟩
theorem Mu.dj {H2 H3 : Hp} {ds uv : List Addr} (m : Mu H2 uv) (k : Kp ds H2 H3) (d : ∀ a ∈ ds, a ∉ uv) : Mu H3 uv := fun a ha => (m a ha).imp fun _ z => ⟨k.at_ _ _ z.1 fun w => d a w ha, z.2⟩
theorem last_mem {n i : Nat} (h : i ∈ List.range' (n + 1 - low (n + 1)) (low (n + 1))) : i < n + 1 := by
  have := List.mem_range'_1.mp h
  have := low_le (n + 1) (Nat.succ_ne_zero _)
  omega
def lastNs (n : Nat) : List Nat := List.range' (n + 1 - low (n + 1)) (low (n + 1))
theorem sub3 {b c l : Addr} {cs : List Addr} (h1 : b ∈ cs) (h2 : c ∈ cs) (h3 : l ∈ cs) : ∀ a ∈ [b, c, l], a ∈ cs := subCons h1 (subCons h2 (subCons h3 subNil))
theorem subA {l m cs : List Addr} (h : ∀ a ∈ l, a ∈ cs) (t : ∀ a ∈ m, a ∈ cs) : ∀ a ∈ l ++ m, a ∈ cs := fun a e => (List.mem_append.mp e).elim (h a) (t a)
def spAdd (P : Program) (w : World) (K : PySem.W.Frag) (mg : Str → Option Value) (base : Heap) (CB CC CU CA : Addr) (n : Nat) : Sp := fun vs H Q _ => ∃ (cs uv : List Addr) (b c l : Addr) (fb fa fj z : V) (UR : List Ev → Hp → Prop) (Mem : V → Hp → Prop) (Blk : List V → V → Hp → Prop) (Qst : V → Hp → Prop) (Ans : V → List V → V → Hp → Prop)
  (ms : List V) (es : List Ent) (u : List Ev) (m : V), vs = [.ref b, m] ∧ US P w K mg base n cs uv fb fa fj UR Mem Blk Qst Ans ∧ Coll CB CC CU CA cs b c l fb fa fj z Mem Blk ms es H ∧ (∀ a ∈ [b, c, l], a ∉ uv) ∧ UR u H ∧ Mem m H ∧ u.length < 90000 ∧ es.length < 90000 ∧ ms.length < 900 ∧
  ∀ blk H', Kp ([b, c, l] ++ uv) H H' → Mu H' uv → Coll CB CC CU CA cs b c l fb fa fj z Mem Blk (ms ++ [m]) (es ++ [.build (lastNs ms.length)]) H' → UR (u ++ [.build (lastNs ms.length) (pick (ms ++ [m]) (lastNs ms.length)) blk]) H' → Q (.int ms.length) H'
theorem ok_add (T : Txt K mg) : FnOk P w K mg base CX0 (n + 5) T.f_Blocks_add T.d_Blocks_add ["self", "member"] (spAdd P w K mg base T.C_Blocks T.C_Calls T.C_Builder T.C_Asker n) := by
  have G_Calls_check := ok_chk (P := P) (w := w) (base := base) T
  have G_Builder_grown_row := ok_grow (P := P) (w := w) (base := base) (n := n) T
  refine T.F_Blocks_add.ok sc_Blocks_add (fun vs H Q E h => ?_) (fun cdv A outer s H vs Q E hr h => ?_)
  · obtain ⟨cs, uv, b, c, l, fb, fa, fj, z, UR, Mem, Blk, Qst, Ans, ms, es, u, m, rfl, _⟩ := h
    rfl
  · obtain ⟨cs, uv, b, c, l, fb, fa, fj, z, UR, Mem, Blk, Qst, Ans, ms, es, u, m, rfl, U, ⟨⟨dx, bu, bdx, k, hh, p, hb, hbu, dbu, ⟨⟨cdx, kdx, ps, ls, hc, hl, hlog, hk, hh', hp, hps, hns⟩, hm, mu, ⟨i1, i2, i3⟩, ⟨oc, ol⟩⟩⟩, ob⟩, du, hu, hmm, lu, le, lm, q⟩ := h
    refine ⟨_, (pss_cons (ps_expr (pe_meth0 (pe_fld (pv 0) rfl) T.cl_Calls ⟨T.m_Calls_check, T.t_Calls_check, T.k_Calls_check⟩ G_Calls_check (hr.mono (by omega)) T.b_Calls_check .nil pass0))
      (pss_cons (ps_set (i := 2) sc_Blocks_add.nd rfl (.inl rfl) (pe_callB call_len_seq (by rfl) T.z_len (by decide +kernel) (pa_cons (pe_fld (pv 0) rfl) pa_nil)))
      (pss_cons (ps_set (i := 3) sc_Blocks_add.nd rfl (.inl rfl) (pe_op op_cat (pe_fld (pv 0) rfl) (pe_lst (pa_cons (pv 1) pa_nil))))
      (pss_cons (ps_fld (pv 0) (pe_meth (pe_fld (pv 0) rfl) T.cl_Builder ⟨T.m_Builder_grown_row, T.t_Builder_grown_row, T.k_Builder_grown_row⟩ G_Builder_grown_row (hr.mono (by omega)) T.bd_Builder_grown_row T.vd_Builder_grown_row pass0 (pa_cons (pe_fld (pv 0) rfl) (pa_cons (pv 2) (pa_cons (pv 2) (pa_cons (pv 3) pa_nil))))) rfl)
      (pss_cons (ps_fld (pv 0) (pv 3) rfl)
      (pss_one (ps_ret (pv 2)))))))), ?_⟩
    obtain ⟨b1, b2, b3⟩ := bns_step ms.length
    have hS := T.S_Builder_grown_row
    have lp : ps.length = (bns ms.length).length := by rw [← hns, List.length_map]
    have lb := bl_len ms.length
    have b1' : expo (ms.length + 1) ≤ ps.length := by rw [lp]; exact b1
    rw [bns_len] at lp
    have hnum : nums ps = List.range' 0 ms.length := by
      rw [← bns_flat, ← hns]
      rfl
    have hnd : nums (ps.drop (ps.length - expo (ms.length + 1))) ++ [ms.length] = lastNs ms.length := by
      unfold lastNs
      rw [← b2, ← hns, List.length_map, ← List.map_drop]
      rfl
    have lns : ∀ i ∈ lastNs ms.length, i < (ms ++ [m]).length := fun i hi => by
      have := last_mem hi
      rw [List.length_append]
      exact this
    have ll : (lastNs ms.length).length = low (ms.length + 1) := List.length_range' ..
    have lo := low_le (ms.length + 1) (Nat.succ_ne_zero _)
    have lz := Nat.pos_of_ne_zero (low_ne (ms.length + 1) (Nat.succ_ne_zero _))
    have nbl : b ≠ l := neO hb hl (fun z => nomatch z)
    have ncl : c ≠ l := neO hc hl (fun z => nomatch z)
    have nbc : b ≠ c := neIns hb hc (show (5 : Nat) ≠ 2 by decide)
    have nub : bu ≠ b := fun z => dbu (by rw [z]; exact ob)
    have nuc : bu ≠ c := fun z => dbu (by rw [z]; exact oc)
    have nkb : k ≠ b := fun z => i1 (by rw [z]; exact ob)
    have nkc : k ≠ c := fun z => i1 (by rw [z]; exact oc)
    have npl : p ≠ l := fun z => i3 (by rw [z]; exact ol)
    have nhl : hh ≠ l := fun z => i2 (by rw [z]; exact ol)
    have nul : bu ≠ l := fun z => dbu (by rw [z]; exact ol)
    have nkl : k ≠ l := fun z => i1 (by rw [z]; exact ol)
    have nbv : bu ∉ uv := fun m => dbu (U.sub _ m)
    have nkv : k ∉ uv := fun m => i1 (U.sub _ m)
    o_readsAll
    rename_i m1 n1 h2 n2
    refine ⟨fun x hx => (hps x hx).1.same (by kd_subs), by kp_flats, hS, Nat.zero_le _, by omega, by rw [hnum, List.length_range']; omega, by omega, fun i hi => lns i (by rw [← hnd]; exact hi), ?_⟩
    intro tn te sl g H1 ntn nte nsl ng nsg k1 c1 e1 e2 e3 e4
    rw [hnd] at e1 e3
    have hsl : h2 ≠ sl := neN nsl upd_same
    have fsl : Fr H sl := by kba_ints
    have fg : Fr H g := by kba_ints
    have k01 : True ∧ Kp [c] H H1 := ⟨trivial, by kxs_still⟩
    have mu1 : Mu H1 cs := mu.put1 k01.2 c1
    have nsl' : sl ∉ cs := mu.fr fsl
    have nuv : ∀ {a}, Fr H a → a ∉ uv := fun fa m => mu.fr fa (U.sub _ m)
    have so : ∀ a ∈ [b, c, l], a ∈ cs := sub3 ob oc ol
    have su : ∀ a ∈ [b, c, l] ++ uv, a ∈ cs := subA so U.sub
    have kall : True ∧ Kp cs H H1 := ⟨trivial, kp_more k01.2 fun a m => by rw [List.mem_singleton.mp m]; exact oc⟩
    have o1 := du b (by o_fieldsN)
    have o2 := du c (by o_fieldsN)
    have o3 := du l (by o_fieldsN)
    refine (U.hb (ns := lastNs ms.length) (U.uk hu mu k01.2 (fun a m => by rw [List.mem_singleton.mp m]; exact ⟨oc, o2⟩)) (by omega) mu1 ?_ ?_ ?_ e3 nsl').imp fun v H2 ⟨z1, zn, z2, z3⟩ => ⟨?_, ?_, ls, ?_, ?_, fun qq p2 H3 k3 nq np2 c3 l3 q3 p3 => ?_⟩
    · intro z
      have := congrArg List.length z
      unfold pick at this
      rw [List.length_map, ll] at this
      exact Nat.lt_irrefl 0 (by rw [this] at lz; exact lz)
    · unfold pick
      rw [List.length_map, ll]
      omega
    · intro x hx
      rcases List.mem_append.mp (pick_mem lns hx) with hx | hx
      · exact U.mk' (hm x hx) mu kall.2
      · rw [List.mem_singleton.mp hx]
        exact U.mk' hmm mu kall.2
    · exact z1.at_ _ _ c1 (not_cons (by kbo_bools) o2)
    · exact z1.at_ _ _ e4 (not_cons nsg.symm (nuv fg))
    · exact z1.at_ _ _ (by kp_flats) (not_cons (by kbo_bools) o3)
    · rw [hlog.len, sizeLine_eq]
      omega
    · o_readsAll
      have mu2 : Mu H2 cs := mu1.over z1 zn nsl'
      have kf : True ∧ Kp ([b, c, l] ++ uv) H H3 := ⟨trivial, kp_freshR k3 (by kaf_suf) (kp_freshR z1 (subCons (.inr fsl) fun x hx => .inl (memR hx)) (kp_more k01.2 fun a m => by rw [List.mem_singleton.mp m]; exact memB memA))⟩
      have fte : Fr H te := by kba_ints
      have ftn : Fr H tn := by kba_ints
      have fh2 : Fr H h2 := by kba_ints
      have tes : te ≠ sl := neO e2 e3 (fun z => nomatch z)
      have tns : tn ≠ sl := neO e1 e3 (fun z => nomatch z)
      have nte' := nuv fte
      have ntn' := nuv ftn
      have nh' := nuv fh2
      have nh2 := mu.fr fh2
      have np' := mu2.fr np2
      have kF : ∀ o1 o2, True ∧ Kp ([b, c, l] ++ uv) H (upd (upd H3 b o1) b o2) := fun _ _ => ⟨trivial, kp_up (by o_fieldsN) (kp_up (by o_fieldsN) kf.2)⟩
      have kG : ∀ o1 o2, True ∧ Kp [b, c, l] H2 (upd (upd H3 b o1) b o2) := fun _ _ => ⟨trivial, kp_up (by o_fieldsN) (kp_up (by o_fieldsN) (kp_more k3 fun _ m => memB m))⟩
      have kC : ∀ o1 o2, True ∧ Kp cs H (upd (upd H3 b o1) b o2) := fun _ _ => ⟨trivial, kp_more (kF _ _).2 su⟩
      have kD : ∀ o1 o2, True ∧ Kp cs H2 (upd (upd H3 b o1) b o2) := fun _ _ => ⟨trivial, kp_more (kG _ _).2 so⟩
      have mo : Mu (upd (upd H3 b (.ins T.C_Blocks dx (putF "parts" (.ref p2) [("calls", .ref c), ("builder", .ref bu), ("asker", .ref k), ("held", .ref hh), ("parts", .ref p)]))) b (BlO T.C_Blocks dx c bu k h2 p2)) [b, c, l] :=
        mu_ins (C := T.C_Blocks) (dx := dx) (fs := [("calls", .ref c), ("builder", .ref bu), ("asker", .ref k), ("held", .ref h2), ("parts", .ref p2)]) (by kp_flats) (mu_ins (C := T.C_Calls) (dx := cdx) (fs := [("entries", .ref l), ("running", .bl false)]) (by kp_flats) (mu_lst (xs := ls ++ [.ref te]) (by kp_flats) mu_nil))
      refine q v _ (kF _ _).2 (zn.dj (kG _ _).2 du) ⟨⟨dx, bu, bdx, k, h2, p2, by kp_flats, by kp_flats, dbu, ⟨⟨cdx, kdx, ps.take (ps.length - expo (ms.length + 1)) ++ [⟨qq, tn, lastNs ms.length, v⟩], ls ++ [.ref te], by kp_flats, by kp_flats, ?_, by kp_flats, by kp_flats, ?_, ?_, ?_⟩, ?_, ?_, ⟨i1, nh2, np'⟩, ⟨oc, ol⟩⟩⟩, ob⟩ (U.uk z3 mu2 (kG _ _).2 (fun a m => ⟨so a m, du a m⟩))
      · exact (hlog.kp (kC _ _).2 mu).add ⟨te, tn, rfl, by kp_flats, by kp_flats⟩
      · rw [show tps (ps.take (ps.length - expo (ms.length + 1)) ++ [⟨qq, tn, lastNs ms.length, v⟩]) = tps (ps.take (ps.length - expo (ms.length + 1))) ++ [.ref qq] from List.map_append ..]
        kp_flats
      · intro x hx
        rcases List.mem_append.mp hx with hx | hx
        · obtain ⟨y1, y2⟩ := hps x (List.mem_of_mem_take hx)
          refine ⟨y1.kp (kC _ _).2 mu, ?_⟩
          rw [pick_more]
          · exact U.bk y2 mu (kC _ _).2
          · have : x.ns ∈ bns ms.length := by rw [← hns]; exact List.mem_map_of_mem (List.mem_of_mem_take hx)
            exact (bns_mem this).1
        · rw [List.mem_singleton.mp hx]
          exact ⟨⟨by kp_flats, by kp_flats⟩, U.bk z2 mu2 (kD _ _).2⟩
      · rw [List.map_append, List.map_take, hns, List.length_append]
        show _ = bns (ms.length + 1)
        rw [b3, bns_len, lp]
        rfl
      · intro x hx
        rcases List.mem_append.mp hx with hx | hx
        · exact U.mk' (hm x hx) mu (kC _ _).2
        · rw [List.mem_singleton.mp hx]
          exact U.mk' hmm mu (kC _ _).2
      · exact mu2.kp (kG _ _).2 mo
end
end Ob

set_option Elab.async false
set_option linter.all false
set_option maxRecDepth 100000
set_option maxHeartbeats 1000000
namespace Ob
open PySem PySem.Spec PyProof.Rows L2
open LamX (Tabs TabB TabS ExtN)

set_option hygiene false in
local macro_rules
  | `(tactic| kp_flats) => `(tactic| first
    | assumption
    | exact upd_same
    | (apply atNew; assumption; kp_flats)
    | (apply atNe; (next => kbo_bools); kp_flats)
    | (apply atSame; assumption; kp_flats)
    | (apply atKp; assumption; (next => kaf_pre); kp_flats))
set_option hygiene false in
local macro_rules
  | `(tactic| kaf_pre) => `(tactic| first
    | assumption
    | exact not_nil
    | (apply not_cons; (next => kbo_bools); kaf_pre)
    | (apply not_app; (next => kaf_pre); kaf_pre))
set_option hygiene false in
local macro_rules
  | `(tactic| kbo_bools) => `(tactic| first
    | assumption
    | (apply Ne.symm; assumption)
    | (apply neN; assumption; kp_flats)
    | (apply neN'; assumption; kp_flats))
set_option hygiene false in
local macro_rules
  | `(tactic| o_reads) => `(tactic| first
    | with_reducible rfl
    | assumption
    | rfl
    | kp_flats
    | (show SqL _ _ _ _; first | assumption | (apply sqlOf; kp_flats) | (apply sqlSame; assumption; o_reads))
    | (show SqT _ _ _ _; first | assumption | (apply sqtOf; kp_flats) | (apply sqtAll; assumption) | (apply sqtSame; assumption; o_reads))
    | (show Cls _ _; first | exact T.cl_Calls | exact T.cl_Asker | exact T.cl_Builder | exact T.cl_Blocks | exact T.cl_Version)
    | (show NoAttr _ _ _; first | exact T.n_Calls_entries | exact T.n_Calls_running | exact T.n_Asker_calls | exact T.n_Asker_ask_call | exact T.n_Asker_join_call | exact T.n_Asker_zero | exact T.n_Builder_calls | exact T.n_Builder_build_call | exact T.n_Blocks_calls | exact T.n_Blocks_builder | exact T.n_Blocks_asker | exact T.n_Blocks_held | exact T.n_Blocks_parts | exact T.n_Version_calls | exact T.n_Version_asker | exact T.n_Version_held | exact T.n_Version_parts)
    | (apply Or.inl; o_reads)
    | (apply Or.inr; o_reads)
    | (apply And.intro; (next => o_reads); o_reads)
    | (apply Exists.intro; o_reads)
    | exact Nat.le_of_ble_eq_true rfl
    | exact Nat.succ_ne_zero _
    | (show Fr _ _; kba_ints)
    | (show Same _ _; kd_subs)
    | (show Kp _ _ _; kxs_still)
    | (show (_ : Nat) ≤ _; simp only [List.length_append, List.length_map, List.length_cons, List.length_nil, List.length_take, List.length_drop, List.length_replicate, List.length_range, sizeLine_eq]; omega)
    | (show _ = none; apply Fr.h; kba_ints)
    | (show Bag _ _; first | assumption | (apply bag_putF; assumption; o_reads) | (apply bag_neF; (next => kbo_bools); o_reads) | (apply bag_kpR; assumption; (next => kaf_pre); o_reads))
    | omega
    | decide)
local macro_rules
  | `(tactic| o_readsAll) => `(tactic| repeat (first
    | (refine fun (pNew : Addr) (nNew : _ = none) => ?_; replace nNew := Fr.mk nNew)
    | (refine fun (xNew dNew : Addr) (nNew : _ = none) (mNew : _ = none) (eNew : dNew ≠ xNew) => ?_; replace nNew := Fr.mk nNew; replace mNew := Fr.mk mNew)
    | (apply And.intro; next => o_reads)
    | apply Exists.intro (α := V)
    | apply Exists.intro (α := Addr)
    | apply Exists.intro (α := Int)
    | apply Exists.intro (α := Bool)
    | apply Exists.intro (α := List V)
    | apply Exists.intro (α := List Nat)
    | apply Exists.intro (α := List (Str × V))
    | apply Exists.intro (α := List _)
    | apply Exists.intro (α := Str)
    | apply Exists.intro (α := HO)
    | apply Exists.intro (α := Sp)
    | apply Exists.intro (α := VK)))
set_option hygiene false in
local macro_rules
  | `(tactic| kba_ints) => `(tactic| first
    | assumption
    | (apply frUp; (first | assumption | (apply Ne.symm; assumption)); kba_ints)
    | (apply noneOf; assumption; intro oF eF; apply Exists.intro; kp_flats)
    | (apply frUp; (next => kbo_bools); kba_ints))
set_option hygiene false in
local macro_rules
  | `(tactic| kxs_still) => `(tactic| first
    | assumption
    | exact kp_refl _ _
    | (apply kp_newF; assumption; kxs_still)
    | (apply kp_new; assumption; kxs_still)
    | (apply kp_up; (next => o_fieldsN); kxs_still)
    | (apply kp_new; (next => kba_ints); kxs_still)
    | (apply kp_sameR; assumption; kxs_still)
    | (apply kp_transR; assumption; kxs_still)
    | (apply kp_freshR; assumption; (next => kaf_suf); kxs_still))
set_option hygiene false in
local macro_rules
  | `(tactic| kaf_suf) => `(tactic| first
    | assumption
    | exact subNil
    | (apply subCons; (first | (apply Or.inl; o_fieldsN) | (apply Or.inr; kba_ints)); kaf_suf)
    | (apply subApp; (next => kaf_suf); kaf_suf))
set_option hygiene false in
local macro_rules
  | `(tactic| o_fieldsN) => `(tactic| first
    | assumption
    | exact memA
    | (apply memB; o_fieldsN)
    | (apply memL; o_fieldsN)
    | (apply memR; o_fieldsN))
set_option hygiene false in
local macro_rules
  | `(tactic| kd_subs) => `(tactic| first
    | assumption
    | exact Same.refl _
    | (apply same_putF; assumption; kd_subs)
    | (apply same_putG; assumption; kd_subs)
    | (apply same_putF; (next => kba_ints); kd_subs)
    | (apply same_transR; assumption; kd_subs))

/-- the entries of a question -/
def qents : Nat → List (List Nat) → List Ent
  | _, [] => []
  | m, x :: l => .ask x :: ((if m = 0 then [] else [.join m x.length]) ++ qents (m + x.length) l)
theorem qents_add : ∀ (m : Nat) (l : List (List Nat)) (x : List Nat), qents m (l ++ [x]) = qents m l ++ (.ask x :: (if m + l.flatten.length = 0 then [] else [.join (m + l.flatten.length) x.length]))
  | m, [], x => by
    show Ent.ask x :: ((if m = 0 then [] else [Ent.join m x.length]) ++ []) = _
    rw [List.append_nil]
    rfl
  | m, y :: l, x => by
    show Ent.ask y :: (_ ++ qents (m + y.length) (l ++ [x])) = Ent.ask y :: (_ ++ qents (m + y.length) l) ++ _
    rw [qents_add (m + y.length) l x, List.flatten_cons, List.length_append, Nat.add_assoc, List.cons_append, List.append_assoc]
/-- the calls of a question: what each was given and gave -/
inductive QEv (Ans : V → List V → V → Hp → Prop) (qn : V) (ms : List V) (H : Hp) : List (List Nat) → List Ev → Prop where
  | nil : QEv Ans qn ms H [] []
  | one {ns : List Nat} {blk v : V} (h : Ans qn (pick ms ns) v H) : QEv Ans qn ms H [ns] [.ask ns (pick ms ns) blk qn v]
  | more {nss : List (List Nat)} {evs : List Ev} {ns : List Nat} {blk a b v : V} (t : QEv Ans qn ms H nss evs) (n : nss.flatten ≠ []) (h1 : Ans qn (pick ms nss.flatten) a H) (h2 : Ans qn (pick ms ns) b H) : QEv Ans qn ms H (nss ++ [ns]) (evs ++ [.ask ns (pick ms ns) blk qn b] ++ [.join nss.flatten.length ns.length a b v])
theorem QEv.ents {Ans : V → List V → V → Hp → Prop} {qn : V} {ms : List V} {H : Hp} {nss : List (List Nat)} {evs : List Ev} (h : QEv Ans qn ms H nss evs) : evs.map Ev.ent = qents 0 nss := by
  induction h with
  | nil => rfl
  | one h => rfl
  | more t n h1 h2 ih =>
    rw [List.map_append, List.map_append, ih, qents_add, Nat.zero_add, if_neg (fun z => n (List.length_eq_zero_iff.mp z)), List.append_assoc]
    rfl
theorem QEv.imp {Ans : V → List V → V → Hp → Prop} {qn : V} {ms : List V} {H H1 : Hp} {nss : List (List Nat)} {evs : List Ev} (h : QEv Ans qn ms H nss evs) (f : ∀ xs v, Ans qn xs v H → Ans qn xs v H1) : QEv Ans qn ms H1 nss evs := by
  induction h with
  | nil => exact .nil
  | one h => exact .one (f _ _ h)
  | more t n h1 h2 ih => exact .more ih n (f _ _ h1) (f _ _ h2)
section
variable {P : Program} {w : World} {K : PySem.W.Frag} {mg : Str → Option Value} {base : Heap} {n : Nat}
theorem sub2 {c l : Addr} {cs : List Addr} (h2 : c ∈ cs) (h3 : l ∈ cs) : ∀ a ∈ [c, l], a ∈ cs := subCons h2 (subCons h3 subNil)
theorem subT {c : Addr} {cs : List Addr} (h : c ∈ cs) : ∀ a ∈ [c], a ∈ cs := subCons h subNil
/-- asking the parts: what Asker.answer wants -/
theorem ans_core {cs uv : List Addr} {c l k hh p e : Addr} {fb fa fj z qn : V} {UR : List Ev → Hp → Prop} {Mem : V → Hp → Prop} {Blk : List V → V → Hp → Prop} {Qst : V → Hp → Prop} {Ans : V → List V → V → Hp → Prop} {ms : List V} {es : List Ent} {u : List Ev} {H : Hp} {Q : VK} {E : XK} (CC CA : Addr)
    (U : US P w K mg base n cs uv fb fa fj UR Mem Blk Qst Ans) (C : Core CC CA cs c l k hh p fa fj z Mem Blk ms es H) (d1 : c ∉ uv) (d2 : l ∉ uv) (hu : UR u H) (hqn : Qst qn H) (lu : u.length < 90000) (le : es.length < 90000) (lm : ms.length < 900) (hS : ∀ H, SqT K H e [])
    (q : ∀ v evs H', Kp ([c, l] ++ uv) H H' → Mu H' uv → Core CC CA cs c l k hh p fa fj z Mem Blk ms (es ++ evs.map Ev.ent) H' → UR (u ++ evs) H' → QEv Ans qn ms H' (bns ms.length) evs → (ms = [] → v = z ∧ H' = H) → (ms ≠ [] → Ans qn ms v H') → Q v H') :
    spAns P w K mg base CC CA n [.ref k, .ref p, qn, .ref e] H Q E := by
  obtain ⟨⟨cdx, kdx, ps, ls, hc, hl, hlog, hk, hh', hp, hps, hns⟩, hm, mu, ⟨i1, i2, i3⟩, ⟨oc, ol⟩⟩ := C
  have lp : ps.length = (bns ms.length).length := by rw [← hns, List.length_map]
  have lb := bl_len ms.length
  rw [bns_len] at lp
  have hnum : nums ps = List.range' 0 ms.length := by
    rw [← bns_flat, ← hns]
    rfl
  have ncl : c ≠ l := neO hc hl (fun z => nomatch z)
  have nkl : k ≠ l := fun z => i1 (by rw [z]; exact ol)
  have nkc : k ≠ c := fun z => i1 (by rw [z]; exact oc)
  have npc : p ≠ c := fun z => i3 (by rw [z]; exact oc)
  have npl : p ≠ l := fun z => i3 (by rw [z]; exact ol)
  have so : ∀ a ∈ [c, l], a ∈ cs := sub2 oc ol
  have su : ∀ a ∈ [c, l] ++ uv, a ∈ cs := subA so U.sub
  have nku : k ∉ [c, l] ++ uv := fun m => i1 (su _ m)
  have npu : p ∉ [c, l] ++ uv := fun m => i3 (su _ m)
  have cl : ∀ a ∈ [c], a ∈ cs ∧ a ∉ uv := subCons ⟨oc, d1⟩ subNil
  have cl2 : ∀ a ∈ [c, l], a ∈ cs ∧ a ∉ uv := subCons ⟨oc, d1⟩ (subCons ⟨ol, d2⟩ subNil)
  have dj : ∀ a ∈ [c, l], a ∉ uv := fun a m => (cl2 a m).2
  refine ⟨k, kdx, c, cdx, l, p, e, fa, fj, z, qn, ps, [], fun i v H' => ∃ evs vs', QEv Ans qn ms H' ((bns ms.length).take i) evs ∧ evs.length ≤ 2 * i ∧ H' c = some (CO CC cdx l false) ∧ H' l = some (.lst vs') ∧ LogAt [] H' vs' (es ++ evs.map Ev.ent) ∧
      UR (u ++ evs) H' ∧ Mu H' uv ∧ Kp ([c, l] ++ uv) H H' ∧ (i = 0 → v = z ∧ H' = H) ∧ (i ≠ 0 → Ans qn (pick ms (nums (ps.take i))) v H'), rfl, hS, by decide, hk, ?_, ?_, ?_, ?_⟩
  · refine ⟨[], ls, (QEv.nil : QEv Ans qn ms H [] []), Nat.zero_le _, hc, hl, ?_, ?_, mu.sub U.sub, kp_refl _ _, fun _ => ⟨rfl, rfl⟩, fun n => absurd rfl n⟩
    · rw [List.map_nil, List.append_nil]
      exact hlog
    · rw [List.append_nil]
      exact hu
  · rintro i v H' _ ⟨evs, vs', j1, j2, j4, j5, j6, j7, j8, j9, j10, j11⟩
    exact ⟨j9.at_ _ _ hk nku, j4, j9.at_ _ _ hp npu⟩
  · rintro i v H' x hx ⟨evs, vs', j1, j2, j4, j5, j6, j7, j8, j9, j10, j11⟩
    have hxm := List.mem_of_getElem? hx
    have hi : i < ps.length := (List.getElem?_eq_some_iff.mp hx).1
    obtain ⟨x1, x2⟩ := hps x hxm
    have hxn : x.ns ∈ bns ms.length := by
      rw [← hns]
      exact List.mem_map_of_mem hxm
    obtain ⟨x3, x4⟩ := bns_mem hxn
    have j9s : True ∧ Kp cs H H' := ⟨trivial, kp_more j9 su⟩
    have mo' : Mu H' [c, l] := mu_ins j4 (mu_lst j5 mu_nil)
    have mu' : Mu H' cs := mu.kp j9 (mu_app mo' j8)
    refine ⟨x1.kp j9s.2 mu, List.length_pos_iff.mpr x4, fun te H1 nte k1 c1 e1 => ?_⟩
    have hti : (bns ms.length).take i = (ps.take i).map Part.ns := by rw [← hns, List.map_take]
    have hfl : ((bns ms.length).take i).flatten = nums (ps.take i) := by
      rw [hti]
      rfl
    have hsu : (bns ms.length).take (i + 1) = (bns ms.length).take i ++ [x.ns] := by
      rw [List.take_succ, ← hns, List.getElem?_map, hx]
      rfl
    have hpos : i ≠ 0 → nums (ps.take i) ≠ [] := fun n0 z => by
      have h0 : 0 < ps.length := by omega
      have m0 : ps[0] ∈ ps.take i := List.mem_take_iff_getElem.mpr ⟨0, by omega, rfl⟩
      have m1 : ps[0].ns ∈ bns ms.length := by rw [← hns]; exact List.mem_map_of_mem (List.mem_of_mem_take m0)
      refine (bns_mem m1).2 (List.eq_nil_iff_forall_not_mem.mpr fun a ha => ?_)
      have : a ∈ nums (ps.take i) := List.mem_flatMap.mpr ⟨_, m0, ha⟩
      rw [z] at this
      cases this
    have hev : evs.length ≤ 1800 := by omega
    have hvl : vs'.length = es.length + evs.length := by rw [j6.len, List.length_append, List.length_map]
    have k1s : True ∧ Kp cs H' H1 := ⟨trivial, kp_more k1 (subT oc)⟩
    have mu1 : Mu H1 cs := mu'.put1 k1 c1
    have f2 : te ≠ l := by kbo_bools
    have f1 : te ≠ c := by kbo_bools
    have f3 : te ∉ uv := fun m => mu'.fr nte (U.sub _ m)
    refine (U.ha (u := u ++ evs) (ns := x.ns) (U.uk j7 mu' k1 cl) (by rw [List.length_append]; omega) mu1 (U.qk (U.qk hqn mu j9s.2) mu' k1s.2) (U.bk (U.bk x2 mu j9s.2) mu' k1s.2)).imp fun v1 H2 ⟨z1, zn, z2, z3⟩ => ⟨z1.at_ _ _ c1 d1, vs', z1.at_ _ _ (by kp_flats) d2, by rw [hvl, sizeLine_eq]; omega, fun H3 k3 c3 l3 => ?_⟩
    have mu2 : Mu H2 cs := mu1.kp z1 zn
    have mu3 : Mu H3 cs := mu2.kp k3 (mu_ins c3 (mu_lst l3 mu_nil))
    have zn3 : Mu H3 uv := mu3.sub U.sub
    have kB : True ∧ Kp ([c, l] ++ uv) H' H3 := ⟨trivial, kp_trans (kp_trans (kp_more k1 fun a m => by rw [List.mem_singleton.mp m]; exact memA) (kp_more z1 fun a m => memR m)) (kp_more k3 fun a m => memL m)⟩
    have kBs : True ∧ Kp cs H' H3 := ⟨trivial, kp_more kB.2 su⟩
    have kC : True ∧ Kp cs H2 H3 := ⟨trivial, kp_more k3 so⟩
    have e3 : H3 te = some (.tup (.str "ask" :: ([] ++ [.ref x.tn]))) := kp_tup kC.2 mu2 (kp_tup (kp_more z1 U.sub) mu1 e1)
    have en3 : EntAt [] H3 (.ref te) (.ask x.ns) := ⟨te, x.tn, rfl, e3, kp_tup kBs.2 mu' (kp_tup j9s.2 mu x1.n)⟩
    refine ⟨fun e0 => ?_, fun e0 => ⟨?_, fun t2 H4 nt2 k4 c4 e4 => ?_⟩⟩
    · subst e0
      obtain rfl : evs = [] := List.map_eq_nil_iff.mp j1.ents
      refine ⟨[] ++ [.ask x.ns (pick ms x.ns) x.blk qn v1], vs' ++ [.ref te], ?_, ?_, c3, l3, ?_, ?_, zn3, kp_trans j9 kB.2, fun z => by omega, fun _ => ?_⟩
      · rw [hsu]
        exact (QEv.one (U.ak z2 mu2 kC.2) : QEv Ans qn ms H3 [x.ns] [.ask x.ns (pick ms x.ns) x.blk qn v1])
      · rw [List.length_append]
        show _ + 1 ≤ _
        omega
      · rw [List.map_append, ← List.append_assoc]
        exact (j6.kp kBs.2 mu').add en3
      · rw [← List.append_assoc]
        exact U.uk z3 mu2 k3 cl2
      · rw [nums_take hx, pick_app]
        exact U.ak z2 mu2 kC.2
    · exact (kp_trans j9 kB.2).at_ _ _ hk nku
    · have k4s : True ∧ Kp cs H3 H4 := ⟨trivial, kp_more k4 (subT oc)⟩
      have kD : True ∧ Kp cs H H4 := ⟨trivial, kp_trans (kp_trans j9s.2 kBs.2) k4s.2⟩
      have mu4 : Mu H4 cs := mu3.put1 k4 c4
      have f5 : t2 ≠ l := by kbo_bools
      have mm : 0 + ((bns ms.length).take i).flatten.length = manyOf (ps.take i) := by
        rw [hfl, Nat.zero_add]
        rfl
      have mp : manyOf (ps.take i) ≠ 0 := fun z => hpos e0 (List.length_eq_zero_iff.mp z)
      have a3 : Ans qn (pick ms x.ns) v1 H4 := U.ak (U.ak z2 mu2 kC.2) mu3 k4s.2
      have a4 : Ans qn (pick ms (nums (ps.take i))) v H4 := U.ak (U.ak (j11 e0) mu' kBs.2) mu3 k4s.2
      refine (U.hj (u := u ++ evs ++ [.ask x.ns (pick ms x.ns) x.blk qn v1]) (m := manyOf (ps.take i)) (k := x.ns.length) (U.uk (U.uk z3 mu2 k3 cl2) mu3 k4 cl) (by rw [List.length_append, List.length_append]; show _ + 1 < _; omega) mu4 (U.qk hqn mu kD.2) a4 a3 ?_ ?_ ?_ ?_ ?_).imp fun v2 H5 ⟨y1, yn, y2, y3⟩ => ⟨y1.at_ _ _ c4 d1, vs' ++ [.ref te], y1.at_ _ _ (by kp_flats) d2, by rw [List.length_append, hvl, sizeLine_eq]; show _ + 1 < _; omega, fun H6 k6 c6 l6 => ?_⟩
      · intro z
        refine hpos e0 (List.length_eq_zero_iff.mp ?_)
        have := congrArg List.length z
        unfold pick at this
        rw [List.length_map] at this
        exact this
      · intro z
        refine x4 (List.length_eq_zero_iff.mp ?_)
        have := congrArg List.length z
        unfold pick at this
        rw [List.length_map] at this
        exact this
      · exact List.length_map ..
      · exact List.length_map ..
      · have z1 := nums_le ps (i + 1)
        rw [nums_take hx, List.length_append, hnum, List.length_range'] at z1
        show (nums (ps.take i)).length + x.ns.length ≤ 1000
        omega
      have mu5 : Mu H5 cs := mu4.kp y1 yn
      have mu6 : Mu H6 cs := mu5.kp k6 (mu_ins c6 (mu_lst l6 mu_nil))
      have kG : True ∧ Kp cs H5 H6 := ⟨trivial, kp_more k6 so⟩
      have kF : True ∧ Kp ([c, l] ++ uv) H3 H6 := ⟨trivial, kp_trans (kp_trans (kp_more k4 fun a m => by rw [List.mem_singleton.mp m]; exact memA) (kp_more y1 fun a m => memR m)) (kp_more k6 fun a m => memL m)⟩
      have kFs : True ∧ Kp cs H3 H6 := ⟨trivial, kp_more kF.2 su⟩
      have e6 : H6 t2 = some (.tup (.str "join" :: ([] ++ [.int (manyOf (ps.take i) : Nat), .int (x.ns.length : Nat)]))) := kp_tup kG.2 mu5 (kp_tup (kp_more y1 U.sub) mu4 e4)
      refine ⟨evs ++ [.ask x.ns (pick ms x.ns) x.blk qn v1] ++ [.join (manyOf (ps.take i)) x.ns.length v v1 v2], vs' ++ [.ref te] ++ [.ref t2], ?_, ?_, c6, l6, ?_, ?_, mu6.sub U.sub, kp_trans (kp_trans j9 kB.2) kF.2, fun z => by omega, fun _ => ?_⟩
      · have em : manyOf (ps.take i) = ((bns ms.length).take i).flatten.length := by rw [hfl]; rfl
        rw [hsu, em]
        exact .more (j1.imp fun xs v h => U.ak (U.ak h mu' kBs.2) mu3 kFs.2) (by rw [hfl]; exact hpos e0) (by rw [hfl]; exact U.ak (U.ak (j11 e0) mu' kBs.2) mu3 kFs.2) (U.ak (U.ak z2 mu2 kC.2) mu3 kFs.2)
      · rw [List.length_append, List.length_append]
        show _ + 1 + 1 ≤ _
        omega
      · rw [List.map_append, List.map_append, ← List.append_assoc, ← List.append_assoc]
        exact (((j6.kp kBs.2 mu').add en3).kp kFs.2 mu3).add ⟨t2, rfl, e6⟩
      · rw [← List.append_assoc, ← List.append_assoc]
        exact U.uk y3 mu5 k6 cl2
      · rw [nums_take hx, pick_app]
        exact U.ak y2 mu5 kG.2
  · rintro v H' ⟨evs, vs', j1, j2, j4, j5, j6, j7, j8, j9, j10, j11⟩
    have j9s : True ∧ Kp cs H H' := ⟨trivial, kp_more j9 su⟩
    have mo' : Mu H' [c, l] := mu_ins j4 (mu_lst j5 mu_nil)
    rw [lp, ← bns_len, List.take_length] at j1
    have hz : ps.length = 0 ↔ ms = [] := by
      rw [lp]
      constructor
      · intro z
        have := bns_flat ms.length
        rw [show bns ms.length = [] from List.length_eq_zero_iff.mp ((bns_len _).trans z)] at this
        have := congrArg List.length this
        rw [List.length_range'] at this
        exact List.length_eq_zero_iff.mp this.symm
      · intro z
        rw [z]
        show (bl 0).length = 0
        rw [bl_zero]
        rfl
    refine q v evs H' j9 j8 ⟨⟨cdx, kdx, ps, vs', j4, j5, j6, j9.at_ _ _ hk nku, j9.at_ _ _ hh' (fun m => i2 (su _ m)), j9.at_ _ _ hp npu, fun x hx => ⟨(hps x hx).1.kp j9s.2 mu, U.bk (hps x hx).2 mu j9s.2⟩, hns⟩, fun x hx => U.mk' (hm x hx) mu j9s.2, mu.kp j9 (mu_app mo' j8), ⟨i1, i2, i3⟩, ⟨oc, ol⟩⟩ j7 j1 (fun z => j10 (hz.mpr z)) (fun z => ?_)
    have := j11 fun y => z (hz.mp y)
    rw [List.take_length, hnum, pick_all] at this
    exact this
def spQry (P : Program) (w : World) (K : PySem.W.Frag) (mg : Str → Option Value) (base : Heap) (CB CC CU CA : Addr) (n : Nat) : Sp := fun vs H Q _ => ∃ (cs uv : List Addr) (b c l : Addr) (fb fa fj z : V) (UR : List Ev → Hp → Prop) (Mem : V → Hp → Prop) (Blk : List V → V → Hp → Prop) (Qst : V → Hp → Prop) (Ans : V → List V → V → Hp → Prop)
  (ms : List V) (es : List Ent) (u : List Ev) (qn : V), vs = [.ref b, qn] ∧ US P w K mg base n cs uv fb fa fj UR Mem Blk Qst Ans ∧ Coll CB CC CU CA cs b c l fb fa fj z Mem Blk ms es H ∧ (∀ a ∈ [b, c, l], a ∉ uv) ∧ UR u H ∧ Qst qn H ∧ u.length < 90000 ∧ es.length < 90000 ∧ ms.length < 900 ∧
  ∀ v evs H', Kp ([c, l] ++ uv) H H' → Mu H' uv → Coll CB CC CU CA cs b c l fb fa fj z Mem Blk ms (es ++ evs.map Ev.ent) H' → UR (u ++ evs) H' → QEv Ans qn ms H' (bns ms.length) evs → (ms = [] → v = z ∧ H' = H) → (ms ≠ [] → Ans qn ms v H') → Q v H'
theorem ok_qry (T : Txt K mg) : FnOk P w K mg base CX0 (n + 3) T.f_Blocks_query T.d_Blocks_query ["self", "question"] (spQry P w K mg base T.C_Blocks T.C_Calls T.C_Builder T.C_Asker n) := by
  have G_Calls_check := ok_chk (P := P) (w := w) (base := base) T
  have G_Asker_answer := fnBx (ok_ans (P := P) (w := w) (base := base) (n := n) T)
  refine T.F_Blocks_query.ok sc_Blocks_query (fun vs H Q E h => ?_) (fun cdv A outer s H vs Q E hr h => ?_)
  · obtain ⟨cs, uv, b, c, l, fb, fa, fj, z, UR, Mem, Blk, Qst, Ans, ms, es, u, m, rfl, _⟩ := h
    rfl
  · obtain ⟨cs, uv, b, c, l, fb, fa, fj, z, UR, Mem, Blk, Qst, Ans, ms, es, u, qn, rfl, U, ⟨⟨dx, bu, bdx, k, hh, p, hb, hbu, dbu, C⟩, ob⟩, du, hu, hqn, lu, le, lm, q⟩ := h
    refine ⟨_, (pss_cons (ps_expr (pe_meth0 (pe_fld (pv 0) rfl) T.cl_Calls ⟨T.m_Calls_check, T.t_Calls_check, T.k_Calls_check⟩ G_Calls_check (hr.mono (by omega)) T.b_Calls_check .nil pass0))
      (pss_one (ps_ret (pe_meth (pe_fld (pv 0) rfl) T.cl_Asker ⟨T.m_Asker_answer, T.t_Asker_answer, T.k_Asker_answer⟩ G_Asker_answer (hr.mono (by omega)) T.bd_Asker_answer T.vd_Asker_answer pass0 (pa_cons (pe_fld (pv 0) rfl) (pa_cons (pv 1) pa_nil)))))), ?_⟩
    have hS := T.S_Asker_answer
    have C' := C
    obtain ⟨⟨cdx, kdx, ps, ls, hc, hl, hlog, hk, hh', hp, hps, hns⟩, hm, mu, ⟨i1, i2, i3⟩, ⟨oc, ol⟩⟩ := C'
    have o1 := du b (by o_fieldsN)
    have nbl : b ≠ l := neO hb hl (fun z => nomatch z)
    have nbc : b ≠ c := neIns hb hc (show (5 : Nat) ≠ 2 by decide)
    have su : ∀ a ∈ [c, l] ++ uv, a ∈ cs := subA (sub2 oc ol) U.sub
    o_readsAll
    refine ⟨ans_core T.C_Calls T.C_Asker U C (du c (by o_fieldsN)) (du l (by o_fieldsN)) hu hqn lu le lm hS fun v evs H' k1 m1 C1 u1 e1 a1 a2 => ?_⟩
    exact q v evs H' k1 m1 ⟨⟨dx, bu, bdx, k, hh, p, k1.at_ _ _ hb (not_app (not_cons nbc (not_cons nbl not_nil)) o1), k1.at_ _ _ hbu (fun m => dbu (su _ m)), dbu, C1⟩, ob⟩ u1 e1 a1 a2
end
end Ob

set_option Elab.async false
set_option linter.all false
set_option maxRecDepth 100000
set_option maxHeartbeats 1000000
namespace Ob
open PySem PySem.Spec PyProof.Rows L2
open LamX (Tabs TabB TabS ExtN)

/-! ### len(o), o of an own class with its own __len__ -/
theorem call_lenO {X : Cx} {k : Nat} {C f : Addr} {sp : Sp} (F : FnR X.prog X.w X.K X.mg X.base CX0 k f sp) (hr : Room (k + 1) X.A) (hs : PySem.W.findIn X.K (.ref C) "__len__" = some (some (.ref f))) (hf : PySem.W.typeIn X.K (.ref f) = some (.type "function")) :
    CallR X (.builtin "len") (fun xs H Q => ∃ (a dx : Addr) (fs : List (Str × V)), xs = [.ref a] ∧ H a = some (.ins C dx fs) ∧ sp [.ref a] H (fun v H' => ∃ m : Nat, v = .int (m : Int) ∧ m < 2 ^ 62 ∧ Q (.int (m : Int)) H') E0) := by
  intro pins s σ H xs us Q I r h
  obtain ⟨a, dx, fs, rfl, ha, h⟩ := h
  obtain ⟨u, rfl, ru⟩ := vals1 r
  obtain rfl : u = Value.ref a := ru
  obtain ⟨ox, od, J, _⟩ := StX.insC_at I (.inr ⟨dx, fs, ha⟩)
  refine PySem.Calls.call_function_entry kind_len plain_len entry_len (args_len1 _) ?_
  unfold Builtin.«len»
  refine wpAny_bind (m := oneArg "len" _) (wpAny_pure ?_)
  refine wpAny_bind (m := callSpecial? (.ref a) (Str.ofString "__len__")) (PySem.W.special_fn I.kIn J hs hf ?_)
  refine wpAny_call (codeAny_mono (F X.A.in1 X.stack s H _ _ _ E0 hr.in1 I.env0.in1 r h) fun res s' hq => ?_)
  match res, hq with
  | .error e, z => exact z.elim
  | .ok .next, z => exact z.elim
  | .ok .brk, z => exact z.elim
  | .ok .cont, z => exact z.elim
  | .ok (.ret v), z =>
    obtain ⟨y, H1, I1, ry, m, rfl, hm, q⟩ := I.after z
    obtain ⟨t, rfl⟩ := ry
    refine wpAny_bind (wpAny_holding (wpAny_pure ?_))
    refine wpAny_bind (wpAny_letGo ?_)
    show wpAny _ _ (if (m : Int) < 0 then _ else _) _ _ _
    rw [if_neg (by omega)]
    show wpAny _ _ (if (m : Int) ≥ 2 ^ 63 then _ else _) _ _ _
    rw [if_neg (by omega)]
    exact wpAny_bind (wpAny_mkInt (wpAny_pure ⟨_, rfl, ⟨.int (m : Int), H1, I1.tok _, ⟨_, rfl⟩, q⟩⟩))

end Ob

set_option Elab.async false
set_option linter.all false
set_option maxRecDepth 100000
set_option maxHeartbeats 1000000
namespace Ob
open PySem PySem.Spec PyProof.Rows L2
open LamX (Tabs TabB TabS ExtN)

set_option hygiene false in
local macro_rules
  | `(tactic| kp_flats) => `(tactic| first
    | assumption
    | exact upd_same
    | (apply atNew; assumption; kp_flats)
    | (apply atNe; (next => kbo_bools); kp_flats)
    | (apply atSame; assumption; kp_flats)
    | (apply atKp; assumption; (next => kaf_pre); kp_flats))
set_option hygiene false in
local macro_rules
  | `(tactic| kaf_pre) => `(tactic| first
    | assumption
    | exact not_nil
    | (apply not_cons; (next => kbo_bools); kaf_pre)
    | (apply not_app; (next => kaf_pre); kaf_pre))
set_option hygiene false in
local macro_rules
  | `(tactic| kbo_bools) => `(tactic| first
    | assumption
    | (apply Ne.symm; assumption)
    | (apply neN; assumption; kp_flats)
    | (apply neN'; assumption; kp_flats))
set_option hygiene false in
local macro_rules
  | `(tactic| o_reads) => `(tactic| first
    | with_reducible rfl
    | assumption
    | rfl
    | kp_flats
    | (show SqL _ _ _ _; first | assumption | (apply sqlOf; kp_flats) | (apply sqlSame; assumption; o_reads))
    | (show SqT _ _ _ _; first | assumption | (apply sqtOf; kp_flats) | (apply sqtAll; assumption) | (apply sqtSame; assumption; o_reads))
    | (show Cls _ _; first | exact T.cl_Calls | exact T.cl_Asker | exact T.cl_Builder | exact T.cl_Blocks | exact T.cl_Version)
    | (show NoAttr _ _ _; first | exact T.n_Calls_entries | exact T.n_Calls_running | exact T.n_Asker_calls | exact T.n_Asker_ask_call | exact T.n_Asker_join_call | exact T.n_Asker_zero | exact T.n_Builder_calls | exact T.n_Builder_build_call | exact T.n_Blocks_calls | exact T.n_Blocks_builder | exact T.n_Blocks_asker | exact T.n_Blocks_held | exact T.n_Blocks_parts | exact T.n_Version_calls | exact T.n_Version_asker | exact T.n_Version_held | exact T.n_Version_parts)
    | (apply Or.inl; o_reads)
    | (apply Or.inr; o_reads)
    | (apply And.intro; (next => o_reads); o_reads)
    | (apply Exists.intro; o_reads)
    | exact Nat.le_of_ble_eq_true rfl
    | exact Nat.succ_ne_zero _
    | (show Fr _ _; kba_ints)
    | (show Same _ _; kd_subs)
    | (show Kp _ _ _; kxs_still)
    | (show (_ : Nat) ≤ _; simp only [List.length_append, List.length_map, List.length_cons, List.length_nil, List.length_take, List.length_drop, List.length_replicate, List.length_range, sizeLine_eq]; omega)
    | (show _ = none; apply Fr.h; kba_ints)
    | (show Bag _ _; first | assumption | (apply bag_putF; assumption; o_reads) | (apply bag_neF; (next => kbo_bools); o_reads) | (apply bag_kpR; assumption; (next => kaf_pre); o_reads))
    | omega
    | decide)
local macro_rules
  | `(tactic| o_readsAll) => `(tactic| repeat (first
    | (refine fun (pNew : Addr) (nNew : _ = none) => ?_; replace nNew := Fr.mk nNew)
    | (refine fun (xNew dNew : Addr) (nNew : _ = none) (mNew : _ = none) (eNew : dNew ≠ xNew) => ?_; replace nNew := Fr.mk nNew; replace mNew := Fr.mk mNew)
    | (apply And.intro; next => o_reads)
    | apply Exists.intro (α := V)
    | apply Exists.intro (α := Addr)
    | apply Exists.intro (α := Int)
    | apply Exists.intro (α := Bool)
    | apply Exists.intro (α := List V)
    | apply Exists.intro (α := List Nat)
    | apply Exists.intro (α := List (Str × V))
    | apply Exists.intro (α := List _)
    | apply Exists.intro (α := Str)
    | apply Exists.intro (α := HO)
    | apply Exists.intro (α := Sp)
    | apply Exists.intro (α := VK)))
set_option hygiene false in
local macro_rules
  | `(tactic| kba_ints) => `(tactic| first
    | assumption
    | (apply frUp; (first | assumption | (apply Ne.symm; assumption)); kba_ints)
    | (apply noneOf; assumption; intro oF eF; apply Exists.intro; kp_flats)
    | (apply frUp; (next => kbo_bools); kba_ints))
set_option hygiene false in
local macro_rules
  | `(tactic| kxs_still) => `(tactic| first
    | assumption
    | exact kp_refl _ _
    | (apply kp_newF; assumption; kxs_still)
    | (apply kp_new; assumption; kxs_still)
    | (apply kp_up; (next => o_fieldsN); kxs_still)
    | (apply kp_new; (next => kba_ints); kxs_still)
    | (apply kp_sameR; assumption; kxs_still)
    | (apply kp_transR; assumption; kxs_still)
    | (apply kp_freshR; assumption; (next => kaf_suf); kxs_still))
set_option hygiene false in
local macro_rules
  | `(tactic| kaf_suf) => `(tactic| first
    | assumption
    | exact subNil
    | (apply subCons; (first | (apply Or.inl; o_fieldsN) | (apply Or.inr; kba_ints)); kaf_suf)
    | (apply subApp; (next => kaf_suf); kaf_suf))
set_option hygiene false in
local macro_rules
  | `(tactic| o_fieldsN) => `(tactic| first
    | assumption
    | exact memA
    | (apply memB; o_fieldsN)
    | (apply memL; o_fieldsN)
    | (apply memR; o_fieldsN))
set_option hygiene false in
local macro_rules
  | `(tactic| kd_subs) => `(tactic| first
    | assumption
    | exact Same.refl _
    | (apply same_putF; assumption; kd_subs)
    | (apply same_putG; assumption; kd_subs)
    | (apply same_putF; (next => kba_ints); kd_subs)
    | (apply same_transR; assumption; kd_subs))

section
variable {P : Program} {w : World} {K : PySem.W.Frag} {mg : Str → Option Value} {base : Heap} {n : Nat}
variable {CB CC CU CA b c l : Addr} {cs : List Addr} {fb fa fj z : V} {Mem : V → Hp → Prop} {Blk : List V → V → Hp → Prop} {ms : List V} {es : List Ent} {H H' : Hp}
theorem Coll.b_at (h : Coll CB CC CU CA cs b c l fb fa fj z Mem Blk ms es H) : ∃ dx bu k h p, H b = some (BlO CB dx c bu k h p) := by
  obtain ⟨⟨dx, bu, bdx, k, hh, p, hb, _⟩, _⟩ := h
  exact ⟨_, _, _, _, _, hb⟩
theorem Coll.mu (h : Coll CB CC CU CA cs b c l fb fa fj z Mem Blk ms es H) : Mu H cs := by
  obtain ⟨⟨dx, bu, bdx, k, hh, p, hb, _, _, C⟩, _⟩ := h
  exact C.mu
theorem Coll.owns (h : Coll CB CC CU CA cs b c l fb fa fj z Mem Blk ms es H) : ∀ a ∈ [b, c, l], a ∈ cs := by
  obtain ⟨⟨dx, bu, bdx, k, hh, p, hb, _, _, C⟩, o⟩ := h
  exact sub3 o C.own.1 C.own.2
def spMem (CB CC CU CA : Addr) : Sp := fun vs H Q _ => ∃ (cs : List Addr) (b c l : Addr) (fb fa fj z : V) (Mem : V → Hp → Prop) (Blk : List V → V → Hp → Prop) (ms : List V) (es : List Ent), vs = [.ref b] ∧ Coll CB CC CU CA cs b c l fb fa fj z Mem Blk ms es H ∧
  ∀ o H', Fr H o → Same H H' → H' o = some (.lst ms) → Q (.ref o) H'
theorem ok_mem (T : Txt K mg) : FnOk P w K mg base CX0 1 T.f_Blocks_members T.d_Blocks_members ["self"] (spMem T.C_Blocks T.C_Calls T.C_Builder T.C_Asker) := by
  refine T.F_Blocks_members.ok sc_Blocks_members (fun vs H Q E h => ?_) (fun cdv A outer s H vs Q E hr h => ?_)
  · obtain ⟨cs, b, c, l, fb, fa, fj, z, Mem, Blk, ms, es, rfl, _⟩ := h
    rfl
  · obtain ⟨cs, b, c, l, fb, fa, fj, z, Mem, Blk, ms, es, rfl, ⟨⟨dx, bu, bdx, k, hh, p, hb, hbu, dbu, ⟨⟨cdx, kdx, ps, ls, hc, hl, hlog, hk, hh', hp, _⟩, _⟩⟩, _⟩, q⟩ := h
    refine ⟨_, (pss_one (ps_ret (pe_callTy call_list_of (by rfl) T.z_list (by decide +kernel) (pa_cons (pe_fld (pv 0) rfl) pa_nil)))), ?_⟩
    o_readsAll
    rename_i o no
    exact q o _ no (by kd_subs) (by kp_flats)
theorem bns_zero : bns 0 = [] := by
  unfold bns
  rw [bl_zero]
  rfl
/-- a new collection: its own things change from now on -/
theorem coll_new {dx cdx bu bdx k kdx hh p : Addr} (hb : H' b = some (BlO CB dx c bu k hh p)) (hc : H' c = some (CO CC cdx l false)) (hl : H' l = some (.lst [])) (hbu : H' bu = some (BuO CU bdx c fb)) (hk : H' k = some (AO CA kdx c fa fj z)) (hh' : H' hh = some (.lst [])) (hp : H' p = some (.lst []))
    (n1 : l ≠ hh) (n2 : l ≠ p) (fbu : Fr H bu) (fk : Fr H k) (fh : Fr H hh) (fp : Fr H p) (t : Mu H cs) (t' : Mu H' cs) (nb : bu ≠ b) (nc : bu ≠ c) (mb : k ≠ b) (mc : k ≠ c) :
    Coll CB CC CU CA ([b, c, l] ++ cs) b c l fb fa fj z Mem Blk [] [] H' := by
  have nul : bu ≠ l := neO hbu hl (fun z => nomatch z)
  have nkl : k ≠ l := neO hk hl (fun z => nomatch z)
  have nhb : hh ≠ b := neO hh' hb (fun z => nomatch z)
  have nhc : hh ≠ c := neO hh' hc (fun z => nomatch z)
  have npb : p ≠ b := neO hp hb (fun z => nomatch z)
  have npc : p ≠ c := neO hp hc (fun z => nomatch z)
  have ou : ∀ {a : Addr}, a ≠ b → a ≠ c → a ≠ l → Fr H a → a ∉ [b, c, l] ++ cs := fun x y v f => not_app (not_cons x (not_cons y (not_cons v not_nil))) (t.fr f)
  exact ⟨⟨dx, bu, bdx, k, hh, p, hb, hbu, ou nb nc nul fbu, ⟨⟨cdx, kdx, [], [], hc, hl, .nil, hk, hh', hp, (fun _ m => nomatch m), bns_zero.symm⟩, (fun _ m => nomatch m), mu_app (mu_ins hb (mu_ins hc (mu_lst hl mu_nil))) t', ⟨ou mb mc nkl fk, ou nhb nhc n1.symm fh, ou npb npc n2.symm fp⟩, ⟨memL (memB memA), memL (memB (memB memA))⟩⟩⟩, memL memA⟩
/-- a question to no members -/
def spQ0 (CB CC CU CA : Addr) : Sp := fun vs H Q _ => ∃ (cs : List Addr) (b c l : Addr) (fb fa fj z : V) (Mem : V → Hp → Prop) (Blk : List V → V → Hp → Prop) (es : List Ent) (qn : V), vs = [.ref b, qn] ∧ Coll CB CC CU CA cs b c l fb fa fj z Mem Blk [] es H ∧ Q z H
theorem ok_q0 (T : Txt K mg) : FnOk P w K mg base CX0 (n + 3) T.f_Blocks_query T.d_Blocks_query ["self", "question"] (spQ0 T.C_Blocks T.C_Calls T.C_Builder T.C_Asker) := by
  have G_Calls_check := ok_chk (P := P) (w := w) (base := base) T
  have G_Asker_answer := ok_ans (P := P) (w := w) (base := base) (n := n) T
  refine T.F_Blocks_query.ok sc_Blocks_query (fun vs H Q E h => ?_) (fun cdv A outer s H vs Q E hr h => ?_)
  · obtain ⟨cs, b, c, l, fb, fa, fj, z, Mem, Blk, es, qn, rfl, _⟩ := h
    rfl
  · obtain ⟨cs, b, c, l, fb, fa, fj, z, Mem, Blk, es, qn, rfl, ⟨⟨dx, bu, bdx, k, hh, p, hb, hbu, dbu, ⟨⟨cdx, kdx, ps, ls, hc, hl, hlog, hk, hh', hp, hps, hns⟩, _⟩⟩, _⟩, q⟩ := h
    refine ⟨_, (pss_cons (ps_expr (pe_meth0 (pe_fld (pv 0) rfl) T.cl_Calls ⟨T.m_Calls_check, T.t_Calls_check, T.k_Calls_check⟩ G_Calls_check (hr.mono (by omega)) T.b_Calls_check .nil pass0))
      (pss_one (ps_ret (pe_meth (pe_fld (pv 0) rfl) T.cl_Asker ⟨T.m_Asker_answer, T.t_Asker_answer, T.k_Asker_answer⟩ G_Asker_answer (hr.mono (by omega)) T.bd_Asker_answer T.vd_Asker_answer pass0 (pa_cons (pe_fld (pv 0) rfl) (pa_cons (pv 1) pa_nil)))))), ?_⟩
    have hS := T.S_Asker_answer
    have e0 : ps = [] := List.map_eq_nil_iff.mp (hns.trans bns_zero)
    subst e0
    o_readsAll
    refine ⟨fun i v H' => v = z ∧ H' = H, rfl, hS, by decide, hk, ⟨rfl, rfl⟩, ?_, ?_, ?_⟩
    · rintro i v H' _ ⟨e1, rfl⟩
      exact ⟨hk, hc, hp⟩
    · intro i v H' x hx
      cases hx
    · rintro v H' ⟨rfl, rfl⟩
      exact q
end
end Ob

set_option Elab.async false
set_option linter.all false
set_option maxRecDepth 100000
set_option maxHeartbeats 1000000
namespace Ob
open PySem PySem.Spec PyProof.Rows L2
open LamX (Tabs TabB TabS ExtN)

set_option hygiene false in
local macro_rules
  | `(tactic| kp_flats) => `(tactic| first
    | assumption
    | exact upd_same
    | (apply atNew; assumption; kp_flats)
    | (apply atNe; (next => kbo_bools); kp_flats)
    | (apply atSame; assumption; kp_flats)
    | (apply atKp; assumption; (next => kaf_pre); kp_flats))
set_option hygiene false in
local macro_rules
  | `(tactic| kaf_pre) => `(tactic| first
    | assumption
    | exact not_nil
    | (apply not_cons; (next => kbo_bools); kaf_pre)
    | (apply not_app; (next => kaf_pre); kaf_pre))
set_option hygiene false in
local macro_rules
  | `(tactic| kbo_bools) => `(tactic| first
    | assumption
    | (apply Ne.symm; assumption)
    | (apply neN; assumption; kp_flats)
    | (apply neN'; assumption; kp_flats))
set_option hygiene false in
local macro_rules
  | `(tactic| o_reads) => `(tactic| first
    | with_reducible rfl
    | assumption
    | rfl
    | kp_flats
    | (show SqL _ _ _ _; first | assumption | (apply sqlOf; kp_flats) | (apply sqlSame; assumption; o_reads))
    | (show SqT _ _ _ _; first | assumption | (apply sqtOf; kp_flats) | (apply sqtAll; assumption) | (apply sqtSame; assumption; o_reads))
    | (show Cls _ _; first | exact T.cl_Calls | exact T.cl_Asker | exact T.cl_Builder | exact T.cl_Blocks | exact T.cl_Version)
    | (show NoAttr _ _ _; first | exact T.n_Calls_entries | exact T.n_Calls_running | exact T.n_Asker_calls | exact T.n_Asker_ask_call | exact T.n_Asker_join_call | exact T.n_Asker_zero | exact T.n_Builder_calls | exact T.n_Builder_build_call | exact T.n_Blocks_calls | exact T.n_Blocks_builder | exact T.n_Blocks_asker | exact T.n_Blocks_held | exact T.n_Blocks_parts | exact T.n_Version_calls | exact T.n_Version_asker | exact T.n_Version_held | exact T.n_Version_parts)
    | (apply Or.inl; o_reads)
    | (apply Or.inr; o_reads)
    | (apply And.intro; (next => o_reads); o_reads)
    | (apply Exists.intro; o_reads)
    | exact Nat.le_of_ble_eq_true rfl
    | exact Nat.succ_ne_zero _
    | (show Fr _ _; kba_ints)
    | (show Same _ _; kd_subs)
    | (show Kp _ _ _; kxs_still)
    | (show (_ : Nat) ≤ _; simp only [List.length_append, List.length_map, List.length_cons, List.length_nil, List.length_take, List.length_drop, List.length_replicate, List.length_range, sizeLine_eq]; omega)
    | (show _ = none; apply Fr.h; kba_ints)
    | (show Bag _ _; first | assumption | (apply bag_putF; assumption; o_reads) | (apply bag_neF; (next => kbo_bools); o_reads) | (apply bag_kpR; assumption; (next => kaf_pre); o_reads))
    | omega
    | decide)
local macro_rules
  | `(tactic| o_readsAll) => `(tactic| repeat (first
    | (refine fun (pNew : Addr) (nNew : _ = none) => ?_; replace nNew := Fr.mk nNew)
    | (refine fun (xNew dNew : Addr) (nNew : _ = none) (mNew : _ = none) (eNew : dNew ≠ xNew) => ?_; replace nNew := Fr.mk nNew; replace mNew := Fr.mk mNew)
    | (apply And.intro; next => o_reads)
    | apply Exists.intro (α := V)
    | apply Exists.intro (α := Addr)
    | apply Exists.intro (α := Int)
    | apply Exists.intro (α := Bool)
    | apply Exists.intro (α := List V)
    | apply Exists.intro (α := List Nat)
    | apply Exists.intro (α := List (Str × V))
    | apply Exists.intro (α := List _)
    | apply Exists.intro (α := Str)
    | apply Exists.intro (α := HO)
    | apply Exists.intro (α := Sp)
    | apply Exists.intro (α := VK)))
set_option hygiene false in
local macro_rules
  | `(tactic| kba_ints) => `(tactic| first
    | assumption
    | (apply frUp; (first | assumption | (apply Ne.symm; assumption)); kba_ints)
    | (apply noneOf; assumption; intro oF eF; apply Exists.intro; kp_flats)
    | (apply frUp; (next => kbo_bools); kba_ints))
set_option hygiene false in
local macro_rules
  | `(tactic| kxs_still) => `(tactic| first
    | assumption
    | exact kp_refl _ _
    | (apply kp_newF; assumption; kxs_still)
    | (apply kp_new; assumption; kxs_still)
    | (apply kp_up; (next => o_fieldsN); kxs_still)
    | (apply kp_new; (next => kba_ints); kxs_still)
    | (apply kp_sameR; assumption; kxs_still)
    | (apply kp_transR; assumption; kxs_still)
    | (apply kp_freshR; assumption; (next => kaf_suf); kxs_still))
set_option hygiene false in
local macro_rules
  | `(tactic| kaf_suf) => `(tactic| first
    | assumption
    | exact subNil
    | (apply subCons; (first | (apply Or.inl; o_fieldsN) | (apply Or.inr; kba_ints)); kaf_suf)
    | (apply subApp; (next => kaf_suf); kaf_suf))
set_option hygiene false in
local macro_rules
  | `(tactic| o_fieldsN) => `(tactic| first
    | assumption
    | exact memA
    | (apply memB; o_fieldsN)
    | (apply memL; o_fieldsN)
    | (apply memR; o_fieldsN))
set_option hygiene false in
local macro_rules
  | `(tactic| kd_subs) => `(tactic| first
    | assumption
    | exact Same.refl _
    | (apply same_putF; assumption; kd_subs)
    | (apply same_putG; assumption; kd_subs)
    | (apply same_putF; (next => kba_ints); kd_subs)
    | (apply same_transR; assumption; kd_subs))

section
variable {P : Program} {w : World} {K : PySem.W.Frag} {mg : Str → Option Value} {base : Heap} {n : Nat}
def spLog (CB CC CU CA : Addr) : Sp := fun vs H Q _ => ∃ (cs : List Addr) (b c l : Addr) (fb fa fj z : V) (Mem : V → Hp → Prop) (Blk : List V → V → Hp → Prop) (ms : List V) (es : List Ent), vs = [.ref b] ∧ Coll CB CC CU CA cs b c l fb fa fj z Mem Blk ms es H ∧
  ∀ o us H', Fr H o → Same H H' → H' o = some (.lst us) → LogAt [] H' us es → Q (.ref o) H'
theorem ok_log (T : Txt K mg) : FnOk P w K mg base CX0 1 T.f_Blocks_log T.d_Blocks_log ["self"] (spLog T.C_Blocks T.C_Calls T.C_Builder T.C_Asker) := by
  refine T.F_Blocks_log.ok sc_Blocks_log (fun vs H Q E h => ?_) (fun cdv A outer s H vs Q E hr h => ?_)
  · obtain ⟨cs, b, c, l, fb, fa, fj, z, Mem, Blk, ms, es, rfl, _⟩ := h
    rfl
  · obtain ⟨cs, b, c, l, fb, fa, fj, z, Mem, Blk, ms, es, rfl, ⟨⟨dx, bu, bdx, k, hh, p, hb, hbu, dbu, ⟨⟨cdx, kdx, ps, ls, hc, hl, hlog, hk, hh', hp, _⟩, _⟩⟩, _⟩, q⟩ := h
    refine ⟨_, (pss_one (ps_ret (pe_callTy call_list_of (by rfl) T.z_list (by decide +kernel) (pa_cons (pe_fld (pe_fld (pv 0) rfl) rfl) pa_nil)))), ?_⟩
    o_readsAll
    rename_i o no
    exact q o _ _ no (by kd_subs) (by kp_flats) (hlog.same (by kd_subs))
end
end Ob

set_option Elab.async false
set_option linter.all false
set_option maxRecDepth 100000
set_option maxHeartbeats 1000000
namespace Ob
open PySem PySem.Spec PyProof.Rows L2
open LamX (Tabs TabB TabS ExtN)

set_option hygiene false in
local macro_rules
  | `(tactic| kp_flats) => `(tactic| first
    | assumption
    | exact upd_same
    | (apply atNew; assumption; kp_flats)
    | (apply atNe; (next => kbo_bools); kp_flats)
    | (apply atSame; assumption; kp_flats)
    | (apply atKp; assumption; (next => kaf_pre); kp_flats))
set_option hygiene false in
local macro_rules
  | `(tactic| kaf_pre) => `(tactic| first
    | assumption
    | exact not_nil
    | (apply not_cons; (next => kbo_bools); kaf_pre)
    | (apply not_app; (next => kaf_pre); kaf_pre))
set_option hygiene false in
local macro_rules
  | `(tactic| kbo_bools) => `(tactic| first
    | assumption
    | (apply Ne.symm; assumption)
    | (apply neN; assumption; kp_flats)
    | (apply neN'; assumption; kp_flats))
set_option hygiene false in
local macro_rules
  | `(tactic| o_reads) => `(tactic| first
    | with_reducible rfl
    | assumption
    | rfl
    | kp_flats
    | (show SqL _ _ _ _; first | assumption | (apply sqlOf; kp_flats) | (apply sqlSame; assumption; o_reads))
    | (show SqT _ _ _ _; first | assumption | (apply sqtOf; kp_flats) | (apply sqtAll; assumption) | (apply sqtSame; assumption; o_reads))
    | (show Cls _ _; first | exact T.cl_Calls | exact T.cl_Asker | exact T.cl_Builder | exact T.cl_Blocks | exact T.cl_Version)
    | (show NoAttr _ _ _; first | exact T.n_Calls_entries | exact T.n_Calls_running | exact T.n_Asker_calls | exact T.n_Asker_ask_call | exact T.n_Asker_join_call | exact T.n_Asker_zero | exact T.n_Builder_calls | exact T.n_Builder_build_call | exact T.n_Blocks_calls | exact T.n_Blocks_builder | exact T.n_Blocks_asker | exact T.n_Blocks_held | exact T.n_Blocks_parts | exact T.n_Version_calls | exact T.n_Version_asker | exact T.n_Version_held | exact T.n_Version_parts)
    | (apply Or.inl; o_reads)
    | (apply Or.inr; o_reads)
    | (apply And.intro; (next => o_reads); o_reads)
    | (apply Exists.intro; o_reads)
    | exact Nat.le_of_ble_eq_true rfl
    | exact Nat.succ_ne_zero _
    | (show Fr _ _; kba_ints)
    | (show Same _ _; kd_subs)
    | (show Kp _ _ _; kxs_still)
    | (show (_ : Nat) ≤ _; simp only [List.length_append, List.length_map, List.length_cons, List.length_nil, List.length_take, List.length_drop, List.length_replicate, List.length_range, sizeLine_eq]; omega)
    | (show _ = none; apply Fr.h; kba_ints)
    | (show Bag _ _; first | assumption | (apply bag_putF; assumption; o_reads) | (apply bag_neF; (next => kbo_bools); o_reads) | (apply bag_kpR; assumption; (next => kaf_pre); o_reads))
    | omega
    | decide)
local macro_rules
  | `(tactic| o_readsAll) => `(tactic| repeat (first
    | (refine fun (pNew : Addr) (nNew : _ = none) => ?_; replace nNew := Fr.mk nNew)
    | (refine fun (xNew dNew : Addr) (nNew : _ = none) (mNew : _ = none) (eNew : dNew ≠ xNew) => ?_; replace nNew := Fr.mk nNew; replace mNew := Fr.mk mNew)
    | (apply And.intro; next => o_reads)
    | apply Exists.intro (α := V)
    | apply Exists.intro (α := Addr)
    | apply Exists.intro (α := Int)
    | apply Exists.intro (α := Bool)
    | apply Exists.intro (α := List V)
    | apply Exists.intro (α := List Nat)
    | apply Exists.intro (α := List (Str × V))
    | apply Exists.intro (α := List _)
    | apply Exists.intro (α := Str)
    | apply Exists.intro (α := HO)
    | apply Exists.intro (α := Sp)
    | apply Exists.intro (α := VK)))
set_option hygiene false in
local macro_rules
  | `(tactic| kba_ints) => `(tactic| first
    | assumption
    | (apply frUp; (first | assumption | (apply Ne.symm; assumption)); kba_ints)
    | (apply noneOf; assumption; intro oF eF; apply Exists.intro; kp_flats)
    | (apply frUp; (next => kbo_bools); kba_ints))
set_option hygiene false in
local macro_rules
  | `(tactic| kxs_still) => `(tactic| first
    | assumption
    | exact kp_refl _ _
    | (apply kp_newF; assumption; kxs_still)
    | (apply kp_new; assumption; kxs_still)
    | (apply kp_up; (next => o_fieldsN); kxs_still)
    | (apply kp_new; (next => kba_ints); kxs_still)
    | (apply kp_sameR; assumption; kxs_still)
    | (apply kp_transR; assumption; kxs_still)
    | (apply kp_freshR; assumption; (next => kaf_suf); kxs_still))
set_option hygiene false in
local macro_rules
  | `(tactic| kaf_suf) => `(tactic| first
    | assumption
    | exact subNil
    | (apply subCons; (first | (apply Or.inl; o_fieldsN) | (apply Or.inr; kba_ints)); kaf_suf)
    | (apply subApp; (next => kaf_suf); kaf_suf))
set_option hygiene false in
local macro_rules
  | `(tactic| o_fieldsN) => `(tactic| first
    | assumption
    | exact memA
    | (apply memB; o_fieldsN)
    | (apply memL; o_fieldsN)
    | (apply memR; o_fieldsN))
set_option hygiene false in
local macro_rules
  | `(tactic| kd_subs) => `(tactic| first
    | assumption
    | exact Same.refl _
    | (apply same_putF; assumption; kd_subs)
    | (apply same_putG; assumption; kd_subs)
    | (apply same_putF; (next => kba_ints); kd_subs)
    | (apply same_transR; assumption; kd_subs))

theorem kp_but {p : Addr} {H H1 : Hp} (b : But p H H1) : Kp [p] H H1 := ⟨fun c o e n => b c o e fun z => n (List.mem_singleton.mpr z)⟩
def spTakeK : Sp := fun vs H Q _ => ∃ (p : Addr) (m : Int), vs = [.ref p, .int m] ∧ Bag H p ∧ 0 < m ∧ m.natAbs < 2 ^ 200 ∧ ∀ r H', 0 ≤ r → r < m → Bag H' p → Kp [p] H H' → Q (.int r) H'
theorem ok_takeK {P : Program} {w : World} {K : PySem.W.Frag} {mg : Str → Option Value} {base : Heap} (T : Txt K mg) : FnOk P w K mg base CX0 1 T.f_l_take T.d_l_take ["_law_bag_here", "_law_many"] spTakeK := by
  have F := ok_take (P := P) (w := w) (base := base) T
  refine ⟨fun vs H Q E h => ?_, fun A outer s H args us vs Q E hr e0 hb r h => F.run A outer s H args us vs Q E hr e0 hb r ?_⟩
  · obtain ⟨p, m, rfl, _⟩ := h
    rfl
  · obtain ⟨p, m, e, h1, h2, h3, q⟩ := h
    exact ⟨p, m, e, h1, h2, h3, fun r H' a b c d => q r H' a b c (kp_but d)⟩
theorem bag_neF {p q : Addr} {H : Hp} {o : HO} (n : p ≠ q) (b : Bag H p) : Bag (upd H q o) p := by
  obtain ⟨g, m, c, e, z⟩ := b
  exact ⟨g, m, c, (upd_ne n).trans e, z⟩
theorem tabsN_kp {T : List NdefX.NTab} {cs : List Addr} {H H1 : Hp} (t : NdefX.TabsN T H) (k : Kp cs H H1) (n : ∀ a ∈ cs, ∃ o, H a = some o ∧ (∀ ps, o ≠ .tbl ps) ∧ ∀ φ, o ≠ .ext φ) : NdefX.TabsN T H1 := fun p hp => by
  obtain ⟨ps, h1, h2, h3⟩ := t p hp
  refine ⟨ps, k.at_ _ _ h1 (fun m => ?_), h2, fun pos cv hc => ?_⟩
  · obtain ⟨o, e, n1, _⟩ := n _ m
    rw [h1] at e
    exact n1 ps (Option.some.inj e).symm
  · obtain ⟨c, e1, e2⟩ := h3 pos cv hc
    refine ⟨c, e1, k.at_ _ _ e2 fun m => ?_⟩
    obtain ⟨o, e, _, n2⟩ := n _ m
    rw [e2] at e
    exact n2 _ (Option.some.inj e).symm

open NdefX (TabsN)
/-- what is no table and nothing by a word of its own -/
def NTx (H : Hp) (cs : List Addr) : Prop := ∀ a ∈ cs, ∃ o, H a = some o ∧ (∀ ps, o ≠ .tbl ps) ∧ ∀ φ, o ≠ .ext φ
theorem ntx_nil {H : Hp} : NTx H [] := fun _ m => nomatch m
theorem ntx_lst {H : Hp} {a : Addr} {xs : List V} {l : List Addr} (e : H a = some (.lst xs)) (t : NTx H l) : NTx H (a :: l) := fun x m => (List.mem_cons.mp m).elim (fun z => by rw [z]; exact ⟨_, e, (fun _ z => nomatch z), fun _ z => nomatch z⟩) (t x)
theorem ntx_ins {H : Hp} {a C dx : Addr} {fs : List (Str × V)} {l : List Addr} (e : H a = some (.ins C dx fs)) (t : NTx H l) : NTx H (a :: l) := fun x m => (List.mem_cons.mp m).elim (fun z => by rw [z]; exact ⟨_, e, (fun _ z => nomatch z), fun _ z => nomatch z⟩) (t x)
theorem bag_lst {H : Hp} {p : Addr} (b : Bag H p) : ∃ xs, H p = some (.lst xs) := by
  obtain ⟨g, m, c, e, _⟩ := b
  exact ⟨_, e⟩
section
variable {P : Program} {w : World} {K : PySem.W.Frag} {mg : Str → Option Value} {base : Heap} {n : Nat}
theorem Coll.cl_at {CB CC CU CA b c l : Addr} {cs : List Addr} {fb fa fj z : V} {Mem : V → Hp → Prop} {Blk : List V → V → Hp → Prop} {ms : List V} {es : List Ent} {H : Hp} (h : Coll CB CC CU CA cs b c l fb fa fj z Mem Blk ms es H) : ∃ dx bu k h p cdx vs, H b = some (BlO CB dx c bu k h p) ∧ H c = some (CO CC cdx l false) ∧ H l = some (.lst vs) := by
  obtain ⟨⟨dx, bu, bdx, k, hh, p, hb, _, _, ⟨cdx, kdx, ps, vs, hc, hl, _⟩, _⟩, _⟩ := h
  exact ⟨_, _, _, _, _, _, _, hb, hc, hl⟩
theorem Coll.ntx {CB CC CU CA b c l : Addr} {cs : List Addr} {fb fa fj z : V} {Mem : V → Hp → Prop} {Blk : List V → V → Hp → Prop} {ms : List V} {es : List Ent} {H : Hp} (h : Coll CB CC CU CA cs b c l fb fa fj z Mem Blk ms es H) : NTx H [b, c, l] := by
  obtain ⟨dx, bu, k, hh, p, cdx, vs, hb, hc, hl⟩ := h.cl_at
  exact ntx_ins hb (ntx_ins hc (ntx_lst hl ntx_nil))
theorem qents_len : ∀ (m : Nat) (l : List (List Nat)), (qents m l).length ≤ 2 * l.length
  | _, [] => Nat.le_refl _
  | m, x :: l => by
    have h := qents_len (m + x.length) l
    show (Ent.ask x :: ((if m = 0 then [] else [Ent.join m x.length]) ++ qents (m + x.length) l)).length ≤ _
    rw [List.length_cons, List.length_append, List.length_cons]
    have : (if m = 0 then ([] : List Ent) else [Ent.join m x.length]).length ≤ 1 := by
      split
      · exact Nat.zero_le _
      · exact Nat.le_refl _
    omega
end
end Ob

set_option Elab.async false
set_option linter.all false
set_option maxRecDepth 100000
set_option maxHeartbeats 1000000
namespace Ob
open PySem PySem.Spec PyProof.Rows L2
open LamX (Tabs TabB TabS ExtN)

set_option hygiene false in
local macro_rules
  | `(tactic| kp_flats) => `(tactic| first
    | assumption
    | exact upd_same
    | (apply atNew; assumption; kp_flats)
    | (apply atNe; (next => kbo_bools); kp_flats)
    | (apply atSame; assumption; kp_flats)
    | (apply atKp; assumption; (next => kaf_pre); kp_flats))
set_option hygiene false in
local macro_rules
  | `(tactic| kaf_pre) => `(tactic| first
    | assumption
    | exact not_nil
    | (apply not_cons; (next => kbo_bools); kaf_pre)
    | (apply not_app; (next => kaf_pre); kaf_pre))
set_option hygiene false in
local macro_rules
  | `(tactic| kbo_bools) => `(tactic| first
    | assumption
    | (apply Ne.symm; assumption)
    | (apply neN; assumption; kp_flats)
    | (apply neN'; assumption; kp_flats))
set_option hygiene false in
local macro_rules
  | `(tactic| o_reads) => `(tactic| first
    | with_reducible rfl
    | assumption
    | rfl
    | kp_flats
    | (show SqL _ _ _ _; first | assumption | (apply sqlOf; kp_flats) | (apply sqlSame; assumption; o_reads))
    | (show SqT _ _ _ _; first | assumption | (apply sqtOf; kp_flats) | (apply sqtAll; assumption) | (apply sqtSame; assumption; o_reads))
    | (show Cls _ _; first | exact T.cl_Calls | exact T.cl_Asker | exact T.cl_Builder | exact T.cl_Blocks | exact T.cl_Version)
    | (show NoAttr _ _ _; first | exact T.n_Calls_entries | exact T.n_Calls_running | exact T.n_Asker_calls | exact T.n_Asker_ask_call | exact T.n_Asker_join_call | exact T.n_Asker_zero | exact T.n_Builder_calls | exact T.n_Builder_build_call | exact T.n_Blocks_calls | exact T.n_Blocks_builder | exact T.n_Blocks_asker | exact T.n_Blocks_held | exact T.n_Blocks_parts | exact T.n_Version_calls | exact T.n_Version_asker | exact T.n_Version_held | exact T.n_Version_parts)
    | (apply Or.inl; o_reads)
    | (apply Or.inr; o_reads)
    | (apply And.intro; (next => o_reads); o_reads)
    | (apply Exists.intro; o_reads)
    | exact Nat.le_of_ble_eq_true rfl
    | exact Nat.succ_ne_zero _
    | (show Fr _ _; kba_ints)
    | (show Same _ _; kd_subs)
    | (show Kp _ _ _; kxs_still)
    | (show (_ : Nat) ≤ _; simp only [List.length_append, List.length_map, List.length_cons, List.length_nil, List.length_take, List.length_drop, List.length_replicate, List.length_range, sizeLine_eq]; omega)
    | (show _ = none; apply Fr.h; kba_ints)
    | (show Bag _ _; first | assumption | (apply bag_putF; assumption; o_reads) | (apply bag_neF; (next => kbo_bools); o_reads) | (apply bag_kpR; assumption; (next => kaf_pre); o_reads))
    | omega
    | decide)
local macro_rules
  | `(tactic| o_readsAll) => `(tactic| repeat (first
    | (refine fun (pNew : Addr) (nNew : _ = none) => ?_; replace nNew := Fr.mk nNew)
    | (refine fun (xNew dNew : Addr) (nNew : _ = none) (mNew : _ = none) (eNew : dNew ≠ xNew) => ?_; replace nNew := Fr.mk nNew; replace mNew := Fr.mk mNew)
    | (apply And.intro; next => o_reads)
    | apply Exists.intro (α := V)
    | apply Exists.intro (α := Addr)
    | apply Exists.intro (α := Int)
    | apply Exists.intro (α := Bool)
    | apply Exists.intro (α := List V)
    | apply Exists.intro (α := List Nat)
    | apply Exists.intro (α := List (Str × V))
    | apply Exists.intro (α := List _)
    | apply Exists.intro (α := Str)
    | apply Exists.intro (α := HO)
    | apply Exists.intro (α := Sp)
    | apply Exists.intro (α := VK)))
set_option hygiene false in
local macro_rules
  | `(tactic| kba_ints) => `(tactic| first
    | assumption
    | (apply frUp; (first | assumption | (apply Ne.symm; assumption)); kba_ints)
    | (apply noneOf; assumption; intro oF eF; apply Exists.intro; kp_flats)
    | (apply frUp; (next => kbo_bools); kba_ints))
set_option hygiene false in
local macro_rules
  | `(tactic| kxs_still) => `(tactic| first
    | assumption
    | exact kp_refl _ _
    | (apply kp_newF; assumption; kxs_still)
    | (apply kp_new; assumption; kxs_still)
    | (apply kp_up; (next => o_fieldsN); kxs_still)
    | (apply kp_new; (next => kba_ints); kxs_still)
    | (apply kp_sameR; assumption; kxs_still)
    | (apply kp_transR; assumption; kxs_still)
    | (apply kp_freshR; assumption; (next => kaf_suf); kxs_still))
set_option hygiene false in
local macro_rules
  | `(tactic| kaf_suf) => `(tactic| first
    | assumption
    | exact subNil
    | (apply subCons; (first | (apply Or.inl; o_fieldsN) | (apply Or.inr; kba_ints)); kaf_suf)
    | (apply subApp; (next => kaf_suf); kaf_suf))
set_option hygiene false in
local macro_rules
  | `(tactic| o_fieldsN) => `(tactic| first
    | assumption
    | exact memA
    | (apply memB; o_fieldsN)
    | (apply memL; o_fieldsN)
    | (apply memR; o_fieldsN))
set_option hygiene false in
local macro_rules
  | `(tactic| kd_subs) => `(tactic| first
    | assumption
    | exact Same.refl _
    | (apply same_putF; assumption; kd_subs)
    | (apply same_putG; assumption; kd_subs)
    | (apply same_putF; (next => kba_ints); kd_subs)
    | (apply same_transR; assumption; kd_subs))

/-- len within a comprehension: the fragment is named -/
theorem call_lenK {X : Cx} (K : PySem.W.Frag) (e : X.K = K) : CallR X (.builtin "len") (fun xs H Q => ∃ p ys, xs = [.ref p] ∧ (SqL K H p ys ∨ SqT K H p ys) ∧ Q (.int ys.length) H) := by
  subst e
  exact call_len_seq

set_option pp.maxSteps 700
section
variable {P : Program} {w : World} {K : PySem.W.Frag} {mg : Str → Option Value} {base : Heap} {n : Nat}
def spSz (CB CC CU CA : Addr) : Sp := fun vs H Q _ => ∃ (cs : List Addr) (b c l : Addr) (fb fa fj z : V) (Mem : V → Hp → Prop) (Blk : List V → V → Hp → Prop) (ms : List V) (es : List Ent), vs = [.ref b] ∧ Coll CB CC CU CA cs b c l fb fa fj z Mem Blk ms es H ∧ ms.length ≤ 900 ∧
  ∀ o H', Fr H o → Same H H' → H' o = some (.lst (((bns ms.length).map List.length).map nV)) → Q (.ref o) H'
theorem ok_sz (T : Txt K mg) : FnOk P w K mg base CX0 2 T.f_Blocks_sizes T.d_Blocks_sizes ["self"] (spSz T.C_Blocks T.C_Calls T.C_Builder T.C_Asker) := by
  have G_Calls_check := ok_chk (P := P) (w := w) (base := base) T
  refine T.F_Blocks_sizes.ok sc_Blocks_sizes (fun vs H Q E h => ?_) (fun cdv A outer s H vs Q E hr h => ?_)
  · obtain ⟨cs, b, c, l, fb, fa, fj, z, Mem, Blk, ms, es, rfl, _⟩ := h
    rfl
  · obtain ⟨cs, b, c, l, fb, fa, fj, z, Mem, Blk, ms, es, rfl, ⟨⟨dx, bu, bdx, k, hh, p, hb, hbu, dbu, ⟨⟨cdx, kdx, ps, ls, hc, hl, hlog, hk, hh', hp, hps, hns⟩, _⟩⟩, _⟩, lm, q⟩ := h
    refine ⟨_, (pss_cons (ps_expr (pe_meth0 (pe_fld (pv 0) rfl) T.cl_Calls ⟨T.m_Calls_check, T.t_Calls_check, T.k_Calls_check⟩ G_Calls_check (hr.mono (by omega)) T.b_Calls_check .nil pass0))
      (pss_one (ps_ret (pe_lc (own := [("numbers", 2), ("block", 1)]) (g := gTup K 2 (gCons (gName 2) (gCons (gName 1) gNil))) (tt := tYes) rfl sc_Blocks_sizes.nd (pi_list (pe_fld (pv 0) rfl)) (blkOk_by (N := n_Blocks_sizes) (sc := defScope s_Blocks_sizes) (by decide +kernel)) (fun _ _ _ _ _ => (pg_tup (by rfl) (pgs_cons (pg_name (i := 2) sc_Blocks_sizes.nd rfl (.inl rfl)) (pgs_cons (pg_name (i := 1) sc_Blocks_sizes.nd rfl (.inl rfl)) pgs_nil)))) (fun _ _ _ _ _ => pts_nil) (fun _ _ _ _ _ => (pe_callB (call_lenK K rfl) (by rfl) T.z_len (by decide +kernel) (pa_cons (pv 2) pa_nil))))))), ?_⟩
    have lp : ps.length = (bns ms.length).length := by rw [← hns, List.length_map]
    have lb := bl_len ms.length
    rw [bns_len] at lp
    o_readsAll
    rename_i D nD
    refine lc_list (xs := tps ps) (fun i H' => Same H H' ∧ H' D = some (.lst (((ps.map Part.ns).take i).map fun ns => nV ns.length))) ⟨same_newF nD, upd_same⟩ (fun i H' _ h => sqlOf (h.1 _ _ hp)) ?_ ?_
    · rintro i x H' hx ⟨s1, e1⟩
      have hx' := hx
      unfold tps at hx
      rw [List.getElem?_map] at hx
      obtain ⟨y, hy, rfl⟩ := Option.map_eq_some_iff.mp hx
      have hi : i < ps.length := (List.getElem?_eq_some_iff.mp hy).1
      have hy2 := (hps y (List.mem_of_getElem? hy)).1
      have ht := s1 _ _ hy2.t
      have hn := s1 _ _ hy2.n
      have la : (((ps.map Part.ns).take i).map fun ns => nV ns.length).length < sizeLine := by
        rw [List.length_map, List.length_take, List.length_map, sizeLine_eq]
        omega
      o_readsAll
      rw [upd_same, List.take_add_one, List.getElem?_map, hy, List.map_append, List.length_map]
      rfl
    · rintro H' ⟨s1, e1⟩
      refine q D H' nD s1 ?_
      rw [e1, List.take_of_length_le (by unfold tps; rw [List.length_map, List.length_map]; exact Nat.le_refl _), hns, List.map_map]
      rfl
end
end Ob

set_option Elab.async false
set_option linter.all false
set_option maxRecDepth 100000
set_option maxHeartbeats 1000000
namespace Ob
open PySem PySem.Spec PyProof.Rows L2
open LamX (Tabs TabB TabS ExtN)

set_option hygiene false in
local macro_rules
  | `(tactic| kp_flats) => `(tactic| first
    | assumption
    | exact upd_same
    | (apply atNew; assumption; kp_flats)
    | (apply atNe; (next => kbo_bools); kp_flats)
    | (apply atSame; assumption; kp_flats)
    | (apply atKp; assumption; (next => kaf_pre); kp_flats))
set_option hygiene false in
local macro_rules
  | `(tactic| kaf_pre) => `(tactic| first
    | assumption
    | exact not_nil
    | (apply not_cons; (next => kbo_bools); kaf_pre)
    | (apply not_app; (next => kaf_pre); kaf_pre))
set_option hygiene false in
local macro_rules
  | `(tactic| kbo_bools) => `(tactic| first
    | assumption
    | (apply Ne.symm; assumption)
    | (apply neN; assumption; kp_flats)
    | (apply neN'; assumption; kp_flats))
set_option hygiene false in
local macro_rules
  | `(tactic| o_reads) => `(tactic| first
    | with_reducible rfl
    | assumption
    | rfl
    | kp_flats
    | (show SqL _ _ _ _; first | assumption | (apply sqlOf; kp_flats) | (apply sqlSame; assumption; o_reads))
    | (show SqT _ _ _ _; first | assumption | (apply sqtOf; kp_flats) | (apply sqtAll; assumption) | (apply sqtSame; assumption; o_reads))
    | (show Cls _ _; first | exact T.cl_Calls | exact T.cl_Asker | exact T.cl_Builder | exact T.cl_Blocks | exact T.cl_Version)
    | (show NoAttr _ _ _; first | exact T.n_Calls_entries | exact T.n_Calls_running | exact T.n_Asker_calls | exact T.n_Asker_ask_call | exact T.n_Asker_join_call | exact T.n_Asker_zero | exact T.n_Builder_calls | exact T.n_Builder_build_call | exact T.n_Blocks_calls | exact T.n_Blocks_builder | exact T.n_Blocks_asker | exact T.n_Blocks_held | exact T.n_Blocks_parts | exact T.n_Version_calls | exact T.n_Version_asker | exact T.n_Version_held | exact T.n_Version_parts)
    | (apply Or.inl; o_reads)
    | (apply Or.inr; o_reads)
    | (apply And.intro; (next => o_reads); o_reads)
    | (apply Exists.intro; o_reads)
    | exact Nat.le_of_ble_eq_true rfl
    | exact Nat.succ_ne_zero _
    | (show Fr _ _; kba_ints)
    | (show Same _ _; kd_subs)
    | (show Kp _ _ _; kxs_still)
    | (show (_ : Nat) ≤ _; simp only [List.length_append, List.length_map, List.length_cons, List.length_nil, List.length_take, List.length_drop, List.length_replicate, List.length_range, sizeLine_eq]; omega)
    | (show _ = none; apply Fr.h; kba_ints)
    | (show Bag _ _; first | assumption | (apply bag_putF; assumption; o_reads) | (apply bag_neF; (next => kbo_bools); o_reads) | (apply bag_kpR; assumption; (next => kaf_pre); o_reads))
    | omega
    | decide)
local macro_rules
  | `(tactic| o_readsAll) => `(tactic| repeat (first
    | (refine fun (pNew : Addr) (nNew : _ = none) => ?_; replace nNew := Fr.mk nNew)
    | (refine fun (xNew dNew : Addr) (nNew : _ = none) (mNew : _ = none) (eNew : dNew ≠ xNew) => ?_; replace nNew := Fr.mk nNew; replace mNew := Fr.mk mNew)
    | (apply And.intro; next => o_reads)
    | apply Exists.intro (α := V)
    | apply Exists.intro (α := Addr)
    | apply Exists.intro (α := Int)
    | apply Exists.intro (α := Bool)
    | apply Exists.intro (α := List V)
    | apply Exists.intro (α := List Nat)
    | apply Exists.intro (α := List (Str × V))
    | apply Exists.intro (α := List _)
    | apply Exists.intro (α := Str)
    | apply Exists.intro (α := HO)
    | apply Exists.intro (α := Sp)
    | apply Exists.intro (α := VK)))
set_option hygiene false in
local macro_rules
  | `(tactic| kba_ints) => `(tactic| first
    | assumption
    | (apply frUp; (first | assumption | (apply Ne.symm; assumption)); kba_ints)
    | (apply noneOf; assumption; intro oF eF; apply Exists.intro; kp_flats)
    | (apply frUp; (next => kbo_bools); kba_ints))
set_option hygiene false in
local macro_rules
  | `(tactic| kxs_still) => `(tactic| first
    | assumption
    | exact kp_refl _ _
    | (apply kp_newF; assumption; kxs_still)
    | (apply kp_new; assumption; kxs_still)
    | (apply kp_up; (next => o_fieldsN); kxs_still)
    | (apply kp_new; (next => kba_ints); kxs_still)
    | (apply kp_sameR; assumption; kxs_still)
    | (apply kp_transR; assumption; kxs_still)
    | (apply kp_freshR; assumption; (next => kaf_suf); kxs_still))
set_option hygiene false in
local macro_rules
  | `(tactic| kaf_suf) => `(tactic| first
    | assumption
    | exact subNil
    | (apply subCons; (first | (apply Or.inl; o_fieldsN) | (apply Or.inr; kba_ints)); kaf_suf)
    | (apply subApp; (next => kaf_suf); kaf_suf))
set_option hygiene false in
local macro_rules
  | `(tactic| o_fieldsN) => `(tactic| first
    | assumption
    | exact memA
    | (apply memB; o_fieldsN)
    | (apply memL; o_fieldsN)
    | (apply memR; o_fieldsN))
set_option hygiene false in
local macro_rules
  | `(tactic| kd_subs) => `(tactic| first
    | assumption
    | exact Same.refl _
    | (apply same_putF; assumption; kd_subs)
    | (apply same_putG; assumption; kd_subs)
    | (apply same_putF; (next => kba_ints); kd_subs)
    | (apply same_transR; assumption; kd_subs))

/-! ### versions -/
def VeO (C dx c k h p : Addr) : HO := .ins C dx [("calls", .ref c), ("asker", .ref k), ("held", .ref h), ("parts", .ref p)]
/-- the version at v -/
structure Ver (CV CC CA : Addr) (cs : List Addr) (v c l : Addr) (fa fj z : V) (Mem : V → Hp → Prop) (Blk : List V → V → Hp → Prop) (ms : List V) (es : List Ent) (H : Hp) : Prop where
  at_ : ∃ (dx k h p : Addr), H v = some (VeO CV dx c k h p) ∧ Core CC CA cs c l k h p fa fj z Mem Blk ms es H
  im : v ∉ cs
theorem Ver.kp {P : Program} {w : World} {K : PySem.W.Frag} {mg : Str → Option Value} {base : Heap} {n : Nat} {CV CC CA : Addr} {cs uv ds : List Addr} {v c l : Addr} {fb' fa fj z : V} {UR : List Ev → Hp → Prop} {Mem : V → Hp → Prop} {Blk : List V → V → Hp → Prop} {Qst : V → Hp → Prop} {Ans : V → List V → V → Hp → Prop} {ms : List V} {es : List Ent} {H H' : Hp}
    (U : US P w K mg base n cs uv fb' fa fj UR Mem Blk Qst Ans) (C : Ver CV CC CA cs v c l fa fj z Mem Blk ms es H) (kk : Kp ds H H') (s : ∀ a ∈ ds, a ∈ cs) (nc : c ∉ ds) (nl : l ∉ ds) (m : Mu H' ds) : Ver CV CC CA cs v c l fa fj z Mem Blk ms es H' := by
  obtain ⟨⟨dx, k, h, p, h1, h4⟩, o⟩ := C
  exact ⟨⟨dx, k, h, p, kk.at_ _ _ h1 fun z => o (s _ z), h4.kp U kk s nc nl m⟩, o⟩
theorem Ver.more {CV CC CA : Addr} {cs ds : List Addr} {v c l : Addr} {fa fj z : V} {Mem Mem' : V → Hp → Prop} {Blk Blk' : List V → V → Hp → Prop} {ms : List V} {es : List Ent} {H H' : Hp} (C : Ver CV CC CA cs v c l fa fj z Mem Blk ms es H) (s : Same H H') (f : ∀ a ∈ ds, Fr H a) (m : Mu H' ds)
    (hB : ∀ xs v, Blk xs v H → Blk' xs v H') (hM : ∀ x, Mem x H → Mem' x H') : Ver CV CC CA (ds ++ cs) v c l fa fj z Mem' Blk' ms es H' := by
  obtain ⟨⟨dx, k, h, p, h1, h4⟩, o⟩ := C
  exact ⟨⟨dx, k, h, p, s _ _ h1, h4.more s f m hB hM⟩, not_app (fun z => ne_of_none h1 (f _ z).h rfl) o⟩
theorem Ver.v_at {CV CC CA : Addr} {cs : List Addr} {v c l : Addr} {fa fj z : V} {Mem : V → Hp → Prop} {Blk : List V → V → Hp → Prop} {ms : List V} {es : List Ent} {H : Hp} (C : Ver CV CC CA cs v c l fa fj z Mem Blk ms es H) : ∃ dx k h p, H v = some (VeO CV dx c k h p) := by
  obtain ⟨⟨dx, k, h, p, h1, _⟩, _⟩ := C
  exact ⟨_, _, _, _, h1⟩
section
variable {P : Program} {w : World} {K : PySem.W.Frag} {mg : Str → Option Value} {base : Heap} {n : Nat}
def spVI (CV CC CA : Addr) : Sp := fun vs H Q _ => ∃ (v dx h p : Addr) (fa fj z : V), vs = [.ref v, .ref h, .ref p, fa, fj, z] ∧ H v = some (.ins CV dx []) ∧ ∀ (c cdx l k kdx : Addr) H', Fr H c → Fr H l → Fr H k →
  H' v = some (VeO CV dx c k h p) → H' c = some (CO CC cdx l false) → H' l = some (.lst []) → H' k = some (AO CA kdx c fa fj z) → k ≠ v → k ≠ c → v ≠ c → Kp [v] H H' → Q .non H'
theorem ok_vi (T : Txt K mg) : FnOk P w K mg base CX0 4 T.f_Version_init T.d_Version_init ["self", "held", "parts", "ask", "join", "zero"] (spVI T.C_Version T.C_Calls T.C_Asker) := by
  have G_Calls_init := ok_ci (P := P) (w := w) (base := base) T
  have G_Asker_init := ok_ai (P := P) (w := w) (base := base) T
  refine T.F_Version_init.ok sc_Version_init (fun vs H Q E h => ?_) (fun cdv A outer s H vs Q E hr h => ?_)
  · obtain ⟨v, dx, h, p, fa, fj, z, rfl, _⟩ := h
    rfl
  · obtain ⟨v, dx, h, p, fa, fj, z, rfl, hv, q⟩ := h
    refine ⟨_, (pss_cons (ps_fld (pv 0) (pe_make0 ⟨T.mk_Calls, T.m_Calls_init, T.t_Calls_init, T.kp_Calls⟩ G_Calls_init (hr.mono (by omega)) rfl T.gc_Calls T.b_Calls_init .nil pass0) rfl)
      (pss_cons (ps_fld (pv 0) (pe_make ⟨T.mk_Asker, T.m_Asker_init, T.t_Asker_init, T.kp_Asker⟩ G_Asker_init (hr.mono (by omega)) rfl T.gc_Asker T.b_Asker_init .nil pass0 (pa_cons (pe_fld (pv 0) rfl) (pa_cons (pv 3) (pa_cons (pv 4) (pa_cons (pv 5) pa_nil))))) rfl)
      (pss_cons (ps_fld (pv 0) (pv 1) rfl)
      (pss_one (ps_fld (pv 0) (pv 2) rfl))))), ?_⟩
    o_readsAll
    rename_i c cdx nec nc ncd
    intro l H1 nl e1 e2 k1
    o_readsAll
    rename_i k kdx nek nk nkd
    intro H3 e4 k3 f3
    o_readsAll
    exact q c cdx l k kdx _ (by kba_ints) (by kba_ints) (by kba_ints) (by kp_flats) (by kp_flats) (by kp_flats) (by kp_flats) (by kbo_bools) (by kbo_bools) (by kbo_bools) (by kxs_still)
def spVersion (CB CV CC CU CA : Addr) : Sp := fun vs H Q _ => ∃ (cs : List Addr) (b c l : Addr) (fb fa fj z : V) (Mem : V → Hp → Prop) (Blk : List V → V → Hp → Prop) (ms : List V) (es : List Ent), vs = [.ref b] ∧ Coll CB CC CU CA cs b c l fb fa fj z Mem Blk ms es H ∧
  ∀ v c' l' H', Same H H' → Fr H v → Fr H c' → Fr H l' → v ≠ c' → v ≠ l' → c' ≠ l' → ((∀ xs x, Blk xs x H → Blk xs x H') → (∀ x, Mem x H → Mem x H') → Ver CV CC CA ([c', l'] ++ cs) v c' l' fa fj z Mem Blk ms [] H' ∧ Mu H' [c', l']) → Q (.ref v) H'
theorem ok_version (T : Txt K mg) : FnOk P w K mg base CX0 6 T.f_Blocks_version T.d_Blocks_version ["self"] (spVersion T.C_Blocks T.C_Version T.C_Calls T.C_Builder T.C_Asker) := by
  have G_Version_init := ok_vi (P := P) (w := w) (base := base) T
  have G_Calls_check := ok_chk (P := P) (w := w) (base := base) T
  refine T.F_Blocks_version.ok sc_Blocks_version (fun vs H Q E h => ?_) (fun cdv A outer s H vs Q E hr h => ?_)
  · obtain ⟨cs, b, c, l, fb, fa, fj, z, Mem, Blk, ms, es, rfl, _⟩ := h
    rfl
  · obtain ⟨cs, b, c, l, fb, fa, fj, z, Mem, Blk, ms, es, rfl, ⟨⟨dx, bu, bdx, k, hh, p, hb, hbu, dbu, ⟨⟨cdx, kdx, ps, ls, hc, hl, hlog, hk, hh', hp, hps, hns⟩, hm, mu, ⟨i1, i2, i3⟩, ⟨oc, ol⟩⟩⟩, ob⟩, q⟩ := h
    refine ⟨_, (pss_cons (ps_expr (pe_meth0 (pe_fld (pv 0) rfl) T.cl_Calls ⟨T.m_Calls_check, T.t_Calls_check, T.k_Calls_check⟩ G_Calls_check (hr.mono (by omega)) T.b_Calls_check .nil pass0))
      (pss_cons (ps_set (i := 1) sc_Blocks_version.nd rfl (.inl rfl) (pe_fld (pv 0) rfl))
      (pss_one (ps_ret (pe_make ⟨T.mk_Version, T.m_Version_init, T.t_Version_init, T.kp_Version⟩ G_Version_init (hr.mono (by omega)) rfl T.gc_Version T.b_Version_init .nil pass0 (pa_cons (pe_fld (pv 0) rfl) (pa_cons (pe_fld (pv 0) rfl) (pa_cons (pe_fld (pv 1) rfl) (pa_cons (pe_fld (pv 1) rfl) (pa_cons (pe_fld (pv 1) rfl) pa_nil)))))))))), ?_⟩
    o_readsAll
    rename_i v vdx nev nv nvd
    intro c' cdx' l' k' kdx' H' fc fl fk e1 e2 e3 e4 n1 n2 n3 kv
    have s1 : Same H (upd (upd H vdx (.own v)) v (.ins T.C_Version vdx [])) := by kd_subs
    have fv : Fr H v := by kba_ints
    have sH : Same H H' := fun a o e => kv.at_ _ _ (s1 _ _ e) (not_cons (ne_of_none e fv.h) not_nil)
    have fc' : Fr H c' := by kba_ints
    have fl' : Fr H l' := by kba_ints
    have fk' : Fr H k' := by kba_ints
    have ncl : c' ≠ l' := neO e2 e3 (fun z => nomatch z)
    have nvl : v ≠ l' := neO e1 e3 (fun z => nomatch z)
    have nkl : k' ≠ l' := neO e4 e3 (fun z => nomatch z)
    have mo : Mu H' [c', l'] := mu_ins e2 (mu_lst e3 mu_nil)
    have ne : ∀ {a : Addr} {o : HO}, H a = some o → a ∉ cs → a ∉ [c', l'] ++ cs := fun {a o} e n => not_app (not_cons (ne_of_none e fc'.h) (not_cons (ne_of_none e fl'.h) not_nil)) n
    exact ⟨rfl, q v c' l' H' sH fv fc' fl' n3 nvl ncl fun hB hM => ⟨⟨⟨vdx, k', hh, p, e1, ⟨⟨cdx', kdx', ps, [], e2, e3, .nil, e4, sH _ _ hh', sH _ _ hp, fun x hx => ⟨(hps x hx).1.same sH, hB _ _ (hps x hx).2⟩, hns⟩, fun x hx => hM x (hm x hx), mu_app mo (mu.same sH), ⟨not_app (not_cons n2 (not_cons nkl not_nil)) (mu.fr fk'), ne hh' i2, ne hp i3⟩, ⟨memL memA, memL (memB memA)⟩⟩⟩, not_app (not_cons n3 (not_cons nvl not_nil)) (mu.fr fv)⟩, mo⟩⟩
def spVQ (P : Program) (w : World) (K : PySem.W.Frag) (mg : Str → Option Value) (base : Heap) (CV CC CA : Addr) (n : Nat) : Sp := fun vs H Q _ => ∃ (cs uv : List Addr) (v c l : Addr) (fb fa fj z : V) (UR : List Ev → Hp → Prop) (Mem : V → Hp → Prop) (Blk : List V → V → Hp → Prop) (Qst : V → Hp → Prop) (Ans : V → List V → V → Hp → Prop)
  (ms : List V) (es : List Ent) (u : List Ev) (qn : V), vs = [.ref v, qn] ∧ US P w K mg base n cs uv fb fa fj UR Mem Blk Qst Ans ∧ Ver CV CC CA cs v c l fa fj z Mem Blk ms es H ∧ (∀ a ∈ [c, l], a ∉ uv) ∧ UR u H ∧ Qst qn H ∧ u.length < 90000 ∧ es.length < 90000 ∧ ms.length < 900 ∧
  ∀ r evs H', Kp ([c, l] ++ uv) H H' → Mu H' uv → Ver CV CC CA cs v c l fa fj z Mem Blk ms (es ++ evs.map Ev.ent) H' → UR (u ++ evs) H' → QEv Ans qn ms H' (bns ms.length) evs → (ms = [] → r = z ∧ H' = H) → (ms ≠ [] → Ans qn ms r H') → Q r H'
theorem ok_vq (T : Txt K mg) : FnOk P w K mg base CX0 (n + 3) T.f_Version_query T.d_Version_query ["self", "question"] (spVQ P w K mg base T.C_Version T.C_Calls T.C_Asker n) := by
  have G_Calls_check := ok_chk (P := P) (w := w) (base := base) T
  have G_Asker_answer := fnBx (ok_ans (P := P) (w := w) (base := base) (n := n) T)
  refine T.F_Version_query.ok sc_Version_query (fun vs H Q E h => ?_) (fun cdv A outer s H vs Q E hr h => ?_)
  · obtain ⟨cs, uv, v, c, l, fb, fa, fj, z, UR, Mem, Blk, Qst, Ans, ms, es, u, m, rfl, _⟩ := h
    rfl
  · obtain ⟨cs, uv, v, c, l, fb, fa, fj, z, UR, Mem, Blk, Qst, Ans, ms, es, u, qn, rfl, U, ⟨⟨dx, k, hh, p, hv, C⟩, ov⟩, du, hu, hqn, lu, le, lm, q⟩ := h
    refine ⟨_, (pss_cons (ps_expr (pe_meth0 (pe_fld (pv 0) rfl) T.cl_Calls ⟨T.m_Calls_check, T.t_Calls_check, T.k_Calls_check⟩ G_Calls_check (hr.mono (by omega)) T.b_Calls_check .nil pass0))
      (pss_one (ps_ret (pe_meth (pe_fld (pv 0) rfl) T.cl_Asker ⟨T.m_Asker_answer, T.t_Asker_answer, T.k_Asker_answer⟩ G_Asker_answer (hr.mono (by omega)) T.bd_Asker_answer T.vd_Asker_answer pass0 (pa_cons (pe_fld (pv 0) rfl) (pa_cons (pv 1) pa_nil)))))), ?_⟩
    have hS := T.S_Asker_answer
    have C' := C
    obtain ⟨⟨cdx, kdx, ps, ls, hc, hl, hlog, hk, hh', hp, hps, hns⟩, hm, mu, ⟨i1, i2, i3⟩, ⟨oc, ol⟩⟩ := C'
    have su : ∀ a ∈ [c, l] ++ uv, a ∈ cs := subA (sub2 oc ol) U.sub
    o_readsAll
    refine ⟨ans_core T.C_Calls T.C_Asker U C (du c (by o_fieldsN)) (du l (by o_fieldsN)) hu hqn lu le lm hS fun r evs H' k1 m1 C1 u1 e1 a1 a2 => ?_⟩
    exact q r evs H' k1 m1 ⟨⟨dx, k, hh, p, k1.at_ _ _ hv (fun m => ov (su _ m)), C1⟩, ov⟩ u1 e1 a1 a2
def spVP (CV CC CA : Addr) (p : List V → List Ent → Addr → Hp → Prop) : Sp := fun vs H Q _ => ∃ (cs : List Addr) (v c l : Addr) (fa fj z : V) (Mem : V → Hp → Prop) (Blk : List V → V → Hp → Prop) (ms : List V) (es : List Ent), vs = [.ref v] ∧ Ver CV CC CA cs v c l fa fj z Mem Blk ms es H ∧ ms.length ≤ 900 ∧
  ∀ o H', Fr H o → Same H H' → p ms es o H' → Q (.ref o) H'
def pMem : List V → List Ent → Addr → Hp → Prop := fun ms _ o H => H o = some (.lst ms)
def pLog : List V → List Ent → Addr → Hp → Prop := fun _ es o H => ∃ us, H o = some (.lst us) ∧ LogAt [] H us es
def pPlq : List V → List Ent → Addr → Hp → Prop := fun ms _ o H => ∃ us, H o = some (.lst us) ∧ LogAt [] H us (qents 0 (bns ms.length))
def spVLen (CV CC CA : Addr) : Sp := fun vs H Q _ => ∃ (cs : List Addr) (v c l : Addr) (fa fj z : V) (Mem : V → Hp → Prop) (Blk : List V → V → Hp → Prop) (ms : List V) (es : List Ent), vs = [.ref v] ∧ Ver CV CC CA cs v c l fa fj z Mem Blk ms es H ∧ Q (.int (ms.length : Int)) H
end
end Ob

set_option Elab.async false
set_option linter.all false
set_option maxRecDepth 100000
set_option maxHeartbeats 1000000
namespace Ob
open PySem PySem.Spec PyProof.Rows L2
open LamX (Tabs TabB TabS ExtN)

set_option hygiene false in
local macro_rules
  | `(tactic| kp_flats) => `(tactic| first
    | assumption
    | exact upd_same
    | (apply atNew; assumption; kp_flats)
    | (apply atNe; (next => kbo_bools); kp_flats)
    | (apply atSame; assumption; kp_flats)
    | (apply atKp; assumption; (next => kaf_pre); kp_flats))
set_option hygiene false in
local macro_rules
  | `(tactic| kaf_pre) => `(tactic| first
    | assumption
    | exact not_nil
    | (apply not_cons; (next => kbo_bools); kaf_pre)
    | (apply not_app; (next => kaf_pre); kaf_pre))
set_option hygiene false in
local macro_rules
  | `(tactic| kbo_bools) => `(tactic| first
    | assumption
    | (apply Ne.symm; assumption)
    | (apply neN; assumption; kp_flats)
    | (apply neN'; assumption; kp_flats))
set_option hygiene false in
local macro_rules
  | `(tactic| o_reads) => `(tactic| first
    | with_reducible rfl
    | assumption
    | rfl
    | kp_flats
    | (show SqL _ _ _ _; first | assumption | (apply sqlOf; kp_flats) | (apply sqlSame; assumption; o_reads))
    | (show SqT _ _ _ _; first | assumption | (apply sqtOf; kp_flats) | (apply sqtAll; assumption) | (apply sqtSame; assumption; o_reads))
    | (show Cls _ _; first | exact T.cl_Calls | exact T.cl_Asker | exact T.cl_Builder | exact T.cl_Blocks | exact T.cl_Version)
    | (show NoAttr _ _ _; first | exact T.n_Calls_entries | exact T.n_Calls_running | exact T.n_Asker_calls | exact T.n_Asker_ask_call | exact T.n_Asker_join_call | exact T.n_Asker_zero | exact T.n_Builder_calls | exact T.n_Builder_build_call | exact T.n_Blocks_calls | exact T.n_Blocks_builder | exact T.n_Blocks_asker | exact T.n_Blocks_held | exact T.n_Blocks_parts | exact T.n_Version_calls | exact T.n_Version_asker | exact T.n_Version_held | exact T.n_Version_parts)
    | (apply Or.inl; o_reads)
    | (apply Or.inr; o_reads)
    | (apply And.intro; (next => o_reads); o_reads)
    | (apply Exists.intro; o_reads)
    | exact Nat.le_of_ble_eq_true rfl
    | exact Nat.succ_ne_zero _
    | (show Fr _ _; kba_ints)
    | (show Same _ _; kd_subs)
    | (show Kp _ _ _; kxs_still)
    | (show (_ : Nat) ≤ _; simp only [List.length_append, List.length_map, List.length_cons, List.length_nil, List.length_take, List.length_drop, List.length_replicate, List.length_range, sizeLine_eq]; omega)
    | (show _ = none; apply Fr.h; kba_ints)
    | (show Bag _ _; first | assumption | (apply bag_putF; assumption; o_reads) | (apply bag_neF; (next => kbo_bools); o_reads) | (apply bag_kpR; assumption; (next => kaf_pre); o_reads))
    | omega
    | decide)
local macro_rules
  | `(tactic| o_readsAll) => `(tactic| repeat (first
    | (refine fun (pNew : Addr) (nNew : _ = none) => ?_; replace nNew := Fr.mk nNew)
    | (refine fun (xNew dNew : Addr) (nNew : _ = none) (mNew : _ = none) (eNew : dNew ≠ xNew) => ?_; replace nNew := Fr.mk nNew; replace mNew := Fr.mk mNew)
    | (apply And.intro; next => o_reads)
    | apply Exists.intro (α := V)
    | apply Exists.intro (α := Addr)
    | apply Exists.intro (α := Int)
    | apply Exists.intro (α := Bool)
    | apply Exists.intro (α := List V)
    | apply Exists.intro (α := List Nat)
    | apply Exists.intro (α := List (Str × V))
    | apply Exists.intro (α := List _)
    | apply Exists.intro (α := Str)
    | apply Exists.intro (α := HO)
    | apply Exists.intro (α := Sp)
    | apply Exists.intro (α := VK)))
set_option hygiene false in
local macro_rules
  | `(tactic| kba_ints) => `(tactic| first
    | assumption
    | (apply frUp; (first | assumption | (apply Ne.symm; assumption)); kba_ints)
    | (apply noneOf; assumption; intro oF eF; apply Exists.intro; kp_flats)
    | (apply frUp; (next => kbo_bools); kba_ints))
set_option hygiene false in
local macro_rules
  | `(tactic| kxs_still) => `(tactic| first
    | assumption
    | exact kp_refl _ _
    | (apply kp_newF; assumption; kxs_still)
    | (apply kp_new; assumption; kxs_still)
    | (apply kp_up; (next => o_fieldsN); kxs_still)
    | (apply kp_new; (next => kba_ints); kxs_still)
    | (apply kp_sameR; assumption; kxs_still)
    | (apply kp_transR; assumption; kxs_still)
    | (apply kp_freshR; assumption; (next => kaf_suf); kxs_still))
set_option hygiene false in
local macro_rules
  | `(tactic| kaf_suf) => `(tactic| first
    | assumption
    | exact subNil
    | (apply subCons; (first | (apply Or.inl; o_fieldsN) | (apply Or.inr; kba_ints)); kaf_suf)
    | (apply subApp; (next => kaf_suf); kaf_suf))
set_option hygiene false in
local macro_rules
  | `(tactic| o_fieldsN) => `(tactic| first
    | assumption
    | exact memA
    | (apply memB; o_fieldsN)
    | (apply memL; o_fieldsN)
    | (apply memR; o_fieldsN))
set_option hygiene false in
local macro_rules
  | `(tactic| kd_subs) => `(tactic| first
    | assumption
    | exact Same.refl _
    | (apply same_putF; assumption; kd_subs)
    | (apply same_putG; assumption; kd_subs)
    | (apply same_putF; (next => kba_ints); kd_subs)
    | (apply same_transR; assumption; kd_subs))

/-- either of two readings -/
def tEither (a b : TE) : TE := fun σ H Q => a σ H Q ∨ b σ H Q
theorem pe_or {X : Cx} {e : Expr} {a b : TE} (h : PE X e a) (k : PE X e b) : PE X e (tEither a b) := ⟨fun pins s σ H Q I z => z.elim (h.run pins s σ H Q I) (k.run pins s σ H Q I)⟩

set_option pp.maxSteps 700
/-! ### branches, and what a home is -/
section
variable {P : Program} {w : World} {K : PySem.W.Frag} {mg : Str → Option Value} {base : Heap} {n : Nat}
def spBranch (CB CC CU CA : Addr) : Sp := fun vs H Q _ => ∃ (cs : List Addr) (b c l : Addr) (fb fa fj z : V) (Mem : V → Hp → Prop) (Blk : List V → V → Hp → Prop) (ms : List V) (es : List Ent), vs = [.ref b] ∧ Coll CB CC CU CA cs b c l fb fa fj z Mem Blk ms es H ∧
  ∀ b' c' l' H', Same H H' → Fr H b' → Fr H c' → Fr H l' → b' ≠ c' → b' ≠ l' → c' ≠ l' → ((∀ xs x, Blk xs x H → Blk xs x H') → (∀ x, Mem x H → Mem x H') → Coll CB CC CU CA ([b', c', l'] ++ cs) b' c' l' fb fa fj z Mem Blk ms [] H' ∧ Mu H' [b', c', l']) → Q (.ref b') H'
theorem ok_branch (T : Txt K mg) : FnOk P w K mg base CX0 6 T.f_Blocks_branch T.d_Blocks_branch ["self"] (spBranch T.C_Blocks T.C_Calls T.C_Builder T.C_Asker) := by
  have G_Blocks_init := fnBx (ok_bi (P := P) (w := w) (base := base) T)
  have G_Calls_check := ok_chk (P := P) (w := w) (base := base) T
  obtain ⟨mv0, KB_Blocks_init⟩ := FunD.kbinds0 (ps := ["self", "build", "ask", "join", "zero"]) T.F_Blocks_init 4 ["zero"] [] (fun us mv ws => us ++ ws) (List.cons_ne_nil _ _) (fun _ z => nomatch z) (fun a _ c => a.append c)
    (fun D doc pm an cdv ct us mv ws h1 h2 h3 => match us, h1, mv, h2, ws, h3 with | [_, _, _, _], _, [], _, [_], _ => rfl)
  refine T.F_Blocks_branch.ok sc_Blocks_branch (fun vs H Q E h => ?_) (fun cdv A outer s H vs Q E hr h => ?_)
  · obtain ⟨cs, b, c, l, fb, fa, fj, z, Mem, Blk, ms, es, rfl, _⟩ := h
    rfl
  · obtain ⟨cs, b, c, l, fb, fa, fj, z, Mem, Blk, ms, es, rfl, ⟨⟨dx, bu, bdx, k, hh, p, hb, hbu, dbu, ⟨⟨cdx, kdx, ps, ls, hc, hl, hlog, hk, hh', hp, hps, hns⟩, hm, mu, ⟨i1, i2, i3⟩, ⟨oc, ol⟩⟩⟩, ob⟩, q⟩ := h
    refine ⟨_, (pss_cons (ps_expr (pe_meth0 (pe_fld (pv 0) rfl) T.cl_Calls ⟨T.m_Calls_check, T.t_Calls_check, T.k_Calls_check⟩ G_Calls_check (hr.mono (by omega)) T.b_Calls_check .nil pass0))
      (pss_cons (ps_set (i := 1) sc_Blocks_branch.nd rfl (.inl rfl) (pe_fld (pv 0) rfl))
      (pss_cons (ps_set (i := 2) sc_Blocks_branch.nd rfl (.inl rfl) (pe_makeK ⟨T.mk_Blocks, T.m_Blocks_init, T.t_Blocks_init, T.kp_Blocks⟩ G_Blocks_init (hr.mono (by omega)) rfl T.gc_Blocks KB_Blocks_init pass0 (pa_cons (pe_fld (pe_fld (pv 0) rfl) rfl) (pa_cons (pe_fld (pv 1) rfl) (pa_cons (pe_fld (pv 1) rfl) pa_nil))) (pk_cons (pe_fld (pv 1) rfl) pk_nil)))
      (pss_cons (ps_fld (pv 2) (pe_fld (pv 0) rfl) rfl)
      (pss_cons (ps_fld (pv 2) (pe_fld (pv 0) rfl) rfl)
      (pss_one (ps_ret (pv 2)))))))), ?_⟩
    o_readsAll
    rename_i b' dx' neb nb' nbd
    refine ⟨b', dx', fb, fa, fj, z, rfl, upd_same, ?_⟩
    intro c' cdx' l' bu' bdx' ka kdx' h' p' H4 fc fl fbu fk fh fp q1 q2 q3 q4 q5 q6 q7 nlh nlp nhp ub uc kb kc bc k4
    refine ⟨rfl, ?_⟩
    have s1 : Same H (upd (upd H dx' (.own b')) b' (.ins T.C_Blocks dx' [])) := by kd_subs
    have fb' : Fr H b' := by kba_ints
    have s4 : Same H H4 := fun a o e => k4.at_ _ _ (s1 _ _ e) (not_cons (ne_of_none e fb'.h) not_nil)
    have hb4 := s4 _ _ hb
    have hk4 := s4 _ _ hk
    have nbb : b ≠ b' := ne_of_none hb fb'.h
    have fc' : Fr H c' := by kba_ints
    have fl' : Fr H l' := by kba_ints
    have fbu' : Fr H bu' := by kba_ints
    have fk' : Fr H ka := by kba_ints
    have bn : b' ≠ l' := neO q1 q3 (fun z => nomatch z)
    have cn : c' ≠ l' := neO q2 q3 (fun z => nomatch z)
    have kn : ka ≠ l' := neO q5 q3 (fun z => nomatch z)
    have un : bu' ≠ l' := neO q4 q3 (fun z => nomatch z)
    o_readsAll
    generalize hH5 : upd (upd H4 b' _) b' _ = H5
    have hb5 : H5 b' = some (BlO T.C_Blocks dx' c' bu' ka hh p) := by
      rw [← hH5, upd_same]
      rfl
    have k5 : Kp [b'] H4 H5 := by
      rw [← hH5]
      exact kp_up memA (kp_up memA (kp_refl _ _))
    have sH : Same H H5 := fun a o e => k5.at_ _ _ (s4 _ _ e) (not_cons (ne_of_none e fb'.h) not_nil)
    have mo : Mu H5 [b', c', l'] := mu_ins hb5 (mu_ins (k5.at_ _ _ q2 (not_cons (Ne.symm bc) not_nil)) (mu_lst (k5.at_ _ _ q3 (not_cons (Ne.symm bn) not_nil)) mu_nil))
    have ne : ∀ {a : Addr} {o : HO}, H a = some o → a ∉ cs → a ∉ [b', c', l'] ++ cs := fun {a o} e n => not_app (not_cons (ne_of_none e fb'.h) (not_cons (ne_of_none e fc'.h) (not_cons (ne_of_none e fl'.h) not_nil))) n
    exact q b' c' l' H5 sH fb' fc' fl' bc bn cn fun hB hM => ⟨⟨⟨dx', bu', bdx', ka, hh, p, hb5, k5.at_ _ _ q4 (not_cons ub not_nil), not_app (not_cons ub (not_cons uc (not_cons un not_nil))) (mu.fr fbu'), ⟨⟨cdx', kdx', ps, [], k5.at_ _ _ q2 (not_cons (Ne.symm bc) not_nil), k5.at_ _ _ q3 (not_cons (Ne.symm bn) not_nil), .nil, k5.at_ _ _ q5 (not_cons kb not_nil), sH _ _ hh', sH _ _ hp, fun x hx => ⟨(hps x hx).1.same sH, hB _ _ (hps x hx).2⟩, hns⟩, fun x hx => hM x (hm x hx), mu_app mo (mu.same sH), ⟨not_app (not_cons kb (not_cons kc (not_cons kn not_nil))) (mu.fr fk'), ne hh' i2, ne hp i3⟩, ⟨memL (memB memA), memL (memB (memB memA))⟩⟩⟩, memL memA⟩, mo⟩
/-! ### homes: a collection, or a version of one -/
structure HRec where
  g : Bool
  o : Addr
  c : Addr
  l : Addr
def hown (x : HRec) : List Addr := if x.g = true then [x.o, x.c, x.l] else [x.c, x.l]
theorem hown_c {x : HRec} : x.c ∈ hown x := by
  unfold hown
  split
  · o_fieldsN
  · o_fieldsN
theorem hown_l {x : HRec} : x.l ∈ hown x := by
  unfold hown
  split
  · o_fieldsN
  · o_fieldsN
theorem hown_o {x : HRec} (h : x.g = true) : x.o ∈ hown x := by
  unfold hown
  rw [if_pos h]
  o_fieldsN
def csH (bs : List Addr) (hs : List HRec) : List Addr := bs ++ hs.flatMap hown
theorem csH_b {bs : List Addr} {hs : List HRec} {a : Addr} (h : a ∈ bs) : a ∈ csH bs hs := List.mem_append_left _ h
theorem csH_v {bs : List Addr} {hs : List HRec} {a : Addr} {x : HRec} (h : x ∈ hs) (m : a ∈ hown x) : a ∈ csH bs hs := List.mem_append_right _ (List.mem_flatMap.mpr ⟨x, h, m⟩)
theorem csH_in {bs : List Addr} {hs : List HRec} {a : Addr} (h : a ∈ csH bs hs) : a ∈ bs ∨ ∃ x, x ∈ hs ∧ a ∈ hown x := (List.mem_append.mp h).imp id fun z => List.mem_flatMap.mp z
theorem csH_new {bs : List Addr} {hs : List HRec} {x : HRec} {a : Addr} (h : a ∈ csH bs (hs ++ [x])) : a ∈ hown x ++ csH bs hs := by
  rcases csH_in h with h | ⟨y, h1, h2⟩
  · exact memR (csH_b h)
  · rcases List.mem_append.mp h1 with h1 | h1
    · exact memR (csH_v h1 h2)
    · rw [List.mem_singleton.mp h1] at h2
      exact memL h2
theorem csH_old {bs : List Addr} {hs : List HRec} {x : HRec} {a : Addr} (h : a ∈ csH bs hs) : a ∈ csH bs (hs ++ [x]) := by
  rcases csH_in h with h | ⟨y, h1, h2⟩
  · exact csH_b h
  · exact csH_v (List.mem_append_left _ h1) h2
theorem Core.perm {CC CA : Addr} {cs cs' : List Addr} {c l k h p : Addr} {fa fj z : V} {Mem : V → Hp → Prop} {Blk : List V → V → Hp → Prop} {ms : List V} {es : List Ent} {H : Hp} (C : Core CC CA cs c l k h p fa fj z Mem Blk ms es H) (s : ∀ a ∈ cs', a ∈ cs) (hc : c ∈ cs') (hl : l ∈ cs') : Core CC CA cs' c l k h p fa fj z Mem Blk ms es H :=
  ⟨C.at_, C.mem, C.mu.sub s, ⟨fun m => C.im.1 (s _ m), fun m => C.im.2.1 (s _ m), fun m => C.im.2.2 (s _ m)⟩, ⟨hc, hl⟩⟩
theorem Coll.perm {CB CC CU CA : Addr} {cs cs' : List Addr} {b c l : Addr} {fb fa fj z : V} {Mem : V → Hp → Prop} {Blk : List V → V → Hp → Prop} {ms : List V} {es : List Ent} {H : Hp} (C : Coll CB CC CU CA cs b c l fb fa fj z Mem Blk ms es H) (s : ∀ a ∈ cs', a ∈ cs) (hb : b ∈ cs') (hc : c ∈ cs') (hl : l ∈ cs') : Coll CB CC CU CA cs' b c l fb fa fj z Mem Blk ms es H := by
  obtain ⟨⟨dx, bu, bdx, k, h, p, h1, h2, h3, h4⟩, o⟩ := C
  exact ⟨⟨dx, bu, bdx, k, h, p, h1, h2, fun m => h3 (s _ m), h4.perm s hc hl⟩, hb⟩
theorem Ver.perm {CV CC CA : Addr} {cs cs' : List Addr} {v c l : Addr} {fa fj z : V} {Mem : V → Hp → Prop} {Blk : List V → V → Hp → Prop} {ms : List V} {es : List Ent} {H : Hp} (C : Ver CV CC CA cs v c l fa fj z Mem Blk ms es H) (s : ∀ a ∈ cs', a ∈ cs) (hc : c ∈ cs') (hl : l ∈ cs') : Ver CV CC CA cs' v c l fa fj z Mem Blk ms es H := by
  obtain ⟨⟨dx, k, h, p, h1, h4⟩, o⟩ := C
  exact ⟨⟨dx, k, h, p, h1, h4.perm s hc hl⟩, fun m => o (s _ m)⟩
inductive HomeAt (T : Txt K mg) (cs : List Addr) (fb fa fj z : V) (Mem : V → Hp → Prop) (Blk : List V → V → Hp → Prop) : HRec → List V → List Ent → Hp → Prop where
  | blk {o c l : Addr} {ms : List V} {es : List Ent} {H : Hp} (h : Coll T.C_Blocks T.C_Calls T.C_Builder T.C_Asker cs o c l fb fa fj z Mem Blk ms es H) : HomeAt T cs fb fa fj z Mem Blk ⟨true, o, c, l⟩ ms es H
  | ver {o c l : Addr} {ms : List V} {es : List Ent} {H : Hp} (h : Ver T.C_Version T.C_Calls T.C_Asker cs o c l fa fj z Mem Blk ms es H) : HomeAt T cs fb fa fj z Mem Blk ⟨false, o, c, l⟩ ms es H
variable {T : Txt K mg} {cs cs' uv ds : List Addr} {fb fa fj z qn : V} {UR : List Ev → Hp → Prop} {Mem Mem' : V → Hp → Prop} {Blk Blk' : List V → V → Hp → Prop} {Qst : V → Hp → Prop} {Ans : V → List V → V → Hp → Prop} {x : HRec} {ms : List V} {es : List Ent} {u : List Ev} {H H' : Hp} {ta tb : TE} {tt : TA} {σ : L2.St} {Q : VK}
theorem HomeAt.kp (U : US P w K mg base n cs uv fb fa fj UR Mem Blk Qst Ans) (h : HomeAt T cs fb fa fj z Mem Blk x ms es H) (kk : Kp ds H H') (s : ∀ a ∈ ds, a ∈ cs) (d : ∀ a ∈ hown x, a ∉ ds) (m : Mu H' ds) : HomeAt T cs fb fa fj z Mem Blk x ms es H' := by
  cases h with
  | blk h => exact .blk (h.kp U kk s (d _ (hown_o rfl)) (d _ hown_c) (d _ hown_l) m)
  | ver h => exact .ver (h.kp U kk s (d _ hown_c) (d _ hown_l) m)
theorem HomeAt.own (h : HomeAt T cs fb fa fj z Mem Blk x ms es H) : ∀ a ∈ hown x, a ∈ cs := by
  cases h with
  | blk h => exact h.owns
  | ver h =>
    obtain ⟨⟨dx, k, hh, p, h1, C⟩, o⟩ := h
    exact subCons C.own.1 (subCons C.own.2 subNil)
theorem HomeAt.more (h : HomeAt T cs fb fa fj z Mem Blk x ms es H) (s : Same H H') (f : ∀ a ∈ ds, Fr H a) (m : Mu H' ds) (hB : ∀ xs v, Blk xs v H → Blk' xs v H') (hM : ∀ x, Mem x H → Mem' x H') {cs2 : List Addr} (p1 : ∀ a ∈ cs2, a ∈ ds ++ cs) (p2 : ∀ a ∈ cs, a ∈ cs2) : HomeAt T cs2 fb fa fj z Mem' Blk' x ms es H' := by
  have o := h.own
  cases h with
  | blk h => exact .blk ((h.more s f m hB hM).perm p1 (p2 _ (o _ (hown_o rfl))) (p2 _ (o _ hown_c)) (p2 _ (o _ hown_l)))
  | ver h => exact .ver ((h.more s f m hB hM).perm p1 (p2 _ (o _ hown_c)) (p2 _ (o _ hown_l)))
theorem HomeAt.mu (h : HomeAt T cs fb fa fj z Mem Blk x ms es H) : Mu H cs := by
  cases h with
  | blk h => exact h.mu
  | ver h =>
    obtain ⟨⟨dx, k, hh, p, h1, C⟩, o⟩ := h
    exact C.mu
theorem HomeAt.ntx (h : HomeAt T cs fb fa fj z Mem Blk x ms es H) : NTx H (hown x) := by
  cases h with
  | blk h => exact h.ntx
  | ver h =>
    obtain ⟨⟨dx, k, hh, p, h1, ⟨⟨cdx, kdx, ps, vs, hc, hl, _⟩, _⟩⟩, o⟩ := h
    exact ntx_ins hc (ntx_lst hl ntx_nil)
/-! either reading -/
theorem query2 (h : HomeAt T cs fb fa fj z Mem Blk x ms es H) (U : US P w K mg base n cs uv fb fa fj UR Mem Blk Qst Ans) (du : ∀ a ∈ hown x, a ∉ uv) (hu : UR u H) (hq : Qst qn H) (lu : u.length < 90000) (le : es.length < 90000) (lm : ms.length < 900) (hta : ∀ R : VK, R (.ref x.o) H → ta σ H R) (ht : ∀ R : List V → Hp → Prop, R [qn] H → tt σ H R)
    (k : ∀ v evs H', Kp (hown x ++ uv) H H' → Mu H' uv → HomeAt T cs fb fa fj z Mem Blk x ms (es ++ evs.map Ev.ent) H' → UR (u ++ evs) H' → QEv Ans qn ms H' (bns ms.length) evs → (ms = [] → v = z ∧ H' = H) → (ms ≠ [] → Ans qn ms v H') → Q v H') :
    tEither (tMeth T.C_Blocks "query" (bx (spQry P w K mg base T.C_Blocks T.C_Calls T.C_Builder T.C_Asker n)) [] E0 ta tt) (tMeth T.C_Version "query" (bx (spVQ P w K mg base T.C_Version T.C_Calls T.C_Asker n)) [] E0 ta tt) σ H Q := by
  cases h with
  | @blk o c l _ _ _ h =>
    obtain ⟨dx, bu, k', hh, p, hb⟩ := h.b_at
    exact Or.inl (hta _ ⟨o, dx, _, rfl, hb, rfl, ht _ ⟨⟨cs, uv, o, c, l, fb, fa, fj, z, UR, Mem, Blk, Qst, Ans, ms, es, u, qn, rfl, U, h, du, hu, hq, lu, le, lm, fun v evs H' k1 m1 C1 u1 e1 a1 a2 => k v evs H' (kp_more k1 (subCons (memB memA) (subCons (memB (memB memA)) fun a m => memB (memB (memB m))))) m1 (.blk C1) u1 e1 a1 a2⟩⟩⟩)
  | @ver o c l _ _ _ h =>
    obtain ⟨dx, k', hh, p, hb⟩ := h.v_at
    exact Or.inr (hta _ ⟨o, dx, _, rfl, hb, rfl, ht _ ⟨⟨cs, uv, o, c, l, fb, fa, fj, z, UR, Mem, Blk, Qst, Ans, ms, es, u, qn, rfl, U, h, du, hu, hq, lu, le, lm, fun v evs H' k1 m1 C1 u1 e1 a1 a2 => k v evs H' k1 m1 (.ver C1) u1 e1 a1 a2⟩⟩⟩)
theorem mem2 (h : HomeAt T cs fb fa fj z Mem Blk x ms es H) (lm : ms.length ≤ 900) (hta : ∀ R : VK, R (.ref x.o) H → ta σ H R) (k : ∀ o H', Fr H o → Same H H' → H' o = some (.lst ms) → Q (.ref o) H') :
    tEither (tMeth T.C_Blocks "members" (bx (spMem T.C_Blocks T.C_Calls T.C_Builder T.C_Asker)) [] E0 ta tNil) (tMeth T.C_Version "members" (bx (spVP T.C_Version T.C_Calls T.C_Asker pMem)) [] E0 ta tNil) σ H Q := by
  cases h with
  | @blk o c l _ _ _ h =>
    obtain ⟨dx, bu, k', hh, p, hb⟩ := h.b_at
    exact Or.inl (hta _ ⟨o, dx, _, rfl, hb, rfl, ⟨⟨cs, o, c, l, fb, fa, fj, z, Mem, Blk, ms, es, rfl, h, k⟩⟩⟩)
  | @ver o c l _ _ _ h =>
    obtain ⟨dx, k', hh, p, hb⟩ := h.v_at
    exact Or.inr (hta _ ⟨o, dx, _, rfl, hb, rfl, ⟨⟨cs, o, c, l, fa, fj, z, Mem, Blk, ms, es, rfl, h, lm, k⟩⟩⟩)
theorem log2 (h : HomeAt T cs fb fa fj z Mem Blk x ms es H) (lm : ms.length ≤ 900) (hta : ∀ R : VK, R (.ref x.o) H → ta σ H R) (k : ∀ o us H', Fr H o → Same H H' → H' o = some (.lst us) → LogAt [] H' us es → Q (.ref o) H') :
    tEither (tMeth T.C_Blocks "log" (bx (spLog T.C_Blocks T.C_Calls T.C_Builder T.C_Asker)) [] E0 ta tNil) (tMeth T.C_Version "log" (bx (spVP T.C_Version T.C_Calls T.C_Asker pLog)) [] E0 ta tNil) σ H Q := by
  cases h with
  | @blk o c l _ _ _ h =>
    obtain ⟨dx, bu, k', hh, p, hb⟩ := h.b_at
    exact Or.inl (hta _ ⟨o, dx, _, rfl, hb, rfl, ⟨⟨cs, o, c, l, fb, fa, fj, z, Mem, Blk, ms, es, rfl, h, k⟩⟩⟩)
  | @ver o c l _ _ _ h =>
    obtain ⟨dx, k', hh, p, hb⟩ := h.v_at
    exact Or.inr (hta _ ⟨o, dx, _, rfl, hb, rfl, ⟨⟨cs, o, c, l, fa, fj, z, Mem, Blk, ms, es, rfl, h, lm, fun o' H' f s ⟨us, e1, e2⟩ => k o' us H' f s e1 e2⟩⟩⟩)
end
end Ob

set_option Elab.async false
set_option linter.all false
set_option maxRecDepth 100000
set_option maxHeartbeats 1000000
namespace Ob
open PySem PySem.Spec PyProof.Rows L2
open LamX (Tabs TabB TabS ExtN)

def szF : Nat → Nat → List Nat
  | 0, _ => []
  | f + 1, n => if n = 0 then [] else 2 ^ n.log2 :: szF f (n - 2 ^ n.log2)
theorem szF_zero (f : Nat) : szF f 0 = [] := by
  cases f with
  | zero => rfl
  | succ f => exact if_pos rfl
theorem szF_pos {f n : Nat} (h : n ≠ 0) : szF (f + 1) n = 2 ^ n.log2 :: szF f (n - 2 ^ n.log2) := if_neg h
theorem szF_sum : ∀ (f n : Nat), n < 2 ^ f → (szF f n).sum = n
  | 0, n, h => by
    have : n = 0 := by simpa using h
    subst this
    rfl
  | f + 1, n, h => by
    by_cases z : n = 0
    · subst z
      rw [szF_zero]
      rfl
    · rw [szF_pos z, List.sum_cons, szF_sum f _ (rest_lt' z h)]
      have := log_lo z
      omega
theorem szF_len : ∀ (f n : Nat), (szF f n).length ≤ f
  | 0, n => Nat.le_refl _
  | f + 1, n => by
    by_cases z : n = 0
    · subst z
      rw [szF_zero]
      exact Nat.zero_le _
    · rw [szF_pos z, List.length_cons]
      have := szF_len f (n - 2 ^ n.log2)
      omega
theorem szF_mem : ∀ (f n : Nat), n < 2 ^ f → ∀ x ∈ szF f n, (∃ j, j < f ∧ x = 2 ^ j) ∧ x ≤ n
  | 0, n, h, x, hx => by cases hx
  | f + 1, n, h, x, hx => by
    by_cases z : n = 0
    · subst z
      rw [szF_zero] at hx
      cases hx
    · rw [szF_pos z] at hx
      rcases List.mem_cons.mp hx with rfl | hx
      · exact ⟨⟨_, log_lt z h, rfl⟩, log_lo z⟩
      · obtain ⟨⟨j, hj, e⟩, l⟩ := szF_mem f _ (rest_lt' z h) x hx
        exact ⟨⟨j, Nat.lt_succ_of_lt hj, e⟩, Nat.le_trans l (Nat.sub_le _ _)⟩
theorem szF_desc : ∀ (f n : Nat), n < 2 ^ f → (szF f n).Pairwise (fun a b => b < a)
  | 0, n, h => List.Pairwise.nil
  | f + 1, n, h => by
    by_cases z : n = 0
    · subst z
      rw [szF_zero]
      exact List.Pairwise.nil
    · rw [szF_pos z]
      refine List.Pairwise.cons (fun x hx => ?_) (szF_desc f _ (rest_lt' z h))
      have := (szF_mem f _ (rest_lt' z h) x hx).2
      have := rest_lt z
      omega

/-- the sum of the lowest powers, by halves -/
def tot (n : Nat) : Nat := if h : n = 0 then 0 else (n - n / 2) + 2 * tot (n / 2)
termination_by n
decreasing_by omega
theorem tot_zero : tot 0 = 0 := by
  rw [tot]
  exact dif_pos rfl
theorem tot_pos {n : Nat} (h : n ≠ 0) : tot n = (n - n / 2) + 2 * tot (n / 2) := by
  rw [tot]
  exact dif_neg h
theorem tot_all (n : Nat) : tot n = (n - n / 2) + 2 * tot (n / 2) := by
  by_cases h : n = 0
  · subst h
    rw [tot_zero]
  · exact tot_pos h

/-- the lowest power, by counting down -/
def lowF : Nat → Nat → Nat
  | 0, _ => 1
  | f + 1, n => if n % 2 = 0 then 2 * lowF f (n / 2) else 1
theorem lowF_is : ∀ f n, n ≠ 0 → n < 2 ^ f → lowF f n = low n
  | 0, n, h, k => absurd k (by omega)
  | f + 1, n, h, k => by
    unfold lowF
    by_cases e : n % 2 = 0
    · rw [if_pos e, low_even h e, lowF_is f (n / 2) (by omega) (by rw [Nat.pow_succ] at k; omega)]
    · rw [if_neg e, low_odd (by omega)]
def szL : Nat → List Nat
  | 0 => []
  | n + 1 => (szL n).take ((szL n).length - (lowF 8 (n + 1)).log2) ++ [lowF 8 (n + 1)]
theorem bns_sz : ∀ n, n < 200 → (bns n).map List.length = szL n
  | 0, _ => by
    show (List.map rg (bl 0)).map List.length = []
    rw [bl_zero]
    rfl
  | n + 1, h => by
    obtain ⟨h1, _, h2⟩ := bns_step n
    have ih := bns_sz n (by omega)
    have e := lowF_is 8 (n + 1) (Nat.succ_ne_zero n) (by omega)
    have el : (bns n).length = (szL n).length := by rw [← ih, List.length_map]
    rw [h2, List.map_append, List.map_take, ih, el]
    show _ = (szL n).take ((szL n).length - (lowF 8 (n + 1)).log2) ++ [lowF 8 (n + 1)]
    rw [e]
    show _ ++ [(List.range' (n + 1 - low (n + 1)) (low (n + 1))).length] = _
    rw [List.length_range']
    rfl
theorem szL_ok : ∀ n, n < 100 → szL n = szF 100 n := by decide +kernel
theorem sz_ok {n : Nat} (h : n < 100) : (bns n).map List.length = szF 100 n := (bns_sz n (by omega)).trans (szL_ok n h)
theorem last_len (n : Nat) : (lastNs n).length = low (n + 1) := List.length_range' ..
end Ob

set_option Elab.async false
set_option linter.all false
set_option maxRecDepth 100000
set_option maxHeartbeats 1000000
namespace Ob
open PySem PySem.Spec PyProof.Rows L2
open LamX (Tabs TabB TabS ExtN)

set_option hygiene false in
local macro_rules
  | `(tactic| kp_flats) => `(tactic| first
    | assumption
    | exact upd_same
    | (apply atNew; assumption; kp_flats)
    | (apply atNe; (next => kbo_bools); kp_flats)
    | (apply atSame; assumption; kp_flats)
    | (apply atKp; assumption; (next => kaf_pre); kp_flats))
set_option hygiene false in
local macro_rules
  | `(tactic| kaf_pre) => `(tactic| first
    | assumption
    | exact not_nil
    | (apply not_cons; (next => kbo_bools); kaf_pre)
    | (apply not_app; (next => kaf_pre); kaf_pre))
set_option hygiene false in
local macro_rules
  | `(tactic| kbo_bools) => `(tactic| first
    | assumption
    | (apply Ne.symm; assumption)
    | (apply neN; assumption; kp_flats)
    | (apply neN'; assumption; kp_flats))
set_option hygiene false in
local macro_rules
  | `(tactic| o_reads) => `(tactic| first
    | with_reducible rfl
    | assumption
    | rfl
    | kp_flats
    | (show SqL _ _ _ _; first | assumption | (apply sqlOf; kp_flats) | (apply sqlSame; assumption; o_reads))
    | (show SqT _ _ _ _; first | assumption | (apply sqtOf; kp_flats) | (apply sqtAll; assumption) | (apply sqtSame; assumption; o_reads))
    | (show Cls _ _; first | exact T.cl_Calls | exact T.cl_Asker | exact T.cl_Builder | exact T.cl_Blocks | exact T.cl_Version)
    | (show NoAttr _ _ _; first | exact T.n_Calls_entries | exact T.n_Calls_running | exact T.n_Asker_calls | exact T.n_Asker_ask_call | exact T.n_Asker_join_call | exact T.n_Asker_zero | exact T.n_Builder_calls | exact T.n_Builder_build_call | exact T.n_Blocks_calls | exact T.n_Blocks_builder | exact T.n_Blocks_asker | exact T.n_Blocks_held | exact T.n_Blocks_parts | exact T.n_Version_calls | exact T.n_Version_asker | exact T.n_Version_held | exact T.n_Version_parts)
    | (apply Or.inl; o_reads)
    | (apply Or.inr; o_reads)
    | (apply And.intro; (next => o_reads); o_reads)
    | (apply Exists.intro; o_reads)
    | exact Nat.le_of_ble_eq_true rfl
    | exact Nat.succ_ne_zero _
    | (show Fr _ _; kba_ints)
    | (show Same _ _; kd_subs)
    | (show Kp _ _ _; kxs_still)
    | (show (_ : Nat) ≤ _; simp only [List.length_append, List.length_map, List.length_cons, List.length_nil, List.length_take, List.length_drop, List.length_replicate, List.length_range, sizeLine_eq]; omega)
    | (show _ = none; apply Fr.h; kba_ints)
    | (show Bag _ _; first | assumption | (apply bag_putF; assumption; o_reads) | (apply bag_neF; (next => kbo_bools); o_reads) | (apply bag_kpR; assumption; (next => kaf_pre); o_reads))
    | omega
    | decide)
local macro_rules
  | `(tactic| o_readsAll) => `(tactic| repeat (first
    | (refine fun (pNew : Addr) (nNew : _ = none) => ?_; replace nNew := Fr.mk nNew)
    | (refine fun (xNew dNew : Addr) (nNew : _ = none) (mNew : _ = none) (eNew : dNew ≠ xNew) => ?_; replace nNew := Fr.mk nNew; replace mNew := Fr.mk mNew)
    | (apply And.intro; next => o_reads)
    | apply Exists.intro (α := V)
    | apply Exists.intro (α := Addr)
    | apply Exists.intro (α := Int)
    | apply Exists.intro (α := Bool)
    | apply Exists.intro (α := List V)
    | apply Exists.intro (α := List Nat)
    | apply Exists.intro (α := List (Str × V))
    | apply Exists.intro (α := List _)
    | apply Exists.intro (α := Str)
    | apply Exists.intro (α := HO)
    | apply Exists.intro (α := Sp)
    | apply Exists.intro (α := VK)))
set_option hygiene false in
local macro_rules
  | `(tactic| kba_ints) => `(tactic| first
    | assumption
    | (apply frUp; (first | assumption | (apply Ne.symm; assumption)); kba_ints)
    | (apply noneOf; assumption; intro oF eF; apply Exists.intro; kp_flats)
    | (apply frUp; (next => kbo_bools); kba_ints))
set_option hygiene false in
local macro_rules
  | `(tactic| kxs_still) => `(tactic| first
    | assumption
    | exact kp_refl _ _
    | (apply kp_newF; assumption; kxs_still)
    | (apply kp_new; assumption; kxs_still)
    | (apply kp_up; (next => o_fieldsN); kxs_still)
    | (apply kp_new; (next => kba_ints); kxs_still)
    | (apply kp_sameR; assumption; kxs_still)
    | (apply kp_transR; assumption; kxs_still)
    | (apply kp_freshR; assumption; (next => kaf_suf); kxs_still))
set_option hygiene false in
local macro_rules
  | `(tactic| kaf_suf) => `(tactic| first
    | assumption
    | exact subNil
    | (apply subCons; (first | (apply Or.inl; o_fieldsN) | (apply Or.inr; kba_ints)); kaf_suf)
    | (apply subApp; (next => kaf_suf); kaf_suf))
set_option hygiene false in
local macro_rules
  | `(tactic| o_fieldsN) => `(tactic| first
    | assumption
    | exact memA
    | (apply memB; o_fieldsN)
    | (apply memL; o_fieldsN)
    | (apply memR; o_fieldsN))
set_option hygiene false in
local macro_rules
  | `(tactic| kd_subs) => `(tactic| first
    | assumption
    | exact Same.refl _
    | (apply same_putF; assumption; kd_subs)
    | (apply same_putG; assumption; kd_subs)
    | (apply same_putF; (next => kba_ints); kd_subs)
    | (apply same_transR; assumption; kd_subs))

namespace Pl
theorem gp_eq {n : Nat} (h : n ≠ 0) : (1 : Int) * 2 ^ (((Builtin.Int.intBits (n : Int) : Nat) : Int) - 1).toNat = ((2 ^ n.log2 : Nat) : Int) := by
  rw [bits_nat h, show (((n.log2 + 1 : Nat) : Int) - 1).toNat = n.log2 by omega, Int.one_mul]
  exact (PySem.W.kbt_cast _).symm
theorem gp_ok {n : Nat} (h : n ≠ 0) (hn : n < 2 ^ 200) : CShl 1 (((Builtin.Int.intBits (n : Int) : Nat) : Int) - 1) := by
  have a := log_lt h hn
  rw [bits_nat h, show (((n.log2 + 1 : Nat) : Int) - 1) = (n.log2 : Int) by omega]
  exact shl_ok (n := 1) (by decide) (by omega)
theorem nat_cast_lt {a : Nat} {n : Nat} (h : n < 2 ^ a) : (n : Int).natAbs < 2 ^ a := h
section
variable {P : Program} {w : World} {K : PySem.W.Frag} {mg : Str → Option Value} {base : Heap}
def spGp : Sp := fun vs H Q _ => ∃ n : Nat, vs = [.int (n : Int)] ∧ n ≠ 0 ∧ n < 2 ^ 200 ∧ Q (.int ((2 ^ n.log2 : Nat) : Int)) H
theorem ok_gp (T : Txt K mg) : FnOk P w K mg base CX0 3 T.f_greatest_power T.d_greatest_power ["number"] spGp := by
  refine T.F_greatest_power.ok sc_greatest_power (fun vs H Q E h => ?_) (fun cdv A outer s H vs Q E hr h => ?_)
  · obtain ⟨n, rfl, _⟩ := h
    rfl
  · obtain ⟨n, rfl, h0, h1, q⟩ := h
    refine ⟨_, (pss_one (ps_ret (pe_op op_shlW pe_int (pe_op op_sub (pe_bits (pv 0)) pe_int)))), ?_⟩
    rw [← gp_eq h0] at q
    exact ⟨_, rfl, _, rfl, _, _, rfl, rfl, _, _, rfl, rfl, gp_ok h0 h1, q⟩
def spIsI : Sp := fun vs H Q _ => ∃ i : Int, vs = [.int i] ∧ Q (.bl true) H
theorem ok_isi (T : Txt K mg) : FnOk P w K mg base CX0 1 T.f_is_integer T.d_is_integer ["value"] spIsI := by
  refine T.F_is_integer.ok sc_is_integer (fun vs H Q E h => ?_) (fun cdv A outer s H vs Q E hr h => ?_)
  · obtain ⟨i, rfl, _⟩ := h
    rfl
  · obtain ⟨i, rfl, q⟩ := h
    refine ⟨_, (pss_one (ps_ret (pe_and (pe_callB call_isi (by rfl) T.z_isinstance (by decide +kernel) (pa_cons (pv 0) (pa_cons (pe_bltn (v := .ty "int") (by rfl) T.z_int (by decide +kernel) rfl) pa_nil))) (pe_one (pe_not (pe_callB call_isi (by rfl) T.z_isinstance (by decide +kernel) (pa_cons (pv 0) (pa_cons (pe_bltn (v := .ty "bool") (by rfl) T.z_bool (by decide +kernel) rfl) pa_nil)))))))), ?_⟩
    refine ⟨_, rfl, .int i, .ty "int", .type "int", .type "int", true, rfl, .ty _, .base (.int _), kit_ty (by decide +kernel), true, rfl, iteT ?_⟩
    exact ⟨_, rfl, .int i, .ty "bool", .type "int", .type "bool", false, rfl, .ty _, .base (.int _), kit_ty (by decide +kernel), false, rfl, q⟩
theorem ok_cki (T : Txt K mg) : FnOk P w K mg base CX0 2 T.f_check_integer T.d_check_integer ["value"] (fun vs H Q _ => ∃ i : Int, vs = [.int i] ∧ Q .non H) := by
  have G_is_integer := ok_isi (P := P) (w := w) (base := base) T
  refine T.F_check_integer.ok sc_check_integer (fun vs H Q E h => ?_) (fun cdv A outer s H vs Q E hr h => ?_)
  · obtain ⟨i, rfl, _⟩ := h
    rfl
  · obtain ⟨i, rfl, q⟩ := h
    refine ⟨_, (pss_one (ps_if (pt_not (pt_val (pe_call G_is_integer (hr.mono (by omega)) rfl T.g_is_integer T.F_is_integer.kp T.b_is_integer .nil pass0 (pa_cons (pv 0) pa_nil)))) (pss_one ps_never) pss_nil)), ?_⟩
    exact ⟨_, rfl, i, rfl, true, rfl, iteF q⟩
def spCheck : Sp := fun vs H Q _ => ∃ n : Nat, vs = [.int (n : Int)] ∧ n ≤ 10 ^ 30 ∧ Q .non H
theorem ok_check (T : Txt K mg) : FnOk P w K mg base CX0 3 T.f_check_number T.d_check_number ["value"] spCheck := by
  have G_check_integer := ok_cki (P := P) (w := w) (base := base) T
  refine T.F_check_number.ok sc_check_number (fun vs H Q E h => ?_) (fun cdv A outer s H vs Q E hr h => ?_)
  · obtain ⟨n, rfl, _⟩ := h
    rfl
  · obtain ⟨n, rfl, h0, q⟩ := h
    have rG := T.r_GREATEST
    refine ⟨_, (pss_cons (ps_expr (pe_call G_check_integer (hr.mono (by omega)) rfl T.g_check_integer T.F_check_integer.kp T.b_check_integer .nil pass0 (pa_cons (pv 0) pa_nil)))
      (pss_one (ps_if (PW.pt (pw_or (pt_cmpR op_lt (pv 0) pe_int (nomark _)) (pw_or1 (pt_cmpR op_gt (pv 0) (pe_glob rfl T.v_GREATEST T.r_GREATEST) (nomark _))))) (pss_one ps_never) pss_nil))), ?_⟩
    refine ⟨_, rfl, (n : Int), rfl, ?_⟩
    refine ⟨_, rfl, _, _, rfl, rfl, _, rfl, ?_⟩
    refine ifF (dF (by omega)) ?_
    refine ⟨_, rfl, _, _, rfl, rfl, _, rfl, ?_⟩
    have h1 : ¬ ((10 : Int) ^ 30 < (n : Int)) := by
      have : (10 : Int) ^ 30 = ((10 ^ 30 : Nat) : Int) := by decide +kernel
      rw [this]
      omega
    exact ifF (dF h1) q

theorem p100 : (10 ^ 30 : Nat) < 2 ^ 100 := by decide +kernel
def toI (l : List Nat) : List Int := l.map fun (x : Nat) => (x : Int)
def toV (l : List Nat) : List V := (toI l).map V.int
def intAt (σ : L2.St) (i : Nat) : Nat := match σ[i]? with
  | some (some (V.int r)) => r.toNat
  | _ => 0
def spSizes : Sp := fun vs H Q _ => ∃ n : Nat, vs = [.int (n : Int)] ∧ n ≤ 10 ^ 30 ∧ ∀ p H', H p = none → Same H H' → H' p = some (.lst (toV (szF 100 n))) → Q (.ref p) H'
theorem ok_sizes (T : Txt K mg) : FnOk P w K mg base CX0 4 T.f_block_sizes T.d_block_sizes ["many"] spSizes := by
  have G_greatest_power := ok_gp (P := P) (w := w) (base := base) T
  have G_check_number := ok_check (P := P) (w := w) (base := base) T
  refine T.F_block_sizes.ok sc_block_sizes (fun vs H Q E h => ?_) (fun cdv A outer s H vs Q E hr h => ?_)
  · obtain ⟨n, rfl, _⟩ := h
    rfl
  · obtain ⟨n, rfl, h0, q⟩ := h
    refine ⟨_, (pss_cons (ps_expr (pe_call G_check_number (hr.mono (by omega)) rfl T.g_check_number T.F_check_number.kp T.b_check_number .nil pass0 (pa_cons (pv 0) pa_nil)))
      (pss_cons (ps_set (i := 1) sc_block_sizes.nd rfl (.inl rfl) (pe_lst pa_nil))
      (pss_cons (ps_set (i := 2) sc_block_sizes.nd rfl (.inl rfl) (pv 0))
      (pss_cons (ps_while PassesOwn.never (pt_cmpR op_gt (pv 2) pe_int (nomark _)) (pss_cons (ps_set (i := 3) sc_block_sizes.nd rfl (.inl rfl) (pe_call G_greatest_power (hr.mono (by omega)) rfl T.g_greatest_power T.F_greatest_power.kp T.b_greatest_power .nil pass0 (pa_cons (pv 2) pa_nil)))
        (pss_cons (ps_expr (pe_bm PySem.F.plainAttrs_list PySem.F.slot_list_append PySem.F.type_list_append mt_append (pv 1) (pa_cons (pv 3) pa_nil)))
        (pss_one (ps_aug (i := 2) sc_block_sizes.nd rfl (.inl rfl) (pv 3) ip_sub)))))
      (pss_one (ps_ret (pv 1))))))), ?_⟩
    refine ⟨_, rfl, n, rfl, h0, ?_⟩
    refine ⟨Nat.zero_le _, fun o no => ?_⟩
    refine ⟨_, rfl, ?_⟩
    refine while_by (fun σ H' => ∃ (rest k : Nat) (acc : List Nat) (y : Option V), σ = [some (.int (n : Int)), some (.ref o), some (.int (rest : Int)), y] ∧ rest < 2 ^ k ∧ acc.length + k ≤ 100 ∧ acc ++ szF k rest = szF 100 n ∧ Same H H' ∧ H' o = some (.lst (toV acc)))
      (fun σ _ => intAt σ 2) ⟨n, 100, [], none, rfl, Nat.lt_of_le_of_lt h0 p100, Nat.le_refl _, rfl, same_new no, upd_same⟩ ?_ ?_
    · rintro σ H' ⟨rest, k, acc, y, rfl, hk, hl, he, hs, ho⟩
      refine ⟨_, rfl, _, _, rfl, rfl, _, rfl, ite2 (fun e => ?_) (fun e => ?_)⟩
      · have e1 := of_decide_eq_true e
        have z : rest ≠ 0 := by omega
        obtain ⟨k, rfl⟩ : ∃ j, k = j + 1 := ⟨k - 1, by
          have := log_lt z hk
          omega⟩
        refine ⟨_, rfl, rest, rfl, z, Nat.lt_of_lt_of_le hk (Nat.pow_le_pow_right (by decide) (by omega)), ?_⟩
        refine ⟨_, rfl, .inl ⟨rfl, _, .inl (.inl ho)⟩, _, rfl, o, _, _, rfl, rfl, ho, ?_, ?_⟩
        · unfold toV toI
          rw [List.length_map, List.length_map]
          exact small1000 (by omega)
        · refine ⟨_, rfl, _, rfl, _, _, rfl, rfl, ?_⟩
          have lo := log_lo z
          have e3 : ((rest : Int) - ((2 ^ rest.log2 : Nat) : Int)) = ((rest - 2 ^ rest.log2 : Nat) : Int) := by omega
          refine ⟨⟨rest - 2 ^ rest.log2, k, acc ++ [2 ^ rest.log2], some (.int ((2 ^ rest.log2 : Nat) : Int)), ?_, rest_lt' z hk, ?_, ?_, same_put hs no, ?_⟩, ?_⟩
          · rw [← e3]
            rfl
          · rw [List.length_append]
            show acc.length + 1 + k ≤ 100
            omega
          · rw [← he, szF_pos z, List.append_assoc]
            rfl
          · rw [upd_same]
            unfold toV toI
            rw [List.map_append, List.map_append]
            rfl
          · show ((rest : Int) - ((2 ^ rest.log2 : Nat) : Int)).toNat < ((rest : Int)).toNat
            have := Nat.two_pow_pos rest.log2
            omega
      · have e1 : rest = 0 := by
          have : ¬ ((0 : Int) < (rest : Int)) := fun z => e (dT z)
          omega
        subst e1
        rw [szF_zero, List.append_nil] at he
        subst he
        exact ⟨_, rfl, q o H' no hs ho⟩
    · rintro σ H' Q1 Q2 m ⟨x, hx, i, j, e1, e2, c, e3, q⟩
      exact ⟨x, hx, i, j, e1, e2, c, e3, m _ _ q⟩
end
end Pl
end Ob

set_option Elab.async false
set_option linter.all false
set_option maxRecDepth 100000
set_option maxHeartbeats 1000000
namespace Ob
open PySem PySem.Spec PyProof.Rows L2
open LamX (Tabs TabB TabS ExtN)

set_option hygiene false in
local macro_rules
  | `(tactic| kp_flats) => `(tactic| first
    | assumption
    | exact upd_same
    | (apply atNew; assumption; kp_flats)
    | (apply atNe; (next => kbo_bools); kp_flats)
    | (apply atSame; assumption; kp_flats)
    | (apply atKp; assumption; (next => kaf_pre); kp_flats))
set_option hygiene false in
local macro_rules
  | `(tactic| kaf_pre) => `(tactic| first
    | assumption
    | exact not_nil
    | (apply not_cons; (next => kbo_bools); kaf_pre)
    | (apply not_app; (next => kaf_pre); kaf_pre))
set_option hygiene false in
local macro_rules
  | `(tactic| kbo_bools) => `(tactic| first
    | assumption
    | (apply Ne.symm; assumption)
    | (apply neN; assumption; kp_flats)
    | (apply neN'; assumption; kp_flats))
set_option hygiene false in
local macro_rules
  | `(tactic| o_reads) => `(tactic| first
    | with_reducible rfl
    | assumption
    | rfl
    | kp_flats
    | (show SqL _ _ _ _; first | assumption | (apply sqlOf; kp_flats) | (apply sqlSame; assumption; o_reads))
    | (show SqT _ _ _ _; first | assumption | (apply sqtOf; kp_flats) | (apply sqtAll; assumption) | (apply sqtSame; assumption; o_reads))
    | (show Cls _ _; first | exact T.cl_Calls | exact T.cl_Asker | exact T.cl_Builder | exact T.cl_Blocks | exact T.cl_Version)
    | (show NoAttr _ _ _; first | exact T.n_Calls_entries | exact T.n_Calls_running | exact T.n_Asker_calls | exact T.n_Asker_ask_call | exact T.n_Asker_join_call | exact T.n_Asker_zero | exact T.n_Builder_calls | exact T.n_Builder_build_call | exact T.n_Blocks_calls | exact T.n_Blocks_builder | exact T.n_Blocks_asker | exact T.n_Blocks_held | exact T.n_Blocks_parts | exact T.n_Version_calls | exact T.n_Version_asker | exact T.n_Version_held | exact T.n_Version_parts)
    | (apply Or.inl; o_reads)
    | (apply Or.inr; o_reads)
    | (apply And.intro; (next => o_reads); o_reads)
    | (apply Exists.intro; o_reads)
    | exact Nat.le_of_ble_eq_true rfl
    | exact Nat.succ_ne_zero _
    | (show Fr _ _; kba_ints)
    | (show Same _ _; kd_subs)
    | (show Kp _ _ _; kxs_still)
    | (show (_ : Nat) ≤ _; simp only [List.length_append, List.length_map, List.length_cons, List.length_nil, List.length_take, List.length_drop, List.length_replicate, List.length_range, sizeLine_eq]; omega)
    | (show _ = none; apply Fr.h; kba_ints)
    | (show Bag _ _; first | assumption | (apply bag_putF; assumption; o_reads) | (apply bag_neF; (next => kbo_bools); o_reads) | (apply bag_kpR; assumption; (next => kaf_pre); o_reads))
    | omega
    | decide)
local macro_rules
  | `(tactic| o_readsAll) => `(tactic| repeat (first
    | (refine fun (pNew : Addr) (nNew : _ = none) => ?_; replace nNew := Fr.mk nNew)
    | (refine fun (xNew dNew : Addr) (nNew : _ = none) (mNew : _ = none) (eNew : dNew ≠ xNew) => ?_; replace nNew := Fr.mk nNew; replace mNew := Fr.mk mNew)
    | (apply And.intro; next => o_reads)
    | apply Exists.intro (α := V)
    | apply Exists.intro (α := Addr)
    | apply Exists.intro (α := Int)
    | apply Exists.intro (α := Bool)
    | apply Exists.intro (α := List V)
    | apply Exists.intro (α := List Nat)
    | apply Exists.intro (α := List (Str × V))
    | apply Exists.intro (α := List _)
    | apply Exists.intro (α := Str)
    | apply Exists.intro (α := HO)
    | apply Exists.intro (α := Sp)
    | apply Exists.intro (α := VK)))
set_option hygiene false in
local macro_rules
  | `(tactic| kba_ints) => `(tactic| first
    | assumption
    | (apply frUp; (first | assumption | (apply Ne.symm; assumption)); kba_ints)
    | (apply noneOf; assumption; intro oF eF; apply Exists.intro; kp_flats)
    | (apply frUp; (next => kbo_bools); kba_ints))
set_option hygiene false in
local macro_rules
  | `(tactic| kxs_still) => `(tactic| first
    | assumption
    | exact kp_refl _ _
    | (apply kp_newF; assumption; kxs_still)
    | (apply kp_new; assumption; kxs_still)
    | (apply kp_up; (next => o_fieldsN); kxs_still)
    | (apply kp_new; (next => kba_ints); kxs_still)
    | (apply kp_sameR; assumption; kxs_still)
    | (apply kp_transR; assumption; kxs_still)
    | (apply kp_freshR; assumption; (next => kaf_suf); kxs_still))
set_option hygiene false in
local macro_rules
  | `(tactic| kaf_suf) => `(tactic| first
    | assumption
    | exact subNil
    | (apply subCons; (first | (apply Or.inl; o_fieldsN) | (apply Or.inr; kba_ints)); kaf_suf)
    | (apply subApp; (next => kaf_suf); kaf_suf))
set_option hygiene false in
local macro_rules
  | `(tactic| o_fieldsN) => `(tactic| first
    | assumption
    | exact memA
    | (apply memB; o_fieldsN)
    | (apply memL; o_fieldsN)
    | (apply memR; o_fieldsN))
set_option hygiene false in
local macro_rules
  | `(tactic| kd_subs) => `(tactic| first
    | assumption
    | exact Same.refl _
    | (apply same_putF; assumption; kd_subs)
    | (apply same_putG; assumption; kd_subs)
    | (apply same_putF; (next => kba_ints); kd_subs)
    | (apply same_transR; assumption; kd_subs))

set_option pp.maxSteps 900
/-! ### a row that is built from nothing -/
/-- ranges behind one another -/
def segs : Nat → List Nat → List (List Nat)
  | _, [] => []
  | a, s :: l => List.range' a s :: segs (a + s) l
theorem segs_tiles : ∀ {a b : Nat} {x : List (Nat × Nat)}, Tiles a x b → x.map rg = segs a (x.map Prod.snd)
  | _, _, [], _ => rfl
  | a, b, (f, s) :: x, ⟨h1, _, h3⟩ => by
    subst h1
    show List.range' f s :: x.map rg = List.range' f s :: segs (f + s) (x.map Prod.snd)
    rw [segs_tiles h3]
theorem bns_segs {n : Nat} (h : n < 100) : bns n = segs 0 (szF 100 n) := by
  rw [← sz_ok h]
  have e := segs_tiles (bl_tiles n)
  show (bl n).map rg = _
  rw [e]
  congr 1
  unfold bns
  rw [List.map_map]
  exact List.map_congr_left fun x _ => (List.length_range' ..).symm
theorem segs_take : ∀ (a : Nat) (l : List Nat) (i : Nat), (segs a l).take i = segs a (l.take i)
  | a, [], i => by
    rw [List.take_nil]
    exact List.take_nil
  | a, s :: l, 0 => rfl
  | a, s :: l, i + 1 => congrArg (List.range' a s :: ·) (segs_take (a + s) l i)
theorem segs_snoc : ∀ (a : Nat) (l : List Nat) (s : Nat), segs a (l ++ [s]) = segs a l ++ [List.range' (a + l.sum) s]
  | a, [], s => rfl
  | a, x :: l, s => by
    show List.range' a x :: segs (a + x) (l ++ [s]) = List.range' a x :: segs (a + x) l ++ _
    rw [segs_snoc (a + x) l s, List.sum_cons, ← Nat.add_assoc]
    rfl
theorem segs_len : ∀ (a : Nat) (l : List Nat), (segs a l).length = l.length
  | _, [] => rfl
  | a, _ :: l => congrArg Nat.succ (segs_len (a + _) l)
theorem sum_take_le : ∀ (l : List Nat) (i : Nat), (l.take i).sum ≤ l.sum
  | [], i => by
    rw [List.take_nil]
    exact Nat.le_refl _
  | x :: l, 0 => Nat.zero_le _
  | x :: l, i + 1 => by
    rw [List.take_succ_cons, List.sum_cons, List.sum_cons]
    exact Nat.add_le_add_left (sum_take_le l i) x
theorem cut_rg {n a b : Nat} (h : b ≤ n) (hab : a ≤ b) : cutV ((List.range' 0 n).map nV) (some (a : Int)) (some (b : Int)) = (List.range' a (b - a)).map nV := by
  unfold cutV
  rw [HT.sIx_nat, HT.sIx_nat, List.length_map, List.length_range', Nat.min_eq_left h, Nat.min_eq_left (Nat.le_trans hab h), ← List.map_drop, ← List.map_take]
  congr 1
  refine List.ext_getElem? fun i => ?_
  by_cases c : i < b - a
  · rw [List.getElem?_take_of_lt c, List.getElem?_drop, List.getElem?_range' (by omega), List.getElem?_range' c]
    congr 1
    omega
  · rw [List.getElem?_eq_none (by rw [List.length_take]; omega), List.getElem?_eq_none (by rw [List.length_range']; omega)]
section
variable {P : Program} {w : World} {K : PySem.W.Frag} {mg : Str → Option Value} {base : Heap} {n : Nat}
/-- tuples of numbers, in a list -/
structure SplitAt (H : Hp) (a : Addr) (rs : List Addr) (nss : List (List Nat)) : Prop where
  l : H a = some (.lst (rs.map V.ref))
  n : rs.length = nss.length
  t : ∀ (i : Nat) (r : Addr) (ns : List Nat), rs[i]? = some r → nss[i]? = some ns → H r = some (.tup (ns.map nV))
def spSplit : Sp := fun vs H Q _ => ∃ (a : Addr) (n : Nat), vs = [.ref a] ∧ H a = some (.lst ((List.range' 0 n).map nV)) ∧ n < 100 ∧
  ∀ o rs H', Fr H o → Same H H' → SplitAt H' o rs (bns n) → Q (.ref o) H'
theorem ok_split (T : Txt K mg) : FnOk P w K mg base CX0 5 T.f_split_numbers T.d_split_numbers ["numbers"] spSplit := by
  have G_block_sizes := Pl.ok_sizes (P := P) (w := w) (base := base) T
  refine T.F_split_numbers.ok sc_split_numbers (fun vs H Q E h => ?_) (fun cdv A outer s H vs Q E hr h => ?_)
  · obtain ⟨a, n, rfl, _⟩ := h
    rfl
  · obtain ⟨a, n, rfl, ha, hn, q⟩ := h
    refine ⟨_, (pss_cons (ps_set (i := 1) sc_split_numbers.nd rfl (.inl rfl) (pe_lst pa_nil))
      (pss_cons (ps_set (i := 2) sc_split_numbers.nd rfl (.inl rfl) pe_int)
      (pss_cons (ps_for PassesOwn.never rfl (pi_list (pe_call G_block_sizes (hr.mono (by omega)) rfl T.g_block_sizes T.F_block_sizes.kp T.b_block_sizes .nil pass0 (pa_cons (pe_callB call_len_seq (by rfl) T.z_len (by decide +kernel) (pa_cons (pv 0) pa_nil)) pa_nil))) (pg_name (i := 3) sc_split_numbers.nd rfl (.inl rfl)) (pss_cons (ps_expr (pe_bm PySem.F.plainAttrs_list PySem.F.slot_list_append PySem.F.type_list_append mt_append (pv 1) (pa_cons (pe_callTy call_tuple_of (by rfl) T.z_tuple (by decide +kernel) (pa_cons (pe_slice sl_list (pv 0) (po_some (pv 2)) (po_some (pe_op op_add (pv 2) (pv 3)))) pa_nil)) pa_nil)))
        (pss_one (ps_aug (i := 2) sc_split_numbers.nd rfl (.inl rfl) (pv 3) ip_add))))
      (pss_one (ps_ret (pv 1)))))), ?_⟩
    have hs := szF_sum 100 n (by omega)
    have hl := szF_len 100 n
    have ll : ((List.range' 0 n).map nV).length = n := by rw [List.length_map, List.length_range']
    refine ⟨Nat.zero_le _, fun o no => ?_⟩
    replace no := Fr.mk no
    have hao : upd H o (.lst []) a = some (.lst ((List.range' 0 n).map nV)) := atNew no ha
    refine ⟨_, rfl, a, _, rfl, .inl (sqlOf hao), n, by rw [ll]; rfl, by omega, fun p H1 np s1 ep => ⟨p, rfl, ⟨_, sqlOf ep⟩, ?_⟩⟩
    have s01 : Same H H1 := (same_newF no).trans s1
    have eo1 := s1 _ _ (upd_same (H := H) (a := o) (o := .lst []))
    refine for_list (xs := Pl.toV (szF 100 n)) (fun i σ H' => ∃ rs y3, σ = [some (.ref a), some (.ref o), some (.int (((szF 100 n).take i).sum : Nat)), y3] ∧ Same H H' ∧ H' p = some (.lst (Pl.toV (szF 100 n))) ∧ SplitAt H' o rs (segs 0 ((szF 100 n).take i)))
      ⟨[], none, rfl, s01, ep, ⟨eo1, rfl, fun _ _ _ z => nomatch z⟩⟩ ?_ ?_ ?_
    · rintro i σ H' hi ⟨rs, y3, rfl, s2, ep2, hR⟩
      exact sqlOf ep2
    · rintro i y σ H' hy ⟨rs, y3, rfl, s2, ep2, hR⟩
      unfold Pl.toV Pl.toI at hy
      rw [List.map_map, List.getElem?_map] at hy
      obtain ⟨x, hx, rfl⟩ := Option.map_eq_some_iff.mp hy
      have hi : i < (szF 100 n).length := (List.getElem?_eq_some_iff.mp hx).1
      have ha' := s2 _ _ ha
      have ho := hR.l
      have hst : (szF 100 n).take (i + 1) = (szF 100 n).take i ++ [x] := by
        rw [List.take_add_one, hx]
        rfl
      have hsum : ((szF 100 n).take i).sum + x ≤ n := by
        have := sum_take_le (szF 100 n) (i + 1)
        rw [hst, List.sum_append, List.sum_cons, List.sum_nil, Nat.add_zero] at this
        omega
      have lr : (rs.map V.ref).length.succ ≤ sizeLine := by
        rw [List.length_map, hR.n, segs_len, List.length_take, sizeLine_eq]
        omega
      have ec := cut_rg (n := n) (a := ((szF 100 n).take i).sum) (b := ((szF 100 n).take i).sum + x) hsum (Nat.le_add_right _ _)
      rw [Nat.add_sub_cancel_left] at ec
      o_readsAll
      rename_i t1 nt1
      refine Or.inl ⟨sqlOf upd_same, fun t nt => ?_⟩
      replace nt := Fr.mk nt
      rw [show (((szF 100 n).take i).sum : Int) + (fun x : Nat => (x : Int)) x = ((((szF 100 n).take i).sum + x : Nat) : Int) from rfl, ec] at nt ⊢
      have s3 : Same H' (upd (upd H' t1 (.lst ((List.range' ((szF 100 n).take i).sum x).map nV))) t (.tup ((List.range' ((szF 100 n).take i).sum x).map nV))) := (same_newF nt1).trans (same_newF nt)
      have et : upd (upd H' t1 (.lst ((List.range' ((szF 100 n).take i).sum x).map nV))) t (.tup ((List.range' ((szF 100 n).take i).sum x).map nV)) t = some (.tup ((List.range' ((szF 100 n).take i).sum x).map nV)) := upd_same
      refine ⟨o, _, .ref t, rfl, rfl, s3 _ _ ho, lr, ?_⟩
      generalize upd (upd H' t1 (.lst ((List.range' ((szF 100 n).take i).sum x).map nV))) t (.tup ((List.range' ((szF 100 n).take i).sum x).map nV)) = H3 at s3 et ⊢
      have k4 : Kp [o] H3 (upd H3 o (.lst (rs.map V.ref ++ [.ref t]))) := kp_up memA (kp_refl _ _)
      have mo : Mu H3 [o] := mu_lst (s3 _ _ ho) mu_nil
      have fo : Fr H o := no
      have s5 : Same H (upd H3 o (.lst (rs.map V.ref ++ [.ref t]))) := same_putG fo (s2.trans s3)
      have npo : p ≠ o := by
        intro z
        rw [z] at np
        have := np
        rw [upd_same] at this
        cases this
      refine ⟨_, rfl, _, rfl, _, _, rfl, rfl, rs ++ [t], some (.int (x : Nat)), ?_, s5, k4.at_ _ _ (s3 _ _ ep2) (not_cons npo not_nil), ⟨?_, ?_, fun i' r ns e1 e2 => ?_⟩⟩
      · rw [hst, List.sum_append, List.sum_cons, List.sum_nil, Nat.add_zero]
        rfl
      · rw [upd_same, List.map_append]
        rfl
      · rw [hst, segs_snoc, List.length_append, List.length_append, hR.n]
        rfl
      · rw [hst, segs_snoc, Nat.zero_add] at e2
        by_cases c : i' < rs.length
        · rw [List.getElem?_append_left c] at e1
          rw [List.getElem?_append_left (by rw [← hR.n]; exact c)] at e2
          exact kp_tup k4 mo (s3 _ _ (hR.t i' r ns e1 e2))
        · rw [List.getElem?_append_right (by omega)] at e1
          rw [List.getElem?_append_right (by rw [← hR.n]; omega), ← hR.n] at e2
          match hz : i' - rs.length, e1, e2 with
          | 0, e1, e2 =>
            cases e1
            cases e2
            exact kp_tup k4 mo et
          | k + 1, e1, e2 => cases e1
    · rintro σ H' ⟨rs, y3, rfl, s2, ep2, hR⟩
      have fo : Fr H o := no
      refine ⟨_, rfl, q o rs H' fo s2 ?_⟩
      have e : (Pl.toV (szF 100 n)).length = (szF 100 n).length := by
        unfold Pl.toV Pl.toI
        rw [List.length_map, List.length_map]
      rw [e, List.take_length, ← bns_segs hn] at hR
      exact hR
end
end Ob

set_option Elab.async false
set_option linter.all false
set_option maxRecDepth 100000
set_option maxHeartbeats 1000000
namespace Ob
open PySem PySem.Spec PyProof.Rows L2
open LamX (Tabs TabB TabS ExtN)

set_option hygiene false in
local macro_rules
  | `(tactic| kp_flats) => `(tactic| first
    | assumption
    | exact upd_same
    | (apply atNew; assumption; kp_flats)
    | (apply atNe; (next => kbo_bools); kp_flats)
    | (apply atSame; assumption; kp_flats)
    | (apply atKp; assumption; (next => kaf_pre); kp_flats))
set_option hygiene false in
local macro_rules
  | `(tactic| kaf_pre) => `(tactic| first
    | assumption
    | exact not_nil
    | (apply not_cons; (next => kbo_bools); kaf_pre)
    | (apply not_app; (next => kaf_pre); kaf_pre))
set_option hygiene false in
local macro_rules
  | `(tactic| kbo_bools) => `(tactic| first
    | assumption
    | (apply Ne.symm; assumption)
    | (apply neN; assumption; kp_flats)
    | (apply neN'; assumption; kp_flats))
set_option hygiene false in
local macro_rules
  | `(tactic| o_reads) => `(tactic| first
    | with_reducible rfl
    | assumption
    | rfl
    | kp_flats
    | (show SqL _ _ _ _; first | assumption | (apply sqlOf; kp_flats) | (apply sqlSame; assumption; o_reads))
    | (show SqT _ _ _ _; first | assumption | (apply sqtOf; kp_flats) | (apply sqtAll; assumption) | (apply sqtSame; assumption; o_reads))
    | (show Cls _ _; first | exact T.cl_Calls | exact T.cl_Asker | exact T.cl_Builder | exact T.cl_Blocks | exact T.cl_Version)
    | (show NoAttr _ _ _; first | exact T.n_Calls_entries | exact T.n_Calls_running | exact T.n_Asker_calls | exact T.n_Asker_ask_call | exact T.n_Asker_join_call | exact T.n_Asker_zero | exact T.n_Builder_calls | exact T.n_Builder_build_call | exact T.n_Blocks_calls | exact T.n_Blocks_builder | exact T.n_Blocks_asker | exact T.n_Blocks_held | exact T.n_Blocks_parts | exact T.n_Version_calls | exact T.n_Version_asker | exact T.n_Version_held | exact T.n_Version_parts)
    | (apply Or.inl; o_reads)
    | (apply Or.inr; o_reads)
    | (apply And.intro; (next => o_reads); o_reads)
    | (apply Exists.intro; o_reads)
    | exact Nat.le_of_ble_eq_true rfl
    | exact Nat.succ_ne_zero _
    | (show Fr _ _; kba_ints)
    | (show Same _ _; kd_subs)
    | (show Kp _ _ _; kxs_still)
    | (show (_ : Nat) ≤ _; simp only [List.length_append, List.length_map, List.length_cons, List.length_nil, List.length_take, List.length_drop, List.length_replicate, List.length_range, sizeLine_eq]; omega)
    | (show _ = none; apply Fr.h; kba_ints)
    | (show Bag _ _; first | assumption | (apply bag_putF; assumption; o_reads) | (apply bag_neF; (next => kbo_bools); o_reads) | (apply bag_kpR; assumption; (next => kaf_pre); o_reads))
    | omega
    | decide)
local macro_rules
  | `(tactic| o_readsAll) => `(tactic| repeat (first
    | (refine fun (pNew : Addr) (nNew : _ = none) => ?_; replace nNew := Fr.mk nNew)
    | (refine fun (xNew dNew : Addr) (nNew : _ = none) (mNew : _ = none) (eNew : dNew ≠ xNew) => ?_; replace nNew := Fr.mk nNew; replace mNew := Fr.mk mNew)
    | (apply And.intro; next => o_reads)
    | apply Exists.intro (α := V)
    | apply Exists.intro (α := Addr)
    | apply Exists.intro (α := Int)
    | apply Exists.intro (α := Bool)
    | apply Exists.intro (α := List V)
    | apply Exists.intro (α := List Nat)
    | apply Exists.intro (α := List (Str × V))
    | apply Exists.intro (α := List _)
    | apply Exists.intro (α := Str)
    | apply Exists.intro (α := HO)
    | apply Exists.intro (α := Sp)
    | apply Exists.intro (α := VK)))
set_option hygiene false in
local macro_rules
  | `(tactic| kba_ints) => `(tactic| first
    | assumption
    | (apply frUp; (first | assumption | (apply Ne.symm; assumption)); kba_ints)
    | (apply noneOf; assumption; intro oF eF; apply Exists.intro; kp_flats)
    | (apply frUp; (next => kbo_bools); kba_ints))
set_option hygiene false in
local macro_rules
  | `(tactic| kxs_still) => `(tactic| first
    | assumption
    | exact kp_refl _ _
    | (apply kp_newF; assumption; kxs_still)
    | (apply kp_new; assumption; kxs_still)
    | (apply kp_up; (next => o_fieldsN); kxs_still)
    | (apply kp_new; (next => kba_ints); kxs_still)
    | (apply kp_sameR; assumption; kxs_still)
    | (apply kp_transR; assumption; kxs_still)
    | (apply kp_freshR; assumption; (next => kaf_suf); kxs_still))
set_option hygiene false in
local macro_rules
  | `(tactic| kaf_suf) => `(tactic| first
    | assumption
    | exact subNil
    | (apply subCons; (first | (apply Or.inl; o_fieldsN) | (apply Or.inr; kba_ints)); kaf_suf)
    | (apply subApp; (next => kaf_suf); kaf_suf))
set_option hygiene false in
local macro_rules
  | `(tactic| o_fieldsN) => `(tactic| first
    | assumption
    | exact memA
    | (apply memB; o_fieldsN)
    | (apply memL; o_fieldsN)
    | (apply memR; o_fieldsN))
set_option hygiene false in
local macro_rules
  | `(tactic| kd_subs) => `(tactic| first
    | assumption
    | exact Same.refl _
    | (apply same_putF; assumption; kd_subs)
    | (apply same_putG; assumption; kd_subs)
    | (apply same_putF; (next => kba_ints); kd_subs)
    | (apply same_transR; assumption; kd_subs))

set_option pp.maxSteps 900
theorem mem_len_flat : ∀ {nss : List (List Nat)} {ns : List Nat}, ns ∈ nss → ns.length ≤ nss.flatten.length
  | x :: nss, ns, m => by
    rw [List.flatten_cons, List.length_append]
    rcases List.mem_cons.mp m with rfl | m
    · omega
    · have := mem_len_flat m
      omega
section
variable {P : Program} {w : World} {K : PySem.W.Frag} {mg : Str → Option Value} {base : Heap} {n : Nat}
def spRow (P : Program) (w : World) (K : PySem.W.Frag) (mg : Str → Option Value) (base : Heap) (CU CC : Addr) (n : Nat) : Sp := fun vs H Q _ => ∃ (cs uv : List Addr) (bu bdx c cdx l a hh e : Addr) (fb fa fj : V) (UR : List Ev → Hp → Prop) (Mem : V → Hp → Prop) (Blk : List V → V → Hp → Prop) (Qst : V → Hp → Prop) (Ans : V → List V → V → Hp → Prop)
  (ms ls : List V) (es : List Ent) (u : List Ev), vs = [.ref bu, .ref a, .ref hh, .ref e] ∧ (∀ D, US P w K mg base n (D :: cs) uv fb fa fj UR Mem Blk Qst Ans) ∧ (∀ a ∈ uv, a ∈ cs) ∧ (∀ H, SqT K H e []) ∧ H bu = some (BuO CU bdx c fb) ∧ H c = some (CO CC cdx l false) ∧ H l = some (.lst ls) ∧ LogAt [] H ls es ∧
  H a = some (.lst ((List.range' 0 ms.length).map nV)) ∧ H hh = some (.lst ms) ∧ (bu ∉ cs ∧ hh ∉ cs) ∧ (c ∈ cs ∧ l ∈ cs) ∧ (c ∉ uv ∧ l ∉ uv) ∧ Mu H cs ∧ (∀ x ∈ ms, Mem x H) ∧ UR u H ∧ u.length < 80000 ∧ es.length < 80000 ∧ ms.length < 100 ∧
  ∀ (p : Addr) (ps : List Part) (evs : List Ev) (ls' : List V) (H' : Hp), Fr H p → Kp ([c, l] ++ uv) H H' → Mu H' uv → H' p = some (.lst (tps ps)) → (∀ x ∈ ps, PartAt H' x ∧ Blk (pick ms x.ns) x.blk H') → ps.map Part.ns = bns ms.length → H' c = some (CO CC cdx l false) → H' l = some (.lst ls') →
    LogAt [] H' ls' (es ++ evs.map Ev.ent) → evs.map Ev.ent = (bns ms.length).map Ent.build → UR (u ++ evs) H' → Q (.ref p) H'
theorem ok_row (T : Txt K mg) : FnOk P w K mg base CX0 (n + 6) T.f_Builder_row T.d_Builder_row ["self", "numbers", "held", "mark"] (spRow P w K mg base T.C_Builder T.C_Calls n) := by
  have G_Builder_part := ok_part (P := P) (w := w) (base := base) (n := n) T
  have G_split_numbers := ok_split (P := P) (w := w) (base := base) T
  refine T.F_Builder_row.ok sc_Builder_row (fun vs H Q E h => ?_) (fun cdv A outer s H vs Q E hr h => ?_)
  · obtain ⟨cs, uv, bu, bdx, c, cdx, l, a, hh, e, fb, fa, fj, UR, Mem, Blk, Qst, Ans, ms, ls, es, u, rfl, _⟩ := h
    rfl
  · obtain ⟨cs, uv, bu, bdx, c, cdx, l, a, hh, e, fb, fa, fj, UR, Mem, Blk, Qst, Ans, ms, ls, es, u, rfl, U, us, hE, hbu, hc, hl, hlog, ha, hh', ⟨dbu, dh⟩, ⟨oc, ol⟩, ⟨du1, du2⟩, mu, hm, hu, lu, le, lm, q⟩ := h
    refine ⟨_, (pss_one (ps_ret (pe_lc (own := [("some", 4)]) (g := gName 4) (tt := tYes) rfl sc_Builder_row.nd (pi_list (pe_call G_split_numbers (hr.mono (by omega)) rfl T.g_split_numbers T.F_split_numbers.kp T.b_split_numbers .nil pass0 (pa_cons (pv 1) pa_nil))) (blkOk_by (N := n_Builder_row) (sc := defScope s_Builder_row) (by decide +kernel)) (fun _ _ _ _ _ => (pg_name (i := 4) sc_Builder_row.nd rfl (.inl rfl))) (fun _ _ _ _ _ => pts_nil) (fun _ _ _ _ _ => (pe_meth (pv 0) T.cl_Builder ⟨T.m_Builder_part, T.t_Builder_part, T.k_Builder_part⟩ G_Builder_part (hr.mono (by omega)) T.b_Builder_part .nil pass0 (pa_cons (pv 4) (pa_cons (pv 2) (pa_cons (pv 3) pa_nil)))))))), ?_⟩
    have lp : (bns ms.length).length = (bl ms.length).length := bns_len _
    have lb := bl_len ms.length
    refine ⟨_, rfl, a, ms.length, rfl, ha, lm, fun o rs H1 no s1 hR => ⟨o, rfl, ⟨_, sqlOf hR.l⟩, fun D nD => ?_⟩⟩
    replace nD := Fr.mk nD
    have s2 : Same H (upd H1 D (.lst [])) := s1.trans (same_newF nD)
    have hR2 : SplitAt (upd H1 D (.lst [])) o rs (bns ms.length) := ⟨atNew nD hR.l, hR.n, fun i r ns e1 e2 => atNew nD (hR.t i r ns e1 e2)⟩
    have eD : upd H1 D (.lst []) D = some (.lst []) := upd_same
    have fD : Fr H D := Fr.mk (s1.free nD.h)
    have noD : o ≠ D := fun z => by
      have := hR.l
      rw [z, nD.h] at this
      cases this
    have muD : ∀ {H' : Hp} {ls' : List V} {xs : List V}, H' D = some (.lst xs) → H' c = some (CO T.C_Calls cdx l false) → H' l = some (.lst ls') → Mu H' uv → Mu H' (D :: ([c, l] ++ uv)) := fun h1 h2 h3 h4 => mu_lst h1 (mu_app (mu_ins h2 (mu_lst h3 mu_nil)) h4)
    have mu2 : Mu (upd H1 D (.lst [])) (D :: cs) := mu_lst eD (mu.same s2)
    have so : ∀ a ∈ [c, l], a ∈ cs := sub2 oc ol
    have su : ∀ a ∈ [c, l] ++ uv, a ∈ cs := subA so us
    have sD : ∀ a ∈ D :: ([c, l] ++ uv), a ∈ D :: cs := subCons memA fun a m => memB (su a m)
    have ncD : ∀ {a : Addr} {o : HO}, H a = some o → a ≠ D := fun e => ne_of_none e fD.h
    have fo : Fr H o := no
    have ncl : c ≠ l := neO hc hl (fun z => nomatch z)
    have noc : o ∉ D :: ([c, l] ++ uv) := not_cons noD fun m => mu.fr fo (su _ m)
    refine lc_list (xs := rs.map V.ref) (fun i H' => ∃ (ps : List Part) (evs : List Ev) (ls' : List V), H' D = some (.lst (tps ps)) ∧ ps.length = i ∧ ps.map Part.ns = (bns ms.length).take i ∧ (∀ x ∈ ps, PartAt H' x ∧ Blk (pick ms x.ns) x.blk H') ∧ evs.map Ev.ent = ((bns ms.length).take i).map Ent.build ∧
      H' c = some (CO T.C_Calls cdx l false) ∧ H' l = some (.lst ls') ∧ LogAt [] H' ls' (es ++ evs.map Ev.ent) ∧ UR (u ++ evs) H' ∧ Kp (D :: ([c, l] ++ uv)) (upd H1 D (.lst [])) H' ∧ Mu H' uv) ⟨[], [], ls, eD, rfl, rfl, (fun _ z => nomatch z), rfl, s2 _ _ hc, s2 _ _ hl, ?_, ?_, kp_refl _ _, (mu.same s2).sub us⟩ ?_ ?_ ?_
    · rw [List.map_nil, List.append_nil]
      exact hlog.same s2
    · rw [List.append_nil]
      exact (U c).uk hu (mu_cons (o := CO T.C_Calls cdx l false) hc (fun _ z => nomatch z) (fun _ z => nomatch z) mu) (kp_same (cs := []) s2) fun _ z => nomatch z
    · rintro i H' _ ⟨ps, evs, ls', j1, j2, j3, j4, j5, j6, j7, j8, j9, j10, j11⟩
      exact sqlOf (j10.at_ _ _ hR2.l noc)
    · rintro i y H' hy ⟨ps, evs, ls', j1, j2, j3, j4, j5, j6, j7, j8, j9, j10, j11⟩
      rw [List.getElem?_map] at hy
      obtain ⟨r, hr1, rfl⟩ := Option.map_eq_some_iff.mp hy
      have hi : i < rs.length := (List.getElem?_eq_some_iff.mp hr1).1
      obtain ⟨ns, hns⟩ : ∃ ns, (bns ms.length)[i]? = some ns := ⟨_, List.getElem?_eq_getElem (by rw [← hR.n]; exact hi)⟩
      have htk : (bns ms.length).take (i + 1) = (bns ms.length).take i ++ [ns] := by
        rw [List.take_add_one, hns]
        rfl
      obtain ⟨lns, nne⟩ := bns_mem (List.mem_of_getElem? hns)
      have lnn : ns.length ≤ ms.length := by
        have := mem_len_flat (List.mem_of_getElem? hns)
        rw [bns_flat, List.length_range'] at this
        exact this
      have lrs : rs.length ≤ ms.length := by
        rw [hR.n, lp]
        exact lb
      have le2 : evs.length = i := by
        have := congrArg List.length j5
        rw [List.length_map, List.length_map, List.length_take, ← hR.n] at this
        omega
      have ll' : ls'.length = es.length + i := by
        rw [j8.len, List.length_append, List.length_map, le2]
      have m' := muD j1 j6 j7 j11
      have mu' : Mu H' (D :: cs) := mu2.kp j10 m'
      have k0 : Kp (D :: cs) (upd H1 D (.lst [])) H' := kp_more j10 sD
      have old : ∀ {a : Addr} {o : HO}, H a = some o → a ∉ cs → H' a = some o := fun e n => k0.at_ _ _ (s2 _ _ e) (not_cons (ncD e) n)
      have hr' : H' r = some (.tup (ns.map nV)) := kp_tup j10 (mu2.sub sD) (hR2.t i r ns hr1 hns)
      refine ⟨rfl, ?_⟩
      refine ⟨_, rfl, bu, bdx, _, rfl, old hbu dbu, rfl, _, rfl, _, rfl, _, rfl, bu, bdx, c, cdx, l, r, hh, e, fb, ns, ms, [], rfl, old hbu dbu, j6, hr', old hh' dh, hE, Nat.zero_le _, lns, by omega, fun te sl H3 nte nsl k3 c3 e3 e4 => ?_⟩
      have cl : ∀ a ∈ [c], a ∈ D :: cs ∧ a ∉ uv := subCons ⟨memB oc, du1⟩ subNil
      have mu3 : Mu H3 (D :: cs) := mu'.put1 k3 c3
      have k3s : Kp (D :: cs) H' H3 := kp_more k3 fun a m => (cl a m).1
      have nsl' : sl ∉ D :: cs := mu'.fr nsl
      have muH : Mu H (c :: cs) := mu_cons (o := CO T.C_Calls cdx l false) hc (fun _ z => nomatch z) (fun _ z => nomatch z) mu
      have mem2 : ∀ x ∈ ms, Mem x (upd H1 D (.lst [])) := fun x hx => (U c).mk' (hm x hx) muH (kp_more (kp_same (cs := []) s2) fun _ z => nomatch z)
      have mem3 : ∀ x ∈ ms, Mem x H3 := fun x hx => (U D).mk' ((U D).mk' (mem2 x hx) mu2 k0) mu' k3s
      refine ((U D).hb (u := u ++ evs) (ns := ns) ((U D).uk j9 mu' k3 cl) (by rw [List.length_append]; omega) mu3 ?_ ?_ (fun x hx => mem3 x (pick_mem lns hx)) e4 nsl').imp fun v H4 ⟨z1, zn, z2, z3⟩ => ?_
      · intro z
        have := congrArg List.length z
        unfold pick at this
        rw [List.length_map] at this
        exact nne (List.length_eq_zero_iff.mp this)
      · unfold pick
        rw [List.length_map]
        omega
      · have nuv : ∀ {a : Addr}, a ∉ D :: cs → a ∉ uv := fun n m => n (memB (us _ m))
        have ncsl : c ≠ sl := neN nsl j6
        have nlsl : l ≠ sl := neN nsl j7
        have nDsl : D ≠ sl := neN nsl j1
        have nte' : te ∉ D :: cs := mu'.fr nte
        have nDuv : D ∉ uv := fun m => mu.fr fD (us _ m)
        have nDc : D ≠ c := neO j1 j6 (fun z => nomatch z)
        have nDl : D ≠ l := fun z => by
          rw [z] at fD
          exact mu.fr fD ol
        have e4c := z1.at_ _ _ c3 (not_cons ncsl du1)
        have l3 := k3.at_ _ _ j7 (not_cons ncl.symm not_nil)
        have e4l := z1.at_ _ _ l3 (not_cons nlsl du2)
        have D3 := k3.at_ _ _ j1 (not_cons nDc not_nil)
        have e4D := z1.at_ _ _ D3 (not_cons nDsl nDuv)
        refine ⟨e4c, ls', e4l, by rw [ll', sizeLine_eq]; omega, fun q' H5 k5 nq c5 l5 e5 => ?_⟩
        have e5D := k5.at_ _ _ e4D (not_cons nDc (not_cons nDl not_nil))
        have mu4 : Mu H4 (D :: cs) := mu3.over z1 zn nsl'
        refine ⟨_, e5D, by unfold tps; rw [List.length_map, j2, sizeLine_eq]; omega, ?_⟩
        have k6 : Kp [D] H5 (upd H5 D (.lst (tps ps ++ [.ref q']))) := kp_up memA (kp_refl _ _)
        have e6 : upd H5 D (.lst (tps ps ++ [.ref q'])) D = some (.lst (tps ps ++ [.ref q'])) := upd_same
        have nqD : q' ≠ D := (neN nq e4D).symm
        generalize upd H5 D (.lst (tps ps ++ [.ref q'])) = H6 at k6 e6 ⊢
        have c6 := k6.at_ _ _ c5 (not_cons nDc.symm not_nil)
        have l6 := k6.at_ _ _ l5 (not_cons nDl.symm not_nil)
        have q6 := k6.at_ _ _ e5 (not_cons nqD not_nil)
        have k45 : Kp (D :: ([c, l])) H4 H6 := kp_trans (kp_more k5 fun a m => memB m) (kp_more k6 fun a m => by rw [List.mem_singleton.mp m]; exact memA)
        have k46 : Kp (D :: cs) H4 H6 := kp_more k45 (subCons memA fun a m => memB (so a m))
        have kF : Kp (D :: ([c, l] ++ uv)) H' H6 := kp_freshR k45 (subCons (.inl memA) fun a m => .inl (memB (memL m))) (kp_freshR z1 (subCons (.inr nsl) fun x hx => .inl (memB (memR hx))) (kp_more k3 fun a m => by rw [List.mem_singleton.mp m]; exact memB (memL memA)))
        have kFs : Kp (D :: cs) H' H6 := kp_more kF sD
        have dj : ∀ a ∈ D :: [c, l], a ∈ D :: cs ∧ a ∉ uv := subCons ⟨memA, nDuv⟩ (subCons ⟨memB oc, du1⟩ (subCons ⟨memB ol, du2⟩ subNil))
        have r6 := kp_tup kFs mu' hr'
        have te4 := z1.at_ _ _ e3 (not_cons (neO e3 e4 (fun z => nomatch z)) (nuv nte'))
        have te6 := kp_tup k46 mu4 te4
        have lg := (j8.kp kFs mu').add (show EntAt [] H6 (.ref te) (.build ns) from ⟨te, r, rfl, te6, r6⟩)
        refine ⟨ps ++ [⟨q', r, ns, v⟩], evs ++ [.build ns (pick ms ns) v], ls' ++ [.ref te], ?_, ?_, ?_, ?_, ?_, c6, l6, ?_, ?_, kp_trans j10 kF, zn.dj k45 (fun a m => (dj a m).2)⟩
        · rw [show tps (ps ++ [⟨q', r, ns, v⟩]) = tps ps ++ [.ref q'] from List.map_append ..]
          exact e6
        · rw [List.length_append, j2]
          rfl
        · rw [List.map_append, j3, htk]
          rfl
        · intro x hx
          rcases List.mem_append.mp hx with hx | hx
          · obtain ⟨y1, y2⟩ := j4 x hx
            exact ⟨y1.kp kFs mu', (U D).bk y2 mu' kFs⟩
          · rw [List.mem_singleton.mp hx]
            exact ⟨⟨q6, r6⟩, (U D).bk z2 mu4 k46⟩
        · rw [List.map_append, j5, htk, List.map_append]
          rfl
        · rw [List.map_append, ← List.append_assoc]
          exact lg
        · rw [← List.append_assoc]
          exact (U D).uk z3 mu4 k45 dj
    · rintro H' ⟨ps, evs, ls', j1, j2, j3, j4, j5, j6, j7, j8, j9, j10, j11⟩
      have el : (rs.map V.ref).length = (bns ms.length).length := by rw [List.length_map, hR.n]
      rw [el, List.take_length] at j3 j5
      exact q D ps evs ls' H' fD (kp_freshR j10 (subCons (.inr fD) fun x hx => .inl hx) (kp_more (kp_same (cs := []) s2) fun _ z => nomatch z)) j11 j1 j4 j3 j6 j7 j8 j5 j9
end
end Ob

set_option Elab.async false
set_option linter.all false
set_option maxRecDepth 100000
set_option maxHeartbeats 1000000
namespace Ob
open PySem PySem.Spec PyProof.Rows L2
open LamX (Tabs TabB TabS ExtN)

set_option hygiene false in
local macro_rules
  | `(tactic| kp_flats) => `(tactic| first
    | assumption
    | exact upd_same
    | (apply atNew; assumption; kp_flats)
    | (apply atNe; (next => kbo_bools); kp_flats)
    | (apply atSame; assumption; kp_flats)
    | (apply atKp; assumption; (next => kaf_pre); kp_flats))
set_option hygiene false in
local macro_rules
  | `(tactic| kaf_pre) => `(tactic| first
    | assumption
    | exact not_nil
    | (apply not_cons; (next => kbo_bools); kaf_pre)
    | (apply not_app; (next => kaf_pre); kaf_pre))
set_option hygiene false in
local macro_rules
  | `(tactic| kbo_bools) => `(tactic| first
    | assumption
    | (apply Ne.symm; assumption)
    | (apply neN; assumption; kp_flats)
    | (apply neN'; assumption; kp_flats))
set_option hygiene false in
local macro_rules
  | `(tactic| o_reads) => `(tactic| first
    | with_reducible rfl
    | assumption
    | rfl
    | kp_flats
    | (show SqL _ _ _ _; first | assumption | (apply sqlOf; kp_flats) | (apply sqlSame; assumption; o_reads))
    | (show SqT _ _ _ _; first | assumption | (apply sqtOf; kp_flats) | (apply sqtAll; assumption) | (apply sqtSame; assumption; o_reads))
    | (show Cls _ _; first | exact T.cl_Calls | exact T.cl_Asker | exact T.cl_Builder | exact T.cl_Blocks | exact T.cl_Version)
    | (show NoAttr _ _ _; first | exact T.n_Calls_entries | exact T.n_Calls_running | exact T.n_Asker_calls | exact T.n_Asker_ask_call | exact T.n_Asker_join_call | exact T.n_Asker_zero | exact T.n_Builder_calls | exact T.n_Builder_build_call | exact T.n_Blocks_calls | exact T.n_Blocks_builder | exact T.n_Blocks_asker | exact T.n_Blocks_held | exact T.n_Blocks_parts | exact T.n_Version_calls | exact T.n_Version_asker | exact T.n_Version_held | exact T.n_Version_parts)
    | (apply Or.inl; o_reads)
    | (apply Or.inr; o_reads)
    | (apply And.intro; (next => o_reads); o_reads)
    | (apply Exists.intro; o_reads)
    | exact Nat.le_of_ble_eq_true rfl
    | exact Nat.succ_ne_zero _
    | (show Fr _ _; kba_ints)
    | (show Same _ _; kd_subs)
    | (show Kp _ _ _; kxs_still)
    | (show (_ : Nat) ≤ _; simp only [List.length_append, List.length_map, List.length_cons, List.length_nil, List.length_take, List.length_drop, List.length_replicate, List.length_range, sizeLine_eq]; omega)
    | (show _ = none; apply Fr.h; kba_ints)
    | (show Bag _ _; first | assumption | (apply bag_putF; assumption; o_reads) | (apply bag_neF; (next => kbo_bools); o_reads) | (apply bag_kpR; assumption; (next => kaf_pre); o_reads))
    | omega
    | decide)
local macro_rules
  | `(tactic| o_readsAll) => `(tactic| repeat (first
    | (refine fun (pNew : Addr) (nNew : _ = none) => ?_; replace nNew := Fr.mk nNew)
    | (refine fun (xNew dNew : Addr) (nNew : _ = none) (mNew : _ = none) (eNew : dNew ≠ xNew) => ?_; replace nNew := Fr.mk nNew; replace mNew := Fr.mk mNew)
    | (apply And.intro; next => o_reads)
    | apply Exists.intro (α := V)
    | apply Exists.intro (α := Addr)
    | apply Exists.intro (α := Int)
    | apply Exists.intro (α := Bool)
    | apply Exists.intro (α := List V)
    | apply Exists.intro (α := List Nat)
    | apply Exists.intro (α := List (Str × V))
    | apply Exists.intro (α := List _)
    | apply Exists.intro (α := Str)
    | apply Exists.intro (α := HO)
    | apply Exists.intro (α := Sp)
    | apply Exists.intro (α := VK)))
set_option hygiene false in
local macro_rules
  | `(tactic| kba_ints) => `(tactic| first
    | assumption
    | (apply frUp; (first | assumption | (apply Ne.symm; assumption)); kba_ints)
    | (apply noneOf; assumption; intro oF eF; apply Exists.intro; kp_flats)
    | (apply frUp; (next => kbo_bools); kba_ints))
set_option hygiene false in
local macro_rules
  | `(tactic| kxs_still) => `(tactic| first
    | assumption
    | exact kp_refl _ _
    | (apply kp_newF; assumption; kxs_still)
    | (apply kp_new; assumption; kxs_still)
    | (apply kp_up; (next => o_fieldsN); kxs_still)
    | (apply kp_new; (next => kba_ints); kxs_still)
    | (apply kp_sameR; assumption; kxs_still)
    | (apply kp_transR; assumption; kxs_still)
    | (apply kp_freshR; assumption; (next => kaf_suf); kxs_still))
set_option hygiene false in
local macro_rules
  | `(tactic| kaf_suf) => `(tactic| first
    | assumption
    | exact subNil
    | (apply subCons; (first | (apply Or.inl; o_fieldsN) | (apply Or.inr; kba_ints)); kaf_suf)
    | (apply subApp; (next => kaf_suf); kaf_suf))
set_option hygiene false in
local macro_rules
  | `(tactic| o_fieldsN) => `(tactic| first
    | assumption
    | exact memA
    | (apply memB; o_fieldsN)
    | (apply memL; o_fieldsN)
    | (apply memR; o_fieldsN))
set_option hygiene false in
local macro_rules
  | `(tactic| kd_subs) => `(tactic| first
    | assumption
    | exact Same.refl _
    | (apply same_putF; assumption; kd_subs)
    | (apply same_putG; assumption; kd_subs)
    | (apply same_putF; (next => kba_ints); kd_subs)
    | (apply same_transR; assumption; kd_subs))

set_option pp.maxSteps 900
section
variable {P : Program} {w : World} {K : PySem.W.Frag} {mg : Str → Option Value} {base : Heap} {n : Nat}
def spOf (P : Program) (w : World) (K : PySem.W.Frag) (mg : Str → Option Value) (base : Heap) (CB CC CU CA : Addr) (n : Nat) : Sp := fun vs H Q _ => ∃ (cs uv : List Addr) (mt : Addr) (fb fa fj z : V) (UR : List Ev → Hp → Prop) (Mem : V → Hp → Prop) (Blk : List V → V → Hp → Prop) (Qst : V → Hp → Prop) (Ans : V → List V → V → Hp → Prop)
  (ms : List V) (u : List Ev), vs = [.ref CB, .ref mt, fb, fa, fj, z] ∧ (∀ ds, US P w K mg base n (ds ++ cs) uv fb fa fj UR Mem Blk Qst Ans) ∧ (∀ a ∈ uv, a ∈ cs) ∧ H mt = some (.lst ms) ∧ Mu H cs ∧ (∀ x ∈ ms, Mem x H) ∧ UR u H ∧ u.length < 80000 ∧ ms.length < 100 ∧
  ∀ (b c l : Addr) (evs : List Ev) (H' : Hp), Fr H b → Fr H c → Fr H l → b ≠ c → b ≠ l → c ≠ l → Kp uv H H' → Mu H' uv → Coll CB CC CU CA ([b, c, l] ++ cs) b c l fb fa fj z Mem Blk ms (evs.map Ev.ent) H' →
    evs.map Ev.ent = (bns ms.length).map Ent.build → UR (u ++ evs) H' → Q (.ref b) H'
theorem ok_of (T : Txt K mg) : FnOk P w K mg base CX0 (n + 7) T.f_Blocks_of T.d_Blocks_of ["cls", "members", "build", "ask", "join", "zero"] (spOf P w K mg base T.C_Blocks T.C_Calls T.C_Builder T.C_Asker n) := by
  have G_Blocks_init := fnBx (ok_bi (P := P) (w := w) (base := base) T)
  have G_Builder_row := fnBx (ok_row (P := P) (w := w) (base := base) (n := n) T)
  obtain ⟨mv0, KB_Blocks_init⟩ := FunD.kbinds0 (ps := ["self", "build", "ask", "join", "zero"]) T.F_Blocks_init 4 ["zero"] [] (fun us mv ws => us ++ ws) (List.cons_ne_nil _ _) (fun _ z => nomatch z) (fun a _ c => a.append c)
    (fun D doc pm an cdv ct us mv ws h1 h2 h3 => match us, h1, mv, h2, ws, h3 with | [_, _, _, _], _, [], _, [_], _ => rfl)
  refine T.F_Blocks_of.ok sc_Blocks_of (fun vs H Q E h => ?_) (fun cdv A outer s H vs Q E hr h => ?_)
  · obtain ⟨cs, uv, mt, fb, fa, fj, z, UR, Mem, Blk, Qst, Ans, ms, u, rfl, _⟩ := h
    rfl
  · obtain ⟨cs, uv, mt, fb, fa, fj, z, UR, Mem, Blk, Qst, Ans, ms, u, rfl, U, us, hmt, mu, hm, hu, lu, lm, q⟩ := h
    refine ⟨_, (pss_cons (ps_set (i := 6) sc_Blocks_of.nd rfl (.inl rfl) (Inf.pe_makeL (pv 0) ⟨T.mk_Blocks, T.m_Blocks_init, T.t_Blocks_init, T.kp_Blocks⟩ G_Blocks_init (hr.mono (by omega)) KB_Blocks_init pass0 (pa_cons (pv 2) (pa_cons (pv 3) (pa_cons (pv 4) pa_nil))) (pk_cons (pv 5) pk_nil)))
      (pss_cons (ps_set (i := 7) sc_Blocks_of.nd rfl (.inl rfl) (pe_callTy call_list_of (by rfl) T.z_list (by decide +kernel) (pa_cons (pv 1) pa_nil)))
      (pss_cons (ps_fld (pv 6) (pe_meth (pe_fld (pv 6) rfl) T.cl_Builder ⟨T.m_Builder_row, T.t_Builder_row, T.k_Builder_row⟩ G_Builder_row (hr.mono (by omega)) T.bd_Builder_row T.vd_Builder_row pass0 (pa_cons (pe_listRg rfl (by rfl) T.z_list (prg_1 (by rfl) T.z_range (pe_callB call_len_seq (by rfl) T.z_len (by decide +kernel) (pa_cons (pv 7) pa_nil)))) (pa_cons (pv 7) pa_nil))) rfl)
      (pss_cons (ps_fld (pv 6) (pv 7) rfl)
      (pss_one (ps_ret (pv 6))))))), ?_⟩
    have hE := T.S_Builder_row
    refine ⟨_, rfl, rfl, _, rfl, _, rfl, _, rfl, _, rfl, rfl, rfl, fun b dx nb nd ne => ⟨⟨b, dx, fb, fa, fj, z, rfl, upd_same, ?_⟩⟩⟩
    replace nb := Fr.mk nb
    replace nd := Fr.mk nd
    intro c cdx l bu bdx ka kdx h p H4 fc fl fbu fk fh fp q1 q2 q3 q4 q5 q6 q7 nlh nlp nhp ub uc kb kc bc k4
    refine ⟨rfl, ?_⟩
    have s1 : Same H (upd (upd H dx (.own b)) b (.ins T.C_Blocks dx [])) := by kd_subs
    have s4 : Same H H4 := fun a o e => k4.at_ _ _ (s1 _ _ e) (not_cons (ne_of_none e nb.h) not_nil)
    have fc' : Fr H c := by kba_ints
    have fl' : Fr H l := by kba_ints
    have fbu' : Fr H bu := by kba_ints
    have fk' : Fr H ka := by kba_ints
    have bn : b ≠ l := neO q1 q3 (fun z => nomatch z)
    have cn : c ≠ l := neO q2 q3 (fun z => nomatch z)
    have kn : ka ≠ l := neO q5 q3 (fun z => nomatch z)
    have un : bu ≠ l := neO q4 q3 (fun z => nomatch z)
    refine ⟨_, rfl, mt, ms, rfl, .inl (sqlOf (s4 _ _ hmt)), fun hh nh => ?_⟩
    replace nh := Fr.mk nh
    have s5 : Same H4 (upd H4 hh (.lst ms)) := same_newF nh
    have eh5 : upd H4 hh (.lst ms) hh = some (.lst ms) := upd_same
    have fhH : Fr H hh := Fr.mk (s4.free nh.h)
    have nbh : hh ≠ b := (neN nh q1).symm
    have nch : hh ≠ c := (neN nh q2).symm
    have nlH : hh ≠ l := (neN nh q3).symm
    have mu4 := mu.same s4
    have mem4 : ∀ x ∈ ms, Mem x H4 := fun x hx => (U []).mk' (hm x hx) mu (kp_more (kp_same (cs := []) s4) fun _ z => nomatch z)
    have ur4 : UR u H4 := (U []).uk hu mu (kp_same (cs := []) s4) fun _ z => nomatch z
    have fh4 : Fr H4 hh := nh
    have hm5 : ∀ x ∈ ms, Mem x (upd H4 hh (.lst ms)) := fun x hx => (U []).mk' (mem4 x hx) mu4 (kp_more (kp_same (cs := []) s5) fun _ z => nomatch z)
    have ur5 : UR u (upd H4 hh (.lst ms)) := (U []).uk ur4 mu4 (kp_same (cs := []) s5) fun _ z => nomatch z
    have mu5 := mu4.same s5
    have sH5 := s4.trans s5
    generalize upd H4 hh (.lst ms) = H5 at s5 eh5 hm5 ur5 mu5 sH5 ⊢
    have hb5 := s5 _ _ q1
    have rg0 : rgV 0 ((ms.length : Nat) : Int) = (List.range' 0 ms.length).map nV := by
      unfold rgV
      rw [Int.sub_zero, Int.toNat_natCast, List.range_eq_range']
      refine List.map_congr_left fun i _ => ?_
      rw [Int.zero_add]
      rfl
    refine ⟨_, rfl, b, T.C_Blocks, dx, _, _, rfl, hb5, T.cl_Blocks, T.n_Blocks_builder, rfl, bu, bdx, _, rfl, s5 _ _ q4, rfl, _, rfl, hh, ms, rfl, .inl (sqlOf eh5), _, rfl, ?_, fun a na => ⟨_, rfl, ⟨?_⟩⟩⟩
    · exact ⟨by omega, by omega, by omega⟩
    replace na := Fr.mk na
    rw [rg0]
    have s6 : Same H5 (upd H5 a (.lst ((List.range' 0 ms.length).map nV))) := same_newF na
    have ea6 : upd H5 a (.lst ((List.range' 0 ms.length).map nV)) a = some (.lst ((List.range' 0 ms.length).map nV)) := upd_same
    have mem6 : ∀ x ∈ ms, Mem x (upd H5 a (.lst ((List.range' 0 ms.length).map nV))) := fun x hx => (U []).mk' (hm5 x hx) mu5 (kp_more (kp_same (cs := []) s6) fun _ z => nomatch z)
    have ur6 : UR u (upd H5 a (.lst ((List.range' 0 ms.length).map nV))) := (U []).uk ur5 mu5 (kp_same (cs := []) s6) fun _ z => nomatch z
    have mu6 := mu5.same s6
    generalize upd H5 a (.lst ((List.range' 0 ms.length).map nV)) = H6 at s6 ea6 mem6 ur6 mu6 ⊢
    have s46 := s5.trans s6
    have mo : Mu H6 [b, c, l] := mu_ins (s46 _ _ q1) (mu_ins (s46 _ _ q2) (mu_lst (s46 _ _ q3) mu_nil))
    have out : ∀ {x : Addr}, x ≠ b → x ≠ c → x ≠ l → Fr H x → x ∉ [b, c, l] ++ cs := fun x1 x2 x3 f => not_app (not_cons x1 (not_cons x2 (not_cons x3 not_nil))) (mu.fr f)
    have dbu := out ub uc un fbu'
    have dka := out kb kc kn fk'
    have dhh := out nbh nch nlH fhH
    have ouv : ∀ {x : Addr}, Fr H x → x ∉ uv := fun f m => mu.fr f (us _ m)
    refine ⟨[b, c, l] ++ cs, uv, bu, bdx, c, cdx, l, a, hh, _, fb, fa, fj, UR, Mem, Blk, Qst, Ans, ms, [], [], u, rfl, fun D => U (D :: [b, c, l]), fun a m => memR (us a m), hE, s46 _ _ q4, s46 _ _ q2, s46 _ _ q3, .nil, ea6, s6 _ _ eh5, ⟨dbu, dhh⟩, ⟨memL (memB memA), memL (memB (memB memA))⟩, ⟨ouv fc', ouv fl'⟩, mu_app mo mu6, mem6, ur6, lu, by decide, lm, ?_⟩
    intro p2 ps evs ls' H7 fp2 k7 m7 e1 e2 e3 e4 e5 e6 e7 e8
    have nb7 : b ∉ [c, l] ++ uv := not_app (not_cons bc (not_cons bn not_nil)) (ouv nb)
    have hb7 := k7.at_ _ _ (s46 _ _ q1) nb7
    refine ⟨_, rfl, b, T.C_Blocks, dx, _, rfl, hb7, T.cl_Blocks, T.n_Blocks_parts, (Nat.le_of_ble_eq_true rfl : (5 : Nat) < 1000), _, rfl, _, rfl, b, T.C_Blocks, dx, _, rfl, upd_same, T.cl_Blocks, T.n_Blocks_held, (Nat.le_of_ble_eq_true rfl : (5 : Nat) < 1000), _, rfl, ?_⟩
    generalize hH9 : upd (upd H7 b _) b _ = H9
    have hb9 : H9 b = some (BlO T.C_Blocks dx c bu ka hh p2) := by
      rw [← hH9, upd_same]
      rfl
    have k9 : Kp [b] H7 H9 := by
      rw [← hH9]
      exact kp_up memA (kp_up memA (kp_refl _ _))
    clear hH9
    have mu7 : Mu H7 ([b, c, l] ++ cs) := (mu_app mo mu6).kp k7 (mu_app (mu_ins e4 (mu_lst e5 mu_nil)) m7)
    have mu9 : Mu H9 ([b, c, l] ++ cs) := mu7.kp k9 (mu_ins hb9 mu_nil)
    have b9 : ∀ {x : Addr} {o : HO}, H7 x = some o → x ≠ b → H9 x = some o := fun e n => k9.at_ _ _ e (not_cons n not_nil)
    have b7 : ∀ {x : Addr} {o : HO}, H4 x = some o → x ∉ [b, c, l] ++ cs → H7 x = some o := fun e n => k7.at_ _ _ (s46 _ _ e) fun m => n ((List.mem_append.mp m).elim (fun m => memL (memB m)) fun m => memR (us _ m))
    have nbx : ∀ {x : Addr}, x ∉ [b, c, l] ++ cs → x ≠ b := fun n z => n (by rw [z]; exact memL memA)
    have k9s : Kp ([b, c, l] ++ cs) H7 H9 := kp_more k9 fun a m => by rw [List.mem_singleton.mp m]; exact memL memA
    have dp2 := (mu_app mo mu6).fr fp2
    have sH6 : Same H H6 := s4.trans s46
    have mem7 : ∀ x ∈ ms, Mem x H9 := fun x hx => (U [b, c, l]).mk' ((U [b, c, l]).mk' (mem6 x hx) (mu_app mo mu6) (kp_more k7 fun a m => (List.mem_append.mp m).elim (fun m => memL (memB m)) fun m => memR (us _ m))) mu7 k9s
    have nbuv : b ∉ uv := ouv nb
    refine q b c l evs H9 nb fc' fl' bc bn cn (kp_freshR k9 (subCons (.inr nb) subNil) (kp_freshR k7 (subApp (subCons (.inr fc') (subCons (.inr fl') subNil)) fun x hx => .inl hx) (kp_same (cs := uv) sH6))) (m7.dj k9 (subCons nbuv subNil)) ⟨⟨dx, bu, bdx, ka, hh, p2, hb9, b9 (b7 q4 dbu) ub, dbu, ⟨⟨cdx, kdx, ps, ls', b9 e4 bc.symm, b9 e5 bn.symm, LogAt.kp k9s mu7 e6, b9 (b7 q5 dka) kb, b9 (k7.at_ _ _ (s6 _ _ eh5) fun m => dhh ((List.mem_append.mp m).elim (fun m => memL (memB m)) fun m => memR (us _ m))) nbh, b9 e1 (nbx dp2), fun x hx => ⟨(e2 x hx).1.kp k9s mu7, (U [b, c, l]).bk (e2 x hx).2 mu7 k9s⟩, e3⟩, mem7, mu9, ⟨dka, dhh, dp2⟩, ⟨memL (memB memA), memL (memB (memB memA))⟩⟩⟩, memL memA⟩ e7 ((U [b, c, l]).uk e8 mu7 k9 (subCons ⟨memL memA, nbuv⟩ subNil))
end
end Ob

set_option Elab.async false
set_option linter.all false
set_option maxRecDepth 100000
set_option maxHeartbeats 1000000
namespace Ob
open PySem PySem.Spec PyProof.Rows L2
open LamX (Tabs TabB TabS ExtN)

set_option hygiene false in
local macro_rules
  | `(tactic| kp_flats) => `(tactic| first
    | assumption
    | exact upd_same
    | (apply atNew; assumption; kp_flats)
    | (apply atNe; (next => kbo_bools); kp_flats)
    | (apply atSame; assumption; kp_flats)
    | (apply atKp; assumption; (next => kaf_pre); kp_flats))
set_option hygiene false in
local macro_rules
  | `(tactic| kaf_pre) => `(tactic| first
    | assumption
    | exact not_nil
    | (apply not_cons; (next => kbo_bools); kaf_pre)
    | (apply not_app; (next => kaf_pre); kaf_pre))
set_option hygiene false in
local macro_rules
  | `(tactic| kbo_bools) => `(tactic| first
    | assumption
    | (apply Ne.symm; assumption)
    | (apply neN; assumption; kp_flats)
    | (apply neN'; assumption; kp_flats))
set_option hygiene false in
local macro_rules
  | `(tactic| o_reads) => `(tactic| first
    | with_reducible rfl
    | assumption
    | rfl
    | kp_flats
    | (show SqL _ _ _ _; first | assumption | (apply sqlOf; kp_flats) | (apply sqlSame; assumption; o_reads))
    | (show SqT _ _ _ _; first | assumption | (apply sqtOf; kp_flats) | (apply sqtAll; assumption) | (apply sqtSame; assumption; o_reads))
    | (show Cls _ _; first | exact T.cl_Calls | exact T.cl_Asker | exact T.cl_Builder | exact T.cl_Blocks | exact T.cl_Version)
    | (show NoAttr _ _ _; first | exact T.n_Calls_entries | exact T.n_Calls_running | exact T.n_Asker_calls | exact T.n_Asker_ask_call | exact T.n_Asker_join_call | exact T.n_Asker_zero | exact T.n_Builder_calls | exact T.n_Builder_build_call | exact T.n_Blocks_calls | exact T.n_Blocks_builder | exact T.n_Blocks_asker | exact T.n_Blocks_held | exact T.n_Blocks_parts | exact T.n_Version_calls | exact T.n_Version_asker | exact T.n_Version_held | exact T.n_Version_parts)
    | (apply Or.inl; o_reads)
    | (apply Or.inr; o_reads)
    | (apply And.intro; (next => o_reads); o_reads)
    | (apply Exists.intro; o_reads)
    | exact Nat.le_of_ble_eq_true rfl
    | exact Nat.succ_ne_zero _
    | (show Fr _ _; kba_ints)
    | (show Same _ _; kd_subs)
    | (show Kp _ _ _; kxs_still)
    | (show (_ : Nat) ≤ _; simp only [List.length_append, List.length_map, List.length_cons, List.length_nil, List.length_take, List.length_drop, List.length_replicate, List.length_range, sizeLine_eq]; omega)
    | (show _ = none; apply Fr.h; kba_ints)
    | (show Bag _ _; first | assumption | (apply bag_putF; assumption; o_reads) | (apply bag_neF; (next => kbo_bools); o_reads) | (apply bag_kpR; assumption; (next => kaf_pre); o_reads))
    | omega
    | decide)
local macro_rules
  | `(tactic| o_readsAll) => `(tactic| repeat (first
    | (refine fun (pNew : Addr) (nNew : _ = none) => ?_; replace nNew := Fr.mk nNew)
    | (refine fun (xNew dNew : Addr) (nNew : _ = none) (mNew : _ = none) (eNew : dNew ≠ xNew) => ?_; replace nNew := Fr.mk nNew; replace mNew := Fr.mk mNew)
    | (apply And.intro; next => o_reads)
    | apply Exists.intro (α := V)
    | apply Exists.intro (α := Addr)
    | apply Exists.intro (α := Int)
    | apply Exists.intro (α := Bool)
    | apply Exists.intro (α := List V)
    | apply Exists.intro (α := List Nat)
    | apply Exists.intro (α := List (Str × V))
    | apply Exists.intro (α := List _)
    | apply Exists.intro (α := Str)
    | apply Exists.intro (α := HO)
    | apply Exists.intro (α := Sp)
    | apply Exists.intro (α := VK)))
set_option hygiene false in
local macro_rules
  | `(tactic| kba_ints) => `(tactic| first
    | assumption
    | (apply frUp; (first | assumption | (apply Ne.symm; assumption)); kba_ints)
    | (apply noneOf; assumption; intro oF eF; apply Exists.intro; kp_flats)
    | (apply frUp; (next => kbo_bools); kba_ints))
set_option hygiene false in
local macro_rules
  | `(tactic| kxs_still) => `(tactic| first
    | assumption
    | exact kp_refl _ _
    | (apply kp_newF; assumption; kxs_still)
    | (apply kp_new; assumption; kxs_still)
    | (apply kp_up; (next => o_fieldsN); kxs_still)
    | (apply kp_new; (next => kba_ints); kxs_still)
    | (apply kp_sameR; assumption; kxs_still)
    | (apply kp_transR; assumption; kxs_still)
    | (apply kp_freshR; assumption; (next => kaf_suf); kxs_still))
set_option hygiene false in
local macro_rules
  | `(tactic| kaf_suf) => `(tactic| first
    | assumption
    | exact subNil
    | (apply subCons; (first | (apply Or.inl; o_fieldsN) | (apply Or.inr; kba_ints)); kaf_suf)
    | (apply subApp; (next => kaf_suf); kaf_suf))
set_option hygiene false in
local macro_rules
  | `(tactic| o_fieldsN) => `(tactic| first
    | assumption
    | exact memA
    | (apply memB; o_fieldsN)
    | (apply memL; o_fieldsN)
    | (apply memR; o_fieldsN))
set_option hygiene false in
local macro_rules
  | `(tactic| kd_subs) => `(tactic| first
    | assumption
    | exact Same.refl _
    | (apply same_putF; assumption; kd_subs)
    | (apply same_putG; assumption; kd_subs)
    | (apply same_putF; (next => kba_ints); kd_subs)
    | (apply same_transR; assumption; kd_subs))

theorem dps_int {K : PySem.W.Frag} {H : Hp} : ∀ (l : List Int), DpAll K H (l.map V.int) (l.map PyData.int)
  | [] => .nil
  | i :: l => .cons (.int i) (dps_int l)
section
variable {K : PySem.W.Frag} {H : Hp}
/-! ### entries as data -/
def numsD (ns : List Nat) : PyData := .tuple ((ns.map fun k : Nat => (k : Int)).map PyData.int)
def entD : Ent → PyData
  | .build ns => .tuple [.str "build", numsD ns]
  | .ask ns => .tuple [.str "ask", numsD ns]
  | .join m k => .tuple [.str "join", .int (m : Nat), .int (k : Nat)]
theorem natV (ns : List Nat) : ns.map nV = (ns.map fun k : Nat => (k : Int)).map V.int := by
  rw [List.map_map]
  rfl
theorem dp_ent : ∀ {v : V} {e : Ent}, EntAt [] H v e → Dp K H v (entD e)
  | _, .build _, ⟨t, tn, rfl, h1, h2⟩ => by
    rw [natV] at h2
    exact .tup (sqtOf h1) (.cons (.str _) (.cons (.tup (sqtOf h2) (dps_int _)) .nil))
  | _, .ask _, ⟨t, tn, rfl, h1, h2⟩ => by
    rw [natV] at h2
    exact .tup (sqtOf h1) (.cons (.str _) (.cons (.tup (sqtOf h2) (dps_int _)) .nil))
  | _, .join _ _, ⟨t, rfl, h1⟩ => .tup (sqtOf h1) (.cons (.str _) (.cons (.int _) (.cons (.int _) .nil)))
theorem dp_ents : ∀ {vs : List V} {es : List Ent}, LogAt [] H vs es → DpAll K H vs (es.map entD)
  | _, _, .nil => .nil
  | _, _, .cons h t => .cons (dp_ent h) (dp_ents t)
end
theorem lay_int : ∀ l : List Int, PyData.canLayAll0 (l.map PyData.int) = true ∧ PyData.depthAll (l.map PyData.int) ≤ 1
  | [] => ⟨rfl, by decide⟩
  | x :: l => by
    obtain ⟨a, b⟩ := lay_int l
    refine ⟨?_, ?_⟩
    · rw [List.map_cons]
      simp only [PyData.canLayAll0, PyData.canLay0, a, Bool.and_self]
    · rw [List.map_cons]
      simp only [PyData.depthAll, PyData.depth]
      omega
theorem lay_ent : ∀ e : Ent, PyData.canLay0 (entD e) = true ∧ PyData.depth (entD e) ≤ 3
  | .build ns => by
    obtain ⟨a, b⟩ := lay_int (ns.map fun k : Nat => (k : Int))
    refine ⟨?_, ?_⟩
    · unfold entD numsD
      simp only [PyData.canLayAll0, PyData.canLay0, a, Bool.and_self, Bool.and_true]
      decide +kernel
    · unfold entD numsD
      simp only [PyData.depthAll, PyData.depth]
      omega
  | .ask ns => by
    obtain ⟨a, b⟩ := lay_int (ns.map fun k : Nat => (k : Int))
    refine ⟨?_, ?_⟩
    · unfold entD numsD
      simp only [PyData.canLayAll0, PyData.canLay0, a, Bool.and_self, Bool.and_true]
      decide +kernel
    · unfold entD numsD
      simp only [PyData.depthAll, PyData.depth]
      omega
  | .join m k => by
    refine ⟨?_, ?_⟩
    · unfold entD
      simp only [PyData.canLayAll0, PyData.canLay0, Bool.and_self, Bool.and_true]
      decide +kernel
    · unfold entD
      simp only [PyData.depthAll, PyData.depth]
      omega
theorem lay_ents : ∀ l : List Ent, PyData.canLayAll0 (l.map entD) = true ∧ PyData.depthAll (l.map entD) ≤ 4
  | [] => ⟨rfl, by decide⟩
  | x :: l => by
    obtain ⟨a, b⟩ := lay_ents l
    obtain ⟨c, d⟩ := lay_ent x
    refine ⟨?_, ?_⟩
    · rw [List.map_cons]
      simp only [PyData.canLayAll0, a, c, Bool.and_self]
    · rw [List.map_cons]
      simp only [PyData.depthAll]
      omega
theorem sh_ents (l : List Ent) : SeqAt.shaped (.list (l.map entD)) = true := by
  obtain ⟨a, b⟩ := lay_ents l
  unfold SeqAt.shaped
  rw [Bool.and_eq_true]
  refine ⟨?_, decide_eq_true ?_⟩
  · simp only [PyData.canLay0, a]
  · simp only [PyData.depth]
    omega
theorem eq_ents (l : List Ent) : (!PyData.eqv (.list (l.map entD)) (.list (l.map entD))) = false := by
  rw [SeqAt.eqv_refl _ (SeqAt.canLay_of_shaped (sh_ents l))]
  rfl
theorem sh_int (l : List Int) : SeqAt.shaped (.list (l.map PyData.int)) = true := by
  obtain ⟨a, b⟩ := lay_int l
  unfold SeqAt.shaped
  rw [Bool.and_eq_true]
  refine ⟨?_, decide_eq_true ?_⟩
  · simp only [PyData.canLay0, a]
  · simp only [PyData.depth]
    omega
theorem eq_int (l : List Int) : (!PyData.eqv (.list (l.map PyData.int)) (.list (l.map PyData.int))) = false := by
  rw [SeqAt.eqv_refl _ (SeqAt.canLay_of_shaped (sh_int l))]
  rfl
end Ob

set_option Elab.async false
set_option linter.all false
set_option maxRecDepth 100000
set_option maxHeartbeats 1000000
namespace Ob
open PySem PySem.Spec PyProof.Rows L2
open LamX (Tabs TabB TabS ExtN)

set_option hygiene false in
local macro_rules
  | `(tactic| kp_flats) => `(tactic| first
    | assumption
    | exact upd_same
    | (apply atNew; assumption; kp_flats)
    | (apply atNe; (next => kbo_bools); kp_flats)
    | (apply atSame; assumption; kp_flats)
    | (apply atKp; assumption; (next => kaf_pre); kp_flats))
set_option hygiene false in
local macro_rules
  | `(tactic| kaf_pre) => `(tactic| first
    | assumption
    | exact not_nil
    | (apply not_cons; (next => kbo_bools); kaf_pre)
    | (apply not_app; (next => kaf_pre); kaf_pre))
set_option hygiene false in
local macro_rules
  | `(tactic| kbo_bools) => `(tactic| first
    | assumption
    | (apply Ne.symm; assumption)
    | (apply neN; assumption; kp_flats)
    | (apply neN'; assumption; kp_flats))
set_option hygiene false in
local macro_rules
  | `(tactic| o_reads) => `(tactic| first
    | with_reducible rfl
    | assumption
    | rfl
    | kp_flats
    | (show SqL _ _ _ _; first | assumption | (apply sqlOf; kp_flats) | (apply sqlSame; assumption; o_reads))
    | (show SqT _ _ _ _; first | assumption | (apply sqtOf; kp_flats) | (apply sqtAll; assumption) | (apply sqtSame; assumption; o_reads))
    | (show Cls _ _; first | exact T.cl_Calls | exact T.cl_Asker | exact T.cl_Builder | exact T.cl_Blocks | exact T.cl_Version)
    | (show NoAttr _ _ _; first | exact T.n_Calls_entries | exact T.n_Calls_running | exact T.n_Asker_calls | exact T.n_Asker_ask_call | exact T.n_Asker_join_call | exact T.n_Asker_zero | exact T.n_Builder_calls | exact T.n_Builder_build_call | exact T.n_Blocks_calls | exact T.n_Blocks_builder | exact T.n_Blocks_asker | exact T.n_Blocks_held | exact T.n_Blocks_parts | exact T.n_Version_calls | exact T.n_Version_asker | exact T.n_Version_held | exact T.n_Version_parts)
    | (apply Or.inl; o_reads)
    | (apply Or.inr; o_reads)
    | (apply And.intro; (next => o_reads); o_reads)
    | (apply Exists.intro; o_reads)
    | exact Nat.le_of_ble_eq_true rfl
    | exact Nat.succ_ne_zero _
    | (show Fr _ _; kba_ints)
    | (show Same _ _; kd_subs)
    | (show Kp _ _ _; kxs_still)
    | (show (_ : Nat) ≤ _; simp only [List.length_append, List.length_map, List.length_cons, List.length_nil, List.length_take, List.length_drop, List.length_replicate, List.length_range, sizeLine_eq]; omega)
    | (show _ = none; apply Fr.h; kba_ints)
    | (show Bag _ _; first | assumption | (apply bag_putF; assumption; o_reads) | (apply bag_neF; (next => kbo_bools); o_reads) | (apply bag_kpR; assumption; (next => kaf_pre); o_reads))
    | omega
    | decide)
local macro_rules
  | `(tactic| o_readsAll) => `(tactic| repeat (first
    | (refine fun (pNew : Addr) (nNew : _ = none) => ?_; replace nNew := Fr.mk nNew)
    | (refine fun (xNew dNew : Addr) (nNew : _ = none) (mNew : _ = none) (eNew : dNew ≠ xNew) => ?_; replace nNew := Fr.mk nNew; replace mNew := Fr.mk mNew)
    | (apply And.intro; next => o_reads)
    | apply Exists.intro (α := V)
    | apply Exists.intro (α := Addr)
    | apply Exists.intro (α := Int)
    | apply Exists.intro (α := Bool)
    | apply Exists.intro (α := List V)
    | apply Exists.intro (α := List Nat)
    | apply Exists.intro (α := List (Str × V))
    | apply Exists.intro (α := List _)
    | apply Exists.intro (α := Str)
    | apply Exists.intro (α := HO)
    | apply Exists.intro (α := Sp)
    | apply Exists.intro (α := VK)))
set_option hygiene false in
local macro_rules
  | `(tactic| kba_ints) => `(tactic| first
    | assumption
    | (apply frUp; (first | assumption | (apply Ne.symm; assumption)); kba_ints)
    | (apply noneOf; assumption; intro oF eF; apply Exists.intro; kp_flats)
    | (apply frUp; (next => kbo_bools); kba_ints))
set_option hygiene false in
local macro_rules
  | `(tactic| kxs_still) => `(tactic| first
    | assumption
    | exact kp_refl _ _
    | (apply kp_newF; assumption; kxs_still)
    | (apply kp_new; assumption; kxs_still)
    | (apply kp_up; (next => o_fieldsN); kxs_still)
    | (apply kp_new; (next => kba_ints); kxs_still)
    | (apply kp_sameR; assumption; kxs_still)
    | (apply kp_transR; assumption; kxs_still)
    | (apply kp_freshR; assumption; (next => kaf_suf); kxs_still))
set_option hygiene false in
local macro_rules
  | `(tactic| kaf_suf) => `(tactic| first
    | assumption
    | exact subNil
    | (apply subCons; (first | (apply Or.inl; o_fieldsN) | (apply Or.inr; kba_ints)); kaf_suf)
    | (apply subApp; (next => kaf_suf); kaf_suf))
set_option hygiene false in
local macro_rules
  | `(tactic| o_fieldsN) => `(tactic| first
    | assumption
    | exact memA
    | (apply memB; o_fieldsN)
    | (apply memL; o_fieldsN)
    | (apply memR; o_fieldsN))
set_option hygiene false in
local macro_rules
  | `(tactic| kd_subs) => `(tactic| first
    | assumption
    | exact Same.refl _
    | (apply same_putF; assumption; kd_subs)
    | (apply same_putG; assumption; kd_subs)
    | (apply same_putF; (next => kba_ints); kd_subs)
    | (apply same_transR; assumption; kd_subs))

set_option pp.maxSteps 900
open NdefX (TabsN)
def nm_l_pair : Nat → Nat → Str := fun l _ => if l = 231 then ("_law_pair" : Str) ++ ".<locals>." ++ "<lambda>" else if l = 234 then ("_law_pair" : Str) ++ ".<locals>." ++ "<lambda>" else if l = 230 then ("_law_pair" : Str) ++ ".<locals>." ++ "<lambda>" else if l = 233 then ("_law_pair" : Str) ++ ".<locals>." ++ "<lambda>" else ("_law_pair" : Str) ++ ".<locals>." ++ "<lambda>"
def nm_l_of_right : Nat → Nat → Str := fun l _ => if l = 237 then ("_law_of_right" : Str) ++ ".<locals>." ++ "<lambda>" else ("_law_of_right" : Str) ++ ".<locals>." ++ "<lambda>"
def TT {K : PySem.W.Frag} {mg : Str → Option Value} (T : Txt K mg) : List NdefX.NTab := [(T.p_l_pair, nm_l_pair), (T.p_l_of_right, nm_l_of_right)]
theorem hm_l_pair {K : PySem.W.Frag} {mg : Str → Option Value} (T : Txt K mg) : (T.p_l_pair, nm_l_pair) ∈ TT T := List.mem_cons_self ..
theorem hu_l_pair {K : PySem.W.Frag} {mg : Str → Option Value} (T : Txt K mg) : ∀ p ∈ TT T, p.1 = T.p_l_pair → p.2 = nm_l_pair := fun p m e => by
  rcases List.mem_cons.mp m with rfl | m
  · exact rfl
  rcases List.mem_cons.mp m with rfl | m
  · exact absurd e.symm T.pne_l_pair_l_of_right
  · cases m
theorem hm_l_of_right {K : PySem.W.Frag} {mg : Str → Option Value} (T : Txt K mg) : (T.p_l_of_right, nm_l_of_right) ∈ TT T := List.mem_cons_of_mem _ (List.mem_cons_self ..)
theorem hu_l_of_right {K : PySem.W.Frag} {mg : Str → Option Value} (T : Txt K mg) : ∀ p ∈ TT T, p.1 = T.p_l_of_right → p.2 = nm_l_of_right := fun p m e => by
  rcases List.mem_cons.mp m with rfl | m
  · exact absurd e T.pne_l_pair_l_of_right
  rcases List.mem_cons.mp m with rfl | m
  · exact rfl
  · cases m
/-! ### the lambdas of the law -/
def exArgs : Expr → List Expr
  | .Call _ es kws _ => es ++ kws.map (·.value)
  | _ => []
def lamsIn : Stmt → List Expr
  | .Assign _ e _ => exArgs e
  | _ => []
def ifBody : Stmt → List Stmt
  | .If _ b _ _ => b
  | _ => []
def noSt : Stmt := .Pass ⟨0, 0, 0, 0⟩
def lamSt : Nat → Stmt
  | 0 => (ifBody ((defBody s_l_pair).getD 0 noSt)).getD 0 noSt
  | 1 => (ifBody ((defBody s_l_pair).getD 0 noSt)).getD 1 noSt
  | 2 => (defBody s_l_pair).getD 1 noSt
  | 3 => (defBody s_l_pair).getD 2 noSt
  | _ => (defBody s_l_of_right).getD 0 noSt
def lamE (k i : Nat) : Expr := (lamsIn (lamSt k)).getD i (.Constant .none 0 ⟨0, 0, 0, 0⟩)
def lamW (q : Str) : Expr → Addr → Inf.LF
  | .Lambda ps b sc _, c => ⟨q, ps, b, sc, [], c⟩
  | _, c => ⟨q, { posonlyargs := [], args := [], vararg := none, kwonlyargs := [], kw_defaults := [], kwarg := none, defaults := [] }, .Constant .none 0 ⟨0, 0, 0, 0⟩, defScope s_law, [], c⟩
def qX : Nat → Str
  | 4 => ("_law_of_right" : Str) ++ ".<locals>." ++ "<lambda>"
  | _ => ("_law_pair" : Str) ++ ".<locals>." ++ "<lambda>"
def LW (k i : Nat) : Addr → Inf.LF := lamW (qX k) (lamE k i)
section
variable {P : Program} {w : World} {K : PySem.W.Frag} {mg : Str → Option Value} {base : Heap} {n : Nat}
theorem lam_act {k : Nat} {f : Addr} {F : Inf.LF} {N ps : List Str} {sp : Sp} (S : NdefX.NScope N ps [] F.scope) (hcl : F.cl = []) (hb : ∀ (pm ctv : Value) (us : List Value), us.length = ps.length → bindArgs (PySem.W.kla_fn "<lambda>" F.qual F.params F.body F.scope F.cl pm (.ref F.c) ctv) ⟨us, []⟩ = pure (ps.zip us))
    (len : ∀ vs H Q E, sp vs H Q E → vs.length = ps.length)
    (hbody : ∀ (A : Around) (outer : List Env) (s : Shared) (H : Hp) (vs : List V) (Q : VK) (E : XK), Room k (A.deeper (NdefX.envF F.nf f s.heap.objs.size)) → sp vs H Q E → ∃ te, PE (NdefX.ncx CX0 P w K mg base N F.nf f A outer s H E) F.body te ∧ te (NdefX.startF N vs []) H Q)
    {xs : List V} {H : Hp} {Q : VK} (hk : k + 1 ≤ n) (hf : H f = some (Inf.LamO f F)) (hc : H F.c = some (LamX.CodeO F.c F.qual)) (h : sp xs H Q E0) : Act P w K mg base n (.ref f) xs H Q :=
  ⟨f, _, _, Q, rfl, hf, Inf.lamHO, (Inf.lam_fnR S hcl hb len hbody).mono hk, ⟨hf, hc, h⟩, fun _ _ z => z⟩
def spB : Sp := fun vs H Q _ => ∃ (sl : Addr) (is : List Int), vs = [.ref sl] ∧ H sl = some (.lst (is.map V.int)) ∧ Q (.int is.sum) H
def spA : Sp := fun vs H Q _ => ∃ a t : Int, vs = [.int a, .int t] ∧ 0 ≤ t ∧ t < 100 ∧ Q (.int (a * t)) H
def spJ : Sp := fun vs H Q _ => ∃ a b : Int, vs = [.int a, .int b] ∧ Q (.int (a + b)) H
theorem actB_0 (T : Txt K mg) {f c : Addr} {xs : List V} {H : Hp} {Q : VK} (hk : 1 ≤ n) (hf : H f = some (Inf.LamO f (LW 0 0 c))) (hc : H c = some (LamX.CodeO c (qX 0))) (h : spB xs H Q E0) : Act P w K mg base n (.ref f) xs H Q := by
  refine lam_act (F := LW 0 0 c) (k := 0) (N := ["_law_some"]) (ps := ["_law_some"]) (sp := spB) (NdefX.nscope_by (sc := (LW 0 0 0).scope) (by decide +kernel)) rfl (fun _ _ us hl => match us, hl with | [_], _ => rfl) (fun vs H Q E h => ?_) (fun A outer s H vs Q E hr h => ?_) hk hf hc h
  · obtain ⟨sl, is, rfl, _⟩ := h
    rfl
  · obtain ⟨sl, is, rfl, h1, q⟩ := h
    refine ⟨_, (pe_callB (cr_sum rfl) (by rfl) T.z_sum (by decide +kernel) (pa_cons (pv 0) pa_nil)), ?_⟩
    exact ⟨_, rfl, sl, is, rfl, sqlOf h1, q⟩
theorem actB_1 (T : Txt K mg) {f c : Addr} {xs : List V} {H : Hp} {Q : VK} (hk : 1 ≤ n) (hf : H f = some (Inf.LamO f (LW 1 1 c))) (hc : H c = some (LamX.CodeO c (qX 1))) (h : spB xs H Q E0) : Act P w K mg base n (.ref f) xs H Q := by
  refine lam_act (F := LW 1 1 c) (k := 0) (N := ["_law_some"]) (ps := ["_law_some"]) (sp := spB) (NdefX.nscope_by (sc := (LW 1 1 0).scope) (by decide +kernel)) rfl (fun _ _ us hl => match us, hl with | [_], _ => rfl) (fun vs H Q E h => ?_) (fun A outer s H vs Q E hr h => ?_) hk hf hc h
  · obtain ⟨sl, is, rfl, _⟩ := h
    rfl
  · obtain ⟨sl, is, rfl, h1, q⟩ := h
    refine ⟨_, (pe_callB (cr_sum rfl) (by rfl) T.z_sum (by decide +kernel) (pa_cons (pv 0) pa_nil)), ?_⟩
    exact ⟨_, rfl, sl, is, rfl, sqlOf h1, q⟩
theorem actB_2 (T : Txt K mg) {f c : Addr} {xs : List V} {H : Hp} {Q : VK} (hk : 1 ≤ n) (hf : H f = some (Inf.LamO f (LW 2 0 c))) (hc : H c = some (LamX.CodeO c (qX 2))) (h : spB xs H Q E0) : Act P w K mg base n (.ref f) xs H Q := by
  refine lam_act (F := LW 2 0 c) (k := 0) (N := ["_law_some"]) (ps := ["_law_some"]) (sp := spB) (NdefX.nscope_by (sc := (LW 2 0 0).scope) (by decide +kernel)) rfl (fun _ _ us hl => match us, hl with | [_], _ => rfl) (fun vs H Q E h => ?_) (fun A outer s H vs Q E hr h => ?_) hk hf hc h
  · obtain ⟨sl, is, rfl, _⟩ := h
    rfl
  · obtain ⟨sl, is, rfl, h1, q⟩ := h
    refine ⟨_, (pe_callB (cr_sum rfl) (by rfl) T.z_sum (by decide +kernel) (pa_cons (pv 0) pa_nil)), ?_⟩
    exact ⟨_, rfl, sl, is, rfl, sqlOf h1, q⟩
theorem actB_3 (T : Txt K mg) {f c : Addr} {xs : List V} {H : Hp} {Q : VK} (hk : 1 ≤ n) (hf : H f = some (Inf.LamO f (LW 3 3 c))) (hc : H c = some (LamX.CodeO c (qX 3))) (h : spB xs H Q E0) : Act P w K mg base n (.ref f) xs H Q := by
  refine lam_act (F := LW 3 3 c) (k := 0) (N := ["_law_some"]) (ps := ["_law_some"]) (sp := spB) (NdefX.nscope_by (sc := (LW 3 3 0).scope) (by decide +kernel)) rfl (fun _ _ us hl => match us, hl with | [_], _ => rfl) (fun vs H Q E h => ?_) (fun A outer s H vs Q E hr h => ?_) hk hf hc h
  · obtain ⟨sl, is, rfl, _⟩ := h
    rfl
  · obtain ⟨sl, is, rfl, h1, q⟩ := h
    refine ⟨_, (pe_callB (cr_sum rfl) (by rfl) T.z_sum (by decide +kernel) (pa_cons (pv 0) pa_nil)), ?_⟩
    exact ⟨_, rfl, sl, is, rfl, sqlOf h1, q⟩
theorem actB_4 (T : Txt K mg) {f c : Addr} {xs : List V} {H : Hp} {Q : VK} (hk : 1 ≤ n) (hf : H f = some (Inf.LamO f (LW 4 4 c))) (hc : H c = some (LamX.CodeO c (qX 4))) (h : spB xs H Q E0) : Act P w K mg base n (.ref f) xs H Q := by
  refine lam_act (F := LW 4 4 c) (k := 0) (N := ["_law_some"]) (ps := ["_law_some"]) (sp := spB) (NdefX.nscope_by (sc := (LW 4 4 0).scope) (by decide +kernel)) rfl (fun _ _ us hl => match us, hl with | [_], _ => rfl) (fun vs H Q E h => ?_) (fun A outer s H vs Q E hr h => ?_) hk hf hc h
  · obtain ⟨sl, is, rfl, _⟩ := h
    rfl
  · obtain ⟨sl, is, rfl, h1, q⟩ := h
    refine ⟨_, (pe_callB (cr_sum rfl) (by rfl) T.z_sum (by decide +kernel) (pa_cons (pv 0) pa_nil)), ?_⟩
    exact ⟨_, rfl, sl, is, rfl, sqlOf h1, q⟩
def isB : List (Nat × Nat) := [(0, 0), (1, 1), (2, 0), (3, 3), (4, 4)]
theorem actB (T : Txt K mg) {k i : Nat} (m : (k, i) ∈ isB) {f c : Addr} {xs : List V} {H : Hp} {Q : VK} (hk : 1 ≤ n) (hf : H f = some (Inf.LamO f (LW k i c))) (hc : H c = some (LamX.CodeO c (qX k))) (h : spB xs H Q E0) : Act P w K mg base n (.ref f) xs H Q := by
  unfold isB at m
  rcases List.mem_cons.mp m with e | m
  · cases e
    exact actB_0 T hk hf hc h
  rcases List.mem_cons.mp m with e | m
  · cases e
    exact actB_1 T hk hf hc h
  rcases List.mem_cons.mp m with e | m
  · cases e
    exact actB_2 T hk hf hc h
  rcases List.mem_cons.mp m with e | m
  · cases e
    exact actB_3 T hk hf hc h
  rcases List.mem_cons.mp m with e | m
  · cases e
    exact actB_4 T hk hf hc h
  cases m
theorem actA_0 (T : Txt K mg) {f c : Addr} {xs : List V} {H : Hp} {Q : VK} (hk : 1 ≤ n) (hf : H f = some (Inf.LamO f (LW 0 1 c))) (hc : H c = some (LamX.CodeO c (qX 0))) (h : spA xs H Q E0) : Act P w K mg base n (.ref f) xs H Q := by
  refine lam_act (F := LW 0 1 c) (k := 0) (N := ["_law_block", "_law_topic"]) (ps := ["_law_block", "_law_topic"]) (sp := spA) (NdefX.nscope_by (sc := (LW 0 1 0).scope) (by decide +kernel)) rfl (fun _ _ us hl => match us, hl with | [_, _], _ => rfl) (fun vs H Q E h => ?_) (fun A outer s H vs Q E hr h => ?_) hk hf hc h
  · obtain ⟨a, t, rfl, _⟩ := h
    rfl
  · obtain ⟨a, t, rfl, h1, h2, q⟩ := h
    refine ⟨_, (pe_op op_mul (pv 0) (pv 1)), ?_⟩
    exact ⟨_, rfl, _, rfl, _, _, rfl, rfl, .inr ⟨by omega, by omega⟩, q⟩
theorem actA_1 (T : Txt K mg) {f c : Addr} {xs : List V} {H : Hp} {Q : VK} (hk : 1 ≤ n) (hf : H f = some (Inf.LamO f (LW 1 2 c))) (hc : H c = some (LamX.CodeO c (qX 1))) (h : spA xs H Q E0) : Act P w K mg base n (.ref f) xs H Q := by
  refine lam_act (F := LW 1 2 c) (k := 0) (N := ["_law_block", "_law_topic"]) (ps := ["_law_block", "_law_topic"]) (sp := spA) (NdefX.nscope_by (sc := (LW 1 2 0).scope) (by decide +kernel)) rfl (fun _ _ us hl => match us, hl with | [_, _], _ => rfl) (fun vs H Q E h => ?_) (fun A outer s H vs Q E hr h => ?_) hk hf hc h
  · obtain ⟨a, t, rfl, _⟩ := h
    rfl
  · obtain ⟨a, t, rfl, h1, h2, q⟩ := h
    refine ⟨_, (pe_op op_mul (pv 0) (pv 1)), ?_⟩
    exact ⟨_, rfl, _, rfl, _, _, rfl, rfl, .inr ⟨by omega, by omega⟩, q⟩
theorem actA_2 (T : Txt K mg) {f c : Addr} {xs : List V} {H : Hp} {Q : VK} (hk : 1 ≤ n) (hf : H f = some (Inf.LamO f (LW 2 1 c))) (hc : H c = some (LamX.CodeO c (qX 2))) (h : spA xs H Q E0) : Act P w K mg base n (.ref f) xs H Q := by
  refine lam_act (F := LW 2 1 c) (k := 0) (N := ["_law_block", "_law_topic"]) (ps := ["_law_block", "_law_topic"]) (sp := spA) (NdefX.nscope_by (sc := (LW 2 1 0).scope) (by decide +kernel)) rfl (fun _ _ us hl => match us, hl with | [_, _], _ => rfl) (fun vs H Q E h => ?_) (fun A outer s H vs Q E hr h => ?_) hk hf hc h
  · obtain ⟨a, t, rfl, _⟩ := h
    rfl
  · obtain ⟨a, t, rfl, h1, h2, q⟩ := h
    refine ⟨_, (pe_op op_mul (pv 0) (pv 1)), ?_⟩
    exact ⟨_, rfl, _, rfl, _, _, rfl, rfl, .inr ⟨by omega, by omega⟩, q⟩
theorem actA_3 (T : Txt K mg) {f c : Addr} {xs : List V} {H : Hp} {Q : VK} (hk : 1 ≤ n) (hf : H f = some (Inf.LamO f (LW 3 1 c))) (hc : H c = some (LamX.CodeO c (qX 3))) (h : spA xs H Q E0) : Act P w K mg base n (.ref f) xs H Q := by
  refine lam_act (F := LW 3 1 c) (k := 0) (N := ["_law_block", "_law_topic"]) (ps := ["_law_block", "_law_topic"]) (sp := spA) (NdefX.nscope_by (sc := (LW 3 1 0).scope) (by decide +kernel)) rfl (fun _ _ us hl => match us, hl with | [_, _], _ => rfl) (fun vs H Q E h => ?_) (fun A outer s H vs Q E hr h => ?_) hk hf hc h
  · obtain ⟨a, t, rfl, _⟩ := h
    rfl
  · obtain ⟨a, t, rfl, h1, h2, q⟩ := h
    refine ⟨_, (pe_op op_mul (pv 0) (pv 1)), ?_⟩
    exact ⟨_, rfl, _, rfl, _, _, rfl, rfl, .inr ⟨by omega, by omega⟩, q⟩
theorem actA_4 (T : Txt K mg) {f c : Addr} {xs : List V} {H : Hp} {Q : VK} (hk : 1 ≤ n) (hf : H f = some (Inf.LamO f (LW 4 3 c))) (hc : H c = some (LamX.CodeO c (qX 4))) (h : spA xs H Q E0) : Act P w K mg base n (.ref f) xs H Q := by
  refine lam_act (F := LW 4 3 c) (k := 0) (N := ["_law_block", "_law_by"]) (ps := ["_law_block", "_law_by"]) (sp := spA) (NdefX.nscope_by (sc := (LW 4 3 0).scope) (by decide +kernel)) rfl (fun _ _ us hl => match us, hl with | [_, _], _ => rfl) (fun vs H Q E h => ?_) (fun A outer s H vs Q E hr h => ?_) hk hf hc h
  · obtain ⟨a, t, rfl, _⟩ := h
    rfl
  · obtain ⟨a, t, rfl, h1, h2, q⟩ := h
    refine ⟨_, (pe_op op_mul (pv 0) (pv 1)), ?_⟩
    exact ⟨_, rfl, _, rfl, _, _, rfl, rfl, .inr ⟨by omega, by omega⟩, q⟩
def isA : List (Nat × Nat) := [(0, 1), (1, 2), (2, 1), (3, 1), (4, 3)]
theorem actA (T : Txt K mg) {k i : Nat} (m : (k, i) ∈ isA) {f c : Addr} {xs : List V} {H : Hp} {Q : VK} (hk : 1 ≤ n) (hf : H f = some (Inf.LamO f (LW k i c))) (hc : H c = some (LamX.CodeO c (qX k))) (h : spA xs H Q E0) : Act P w K mg base n (.ref f) xs H Q := by
  unfold isA at m
  rcases List.mem_cons.mp m with e | m
  · cases e
    exact actA_0 T hk hf hc h
  rcases List.mem_cons.mp m with e | m
  · cases e
    exact actA_1 T hk hf hc h
  rcases List.mem_cons.mp m with e | m
  · cases e
    exact actA_2 T hk hf hc h
  rcases List.mem_cons.mp m with e | m
  · cases e
    exact actA_3 T hk hf hc h
  rcases List.mem_cons.mp m with e | m
  · cases e
    exact actA_4 T hk hf hc h
  cases m
theorem actJ_0 (T : Txt K mg) {f c : Addr} {xs : List V} {H : Hp} {Q : VK} (hk : 1 ≤ n) (hf : H f = some (Inf.LamO f (LW 0 2 c))) (hc : H c = some (LamX.CodeO c (qX 0))) (h : spJ xs H Q E0) : Act P w K mg base n (.ref f) xs H Q := by
  refine lam_act (F := LW 0 2 c) (k := 0) (N := ["_law_a", "_law_b"]) (ps := ["_law_a", "_law_b"]) (sp := spJ) (NdefX.nscope_by (sc := (LW 0 2 0).scope) (by decide +kernel)) rfl (fun _ _ us hl => match us, hl with | [_, _], _ => rfl) (fun vs H Q E h => ?_) (fun A outer s H vs Q E hr h => ?_) hk hf hc h
  · obtain ⟨a, b, rfl, _⟩ := h
    rfl
  · obtain ⟨a, b, rfl, q⟩ := h
    refine ⟨_, (pe_op op_add (pv 0) (pv 1)), ?_⟩
    exact ⟨_, rfl, _, rfl, _, _, rfl, rfl, q⟩
theorem actJ_1 (T : Txt K mg) {f c : Addr} {xs : List V} {H : Hp} {Q : VK} (hk : 1 ≤ n) (hf : H f = some (Inf.LamO f (LW 1 0 c))) (hc : H c = some (LamX.CodeO c (qX 1))) (h : spJ xs H Q E0) : Act P w K mg base n (.ref f) xs H Q := by
  refine lam_act (F := LW 1 0 c) (k := 0) (N := ["_law_a", "_law_b"]) (ps := ["_law_a", "_law_b"]) (sp := spJ) (NdefX.nscope_by (sc := (LW 1 0 0).scope) (by decide +kernel)) rfl (fun _ _ us hl => match us, hl with | [_, _], _ => rfl) (fun vs H Q E h => ?_) (fun A outer s H vs Q E hr h => ?_) hk hf hc h
  · obtain ⟨a, b, rfl, _⟩ := h
    rfl
  · obtain ⟨a, b, rfl, q⟩ := h
    refine ⟨_, (pe_op op_add (pv 0) (pv 1)), ?_⟩
    exact ⟨_, rfl, _, rfl, _, _, rfl, rfl, q⟩
theorem actJ_2 (T : Txt K mg) {f c : Addr} {xs : List V} {H : Hp} {Q : VK} (hk : 1 ≤ n) (hf : H f = some (Inf.LamO f (LW 2 2 c))) (hc : H c = some (LamX.CodeO c (qX 2))) (h : spJ xs H Q E0) : Act P w K mg base n (.ref f) xs H Q := by
  refine lam_act (F := LW 2 2 c) (k := 0) (N := ["_law_a", "_law_b"]) (ps := ["_law_a", "_law_b"]) (sp := spJ) (NdefX.nscope_by (sc := (LW 2 2 0).scope) (by decide +kernel)) rfl (fun _ _ us hl => match us, hl with | [_, _], _ => rfl) (fun vs H Q E h => ?_) (fun A outer s H vs Q E hr h => ?_) hk hf hc h
  · obtain ⟨a, b, rfl, _⟩ := h
    rfl
  · obtain ⟨a, b, rfl, q⟩ := h
    refine ⟨_, (pe_op op_add (pv 0) (pv 1)), ?_⟩
    exact ⟨_, rfl, _, rfl, _, _, rfl, rfl, q⟩
theorem actJ_3 (T : Txt K mg) {f c : Addr} {xs : List V} {H : Hp} {Q : VK} (hk : 1 ≤ n) (hf : H f = some (Inf.LamO f (LW 3 2 c))) (hc : H c = some (LamX.CodeO c (qX 3))) (h : spJ xs H Q E0) : Act P w K mg base n (.ref f) xs H Q := by
  refine lam_act (F := LW 3 2 c) (k := 0) (N := ["_law_a", "_law_b"]) (ps := ["_law_a", "_law_b"]) (sp := spJ) (NdefX.nscope_by (sc := (LW 3 2 0).scope) (by decide +kernel)) rfl (fun _ _ us hl => match us, hl with | [_, _], _ => rfl) (fun vs H Q E h => ?_) (fun A outer s H vs Q E hr h => ?_) hk hf hc h
  · obtain ⟨a, b, rfl, _⟩ := h
    rfl
  · obtain ⟨a, b, rfl, q⟩ := h
    refine ⟨_, (pe_op op_add (pv 0) (pv 1)), ?_⟩
    exact ⟨_, rfl, _, rfl, _, _, rfl, rfl, q⟩
theorem actJ_4 (T : Txt K mg) {f c : Addr} {xs : List V} {H : Hp} {Q : VK} (hk : 1 ≤ n) (hf : H f = some (Inf.LamO f (LW 4 0 c))) (hc : H c = some (LamX.CodeO c (qX 4))) (h : spJ xs H Q E0) : Act P w K mg base n (.ref f) xs H Q := by
  refine lam_act (F := LW 4 0 c) (k := 0) (N := ["_law_a", "_law_b"]) (ps := ["_law_a", "_law_b"]) (sp := spJ) (NdefX.nscope_by (sc := (LW 4 0 0).scope) (by decide +kernel)) rfl (fun _ _ us hl => match us, hl with | [_, _], _ => rfl) (fun vs H Q E h => ?_) (fun A outer s H vs Q E hr h => ?_) hk hf hc h
  · obtain ⟨a, b, rfl, _⟩ := h
    rfl
  · obtain ⟨a, b, rfl, q⟩ := h
    refine ⟨_, (pe_op op_add (pv 0) (pv 1)), ?_⟩
    exact ⟨_, rfl, _, rfl, _, _, rfl, rfl, q⟩
def isJ : List (Nat × Nat) := [(0, 2), (1, 0), (2, 2), (3, 2), (4, 0)]
theorem actJ (T : Txt K mg) {k i : Nat} (m : (k, i) ∈ isJ) {f c : Addr} {xs : List V} {H : Hp} {Q : VK} (hk : 1 ≤ n) (hf : H f = some (Inf.LamO f (LW k i c))) (hc : H c = some (LamX.CodeO c (qX k))) (h : spJ xs H Q E0) : Act P w K mg base n (.ref f) xs H Q := by
  unfold isJ at m
  rcases List.mem_cons.mp m with e | m
  · cases e
    exact actJ_0 T hk hf hc h
  rcases List.mem_cons.mp m with e | m
  · cases e
    exact actJ_1 T hk hf hc h
  rcases List.mem_cons.mp m with e | m
  · cases e
    exact actJ_2 T hk hf hc h
  rcases List.mem_cons.mp m with e | m
  · cases e
    exact actJ_3 T hk hf hc h
  rcases List.mem_cons.mp m with e | m
  · cases e
    exact actJ_4 T hk hf hc h
  cases m
end
/-! ### what they do -/
structure Stands (H : Hp) (f : Addr) (l : List (Nat × Nat)) : Prop where
  at_ : ∃ (k i : Nat) (c : Addr), (k, i) ∈ l ∧ H f = some (Inf.LamO f (LW k i c)) ∧ H c = some (LamX.CodeO c (qX k))
theorem Stands.kp {cs : List Addr} {H H1 : Hp} {f : Addr} {l : List (Nat × Nat)} (h : Stands H f l) (k : Kp cs H H1) (m : Mu H cs) : Stands H1 f l := by
  obtain ⟨i, j, c, h0, h1, h2⟩ := h.at_
  exact ⟨i, j, c, h0, kp_ext k m h1, kp_ext k m h2⟩
theorem Stands.ext {H H1 : Hp} {f : Addr} {l : List (Nat × Nat)} (h : Stands H f l) (x : ExtN H H1) : Stands H1 f l := by
  obtain ⟨i, j, c, h0, h1, h2⟩ := h.at_
  exact ⟨i, j, c, h0, x _ _ h1 (fun _ z => nomatch z), x _ _ h2 (fun _ z => nomatch z)⟩
structure Lams (H : Hp) (fb fa fj : Addr) : Prop where
  b : Stands H fb isB
  a : Stands H fa isA
  j : Stands H fj isJ
theorem Lams.kp {cs : List Addr} {H H1 : Hp} {fb fa fj : Addr} (h : Lams H fb fa fj) (k : Kp cs H H1) (m : Mu H cs) : Lams H1 fb fa fj := ⟨h.b.kp k m, h.a.kp k m, h.j.kp k m⟩
theorem Lams.ext {H H1 : Hp} {fb fa fj : Addr} (h : Lams H fb fa fj) (x : ExtN H H1) : Lams H1 fb fa fj := ⟨h.b.ext x, h.a.ext x, h.j.ext x⟩
def Sm (is : List Int) : Prop := ∀ i ∈ is, 0 ≤ i ∧ i < 100
theorem Sm.app {a b : List Int} (h1 : Sm a) (h2 : Sm b) : Sm (a ++ b) := fun i m => (List.mem_append.mp m).elim (h1 i) (h2 i)
def MemS (x : V) (_ : Hp) : Prop := ∃ i : Int, x = .int i ∧ 0 ≤ i ∧ i < 100
def BlkS (xs : List V) (v : V) (_ : Hp) : Prop := ∃ is : List Int, xs = is.map V.int ∧ Sm is ∧ v = .int is.sum
def QstS (q : V) (_ : Hp) : Prop := ∃ t : Int, q = .int t ∧ 0 ≤ t ∧ t < 100
def AnsS (q : V) (xs : List V) (v : V) (_ : Hp) : Prop := ∃ (is : List Int) (t : Int), q = .int t ∧ xs = is.map V.int ∧ Sm is ∧ v = .int (is.sum * t)
theorem mem_ints : ∀ {xs : List V} {H : Hp}, (∀ x ∈ xs, MemS x H) → ∃ is : List Int, xs = is.map V.int ∧ Sm is
  | [], _, _ => ⟨[], rfl, fun _ m => nomatch m⟩
  | x :: xs, H, h => by
    obtain ⟨i, rfl, h1, h2⟩ := h x (List.mem_cons_self ..)
    obtain ⟨is, rfl, h3⟩ := mem_ints (xs := xs) (H := H) fun y m => h y (List.mem_cons_of_mem _ m)
    exact ⟨i :: is, rfl, fun j m => (List.mem_cons.mp m).elim (fun e => by rw [e]; exact ⟨h1, h2⟩) (h3 j)⟩
theorem map_int_inj : ∀ {a b : List Int}, a.map V.int = b.map V.int → a = b
  | [], [], _ => rfl
  | [], _ :: _, h => nomatch h
  | _ :: _, [], h => nomatch h
  | x :: a, y :: b, h => by
    injection h with h1 h2
    injection h1 with h1
    rw [h1, map_int_inj h2]
section
variable {P : Program} {w : World} {K : PySem.W.Frag} {mg : Str → Option Value} {base : Heap} {n : Nat}
theorem us_s (T : Txt K mg) {cs : List Addr} {fb fa fj : Addr} (hn : 1 ≤ n) : US P w K mg base n cs [] (.ref fb) (.ref fa) (.ref fj) (fun _ H => Lams H fb fa fj) MemS BlkS QstS AnsS where
  sub := subNil
  uk := fun h mu kk s => h.kp kk (mu.sub fun a m => (s a m).1)
  mk' := fun h _ _ => h
  bk := fun h _ _ => h
  qk := fun h _ _ => h
  ak := fun h _ _ => h
  hb := fun {u H sl xs ns} hu hul mu hne hxl hmem hsl hni => by
    obtain ⟨is, rfl, hs⟩ := mem_ints hmem
    obtain ⟨k, i, c, m, h1, h2⟩ := hu.b.at_
    exact actB T m hn h1 h2 ⟨sl, is, rfl, hsl, kp_refl _ _, mu_nil, ⟨is, rfl, hs, rfl⟩, hu⟩
  ha := fun {u H xs blk qn ns} hu hul mu hq hb => by
    obtain ⟨is, rfl, hs, rfl⟩ := hb
    obtain ⟨t, rfl, t0, t1⟩ := hq
    obtain ⟨k, i, c, m, h1, h2⟩ := hu.a.at_
    exact actA T m hn h1 h2 ⟨is.sum, t, rfl, t0, t1, kp_refl _ _, mu_nil, ⟨is, t, rfl, rfl, hs, rfl⟩, hu⟩
  hj := fun {u H xs ys a b qn m k2} hu hul mu hq ha hb hxe hye hxm hyk hmk => by
    obtain ⟨is, t, rfl, rfl, hs, rfl⟩ := ha
    obtain ⟨js, t', e, rfl, hs', rfl⟩ := hb
    cases e
    obtain ⟨k, i, c, m, h1, h2⟩ := hu.j.at_
    refine actJ T m hn h1 h2 ⟨_, _, rfl, kp_refl _ _, mu_nil, ⟨is ++ js, t, rfl, (List.map_append ..).symm, hs.app hs', ?_⟩, hu⟩
    rw [List.sum_append, Int.add_mul]
end
end Ob

set_option Elab.async false
set_option linter.all false
set_option maxRecDepth 100000
set_option maxHeartbeats 1000000
namespace Ob
open PySem PySem.Spec PyProof.Rows L2
open LamX (Tabs TabB TabS ExtN)

set_option hygiene false in
local macro_rules
  | `(tactic| kp_flats) => `(tactic| first
    | assumption
    | exact upd_same
    | (apply atNew; assumption; kp_flats)
    | (apply atNe; (next => kbo_bools); kp_flats)
    | (apply atSame; assumption; kp_flats)
    | (apply atKp; assumption; (next => kaf_pre); kp_flats))
set_option hygiene false in
local macro_rules
  | `(tactic| kaf_pre) => `(tactic| first
    | assumption
    | exact not_nil
    | (apply not_cons; (next => kbo_bools); kaf_pre)
    | (apply not_app; (next => kaf_pre); kaf_pre))
set_option hygiene false in
local macro_rules
  | `(tactic| kbo_bools) => `(tactic| first
    | assumption
    | (apply Ne.symm; assumption)
    | (apply neN; assumption; kp_flats)
    | (apply neN'; assumption; kp_flats))
set_option hygiene false in
local macro_rules
  | `(tactic| o_reads) => `(tactic| first
    | with_reducible rfl
    | assumption
    | rfl
    | kp_flats
    | (show SqL _ _ _ _; first | assumption | (apply sqlOf; kp_flats) | (apply sqlSame; assumption; o_reads))
    | (show SqT _ _ _ _; first | assumption | (apply sqtOf; kp_flats) | (apply sqtAll; assumption) | (apply sqtSame; assumption; o_reads))
    | (show Cls _ _; first | exact T.cl_Calls | exact T.cl_Asker | exact T.cl_Builder | exact T.cl_Blocks | exact T.cl_Version)
    | (show NoAttr _ _ _; first | exact T.n_Calls_entries | exact T.n_Calls_running | exact T.n_Asker_calls | exact T.n_Asker_ask_call | exact T.n_Asker_join_call | exact T.n_Asker_zero | exact T.n_Builder_calls | exact T.n_Builder_build_call | exact T.n_Blocks_calls | exact T.n_Blocks_builder | exact T.n_Blocks_asker | exact T.n_Blocks_held | exact T.n_Blocks_parts | exact T.n_Version_calls | exact T.n_Version_asker | exact T.n_Version_held | exact T.n_Version_parts)
    | (apply Or.inl; o_reads)
    | (apply Or.inr; o_reads)
    | (apply And.intro; (next => o_reads); o_reads)
    | (apply Exists.intro; o_reads)
    | exact Nat.le_of_ble_eq_true rfl
    | exact Nat.succ_ne_zero _
    | (show Fr _ _; kba_ints)
    | (show Same _ _; kd_subs)
    | (show Kp _ _ _; kxs_still)
    | (show (_ : Nat) ≤ _; simp only [List.length_append, List.length_map, List.length_cons, List.length_nil, List.length_take, List.length_drop, List.length_replicate, List.length_range, sizeLine_eq]; omega)
    | (show _ = none; apply Fr.h; kba_ints)
    | (show Bag _ _; first | assumption | (apply bag_putF; assumption; o_reads) | (apply bag_neF; (next => kbo_bools); o_reads) | (apply bag_kpR; assumption; (next => kaf_pre); o_reads))
    | omega
    | decide)
local macro_rules
  | `(tactic| o_readsAll) => `(tactic| repeat (first
    | (refine fun (pNew : Addr) (nNew : _ = none) => ?_; replace nNew := Fr.mk nNew)
    | (refine fun (xNew dNew : Addr) (nNew : _ = none) (mNew : _ = none) (eNew : dNew ≠ xNew) => ?_; replace nNew := Fr.mk nNew; replace mNew := Fr.mk mNew)
    | (apply And.intro; next => o_reads)
    | apply Exists.intro (α := V)
    | apply Exists.intro (α := Addr)
    | apply Exists.intro (α := Int)
    | apply Exists.intro (α := Bool)
    | apply Exists.intro (α := List V)
    | apply Exists.intro (α := List Nat)
    | apply Exists.intro (α := List (Str × V))
    | apply Exists.intro (α := List _)
    | apply Exists.intro (α := Str)
    | apply Exists.intro (α := HO)
    | apply Exists.intro (α := Sp)
    | apply Exists.intro (α := VK)))
set_option hygiene false in
local macro_rules
  | `(tactic| kba_ints) => `(tactic| first
    | assumption
    | (apply frUp; (first | assumption | (apply Ne.symm; assumption)); kba_ints)
    | (apply noneOf; assumption; intro oF eF; apply Exists.intro; kp_flats)
    | (apply frUp; (next => kbo_bools); kba_ints))
set_option hygiene false in
local macro_rules
  | `(tactic| kxs_still) => `(tactic| first
    | assumption
    | exact kp_refl _ _
    | (apply kp_newF; assumption; kxs_still)
    | (apply kp_new; assumption; kxs_still)
    | (apply kp_up; (next => o_fieldsN); kxs_still)
    | (apply kp_new; (next => kba_ints); kxs_still)
    | (apply kp_sameR; assumption; kxs_still)
    | (apply kp_transR; assumption; kxs_still)
    | (apply kp_freshR; assumption; (next => kaf_suf); kxs_still))
set_option hygiene false in
local macro_rules
  | `(tactic| kaf_suf) => `(tactic| first
    | assumption
    | exact subNil
    | (apply subCons; (first | (apply Or.inl; o_fieldsN) | (apply Or.inr; kba_ints)); kaf_suf)
    | (apply subApp; (next => kaf_suf); kaf_suf))
set_option hygiene false in
local macro_rules
  | `(tactic| o_fieldsN) => `(tactic| first
    | assumption
    | exact memA
    | (apply memB; o_fieldsN)
    | (apply memL; o_fieldsN)
    | (apply memR; o_fieldsN))
set_option hygiene false in
local macro_rules
  | `(tactic| kd_subs) => `(tactic| first
    | assumption
    | exact Same.refl _
    | (apply same_putF; assumption; kd_subs)
    | (apply same_putG; assumption; kd_subs)
    | (apply same_putF; (next => kba_ints); kd_subs)
    | (apply same_transR; assumption; kd_subs))

set_option pp.maxSteps 1200
open NdefX (TabsN)
structure Ho where
  b : Addr
  c : Addr
  l : Addr
  fb : Addr
  fa : Addr
  fj : Addr
def own (x : Ho) : List Addr := [x.b, x.c, x.l]
section
variable {P : Program} {w : World} {K : PySem.W.Frag} {mg : Str → Option Value} {base : Heap} {n : Nat}
def CollH (T : Txt K mg) (cs : List Addr) (z : V) (x : Ho) (ms : List V) (es : List Ent) (H : Hp) : Prop := Coll T.C_Blocks T.C_Calls T.C_Builder T.C_Asker cs x.b x.c x.l (.ref x.fb) (.ref x.fa) (.ref x.fj) z MemS BlkS ms es H
/-- from H to H1: only tables change; the tables are right -/
structure Go (T : Txt K mg) (H H1 : Hp) : Prop where
  ext : ExtN H H1
  no : ∀ a, H1 a = none → H a = none
  tb : TabsN (TT T) H1
theorem Go.trans {T : Txt K mg} {H H1 H2 : Hp} (a : Go T H H1) (b : Go T H1 H2) : Go T H H2 := ⟨a.ext.trans b.ext, fun x e => a.no x (b.no x e), b.tb⟩
theorem Go.same {T : Txt K mg} {H H1 : Hp} (t : TabsN (TT T) H) (s : Same H H1) : Go T H H1 := ⟨fun _ _ e _ => s _ _ e, fun x e => s.free e, fun p hp => (t.ext s) p hp⟩
/-- a new collection without members: x, made since H -/
structure New (T : Txt K mg) (H H1 : Hp) (x : Ho) (z : V) : Prop where
  at_ : ∃ (dx cdx bu bdx k kdx hh p : Addr), H1 x.b = some (BlO T.C_Blocks dx x.c bu k hh p) ∧ H1 x.c = some (CO T.C_Calls cdx x.l false) ∧ H1 x.l = some (.lst []) ∧ H1 bu = some (BuO T.C_Builder bdx x.c (.ref x.fb)) ∧ H1 k = some (AO T.C_Asker kdx x.c (.ref x.fa) (.ref x.fj) z) ∧ H1 hh = some (.lst []) ∧ H1 p = some (.lst []) ∧
    (Fr H bu ∧ Fr H k ∧ Fr H hh ∧ Fr H p) ∧ (bu ≠ x.b ∧ bu ≠ x.c ∧ k ≠ x.b ∧ k ≠ x.c ∧ x.l ≠ hh ∧ x.l ≠ p)
  fr : ∀ a ∈ own x, Fr H a
theorem New.ext {T : Txt K mg} {H H1 H2 : Hp} {x : Ho} {z : V} (h : New T H H1 x z) (e : ExtN H1 H2) : New T H H2 x z := by
  obtain ⟨⟨dx, cdx, bu, bdx, k, kdx, hh, p, h1, h2, h3, h4, h5, h6, h7, f, n⟩, r⟩ := h
  exact ⟨⟨dx, cdx, bu, bdx, k, kdx, hh, p, e _ _ h1 (fun _ z => nomatch z), e _ _ h2 (fun _ z => nomatch z), e _ _ h3 (fun _ z => nomatch z), e _ _ h4 (fun _ z => nomatch z), e _ _ h5 (fun _ z => nomatch z), e _ _ h6 (fun _ z => nomatch z), e _ _ h7 (fun _ z => nomatch z), f, n⟩, r⟩
theorem New.weak {T : Txt K mg} {H0 H H1 : Hp} {x : Ho} {z : V} (h : New T H H1 x z) (e : ∀ a, H a = none → H0 a = none) : New T H0 H1 x z := by
  obtain ⟨⟨dx, cdx, bu, bdx, k, kdx, hh, p, h1, h2, h3, h4, h5, h6, h7, ⟨f1, f2, f3, f4⟩, n⟩, r⟩ := h
  exact ⟨⟨dx, cdx, bu, bdx, k, kdx, hh, p, h1, h2, h3, h4, h5, h6, h7, ⟨⟨e _ f1.h⟩, ⟨e _ f2.h⟩, ⟨e _ f3.h⟩, ⟨e _ f4.h⟩⟩, n⟩, fun a m => ⟨e _ (r a m).h⟩⟩
/-- what the making of a collection leaves -/
theorem new_bi {T : Txt K mg} {H : Hp} {fb fa fj : Addr} {z : V} {b dx : Addr} {Q : VK} (nb : H b = none) (nd : H dx = none) (q : ∀ c l H1, Same H H1 → New T H H1 ⟨b, c, l, fb, fa, fj⟩ z → Q .non H1) :
    bx (spBI T.C_Blocks T.C_Calls T.C_Builder T.C_Asker) [.ref b, .ref fb, .ref fa, .ref fj, z] (upd (upd H dx (.own b)) b (.ins T.C_Blocks dx [])) Q E0 := by
  replace nb := Fr.mk nb
  replace nd := Fr.mk nd
  refine ⟨⟨b, dx, .ref fb, .ref fa, .ref fj, z, rfl, upd_same, ?_⟩⟩
  intro c cdx l bu bdx k kdx h p H4 fc fl fbu fk fh fp q1 q2 q3 q4 q5 q6 q7 nlh nlp nhp ub uc kb kc bc k4
  have fc' : Fr H c := by kba_ints
  have fl' : Fr H l := by kba_ints
  have fbu' : Fr H bu := by kba_ints
  have fk' : Fr H k := by kba_ints
  have fh' : Fr H h := by kba_ints
  have fp' : Fr H p := by kba_ints
  have kk : Kp [b] H H4 := by kxs_still
  exact q c l H4 (fun a o e => kk.at_ _ _ e (not_cons (ne_of_none e nb.h) not_nil)) ⟨⟨dx, cdx, bu, bdx, k, kdx, h, p, q1, q2, q3, q4, q5, q6, q7, ⟨fbu', fk', fh', fp'⟩, ⟨ub, uc, kb, kc, nlh, nlp⟩⟩, subCons nb (subCons fc' (subCons fl' subNil))⟩
theorem New.out {T : Txt K mg} {H H1 : Hp} {x : Ho} {z : V} (h : New T H H1 x z) {ds : List Addr} (f : ∀ {a : Addr}, Fr H a → (∃ o, H1 a = some o) → a ∉ ds) (mu : Mu H1 (own x ++ ds)) {cs : List Addr} (s1 : ∀ a ∈ cs, a ∈ own x ++ ds) (s2 : ∀ a ∈ own x, a ∈ cs) : CollH T cs z x [] [] H1 := by
  obtain ⟨⟨dx, cdx, bu, bdx, k, kdx, hh, p, h1, h2, h3, h4, h5, h6, h7, ⟨f1, f2, f3, f4⟩, ⟨n1, n2, n3, n4, n5, n6⟩⟩, r⟩ := h
  have nul : bu ≠ x.l := neO h4 h3 (fun z => nomatch z)
  have nkl : k ≠ x.l := neO h5 h3 (fun z => nomatch z)
  have nhb : hh ≠ x.b := neO h6 h1 (fun z => nomatch z)
  have nhc : hh ≠ x.c := neO h6 h2 (fun z => nomatch z)
  have npb : p ≠ x.b := neO h7 h1 (fun z => nomatch z)
  have npc : p ≠ x.c := neO h7 h2 (fun z => nomatch z)
  have ou : ∀ {a : Addr} {o : HO}, a ≠ x.b → a ≠ x.c → a ≠ x.l → Fr H a → H1 a = some o → a ∉ cs := fun a1 a2 a3 fa e m => (List.mem_append.mp (s1 _ m)).elim (not_cons a1 (not_cons a2 (not_cons a3 not_nil))) (f fa ⟨_, e⟩)
  have nbx : Mu H1 cs := mu.sub s1
  exact ⟨⟨dx, bu, bdx, k, hh, p, h1, h4, ou n1 n2 nul f1 h4, ⟨⟨cdx, kdx, [], [], h2, h3, .nil, h5, h6, h7, (fun _ m => nomatch m), bns_zero.symm⟩, (fun _ m => nomatch m), nbx, ⟨ou n3 n4 nkl f2 h5, ou nhb nhc n5.symm f3 h6, ou npb npc n6.symm f4 h7⟩, ⟨s2 _ (memB memA), s2 _ (memB (memB memA))⟩⟩⟩, s2 _ memA⟩
theorem New.mu {T : Txt K mg} {H H1 : Hp} {x : Ho} {z : V} (h : New T H H1 x z) : Mu H1 (own x) := by
  obtain ⟨⟨dx, cdx, bu, bdx, k, kdx, hh, p, h1, h2, h3, _⟩, r⟩ := h
  exact mu_ins h1 (mu_ins h2 (mu_lst h3 mu_nil))
theorem New.ntx {T : Txt K mg} {H H1 : Hp} {x : Ho} {z : V} (h : New T H H1 x z) : NTx H1 (own x) := by
  obtain ⟨⟨dx, cdx, bu, bdx, k, kdx, hh, p, h1, h2, h3, _⟩, r⟩ := h
  exact ntx_ins h1 (ntx_ins h2 (ntx_lst h3 ntx_nil))
theorem NTx.app {H : Hp} {l m : List Addr} (a : NTx H l) (b : NTx H m) : NTx H (l ++ m) := fun x h => (List.mem_append.mp h).elim (a x) (b x)
/-- two, one behind the other -/
theorem coll_two {T : Txt K mg} {H H4 H9 : Hp} {x y : Ho} {z : V} (hx : New T H H4 x z) (hy : New T H4 H9 y z) (e : ExtN H4 H9) (no : ∀ a, H4 a = none → H a = none) {cs : List Addr} (m : Mu H cs) (m9 : Mu H9 cs) : CollH T (own x ++ own y ++ cs) z x [] [] H9 ∧ CollH T (own x ++ own y ++ cs) z y [] [] H9 := by
  have hx9 := hx.ext e
  have hyf := hy.fr
  refine ⟨?_, ?_⟩
  · obtain ⟨⟨dx, cdx, bu, bdx, k, kdx, hh, p, h1, h2, h3, h4, h5, h6, h7, ⟨f1, f2, f3, f4⟩, ⟨n1, n2, n3, n4, n5, n6⟩⟩, r⟩ := hx
    have nul : bu ≠ x.l := neO h4 h3 (fun z => nomatch z)
    have nkl : k ≠ x.l := neO h5 h3 (fun z => nomatch z)
    have nhb : hh ≠ x.b := neO h6 h1 (fun z => nomatch z)
    have nhc : hh ≠ x.c := neO h6 h2 (fun z => nomatch z)
    have npb : p ≠ x.b := neO h7 h1 (fun z => nomatch z)
    have npc : p ≠ x.c := neO h7 h2 (fun z => nomatch z)
    have ou : ∀ {a : Addr} {o : HO}, a ≠ x.b → a ≠ x.c → a ≠ x.l → Fr H a → H4 a = some o → a ∉ own x ++ own y ++ cs := fun a1 a2 a3 fa ea => not_app (not_app (not_cons a1 (not_cons a2 (not_cons a3 not_nil))) fun q => ne_of_none ea (hyf _ q).h rfl) (m.fr fa)
    have up : ∀ {a : Addr} {o : HO}, H4 a = some o → (∀ ps, o ≠ .tbl ps) → H9 a = some o := fun ea n => e _ _ ea n
    exact ⟨⟨dx, bu, bdx, k, hh, p, up h1 (fun _ z => nomatch z), up h4 (fun _ z => nomatch z), ou n1 n2 nul f1 h4, ⟨⟨cdx, kdx, [], [], up h2 (fun _ z => nomatch z), up h3 (fun _ z => nomatch z), .nil, up h5 (fun _ z => nomatch z), up h6 (fun _ z => nomatch z), up h7 (fun _ z => nomatch z), (fun _ m => nomatch m), bns_zero.symm⟩, (fun _ m => nomatch m), mu_app (mu_app hx9.mu hy.mu) m9, ⟨ou n3 n4 nkl f2 h5, ou nhb nhc n5.symm f3 h6, ou npb npc n6.symm f4 h7⟩, ⟨memL (memL (memB memA)), memL (memL (memB (memB memA)))⟩⟩⟩, memL (memL memA)⟩
  · refine hy.out (ds := own x ++ cs) (fun {a} fa _ => not_app (fun q => ?_) (m.fr ⟨no _ fa.h⟩)) (mu_app hy.mu (mu_app hx9.mu m9)) (fun a q => ?_) (fun a q => memL (memR q))
    · obtain ⟨o, ho, _⟩ := hx.mu a q
      rw [fa.h] at ho
      cases ho
    · rcases List.mem_append.mp q with q | q
      · rcases List.mem_append.mp q with q | q
        · exact memR (memL q)
        · exact memL q
      · exact memR (memR q)
def zOf (way : Int) : V := if way = 0 then .non else .int way
def spPair (T : Txt K mg) : Sp := fun vs H Q _ => ∃ way : Int, vs = [.int way] ∧ TabsN (TT T) H ∧ ∀ (t : Addr) (x y : Ho) H', Go T H H' → (∀ a ∈ own x ++ own y, Fr H a) → (∀ a ∈ own x, a ∉ own y) → NTx H' (own x ++ own y) → Lams H' x.fb x.fa x.fj → Lams H' y.fb y.fa y.fj →
  H' t = some (.tup [.ref x.b, .ref y.b, zOf way]) → (∀ cs, Mu H cs → Mu H' cs → CollH T (own x ++ own y ++ cs) (zOf way) x [] [] H' ∧ CollH T (own x ++ own y ++ cs) (zOf way) y [] [] H') → Q (.ref t) H'
theorem pair_end {T : Txt K mg} {H H4 H8 : Hp} {x y : Ho} {z : V} {Q : VK} {t : Addr} (g4 : Go T H H4) (g8 : Go T H4 H8) (nx : New T H H4 x z) (ny : New T H4 H8 y z) (lx : Lams H4 x.fb x.fa x.fj) (ly : Lams H8 y.fb y.fa y.fj) (nt : H8 t = none)
    (q : ∀ (t : Addr) (x y : Ho) H', Go T H H' → (∀ a ∈ own x ++ own y, Fr H a) → (∀ a ∈ own x, a ∉ own y) → NTx H' (own x ++ own y) → Lams H' x.fb x.fa x.fj → Lams H' y.fb y.fa y.fj →
      H' t = some (.tup [.ref x.b, .ref y.b, z]) → (∀ cs, Mu H cs → Mu H' cs → CollH T (own x ++ own y ++ cs) z x [] [] H' ∧ CollH T (own x ++ own y ++ cs) z y [] [] H') → Q (.ref t) H') : Q (.ref t) (upd H8 t (.tup [.ref x.b, .ref y.b, z])) := by
  have s9 : Same H8 (upd H8 t (.tup [.ref x.b, .ref y.b, z])) := same_new nt
  have e9 : upd H8 t (.tup [.ref x.b, .ref y.b, z]) t = some (.tup [.ref x.b, .ref y.b, z]) := upd_same
  generalize upd H8 t (.tup [.ref x.b, .ref y.b, z]) = H9 at s9 e9 ⊢
  have g9 := g8.trans (Go.same g8.tb s9)
  have ny9 := ny.ext (Go.same g8.tb s9).ext
  refine q t x y H9 (g4.trans g9) (fun a m => (List.mem_append.mp m).elim (nx.fr a) fun m => ⟨g4.no _ (ny.fr a m).h⟩) (fun a m m2 => ?_) ((nx.ext g9.ext).ntx.app ny9.ntx) (lx.ext g9.ext) (ly.ext (Go.same g8.tb s9).ext) e9 (fun cs m m9 => coll_two nx ny9 g9.ext g4.no m m9)
  obtain ⟨o, ho, _⟩ := nx.mu a m
  rw [(ny.fr a m2).h] at ho
  cases ho
theorem gK_rel {vs mz zs : List V} {us mv ws : List Value} (a : Vals vs us) (b : Vals mz mv) (c : Vals zs ws) : Vals (vs ++ ((zs.drop 1).take 1 ++ ((zs.drop 2) ++ (zs.take 1 ++ mz)))) (us ++ ((ws.drop 1).take 1 ++ ((ws.drop 2) ++ (ws.take 1 ++ mv)))) := a.append (((c.drop 1).take 1).append ((c.drop 2).append ((c.take 1).append b)))
theorem gL_rel {vs mz zs : List V} {us mv ws : List Value} (a : Vals vs us) (_b : Vals mz mv) (c : Vals zs ws) : Vals (vs ++ (zs.drop 3 ++ ((zs.drop 1).take 1 ++ ((zs.drop 2).take 1 ++ zs.take 1)))) (us ++ (ws.drop 3 ++ ((ws.drop 1).take 1 ++ ((ws.drop 2).take 1 ++ ws.take 1)))) := a.append ((c.drop 3).append (((c.drop 1).take 1).append (((c.drop 2).take 1).append (c.take 1))))
theorem ok_pair (T : Txt K mg) (TB : LamX.TabB base mg T.c_l_pair T.p_l_pair) : FnOk P w K mg base CX0 8 T.f_l_pair T.d_l_pair ["_law_way"] (spPair T) := by
  have G_Blocks_init := fnBx (ok_bi (P := P) (w := w) (base := base) T)
  obtain ⟨mv0, KB_Blocks_init⟩ := FunD.kbinds0 (ps := ["self", "build", "ask", "join", "zero"]) T.F_Blocks_init 4 ["zero"] [] (fun us mv ws => us ++ ws) (List.cons_ne_nil _ _) (fun _ z => nomatch z) (fun a _ c => a.append c)
    (fun D doc pm an cdv ct us mv ws h1 h2 h3 => match us, h1, mv, h2, ws, h3 with | [_, _, _, _], _, [], _, [_], _ => rfl)
  obtain ⟨mv1, KB_Blocks_initb⟩ := FunD.kbinds0 (ps := ["self", "build", "ask", "join", "zero"]) T.F_Blocks_init 1 ["join", "build", "ask"] [("zero", V.non)] (fun us mv ws => us ++ ((ws.drop 1).take 1 ++ ((ws.drop 2) ++ (ws.take 1 ++ mv)))) (List.cons_ne_nil _ _) (fun _ z => z) (fun a b c => gK_rel a b c)
    (fun D doc pm an cdv ct us mv ws h1 h2 h3 => match us, h1, mv, h2, ws, h3 with | [_], _, [_], _, [_, _, _], _ => ⟨_, _, _, _, _, _, rfl, rfl, rfl⟩)
  obtain ⟨mv2, KB_Blocks_initd⟩ := FunD.kbinds0 (ps := ["self", "build", "ask", "join", "zero"]) T.F_Blocks_init 1 ["zero", "ask", "join", "build"] [] (fun us mv ws => us ++ (ws.drop 3 ++ ((ws.drop 1).take 1 ++ ((ws.drop 2).take 1 ++ ws.take 1)))) (List.cons_ne_nil _ _) (fun _ z => nomatch z) (fun a b c => gL_rel a b c)
    (fun D doc pm an cdv ct us mv ws h1 h2 h3 => match us, h1, mv, h2, ws, h3 with | [_], _, [], _, [_, _, _, _], _ => rfl)
  obtain ⟨ds0, BV_Blocks_init, BN_Blocks_init⟩ := FunD.binds0 (ps := ["self", "build", "ask", "join", "zero"]) T.F_Blocks_init 4 (List.cons_ne_nil _ _) rfl (fun D doc pm an cdv ct us ks h1 h2 => match us, h1, ks, h2 with | [_, _, _, _], _, [_], _ => ⟨_, _, _, _, _, _, rfl, rfl, rfl⟩)
  refine T.F_l_pair.ok sc_l_pair (fun vs H Q E h => ?_) (fun A outer s H vs Q E hr h => ?_)
  · obtain ⟨way, rfl, _⟩ := h
    rfl
  · obtain ⟨way, rfl, hT, q⟩ := h
    refine ⟨_, (pss_cons (ps_if (pt_cmpR op_eq (pv 0) pe_int (nomark _)) (pss_cons (ps_set (i := 1) sc_l_pair.nd rfl (.inl rfl) (pe_make ⟨T.mk_Blocks, T.m_Blocks_init, T.t_Blocks_init, T.kp_Blocks⟩ G_Blocks_init (hr.mono (by omega)) rfl T.gc_Blocks BN_Blocks_init BV_Blocks_init pass0 (pa_cons (Inf.pe_lamN (T := TT T) (nm := nm_l_pair) (c := T.c_l_pair) (P := T.p_l_pair) TB rfl (hm_l_pair T) rfl (hu_l_pair T) rfl (NdefX.ndef_free (sc := defScope s_l_pair) (fr := []) (by decide +kernel))) (pa_cons (Inf.pe_lamN (T := TT T) (nm := nm_l_pair) (c := T.c_l_pair) (P := T.p_l_pair) TB rfl (hm_l_pair T) rfl (hu_l_pair T) rfl (NdefX.ndef_free (sc := defScope s_l_pair) (fr := []) (by decide +kernel))) (pa_cons (Inf.pe_lamN (T := TT T) (nm := nm_l_pair) (c := T.c_l_pair) (P := T.p_l_pair) TB rfl (hm_l_pair T) rfl (hu_l_pair T) rfl (NdefX.ndef_free (sc := defScope s_l_pair) (fr := []) (by decide +kernel))) pa_nil)))))
        (pss_cons (ps_set (i := 2) sc_l_pair.nd rfl (.inl rfl) (pe_makeK0 ⟨T.mk_Blocks, T.m_Blocks_init, T.t_Blocks_init, T.kp_Blocks⟩ G_Blocks_init (hr.mono (by omega)) rfl T.gc_Blocks KB_Blocks_initb pass0 (pk_cons (Inf.pe_lamN (T := TT T) (nm := nm_l_pair) (c := T.c_l_pair) (P := T.p_l_pair) TB rfl (hm_l_pair T) rfl (hu_l_pair T) rfl (NdefX.ndef_free (sc := defScope s_l_pair) (fr := []) (by decide +kernel))) (pk_cons (Inf.pe_lamN (T := TT T) (nm := nm_l_pair) (c := T.c_l_pair) (P := T.p_l_pair) TB rfl (hm_l_pair T) rfl (hu_l_pair T) rfl (NdefX.ndef_free (sc := defScope s_l_pair) (fr := []) (by decide +kernel))) (pk_cons (Inf.pe_lamN (T := TT T) (nm := nm_l_pair) (c := T.c_l_pair) (P := T.p_l_pair) TB rfl (hm_l_pair T) rfl (hu_l_pair T) rfl (NdefX.ndef_free (sc := defScope s_l_pair) (fr := []) (by decide +kernel))) pk_nil)))))
        (pss_one (ps_ret (pe_tup (pa_cons (pv 1) (pa_cons (pv 2) (pa_cons pe_non pa_nil)))))))) pss_nil)
      (pss_cons (ps_set (i := 1) sc_l_pair.nd rfl (.inl rfl) (pe_makeK ⟨T.mk_Blocks, T.m_Blocks_init, T.t_Blocks_init, T.kp_Blocks⟩ G_Blocks_init (hr.mono (by omega)) rfl T.gc_Blocks KB_Blocks_init pass0 (pa_cons (Inf.pe_lamN (T := TT T) (nm := nm_l_pair) (c := T.c_l_pair) (P := T.p_l_pair) TB rfl (hm_l_pair T) rfl (hu_l_pair T) rfl (NdefX.ndef_free (sc := defScope s_l_pair) (fr := []) (by decide +kernel))) (pa_cons (Inf.pe_lamN (T := TT T) (nm := nm_l_pair) (c := T.c_l_pair) (P := T.p_l_pair) TB rfl (hm_l_pair T) rfl (hu_l_pair T) rfl (NdefX.ndef_free (sc := defScope s_l_pair) (fr := []) (by decide +kernel))) (pa_cons (Inf.pe_lamN (T := TT T) (nm := nm_l_pair) (c := T.c_l_pair) (P := T.p_l_pair) TB rfl (hm_l_pair T) rfl (hu_l_pair T) rfl (NdefX.ndef_free (sc := defScope s_l_pair) (fr := []) (by decide +kernel))) pa_nil))) (pk_cons (pv 0) pk_nil)))
      (pss_cons (ps_set (i := 2) sc_l_pair.nd rfl (.inl rfl) (pe_makeK0 ⟨T.mk_Blocks, T.m_Blocks_init, T.t_Blocks_init, T.kp_Blocks⟩ G_Blocks_init (hr.mono (by omega)) rfl T.gc_Blocks KB_Blocks_initd pass0 (pk_cons (pv 0) (pk_cons (Inf.pe_lamN (T := TT T) (nm := nm_l_pair) (c := T.c_l_pair) (P := T.p_l_pair) TB rfl (hm_l_pair T) rfl (hu_l_pair T) rfl (NdefX.ndef_free (sc := defScope s_l_pair) (fr := []) (by decide +kernel))) (pk_cons (Inf.pe_lamN (T := TT T) (nm := nm_l_pair) (c := T.c_l_pair) (P := T.p_l_pair) TB rfl (hm_l_pair T) rfl (hu_l_pair T) rfl (NdefX.ndef_free (sc := defScope s_l_pair) (fr := []) (by decide +kernel))) (pk_cons (Inf.pe_lamN (T := TT T) (nm := nm_l_pair) (c := T.c_l_pair) (P := T.p_l_pair) TB rfl (hm_l_pair T) rfl (hu_l_pair T) rfl (NdefX.ndef_free (sc := defScope s_l_pair) (fr := []) (by decide +kernel))) pk_nil))))))
      (pss_one (ps_ret (pe_tup (pa_cons (pv 1) (pa_cons (pv 2) (pa_cons (pv 0) pa_nil))))))))), ?_⟩
    by_cases e0 : way = 0
    · subst e0
      refine ⟨_, rfl, rfl, _, rfl, ifT (dT rfl) ?_⟩
      refine ⟨hT, fun fb cb H1 x1 y1 t1 nb eb ecb => ⟨t1, fun fa ca H2 x2 y2 t2 na ea eca => ⟨t2, fun fj cj H3 x3 y3 t3 nj ej ecj => fun b dx nb' nd ne => new_bi (T := T) (fb := fb) (fa := fa) (fj := fj) (z := .non) nb' nd fun c l H4 s4 n4 => ⟨rfl, ?_⟩⟩⟩⟩
      have t4 : TabsN (TT T) H4 := t3.ext s4
      have g4 : Go T H H4 := Go.trans ⟨x1.trans (x2.trans x3), fun a e => y1 _ (y2 _ (y3 _ e)), t3⟩ (Go.same t3 s4)
      have L4 : Lams H4 fb fa fj := Lams.ext ⟨⟨⟨0, 0, cb, by decide, x3 _ _ (x2 _ _ eb (fun _ z => nomatch z)) (fun _ z => nomatch z), x3 _ _ (x2 _ _ ecb (fun _ z => nomatch z)) (fun _ z => nomatch z)⟩⟩, ⟨⟨0, 1, ca, by decide, x3 _ _ ea (fun _ z => nomatch z), x3 _ _ eca (fun _ z => nomatch z)⟩⟩, ⟨⟨0, 2, cj, by decide, ej, ecj⟩⟩⟩ (Go.same t3 s4).ext
      refine ⟨t4, fun fj' cj' H5 x5 y5 t5 nj' ej' ecj' => ⟨t5, fun fb' cb' H6 x6 y6 t6 nb2 eb' ecb' => ⟨t6, fun fa' ca' H7 x7 y7 t7 na' ea' eca' => ⟨rfl, rfl, fun b' dx' nb' nd' ne' => new_bi (T := T) (fb := fb') (fa := fa') (fj := fj') (z := .non) nb' nd' fun c' l' H8 s8 n8 => ⟨rfl, ?_⟩⟩⟩⟩⟩
      have t8 : TabsN (TT T) H8 := t7.ext s8
      have g8 : Go T H4 H8 := Go.trans ⟨x5.trans (x6.trans x7), fun a e => y5 _ (y6 _ (y7 _ e)), t7⟩ (Go.same t7 s8)
      have L8 : Lams H8 fb' fa' fj' := Lams.ext ⟨⟨⟨1, 1, cb', by decide, x7 _ _ eb' (fun _ z => nomatch z), x7 _ _ ecb' (fun _ z => nomatch z)⟩⟩, ⟨⟨1, 2, ca', by decide, ea', eca'⟩⟩, ⟨⟨1, 0, cj', by decide, x7 _ _ (x6 _ _ ej' (fun _ z => nomatch z)) (fun _ z => nomatch z), x7 _ _ (x6 _ _ ecj' (fun _ z => nomatch z)) (fun _ z => nomatch z)⟩⟩⟩ (Go.same t7 s8).ext
      exact ⟨_, rfl, _, rfl, (by decide : (3 : Nat) ≤ sizeLine), fun t nt => pair_end g4 g8 (n4.weak fun a e => y1 _ (y2 _ (y3 _ e))) (n8.weak fun a e => y5 _ (y6 _ (y7 _ e))) L4 L8 nt q⟩
    · refine ⟨_, rfl, rfl, _, rfl, ifF (dF fun z => e0 (by injection z)) ?_⟩
      refine ⟨hT, fun fb cb H1 x1 y1 t1 nb eb ecb => ⟨t1, fun fa ca H2 x2 y2 t2 na ea eca => ⟨t2, fun fj cj H3 x3 y3 t3 nj ej ecj => ⟨_, rfl, rfl, rfl, fun b dx nb' nd ne => new_bi (T := T) (fb := fb) (fa := fa) (fj := fj) (z := .int way) nb' nd fun c l H4 s4 n4 => ⟨rfl, ?_⟩⟩⟩⟩⟩
      have t4 : TabsN (TT T) H4 := t3.ext s4
      have g4 : Go T H H4 := Go.trans ⟨x1.trans (x2.trans x3), fun a e => y1 _ (y2 _ (y3 _ e)), t3⟩ (Go.same t3 s4)
      have L4 : Lams H4 fb fa fj := Lams.ext ⟨⟨⟨2, 0, cb, by decide, x3 _ _ (x2 _ _ eb (fun _ z => nomatch z)) (fun _ z => nomatch z), x3 _ _ (x2 _ _ ecb (fun _ z => nomatch z)) (fun _ z => nomatch z)⟩⟩, ⟨⟨2, 1, ca, by decide, x3 _ _ ea (fun _ z => nomatch z), x3 _ _ eca (fun _ z => nomatch z)⟩⟩, ⟨⟨2, 2, cj, by decide, ej, ecj⟩⟩⟩ (Go.same t3 s4).ext
      refine ⟨_, rfl, t4, fun fa' ca' H5 x5 y5 t5 na' ea' eca' => ⟨t5, fun fj' cj' H6 x6 y6 t6 nj' ej' ecj' => ⟨t6, fun fb' cb' H7 x7 y7 t7 nb2 eb' ecb' => ⟨rfl, rfl, fun b' dx' nb' nd' ne' => new_bi (T := T) (fb := fb') (fa := fa') (fj := fj') (z := .int way) nb' nd' fun c' l' H8 s8 n8 => ⟨rfl, ?_⟩⟩⟩⟩⟩
      have g8 : Go T H4 H8 := Go.trans ⟨x5.trans (x6.trans x7), fun a e => y5 _ (y6 _ (y7 _ e)), t7⟩ (Go.same t7 s8)
      have L8 : Lams H8 fb' fa' fj' := Lams.ext ⟨⟨⟨3, 3, cb', by decide, eb', ecb'⟩⟩, ⟨⟨3, 1, ca', by decide, x7 _ _ (x6 _ _ ea' (fun _ z => nomatch z)) (fun _ z => nomatch z), x7 _ _ (x6 _ _ eca' (fun _ z => nomatch z)) (fun _ z => nomatch z)⟩⟩, ⟨⟨3, 2, cj', by decide, x7 _ _ ej' (fun _ z => nomatch z), x7 _ _ ecj' (fun _ z => nomatch z)⟩⟩⟩ (Go.same t7 s8).ext
      have ez : zOf way = .int way := if_neg e0
      rw [ez] at q
      exact ⟨_, rfl, _, rfl, _, rfl, (by decide : (3 : Nat) ≤ sizeLine), fun t nt => pair_end g4 g8 (n4.weak fun a e => y1 _ (y2 _ (y3 _ e))) (n8.weak fun a e => y5 _ (y6 _ (y7 _ e))) L4 L8 nt q⟩
end
end Ob

set_option Elab.async false
set_option linter.all false
set_option maxRecDepth 100000
set_option maxHeartbeats 1000000
namespace Ob
open PySem PySem.Spec PyProof.Rows L2
open LamX (Tabs TabB TabS ExtN)

set_option hygiene false in
local macro_rules
  | `(tactic| kp_flats) => `(tactic| first
    | assumption
    | exact upd_same
    | (apply atNew; assumption; kp_flats)
    | (apply atNe; (next => kbo_bools); kp_flats)
    | (apply atSame; assumption; kp_flats)
    | (apply atKp; assumption; (next => kaf_pre); kp_flats))
set_option hygiene false in
local macro_rules
  | `(tactic| kaf_pre) => `(tactic| first
    | assumption
    | exact not_nil
    | (apply not_cons; (next => kbo_bools); kaf_pre)
    | (apply not_app; (next => kaf_pre); kaf_pre))
set_option hygiene false in
local macro_rules
  | `(tactic| kbo_bools) => `(tactic| first
    | assumption
    | (apply Ne.symm; assumption)
    | (apply neN; assumption; kp_flats)
    | (apply neN'; assumption; kp_flats))
set_option hygiene false in
local macro_rules
  | `(tactic| o_reads) => `(tactic| first
    | with_reducible rfl
    | assumption
    | rfl
    | kp_flats
    | (show SqL _ _ _ _; first | assumption | (apply sqlOf; kp_flats) | (apply sqlSame; assumption; o_reads))
    | (show SqT _ _ _ _; first | assumption | (apply sqtOf; kp_flats) | (apply sqtAll; assumption) | (apply sqtSame; assumption; o_reads))
    | (show Cls _ _; first | exact T.cl_Calls | exact T.cl_Asker | exact T.cl_Builder | exact T.cl_Blocks | exact T.cl_Version)
    | (show NoAttr _ _ _; first | exact T.n_Calls_entries | exact T.n_Calls_running | exact T.n_Asker_calls | exact T.n_Asker_ask_call | exact T.n_Asker_join_call | exact T.n_Asker_zero | exact T.n_Builder_calls | exact T.n_Builder_build_call | exact T.n_Blocks_calls | exact T.n_Blocks_builder | exact T.n_Blocks_asker | exact T.n_Blocks_held | exact T.n_Blocks_parts | exact T.n_Version_calls | exact T.n_Version_asker | exact T.n_Version_held | exact T.n_Version_parts)
    | (apply Or.inl; o_reads)
    | (apply Or.inr; o_reads)
    | (apply And.intro; (next => o_reads); o_reads)
    | (apply Exists.intro; o_reads)
    | exact Nat.le_of_ble_eq_true rfl
    | exact Nat.succ_ne_zero _
    | (show Fr _ _; kba_ints)
    | (show Same _ _; kd_subs)
    | (show Kp _ _ _; kxs_still)
    | (show (_ : Nat) ≤ _; simp only [List.length_append, List.length_map, List.length_cons, List.length_nil, List.length_take, List.length_drop, List.length_replicate, List.length_range, sizeLine_eq]; omega)
    | (show _ = none; apply Fr.h; kba_ints)
    | (show Bag _ _; first | assumption | (apply bag_putF; assumption; o_reads) | (apply bag_neF; (next => kbo_bools); o_reads) | (apply bag_kpR; assumption; (next => kaf_pre); o_reads))
    | omega
    | decide)
local macro_rules
  | `(tactic| o_readsAll) => `(tactic| repeat (first
    | (refine fun (pNew : Addr) (nNew : _ = none) => ?_; replace nNew := Fr.mk nNew)
    | (refine fun (xNew dNew : Addr) (nNew : _ = none) (mNew : _ = none) (eNew : dNew ≠ xNew) => ?_; replace nNew := Fr.mk nNew; replace mNew := Fr.mk mNew)
    | (apply And.intro; next => o_reads)
    | apply Exists.intro (α := V)
    | apply Exists.intro (α := Addr)
    | apply Exists.intro (α := Int)
    | apply Exists.intro (α := Bool)
    | apply Exists.intro (α := List V)
    | apply Exists.intro (α := List Nat)
    | apply Exists.intro (α := List (Str × V))
    | apply Exists.intro (α := List _)
    | apply Exists.intro (α := Str)
    | apply Exists.intro (α := HO)
    | apply Exists.intro (α := Sp)
    | apply Exists.intro (α := VK)))
set_option hygiene false in
local macro_rules
  | `(tactic| kba_ints) => `(tactic| first
    | assumption
    | (apply frUp; (first | assumption | (apply Ne.symm; assumption)); kba_ints)
    | (apply noneOf; assumption; intro oF eF; apply Exists.intro; kp_flats)
    | (apply frUp; (next => kbo_bools); kba_ints))
set_option hygiene false in
local macro_rules
  | `(tactic| kxs_still) => `(tactic| first
    | assumption
    | exact kp_refl _ _
    | (apply kp_newF; assumption; kxs_still)
    | (apply kp_new; assumption; kxs_still)
    | (apply kp_up; (next => o_fieldsN); kxs_still)
    | (apply kp_new; (next => kba_ints); kxs_still)
    | (apply kp_sameR; assumption; kxs_still)
    | (apply kp_transR; assumption; kxs_still)
    | (apply kp_freshR; assumption; (next => kaf_suf); kxs_still))
set_option hygiene false in
local macro_rules
  | `(tactic| kaf_suf) => `(tactic| first
    | assumption
    | exact subNil
    | (apply subCons; (first | (apply Or.inl; o_fieldsN) | (apply Or.inr; kba_ints)); kaf_suf)
    | (apply subApp; (next => kaf_suf); kaf_suf))
set_option hygiene false in
local macro_rules
  | `(tactic| o_fieldsN) => `(tactic| first
    | assumption
    | exact memA
    | (apply memB; o_fieldsN)
    | (apply memL; o_fieldsN)
    | (apply memR; o_fieldsN))
set_option hygiene false in
local macro_rules
  | `(tactic| kd_subs) => `(tactic| first
    | assumption
    | exact Same.refl _
    | (apply same_putF; assumption; kd_subs)
    | (apply same_putG; assumption; kd_subs)
    | (apply same_putF; (next => kba_ints); kd_subs)
    | (apply same_transR; assumption; kd_subs))

theorem kb_of {K : PySem.W.Frag} {x qual : Str} {st : Stmt} {f : Addr} {fd : FuncData} {ps ks : List Str} {n : Nat} {g : List Value → List Value → List Value} {gV : List V → List V → List V} (F : Fun K x qual st f fd)
    (h : ∀ (kV doc pm : Value) (an : Option Addr) (cdv ct : Value) (us ws : List Value), us.length = n → ws.length = ks.length → bindArgs (PySem.W.fnOf x qual (defArgs st) (defBody st) (defScope st) .none kV doc pm an cdv ct) ⟨us, ks.zip ws⟩ = pure (ps.zip (g us ws)))
    (r : ∀ {vs : List V} {us : List Value} {zs : List V} {ws : List Value}, Vals vs us → Vals zs ws → Vals (gV vs zs) (g us ws)) : KBn K fd ps n ks g gV := by
  obtain ⟨oc, od, kV, doc, pm, an, cdv, ct, osl, rfl, lk, hcd⟩ := F.ex
  exact ⟨fun s us ws X l1 l2 => .of_eq (h kV doc pm an cdv ct us ws l1 l2), r⟩

set_option pp.maxSteps 1200
open NdefX (TabsN)
section
variable {P : Program} {w : World} {K : PySem.W.Frag} {mg : Str → Option Value} {base : Heap} {n : Nat}
theorem gO_rel {vs mz zs : List V} {us mv ws : List Value} (a : Vals vs us) (_b : Vals mz mv) (c : Vals zs ws) : Vals (vs ++ ((zs.drop 2).take 1 ++ (zs.drop 4 ++ ((zs.drop 3).take 1 ++ (zs.take 1 ++ (zs.drop 1).take 1))))) (us ++ ((ws.drop 2).take 1 ++ (ws.drop 4 ++ ((ws.drop 3).take 1 ++ (ws.take 1 ++ (ws.drop 1).take 1))))) :=
  a.append (((c.drop 2).take 1).append ((c.drop 4).append (((c.drop 3).take 1).append ((c.take 1).append ((c.drop 1).take 1)))))
def spOfRight (T : Txt K mg) : Sp := fun vs H Q _ => ∃ (a : Addr) (is : List Int) (t : Int), vs = [.ref a, .int t] ∧ H a = some (.lst (is.map V.int)) ∧ Sm is ∧ is.length ≤ 50 ∧ 0 ≤ t ∧ t < 100 ∧ TabsN (TT T) H ∧ ∀ H', Go T H H' → Q (.bl true) H'
theorem ok_of_right (T : Txt K mg) (TB : LamX.TabB base mg T.c_l_of_right T.p_l_of_right) : FnOk P w K mg base CX0 12 T.f_l_of_right T.d_l_of_right ["_law_things", "_law_topic"] (spOfRight T) := by
  have G_Blocks_of := fnBx (ok_of (P := P) (w := w) (base := base) (n := 1) T)
  have G_Blocks_query := fnBx (ok_qry (P := P) (w := w) (base := base) (n := 1) T)
  have G_Blocks_members := fnBx (ok_mem (P := P) (w := w) (base := base) T)
  have KB_Blocks_query : KBn K T.d_Blocks_query ["self", "question"] 1 ["question"] (fun us ws => us ++ ws) (fun vs zs => vs ++ zs) := kb_of T.F_Blocks_query (fun kV doc pm an cdv ct us ws l1 l2 => match us, ws, l1, l2 with | [_], [_], _, _ => rfl) fun a b => a.append b
  obtain ⟨mv0, KB_Blocks_of⟩ := FunD.kbinds0 (ps := ["cls", "members", "build", "ask", "join", "zero"]) T.F_Blocks_of 1 ["join", "zero", "members", "ask", "build"] [] (fun us mv ws => us ++ ((ws.drop 2).take 1 ++ (ws.drop 4 ++ ((ws.drop 3).take 1 ++ (ws.take 1 ++ (ws.drop 1).take 1))))) (List.cons_ne_nil _ _) (fun _ z => nomatch z) (fun a b c => gO_rel a b c)
    (fun D doc pm an cdv ct us mv ws h1 h2 h3 => match us, h1, mv, h2, ws, h3 with | [_], _, [], _, [_, _, _, _, _], _ => rfl)
  refine T.F_l_of_right.ok sc_l_of_right (fun vs H Q E h => ?_) (fun A outer s H vs Q E hr h => ?_)
  · obtain ⟨a, is, t, rfl, _⟩ := h
    rfl
  · obtain ⟨a, is, t, rfl, ha, hs, hl, t0, t1, hT, q⟩ := h
    refine ⟨_, (pss_cons (ps_set (i := 2) sc_l_of_right.nd rfl (.inl rfl) (Inf.pe_cmethK0 (pe_glob (v := .ref T.C_Blocks) rfl T.gc_Blocks rfl) T.cr_Blocks T.cm_Blocks_of G_Blocks_of (hr.mono (by omega)) KB_Blocks_of pass0 (pk_cons (Inf.pe_lamN (T := TT T) (nm := nm_l_of_right) (c := T.c_l_of_right) (P := T.p_l_of_right) TB rfl (hm_l_of_right T) rfl (hu_l_of_right T) rfl (NdefX.ndef_free (sc := defScope s_l_of_right) (fr := []) (by decide +kernel))) (pk_cons pe_int (pk_cons (pv 0) (pk_cons (Inf.pe_lamN (T := TT T) (nm := nm_l_of_right) (c := T.c_l_of_right) (P := T.p_l_of_right) TB rfl (hm_l_of_right T) rfl (hu_l_of_right T) rfl (NdefX.ndef_free (sc := defScope s_l_of_right) (fr := []) (by decide +kernel))) (pk_cons (Inf.pe_lamN (T := TT T) (nm := nm_l_of_right) (c := T.c_l_of_right) (P := T.p_l_of_right) TB rfl (hm_l_of_right T) rfl (hu_l_of_right T) rfl (NdefX.ndef_free (sc := defScope s_l_of_right) (fr := []) (by decide +kernel))) pk_nil)))))))
      (pss_one (ps_ret (pe_and (pe_cmpR op_eq (Inf.pe_methK0 (pv 2) T.cl_Blocks ⟨T.m_Blocks_query, T.t_Blocks_query, T.k_Blocks_query⟩ G_Blocks_query (hr.mono (by omega)) KB_Blocks_query pass0 (pk_cons (pv 1) pk_nil)) (pe_op op_mul (pe_callB (cr_sum rfl) (by rfl) T.z_sum (by decide +kernel) (pa_cons (pv 0) pa_nil)) (pv 1)) (nomark _)) (pe_one (pe_cmpR (op_eqD hr.units) (pe_meth0 (pv 2) T.cl_Blocks ⟨T.m_Blocks_members, T.t_Blocks_members, T.k_Blocks_members⟩ G_Blocks_members (hr.mono (by omega)) T.b_Blocks_members .nil pass0) (pv 0) (nomark _))))))), ?_⟩
    have lm : (is.map V.int).length = is.length := List.length_map ..
    refine ⟨rfl, hT, fun fj cj H1 x1 y1 tb1 nj ej ecj => ⟨_, rfl, tb1, fun fa ca H2 x2 y2 tb2 na ea eca => ⟨tb2, fun fb cb H3 x3 y3 tb3 nb eb ecb => ⟨rfl, rfl, ?_⟩⟩⟩⟩
    have g3 : Go T H H3 := ⟨x1.trans (x2.trans x3), fun a e => y1 _ (y2 _ (y3 _ e)), tb3⟩
    have L3 : Lams H3 fb fa fj := ⟨⟨⟨4, 4, cb, by decide, eb, ecb⟩⟩, ⟨⟨4, 3, ca, by decide, x3 _ _ ea (fun _ z => nomatch z), x3 _ _ eca (fun _ z => nomatch z)⟩⟩, ⟨⟨4, 0, cj, by decide, x3 _ _ (x2 _ _ ej (fun _ z => nomatch z)) (fun _ z => nomatch z), x3 _ _ (x2 _ _ ecj (fun _ z => nomatch z)) (fun _ z => nomatch z)⟩⟩⟩
    have ha3 := g3.ext _ _ ha (fun _ z => nomatch z)
    have hmem : ∀ x ∈ is.map V.int, MemS x H3 := fun x m => by
      obtain ⟨i, hi, rfl⟩ := List.mem_map.mp m
      exact ⟨i, rfl, hs i hi⟩
    refine ⟨⟨[], [], a, .ref fb, .ref fa, .ref fj, .int 0, fun _ H => Lams H fb fa fj, MemS, BlkS, QstS, AnsS, is.map V.int, [], rfl, fun ds => us_s T (Nat.le_refl _), subNil, ha3, mu_nil, hmem, L3, by decide, by omega, fun b c l evs H4 nb4 nc4 nl4 n1 n2 n3 k4 m4 C4 e4 u4 => ?_⟩⟩
    have s4 : Same H3 H4 := fun a o e => k4.at_ _ _ e not_nil
    have g4 : Go T H H4 := g3.trans (Go.same tb3 s4)
    obtain ⟨dx1, bu1, k1', h1', p1', hb4⟩ := C4.b_at
    have le4 : (evs.map Ev.ent).length ≤ 50 := by
      rw [e4, List.length_map, bns_len, lm]
      exact Nat.le_trans (bl_len _) hl
    refine ⟨_, rfl, b, dx1, _, rfl, hb4, rfl, _, rfl, rfl, rfl, ⟨⟨[b, c, l] ++ [], [], b, c, l, _, _, _, .int 0, fun _ H => Lams H fb fa fj, MemS, BlkS, QstS, AnsS, is.map V.int, _, [], .int t, rfl, us_s T (Nat.le_refl _), C4, (fun a m z => nomatch z), u4, ⟨t, rfl, t0, t1⟩, by decide, by omega, by omega, fun v evs' H5 k5 m5 C5 u5 e5 a1 a2 => ?_⟩⟩⟩
    have hv : v = .int (is.sum * t) := by
      by_cases e : is.map V.int = []
      · obtain ⟨rfl, _⟩ := a1 e
        rw [List.map_eq_nil_iff.mp e, List.sum_nil, Int.zero_mul]
      · obtain ⟨is', t', e1, e2, _, e3⟩ := a2 e
        cases e1
        rw [e3, map_int_inj e2]
    have k35 : Kp [] H3 H5 := kp_freshR k5 (subApp (subCons (.inr nc4) (subCons (.inr nl4) subNil)) subNil) k4
    have s5 : Same H3 H5 := fun a o e => k35.at_ _ _ e not_nil
    have g5 : Go T H H5 := g3.trans (Go.same tb3 s5)
    have ha5 := s5 _ _ ha3
    obtain ⟨dx2, bu2, k2', h2', p2', hb5⟩ := C5.b_at
    refine ⟨_, rfl, a, is, rfl, sqlOf ha5, _, rfl, _, _, rfl, rfl, .inr ⟨by omega, by omega⟩, ?_⟩
    rw [hv]
    refine ⟨rfl, _, rfl, ifT (dT rfl) ?_⟩
    refine ⟨_, rfl, b, dx2, _, rfl, hb5, rfl, ⟨⟨_, b, c, l, _, _, _, _, _, _, _, _, rfl, C5, fun o H6 no s6 eo => ?_⟩⟩⟩
    have g6 : Go T H H6 := g5.trans (Go.same g5.tb s6)
    refine ⟨_, rfl, _, _, .lst (sqlOf eo) (dps_int is), .lst (sqlOf (s6 _ _ ha5)) (dps_int is), sh_int _, sh_int _, ?_⟩
    rw [SeqAt.eqv_refl _ (SeqAt.canLay_of_shaped (sh_int is))]
    exact q _ g6
end
end Ob

set_option Elab.async false
set_option linter.all false
set_option maxRecDepth 100000
set_option maxHeartbeats 1000000
namespace Ob
open PySem PySem.Spec PyProof.Rows L2
open LamX (Tabs TabB TabS ExtN)

set_option hygiene false in
local macro_rules
  | `(tactic| kp_flats) => `(tactic| first
    | assumption
    | exact upd_same
    | (apply atNew; assumption; kp_flats)
    | (apply atNe; (next => kbo_bools); kp_flats)
    | (apply atSame; assumption; kp_flats)
    | (apply atKp; assumption; (next => kaf_pre); kp_flats))
set_option hygiene false in
local macro_rules
  | `(tactic| kaf_pre) => `(tactic| first
    | assumption
    | exact not_nil
    | (apply not_cons; (next => kbo_bools); kaf_pre)
    | (apply not_app; (next => kaf_pre); kaf_pre))
set_option hygiene false in
local macro_rules
  | `(tactic| kbo_bools) => `(tactic| first
    | assumption
    | (apply Ne.symm; assumption)
    | (apply neN; assumption; kp_flats)
    | (apply neN'; assumption; kp_flats))
set_option hygiene false in
local macro_rules
  | `(tactic| o_reads) => `(tactic| first
    | with_reducible rfl
    | assumption
    | rfl
    | kp_flats
    | (show SqL _ _ _ _; first | assumption | (apply sqlOf; kp_flats) | (apply sqlSame; assumption; o_reads))
    | (show SqT _ _ _ _; first | assumption | (apply sqtOf; kp_flats) | (apply sqtAll; assumption) | (apply sqtSame; assumption; o_reads))
    | (show Cls _ _; first | exact T.cl_Calls | exact T.cl_Asker | exact T.cl_Builder | exact T.cl_Blocks | exact T.cl_Version)
    | (show NoAttr _ _ _; first | exact T.n_Calls_entries | exact T.n_Calls_running | exact T.n_Asker_calls | exact T.n_Asker_ask_call | exact T.n_Asker_join_call | exact T.n_Asker_zero | exact T.n_Builder_calls | exact T.n_Builder_build_call | exact T.n_Blocks_calls | exact T.n_Blocks_builder | exact T.n_Blocks_asker | exact T.n_Blocks_held | exact T.n_Blocks_parts | exact T.n_Version_calls | exact T.n_Version_asker | exact T.n_Version_held | exact T.n_Version_parts)
    | (apply Or.inl; o_reads)
    | (apply Or.inr; o_reads)
    | (apply And.intro; (next => o_reads); o_reads)
    | (apply Exists.intro; o_reads)
    | exact Nat.le_of_ble_eq_true rfl
    | exact Nat.succ_ne_zero _
    | (show Fr _ _; kba_ints)
    | (show Same _ _; kd_subs)
    | (show Kp _ _ _; kxs_still)
    | (show (_ : Nat) ≤ _; simp only [List.length_append, List.length_map, List.length_cons, List.length_nil, List.length_take, List.length_drop, List.length_replicate, List.length_range, sizeLine_eq]; omega)
    | (show _ = none; apply Fr.h; kba_ints)
    | (show Bag _ _; first | assumption | (apply bag_putF; assumption; o_reads) | (apply bag_neF; (next => kbo_bools); o_reads) | (apply bag_kpR; assumption; (next => kaf_pre); o_reads))
    | omega
    | decide)
local macro_rules
  | `(tactic| o_readsAll) => `(tactic| repeat (first
    | (refine fun (pNew : Addr) (nNew : _ = none) => ?_; replace nNew := Fr.mk nNew)
    | (refine fun (xNew dNew : Addr) (nNew : _ = none) (mNew : _ = none) (eNew : dNew ≠ xNew) => ?_; replace nNew := Fr.mk nNew; replace mNew := Fr.mk mNew)
    | (apply And.intro; next => o_reads)
    | apply Exists.intro (α := V)
    | apply Exists.intro (α := Addr)
    | apply Exists.intro (α := Int)
    | apply Exists.intro (α := Bool)
    | apply Exists.intro (α := List V)
    | apply Exists.intro (α := List Nat)
    | apply Exists.intro (α := List (Str × V))
    | apply Exists.intro (α := List _)
    | apply Exists.intro (α := Str)
    | apply Exists.intro (α := HO)
    | apply Exists.intro (α := Sp)
    | apply Exists.intro (α := VK)))
set_option hygiene false in
local macro_rules
  | `(tactic| kba_ints) => `(tactic| first
    | assumption
    | (apply frUp; (first | assumption | (apply Ne.symm; assumption)); kba_ints)
    | (apply noneOf; assumption; intro oF eF; apply Exists.intro; kp_flats)
    | (apply frUp; (next => kbo_bools); kba_ints))
set_option hygiene false in
local macro_rules
  | `(tactic| kxs_still) => `(tactic| first
    | assumption
    | exact kp_refl _ _
    | (apply kp_newF; assumption; kxs_still)
    | (apply kp_new; assumption; kxs_still)
    | (apply kp_up; (next => o_fieldsN); kxs_still)
    | (apply kp_new; (next => kba_ints); kxs_still)
    | (apply kp_sameR; assumption; kxs_still)
    | (apply kp_transR; assumption; kxs_still)
    | (apply kp_freshR; assumption; (next => kaf_suf); kxs_still))
set_option hygiene false in
local macro_rules
  | `(tactic| kaf_suf) => `(tactic| first
    | assumption
    | exact subNil
    | (apply subCons; (first | (apply Or.inl; o_fieldsN) | (apply Or.inr; kba_ints)); kaf_suf)
    | (apply subApp; (next => kaf_suf); kaf_suf))
set_option hygiene false in
local macro_rules
  | `(tactic| o_fieldsN) => `(tactic| first
    | assumption
    | exact memA
    | (apply memB; o_fieldsN)
    | (apply memL; o_fieldsN)
    | (apply memR; o_fieldsN))
set_option hygiene false in
local macro_rules
  | `(tactic| kd_subs) => `(tactic| first
    | assumption
    | exact Same.refl _
    | (apply same_putF; assumption; kd_subs)
    | (apply same_putG; assumption; kd_subs)
    | (apply same_putF; (next => kba_ints); kd_subs)
    | (apply same_transR; assumption; kd_subs))

set_option pp.maxSteps 1200
open NdefX (TabsN)
theorem NTx.kp {H H1 : Hp} {cs ds : List Addr} (n : NTx H cs) (k : Kp ds H H1) (m : NTx H1 ds) : NTx H1 cs := fun a ha => by
  by_cases e : a ∈ ds
  · exact m a e
  · obtain ⟨o, h1, h2⟩ := n a ha
    exact ⟨o, k.at_ _ _ h1 e, h2⟩
theorem NTx.sub {H : Hp} {cs ds : List Addr} (n : NTx H cs) (s : ∀ a ∈ ds, a ∈ cs) : NTx H ds := fun a m => n a (s a m)
theorem extN_kp {H0 H H1 : Hp} {cs : List Addr} (e : ExtN H0 H) (k : Kp cs H H1) (f : ∀ a ∈ cs, Fr H0 a) : ExtN H0 H1 := fun a o h n => k.at_ _ _ (e a o h n) fun m => ne_of_none h (f a m).h rfl
theorem fx_kp {H H1 : Hp} {cs : List Addr} (k : Kp cs H H1) (m : Mu H1 cs) (a : Addr) (e : H1 a = none) : H a = none := by
  cases h : H a with
  | none => rfl
  | some o =>
    by_cases z : a ∈ cs
    · obtain ⟨o', h', _⟩ := m a z
      rw [e] at h'
      cases h'
    · have := k.at_ _ _ h z
      rw [e] at this
      cases this
section
variable {P : Program} {w : World} {K : PySem.W.Frag} {mg : Str → Option Value} {base : Heap} {n : Nat}
variable {T : Txt K mg} {cs ds : List Addr} {p : Addr} {H0 H H1 : Hp} {z : V} {x y : Ho} {is is' js : List Int} {es es' es2 : List Ent} {ms : List V}
theorem CollH.kp (h : CollH T cs z x ms es H) (kk : Kp ds H H1) (s : ∀ a ∈ ds, a ∈ cs) (d : ∀ a ∈ own x, a ∉ ds) (m : Mu H1 ds) : CollH T cs z x ms es H1 := by
  obtain ⟨⟨dx, bu, bdx, k, hh, p, h1, h2, h3, ⟨⟨cdx, kdx, ps, vs, c1, c2, c3, c4, c5, c6, c7, c8⟩, hm, mu, ⟨i1, i2, i3⟩, o⟩⟩, ob⟩ := h
  have md := mu.sub s
  exact ⟨⟨dx, bu, bdx, k, hh, p, kk.at_ _ _ h1 (d _ memA), kk.at_ _ _ h2 (fun z => h3 (s _ z)), h3, ⟨⟨cdx, kdx, ps, vs, kk.at_ _ _ c1 (d _ (memB memA)), kk.at_ _ _ c2 (d _ (memB (memB memA))), c3.kp kk md, kk.at_ _ _ c4 (fun z => i1 (s _ z)), kk.at_ _ _ c5 (fun z => i2 (s _ z)), kk.at_ _ _ c6 (fun z => i3 (s _ z)), fun x hx => ⟨(c7 x hx).1.kp kk md, (c7 x hx).2⟩, c8⟩, hm, mu.kp kk m, ⟨i1, i2, i3⟩, o⟩⟩, ob⟩
theorem CollH.mu (h : CollH T cs z x ms es H) : Mu H cs := Coll.mu h
theorem CollH.ntx (h : CollH T cs z x ms es H) : NTx H (own x) := Coll.ntx h
theorem CollH.own (h : CollH T cs z x ms es H) : ∀ a ∈ own x, a ∈ cs := Coll.owns h
/-- both collections, and the bag -/
structure J17 (T : Txt K mg) (cs : List Addr) (p : Addr) (H0 : Hp) (z : V) (x y : Ho) (is is' : List Int) (es es' : List Ent) (H : Hp) : Prop where
  cx : CollH T cs z x (is.map V.int) es H
  cy : CollH T cs z y (is'.map V.int) es' H
  lx : Lams H x.fb x.fa x.fj
  ly : Lams H y.fb y.fa y.fj
  bag : Bag H p
  pin : p ∈ cs
  px : p ∉ own x
  py : p ∉ own y
  xy : ∀ a ∈ own x, a ∉ own y
  nt : NTx H cs
  fr : ∀ a ∈ cs, Fr H0 a
  go : Go T H0 H
  sx : Sm is
  sy : Sm is'
theorem J17.swap (j : J17 T cs p H0 z x y is is' es es' H) : J17 T cs p H0 z y x is' is es' es H :=
  ⟨j.cy, j.cx, j.ly, j.lx, j.bag, j.pin, j.py, j.px, fun a m1 m2 => j.xy a m2 m1, j.nt, j.fr, j.go, j.sy, j.sx⟩
theorem J17.gok (j : J17 T cs p H0 z x y is is' es es' H) (kk : Kp ds H H1) (s : ∀ a ∈ ds, a ∈ cs) (m : Mu H1 ds) : Go T H0 H1 :=
  ⟨extN_kp j.go.ext kk fun a q => j.fr a (s a q), fun a e => j.go.no a (fx_kp kk m a e), tabsN_kp j.go.tb kk (j.nt.sub s)⟩
theorem J17.take (j : J17 T cs p H0 z x y is is' es es' H) (kk : Kp [p] H H1) (b : Bag H1 p) : J17 T cs p H0 z x y is is' es es' H1 := by
  obtain ⟨l, hl⟩ := bag_lst b
  have s : ∀ a ∈ [p], a ∈ cs := subCons j.pin subNil
  have m : Mu H1 [p] := mu_lst hl mu_nil
  have ms := j.cx.mu.sub s
  exact ⟨j.cx.kp kk s (fun a q r => j.px (by rw [← List.mem_singleton.mp r]; exact q)) m, j.cy.kp kk s (fun a q r => j.py (by rw [← List.mem_singleton.mp r]; exact q)) m, j.lx.kp kk ms, j.ly.kp kk ms, b, j.pin, j.px, j.py, j.xy, j.nt.kp kk (ntx_lst hl ntx_nil), j.fr, j.gok kk s m, j.sx, j.sy⟩
theorem J17.same (j : J17 T cs p H0 z x y is is' es es' H) (s : Same H H1) : J17 T cs p H0 z x y is is' es es' H1 := by
  have kk : Kp [] H H1 := kp_same s
  exact ⟨j.cx.kp kk subNil (fun _ _ q => nomatch q) mu_nil, j.cy.kp kk subNil (fun _ _ q => nomatch q) mu_nil, j.lx.kp kk mu_nil, j.ly.kp kk mu_nil, bag_same j.bag s, j.pin, j.px, j.py, j.xy, j.nt.kp kk ntx_nil, j.fr, j.gok kk subNil mu_nil, j.sx, j.sy⟩
theorem J17.act (j : J17 T cs p H0 z x y is is' es es' H) (kk : Kp ds H H1) (s : ∀ a ∈ ds, a ∈ own x) (C : CollH T cs z x (js.map V.int) es2 H1) (hj : Sm js) : J17 T cs p H0 z x y js is' es2 es' H1 := by
  have o := j.cx.own
  have sc : ∀ a ∈ ds, a ∈ cs := fun a q => o a (s a q)
  have m : Mu H1 ds := C.mu.sub sc
  have ms := j.cx.mu.sub sc
  exact ⟨C, j.cy.kp kk sc (fun a q r => j.xy a (s a r) q) m, j.lx.kp kk ms, j.ly.kp kk ms, bag_kpR kk (fun q => j.px (s _ q)) j.bag, j.pin, j.px, j.py, j.xy, j.nt.kp kk (C.ntx.sub s), j.fr, j.gok kk sc m, hj, j.sy⟩
theorem J17.hb (j : J17 T cs p H0 z x y is is' es es' H) : ∃ dx bu k h q, H x.b = some (BlO T.C_Blocks dx x.c bu k h q) := Coll.b_at j.cx
theorem J17.adds (j : J17 T cs p H0 z x y is is' es es' H) {v : Int} {Q : VK} (v0 : 0 ≤ v) (v1 : v < 100) (hl : is.length < 800) (he : es.length < 80000) (q : ∀ H1, J17 T cs p H0 z x y (is ++ [v]) is' (es ++ [.build (lastNs is.length)]) es' H1 → Q (.int is.length) H1) :
    bx (spAdd P w K mg base T.C_Blocks T.C_Calls T.C_Builder T.C_Asker 1) [.ref x.b, .int v] H Q E0 := by
  have ll : (is.map V.int).length = is.length := List.length_map ..
  refine ⟨⟨cs, [], x.b, x.c, x.l, _, _, _, z, fun _ H => Lams H x.fb x.fa x.fj, MemS, BlkS, QstS, AnsS, is.map V.int, es, [], .int v, rfl, us_s T (Nat.le_refl _), j.cx, (fun _ _ z => nomatch z), j.lx, ⟨v, rfl, v0, v1⟩, by decide, by omega, by omega, fun blk H1 k1 m1 C1 u1 => ?_⟩⟩
  rw [ll] at C1 ⊢
  have e : is.map V.int ++ [V.int v] = (is ++ [v]).map V.int := by
    rw [List.map_append]
    rfl
  rw [e] at C1
  exact q H1 (j.act k1 (fun a m => by rw [List.append_nil] at m; exact m) C1 (j.sx.app fun i m => by rw [List.mem_singleton.mp m]; exact ⟨v0, v1⟩))
theorem J17.qrys (j : J17 T cs p H0 z x y is is' es es' H) {t : Int} {Q : VK} (t0 : 0 ≤ t) (t1 : t < 100) (hl : is.length < 800) (he : es.length < 80000) (q : ∀ v H1, J17 T cs p H0 z x y is is' (es ++ qents 0 (bns is.length)) es' H1 → (is = [] → v = z) → (is ≠ [] → v = .int (is.sum * t)) → Q v H1) :
    bx (spQry P w K mg base T.C_Blocks T.C_Calls T.C_Builder T.C_Asker 1) [.ref x.b, .int t] H Q E0 := by
  have ll : (is.map V.int).length = is.length := List.length_map ..
  refine ⟨⟨cs, [], x.b, x.c, x.l, _, _, _, z, fun _ H => Lams H x.fb x.fa x.fj, MemS, BlkS, QstS, AnsS, is.map V.int, es, [], .int t, rfl, us_s T (Nat.le_refl _), j.cx, (fun _ _ z => nomatch z), j.lx, ⟨t, rfl, t0, t1⟩, by decide, by omega, by omega, fun v evs H1 k1 m1 C1 u1 e1 a1 a2 => ?_⟩⟩
  have ev := e1.ents
  rw [ll] at ev
  rw [ev] at C1
  refine q v H1 (j.act k1 (fun a m => by rw [List.append_nil] at m; exact List.mem_cons_of_mem _ m) C1 j.sx) (fun e => (a1 (by rw [e]; rfl)).1) (fun e => ?_)
  obtain ⟨is2, t2, h1, h2, _, h3⟩ := a2 fun z => e (List.map_eq_nil_iff.mp z)
  cases h1
  rw [h3, map_int_inj h2]
/-- a version, asked -/
theorem J17.vers (j : J17 T cs p H0 z x y is is' es es' H) {Q : VK} (q : ∀ v c l H1, Same H H1 → Fr H v → Fr H c → Fr H l → Ver T.C_Version T.C_Calls T.C_Asker ([c, l] ++ cs) v c l (.ref x.fa) (.ref x.fj) z MemS BlkS (is.map V.int) [] H1 → Q (.ref v) H1) :
    bx (spVersion T.C_Blocks T.C_Version T.C_Calls T.C_Builder T.C_Asker) [.ref x.b] H Q E0 :=
  ⟨⟨cs, x.b, x.c, x.l, _, _, _, z, MemS, BlkS, is.map V.int, es, rfl, j.cx, fun v c l H1 s fv fc fl _ _ _ h => q v c l H1 s fv fc fl (h (fun _ _ e => e) (fun _ e => e)).1⟩⟩
theorem J17.verq (j : J17 T cs p H0 z x y is is' es es' H) {v c l : Addr} {t : Int} {Q : VK} (s : Same H H1) (fc : Fr H c) (fl : Fr H l) (V0 : Ver T.C_Version T.C_Calls T.C_Asker ([c, l] ++ cs) v c l (.ref x.fa) (.ref x.fj) z MemS BlkS (is.map V.int) [] H1) (t0 : 0 ≤ t) (t1 : t < 100) (hl : is.length < 800) (ne : is ≠ []) (q : ∀ H2, J17 T cs p H0 z x y is is' es es' H2 → Same H H2 → Q (.int (is.sum * t)) H2) :
    bx (spVQ P w K mg base T.C_Version T.C_Calls T.C_Asker 1) [.ref v, .int t] H1 Q E0 := by
  have ll : (is.map V.int).length = is.length := List.length_map ..
  have j1 := j.same s
  refine ⟨⟨[c, l] ++ cs, [], v, c, l, .ref x.fb, _, _, z, fun _ H => Lams H x.fb x.fa x.fj, MemS, BlkS, QstS, AnsS, is.map V.int, [], [], .int t, rfl, us_s T (Nat.le_refl _), V0, (fun _ _ z => nomatch z), j1.lx, ⟨t, rfl, t0, t1⟩, by decide, by decide, by omega, fun r evs H2 k2 m2 V2 u2 e2 a1 a2 => ?_⟩⟩
  have s2 : Same H H2 := fun a o e => k2.at_ _ _ (s _ _ e) (not_app (not_cons (ne_of_none e fc.h) (not_cons (ne_of_none e fl.h) not_nil)) not_nil)
  obtain ⟨is2, t2, h1, h2, _, h3⟩ := a2 fun z => ne (List.map_eq_nil_iff.mp z)
  cases h1
  rw [h3, ← map_int_inj h2]
  exact q H2 (j.same s2) s2
/-- a branch, asked -/
theorem J17.brs (j : J17 T cs p H0 z x y is is' es es' H) {Q : VK} (q : ∀ b c l H1, Same H H1 → Fr H b → Fr H c → Fr H l → Coll T.C_Blocks T.C_Calls T.C_Builder T.C_Asker ([b, c, l] ++ cs) b c l (.ref x.fb) (.ref x.fa) (.ref x.fj) z MemS BlkS (is.map V.int) [] H1 → Q (.ref b) H1) :
    bx (spBranch T.C_Blocks T.C_Calls T.C_Builder T.C_Asker) [.ref x.b] H Q E0 :=
  ⟨⟨cs, x.b, x.c, x.l, _, _, _, z, MemS, BlkS, is.map V.int, es, rfl, j.cx, fun b c l H1 s fb fc fl _ _ _ h => q b c l H1 s fb fc fl (h (fun _ _ e => e) (fun _ e => e)).1⟩⟩
theorem J17.brq (j : J17 T cs p H0 z x y is is' es es' H) {b c l : Addr} {t : Int} {Q : VK} (s : Same H H1) (fc : Fr H c) (fl : Fr H l) (C0 : Coll T.C_Blocks T.C_Calls T.C_Builder T.C_Asker ([b, c, l] ++ cs) b c l (.ref x.fb) (.ref x.fa) (.ref x.fj) z MemS BlkS (is.map V.int) [] H1) (t0 : 0 ≤ t) (t1 : t < 100) (hl : is.length < 800) (ne : is ≠ []) (q : ∀ H2, J17 T cs p H0 z x y is is' es es' H2 → Same H H2 → Q (.int (is.sum * t)) H2) :
    bx (spQry P w K mg base T.C_Blocks T.C_Calls T.C_Builder T.C_Asker 1) [.ref b, .int t] H1 Q E0 := by
  have ll : (is.map V.int).length = is.length := List.length_map ..
  have j1 := j.same s
  refine ⟨⟨[b, c, l] ++ cs, [], b, c, l, .ref x.fb, _, _, z, fun _ H => Lams H x.fb x.fa x.fj, MemS, BlkS, QstS, AnsS, is.map V.int, [], [], .int t, rfl, us_s T (Nat.le_refl _), C0, (fun _ _ z => nomatch z), j1.lx, ⟨t, rfl, t0, t1⟩, by decide, by decide, by omega, fun r evs H2 k2 m2 V2 u2 e2 a1 a2 => ?_⟩⟩
  have s2 : Same H H2 := fun a o e => k2.at_ _ _ (s _ _ e) (not_app (not_cons (ne_of_none e fc.h) (not_cons (ne_of_none e fl.h) not_nil)) not_nil)
  obtain ⟨is2, t2, h1, h2, _, h3⟩ := a2 fun z => ne (List.map_eq_nil_iff.mp z)
  cases h1
  rw [h3, ← map_int_inj h2]
  exact q H2 (j.same s2) s2
theorem J17.mems (j : J17 T cs p H0 z x y is is' es es' H) {Q : VK} (q : ∀ o H1, Fr H o → Same H H1 → H1 o = some (.lst (is.map V.int)) → Q (.ref o) H1) : bx (spMem T.C_Blocks T.C_Calls T.C_Builder T.C_Asker) [.ref x.b] H Q E0 :=
  ⟨⟨cs, x.b, x.c, x.l, _, _, _, z, MemS, BlkS, is.map V.int, es, rfl, j.cx, fun o H1 no s e => q o H1 no s e⟩⟩
theorem J17.logs (j : J17 T cs p H0 z x y is is' es es' H) {Q : VK} (q : ∀ o us H1, Same H H1 → H1 o = some (.lst us) → LogAt [] H1 us es → Q (.ref o) H1) : bx (spLog T.C_Blocks T.C_Calls T.C_Builder T.C_Asker) [.ref x.b] H Q E0 :=
  ⟨⟨cs, x.b, x.c, x.l, _, _, _, z, MemS, BlkS, is.map V.int, es, rfl, j.cx, fun o us H1 no s e l => q o us H1 s e l⟩⟩
theorem J17.szs (j : J17 T cs p H0 z x y is is' es es' H) {Q : VK} (hl : is.length < 800) (q : ∀ o H1, Same H H1 → H1 o = some (.lst (((bns is.length).map List.length).map nV)) → Q (.ref o) H1) : bx (spSz T.C_Blocks T.C_Calls T.C_Builder T.C_Asker) [.ref x.b] H Q E0 := by
  have ll : (is.map V.int).length = is.length := List.length_map ..
  refine ⟨⟨cs, x.b, x.c, x.l, _, _, _, z, MemS, BlkS, is.map V.int, es, rfl, j.cx, by omega, fun o H1 no s e => ?_⟩⟩
  rw [ll] at e
  exact q o H1 s e
end
theorem u16 {k : Nat} {A : Around} (r : Room k A) : A.units + 64 + 16 < cLine := by
  have := r.un
  omega
theorem nd {x y : V} (h : x = y) : (!decide (x = y)) = false := by rw [decide_eq_true h]; rfl
end Ob

set_option Elab.async false
set_option linter.all false
set_option maxRecDepth 100000
set_option maxHeartbeats 1000000
namespace Ob
open PySem PySem.Spec PyProof.Rows L2
open LamX (Tabs TabB TabS ExtN)

set_option hygiene false in
local macro_rules
  | `(tactic| kp_flats) => `(tactic| first
    | assumption
    | exact upd_same
    | (apply atNew; assumption; kp_flats)
    | (apply atNe; (next => kbo_bools); kp_flats)
    | (apply atSame; assumption; kp_flats)
    | (apply atKp; assumption; (next => kaf_pre); kp_flats))
set_option hygiene false in
local macro_rules
  | `(tactic| kaf_pre) => `(tactic| first
    | assumption
    | exact not_nil
    | (apply not_cons; (next => kbo_bools); kaf_pre)
    | (apply not_app; (next => kaf_pre); kaf_pre))
set_option hygiene false in
local macro_rules
  | `(tactic| kbo_bools) => `(tactic| first
    | assumption
    | (apply Ne.symm; assumption)
    | (apply neN; assumption; kp_flats)
    | (apply neN'; assumption; kp_flats))
set_option hygiene false in
local macro_rules
  | `(tactic| o_reads) => `(tactic| first
    | with_reducible rfl
    | assumption
    | rfl
    | kp_flats
    | (show SqL _ _ _ _; first | assumption | (apply sqlOf; kp_flats) | (apply sqlSame; assumption; o_reads))
    | (show SqT _ _ _ _; first | assumption | (apply sqtOf; kp_flats) | (apply sqtAll; assumption) | (apply sqtSame; assumption; o_reads))
    | (show Cls _ _; first | exact T.cl_Calls | exact T.cl_Asker | exact T.cl_Builder | exact T.cl_Blocks | exact T.cl_Version)
    | (show NoAttr _ _ _; first | exact T.n_Calls_entries | exact T.n_Calls_running | exact T.n_Asker_calls | exact T.n_Asker_ask_call | exact T.n_Asker_join_call | exact T.n_Asker_zero | exact T.n_Builder_calls | exact T.n_Builder_build_call | exact T.n_Blocks_calls | exact T.n_Blocks_builder | exact T.n_Blocks_asker | exact T.n_Blocks_held | exact T.n_Blocks_parts | exact T.n_Version_calls | exact T.n_Version_asker | exact T.n_Version_held | exact T.n_Version_parts)
    | (apply Or.inl; o_reads)
    | (apply Or.inr; o_reads)
    | (apply And.intro; (next => o_reads); o_reads)
    | (apply Exists.intro; o_reads)
    | exact Nat.le_of_ble_eq_true rfl
    | exact Nat.succ_ne_zero _
    | (show Fr _ _; kba_ints)
    | (show Same _ _; kd_subs)
    | (show Kp _ _ _; kxs_still)
    | (show (_ : Nat) ≤ _; simp only [List.length_append, List.length_map, List.length_cons, List.length_nil, List.length_take, List.length_drop, List.length_replicate, List.length_range, sizeLine_eq]; omega)
    | (show _ = none; apply Fr.h; kba_ints)
    | (show Bag _ _; first | assumption | (apply bag_putF; assumption; o_reads) | (apply bag_neF; (next => kbo_bools); o_reads) | (apply bag_kpR; assumption; (next => kaf_pre); o_reads))
    | omega
    | decide)
local macro_rules
  | `(tactic| o_readsAll) => `(tactic| repeat (first
    | (refine fun (pNew : Addr) (nNew : _ = none) => ?_; replace nNew := Fr.mk nNew)
    | (refine fun (xNew dNew : Addr) (nNew : _ = none) (mNew : _ = none) (eNew : dNew ≠ xNew) => ?_; replace nNew := Fr.mk nNew; replace mNew := Fr.mk mNew)
    | (apply And.intro; next => o_reads)
    | apply Exists.intro (α := V)
    | apply Exists.intro (α := Addr)
    | apply Exists.intro (α := Int)
    | apply Exists.intro (α := Bool)
    | apply Exists.intro (α := List V)
    | apply Exists.intro (α := List Nat)
    | apply Exists.intro (α := List (Str × V))
    | apply Exists.intro (α := List _)
    | apply Exists.intro (α := Str)
    | apply Exists.intro (α := HO)
    | apply Exists.intro (α := Sp)
    | apply Exists.intro (α := VK)))
set_option hygiene false in
local macro_rules
  | `(tactic| kba_ints) => `(tactic| first
    | assumption
    | (apply frUp; (first | assumption | (apply Ne.symm; assumption)); kba_ints)
    | (apply noneOf; assumption; intro oF eF; apply Exists.intro; kp_flats)
    | (apply frUp; (next => kbo_bools); kba_ints))
set_option hygiene false in
local macro_rules
  | `(tactic| kxs_still) => `(tactic| first
    | assumption
    | exact kp_refl _ _
    | (apply kp_newF; assumption; kxs_still)
    | (apply kp_new; assumption; kxs_still)
    | (apply kp_up; (next => o_fieldsN); kxs_still)
    | (apply kp_new; (next => kba_ints); kxs_still)
    | (apply kp_sameR; assumption; kxs_still)
    | (apply kp_transR; assumption; kxs_still)
    | (apply kp_freshR; assumption; (next => kaf_suf); kxs_still))
set_option hygiene false in
local macro_rules
  | `(tactic| kaf_suf) => `(tactic| first
    | assumption
    | exact subNil
    | (apply subCons; (first | (apply Or.inl; o_fieldsN) | (apply Or.inr; kba_ints)); kaf_suf)
    | (apply subApp; (next => kaf_suf); kaf_suf))
set_option hygiene false in
local macro_rules
  | `(tactic| o_fieldsN) => `(tactic| first
    | assumption
    | exact memA
    | (apply memB; o_fieldsN)
    | (apply memL; o_fieldsN)
    | (apply memR; o_fieldsN))
set_option hygiene false in
local macro_rules
  | `(tactic| kd_subs) => `(tactic| first
    | assumption
    | exact Same.refl _
    | (apply same_putF; assumption; kd_subs)
    | (apply same_putG; assumption; kd_subs)
    | (apply same_putF; (next => kba_ints); kd_subs)
    | (apply same_transR; assumption; kd_subs))

open NdefX (TabsN)
set_option pp.maxSteps 900
section
variable {P : Program} {w : World} {K : PySem.W.Frag} {mg : Str → Option Value} {base : Heap}
def spLaw (T : Txt K mg) : Sp := fun vs H Q _ => ∃ (a : Addr) (ns : List Int), vs = [.ref a] ∧ SqL K H a (ns.map V.int) ∧ ns.length ≤ 63 ∧ H T.p_l_pair = some (.tbl #[]) ∧ H T.p_l_of_right = some (.tbl #[]) ∧ ∀ H', Q (.bl true) H'
theorem sqlExt {H H1 : Hp} {a : Addr} {xs : List V} (h : SqL K H a xs) (k : ExtN H H1) : SqL K H1 a xs := by
  rcases h with (h | ⟨o, h⟩) | h
  · exact .inl (.inl (k _ _ h fun _ z => nomatch z))
  · exact .inl (.inr ⟨o, k _ _ h fun _ z => nomatch z⟩)
  · exact .inr h
theorem bag_ext {H H1 : Hp} {p : Addr} (h : Bag H p) (k : ExtN H H1) : Bag H1 p := by
  obtain ⟨g, m, c, e, z⟩ := h
  exact ⟨g, m, c, k _ _ e (fun _ z => nomatch z), z⟩
theorem rp {way : Int} (h0 : 0 ≤ way) (h1 : way < 4) : ∃ d : PyData, (∀ H, Dp K H (zOf way) d) ∧ d.showable = true ∧ d.hasDict = false ∧ d.depth ≤ 64 ∧ d.shown.length ≤ sizeLine ∧ ∀ i : Int, zOf way = .int i → i.natAbs.log2 < 1920 := by
  have : way = 0 ∨ way = 1 ∨ way = 2 ∨ way = 3 := by omega
  rcases this with rfl | rfl | rfl | rfl
  · exact ⟨.none, fun _ => .non, by decide +kernel, by decide +kernel, by decide +kernel, by decide +kernel, fun i e => nomatch e⟩
  · exact ⟨.int 1, fun _ => .int 1, by decide +kernel, by decide +kernel, by decide +kernel, by decide +kernel, fun i e => by
      cases e
      decide +kernel⟩
  · exact ⟨.int 2, fun _ => .int 2, by decide +kernel, by decide +kernel, by decide +kernel, by decide +kernel, fun i e => by
      cases e
      decide +kernel⟩
  · exact ⟨.int 3, fun _ => .int 3, by decide +kernel, by decide +kernel, by decide +kernel, by decide +kernel, fun i e => by
      cases e
      decide +kernel⟩
theorem ok_law (T : Txt K mg) (TB : LamX.TabB base mg T.c_l_pair T.p_l_pair) (TB2 : LamX.TabB base mg T.c_l_of_right T.p_l_of_right) {f : Addr} {d : FuncData} (F : Fun K "law" "law" s_law f d) : Inf.FnOkG P w K mg base CX0 40 f d ["_law_script"] (spLaw T) := by
  have G_l_bag := ok_bag (P := P) (w := w) (base := base) T
  have G_l_take := ok_takeK (P := P) (w := w) (base := base) T
  have G_l_pair := fnBx (ok_pair (P := P) (w := w) (base := base) T TB)
  have G_l_of_right := fnBx (ok_of_right (P := P) (w := w) (base := base) T TB2)
  have G_Blocks_query := fnBx (ok_qry (P := P) (w := w) (base := base) (n := 1) T)
  have G_Blocks_add := fnBx (ok_add (P := P) (w := w) (base := base) (n := 1) T)
  have G_Blocks_log := fnBx (ok_log (P := P) (w := w) (base := base) T)
  have G_Blocks_members := fnBx (ok_mem (P := P) (w := w) (base := base) T)
  have G_Blocks_sizes := fnBx (ok_sz (P := P) (w := w) (base := base) T)
  have G_Blocks_version := fnBx (ok_version (P := P) (w := w) (base := base) T)
  have G_Blocks_branch := fnBx (ok_branch (P := P) (w := w) (base := base) T)
  have G_Version_query := fnBx (ok_vq (P := P) (w := w) (base := base) (n := 1) T)
  have KB_Blocks_query : KBn K T.d_Blocks_query ["self", "question"] 1 ["question"] (fun us ws => us ++ ws) (fun vs zs => vs ++ zs) := kb_of T.F_Blocks_query (fun kV doc pm an cdv ct us ws l1 l2 => match us, ws, l1, l2 with | [_], [_], _, _ => rfl) fun a b => a.append b
  have KB_Version_query : KBn K T.d_Version_query ["self", "question"] 1 ["question"] (fun us ws => us ++ ws) (fun vs zs => vs ++ zs) := kb_of T.F_Version_query (fun kV doc pm an cdv ct us ws l1 l2 => match us, ws, l1, l2 with | [_], [_], _, _ => rfl) fun a b => a.append b
  have KB_Blocks_add : KBn K T.d_Blocks_add ["self", "member"] 1 ["member"] (fun us ws => us ++ ws) (fun vs zs => vs ++ zs) := kb_of T.F_Blocks_add (fun kV doc pm an cdv ct us ws l1 l2 => match us, ws, l1, l2 with | [_], [_], _, _ => rfl) fun a b => a.append b
  refine Inf.okG F sc_law (fun vs H Q E h => ?_) (fun cdv A outer s H vs Q E hG hr h => ?_)
  · obtain ⟨a, ns, rfl, _⟩ := h
    rfl
  · obtain ⟨a, ns, rfl, hS, hlen, ht, ht2, q⟩ := h
    refine ⟨_, (pss_cons (ps_for PassesOwn.never rfl (pi_range1 (by rfl) T.z_range (pa_cons (pe_op op_add pe_int (pe_callB (call_min2 rfl) (by rfl) T.z_min (by decide +kernel) (pa_cons pe_int (pa_cons (pe_callB call_len_seq (by rfl) T.z_len (by decide +kernel) (pa_cons (pv 0) pa_nil)) pa_nil)))) pa_nil)) (pg_name (i := 1) sc_law.nd rfl (.inl rfl)) (pss_cons (ps_set (i := 2) sc_law.nd rfl (.inl rfl) (pe_call G_l_bag (hr.mono (by omega)) rfl T.g_l_bag T.F_l_bag.kp T.b_l_bag .nil pass0 (pa_cons (pv 0) (pa_cons (pv 1) pa_nil))))
        (pss_cons (ps_asg (pe_call G_l_pair (hr.mono (by omega)) rfl T.g_l_pair T.F_l_pair.kp T.b_l_pair .nil pass0 (pa_cons (pe_call G_l_take (hr.mono (by omega)) rfl T.g_l_take T.F_l_take.kp T.b_l_take .nil pass0 (pa_cons (pv 2) (pa_cons pe_int pa_nil))) pa_nil)) (pg_tup (by rfl) (pgs_cons (pg_name (i := 3) sc_law.nd rfl (.inl rfl)) (pgs_cons (pg_name (i := 4) sc_law.nd rfl (.inl rfl)) (pgs_cons (pg_name (i := 5) sc_law.nd rfl (.inl rfl)) pgs_nil)))))
        (pss_cons (ps_if (PW.pt (pw_or (pt_cmpR op_ne (pe_callB (Inf.call_reprD hG (u16 hr)) (by rfl) T.z_repr (by decide +kernel) (pa_cons (pe_meth (pv 3) T.cl_Blocks ⟨T.m_Blocks_query, T.t_Blocks_query, T.k_Blocks_query⟩ G_Blocks_query (hr.mono (by omega)) T.b_Blocks_query .nil pass0 (pa_cons pe_int pa_nil)) pa_nil)) (pe_callB (Inf.call_reprD hG (u16 hr)) (by rfl) T.z_repr (by decide +kernel) (pa_cons (pv 5) pa_nil)) (nomark _)) (pw_or1 (pt_cmpR op_ne (pe_callB (Inf.call_reprD hG (u16 hr)) (by rfl) T.z_repr (by decide +kernel) (pa_cons (Inf.pe_methK0 (pv 4) T.cl_Blocks ⟨T.m_Blocks_query, T.t_Blocks_query, T.k_Blocks_query⟩ G_Blocks_query (hr.mono (by omega)) KB_Blocks_query pass0 (pk_cons pe_int pk_nil)) pa_nil)) (pe_callB (Inf.call_reprD hG (u16 hr)) (by rfl) T.z_repr (by decide +kernel) (pa_cons (pv 5) pa_nil)) (nomark _))))) (pss_one (ps_ret pe_bl)) pss_nil)
        (pss_cons (ps_for PassesOwn.never rfl (pi_range1 (by rfl) T.z_range (pa_cons (pe_call G_l_take (hr.mono (by omega)) rfl T.g_l_take T.F_l_take.kp T.b_l_take .nil pass0 (pa_cons (pv 2) (pa_cons pe_int pa_nil))) pa_nil)) (pg_name (i := 6) sc_law.nd rfl (.inl rfl)) (pss_cons (ps_par (i := 7) (j := 8) (by rfl) sc_law.nd rfl rfl (by decide) rfl rfl (pa_cons (pe_call G_l_take (hr.mono (by omega)) rfl T.g_l_take T.F_l_take.kp T.b_l_take .nil pass0 (pa_cons (pv 2) (pa_cons pe_int pa_nil))) (pa_cons (pe_call G_l_take (hr.mono (by omega)) rfl T.g_l_take T.F_l_take.kp T.b_l_take .nil pass0 (pa_cons (pv 2) (pa_cons pe_int pa_nil))) pa_nil)) (by rfl))
          (pss_cons (ps_if (PW.pt (pw_or (pt_cmpR op_ne (pe_meth (pv 3) T.cl_Blocks ⟨T.m_Blocks_add, T.t_Blocks_add, T.k_Blocks_add⟩ G_Blocks_add (hr.mono (by omega)) T.b_Blocks_add .nil pass0 (pa_cons (pv 7) pa_nil)) (Inf.pe_methK0 (pv 4) T.cl_Blocks ⟨T.m_Blocks_add, T.t_Blocks_add, T.k_Blocks_add⟩ G_Blocks_add (hr.mono (by omega)) KB_Blocks_add pass0 (pk_cons (pv 7) pk_nil)) (nomark _)) (pw_or1 (pt_cmpR op_ne (pe_meth (pv 3) T.cl_Blocks ⟨T.m_Blocks_query, T.t_Blocks_query, T.k_Blocks_query⟩ G_Blocks_query (hr.mono (by omega)) T.b_Blocks_query .nil pass0 (pa_cons (pv 8) pa_nil)) (Inf.pe_methK0 (pv 4) T.cl_Blocks ⟨T.m_Blocks_query, T.t_Blocks_query, T.k_Blocks_query⟩ G_Blocks_query (hr.mono (by omega)) KB_Blocks_query pass0 (pk_cons (pv 8) pk_nil)) (nomark _))))) (pss_one (ps_ret pe_bl)) pss_nil)
          (pss_cons (ps_if (PW.pt (pw_or (pt_cmpR (op_neD hr.units) (pe_meth0 (pv 3) T.cl_Blocks ⟨T.m_Blocks_log, T.t_Blocks_log, T.k_Blocks_log⟩ G_Blocks_log (hr.mono (by omega)) T.b_Blocks_log .nil pass0) (pe_meth0 (pv 4) T.cl_Blocks ⟨T.m_Blocks_log, T.t_Blocks_log, T.k_Blocks_log⟩ G_Blocks_log (hr.mono (by omega)) T.b_Blocks_log .nil pass0) (nomark _)) (pw_or (pt_cmpR (op_neD hr.units) (pe_meth0 (pv 3) T.cl_Blocks ⟨T.m_Blocks_members, T.t_Blocks_members, T.k_Blocks_members⟩ G_Blocks_members (hr.mono (by omega)) T.b_Blocks_members .nil pass0) (pe_meth0 (pv 4) T.cl_Blocks ⟨T.m_Blocks_members, T.t_Blocks_members, T.k_Blocks_members⟩ G_Blocks_members (hr.mono (by omega)) T.b_Blocks_members .nil pass0) (nomark _)) (pw_or1 (pt_cmpR (op_neD hr.units) (pe_meth0 (pv 3) T.cl_Blocks ⟨T.m_Blocks_sizes, T.t_Blocks_sizes, T.k_Blocks_sizes⟩ G_Blocks_sizes (hr.mono (by omega)) T.b_Blocks_sizes .nil pass0) (pe_meth0 (pv 4) T.cl_Blocks ⟨T.m_Blocks_sizes, T.t_Blocks_sizes, T.k_Blocks_sizes⟩ G_Blocks_sizes (hr.mono (by omega)) T.b_Blocks_sizes .nil pass0) (nomark _)))))) (pss_one (ps_ret pe_bl)) pss_nil)
          (pss_one (ps_if (pt_cmpR op_ne (Inf.pe_methK0 (pe_meth0 (pv 3) T.cl_Blocks ⟨T.m_Blocks_version, T.t_Blocks_version, T.k_Blocks_version⟩ G_Blocks_version (hr.mono (by omega)) T.b_Blocks_version .nil pass0) T.cl_Version ⟨T.m_Version_query, T.t_Version_query, T.k_Version_query⟩ G_Version_query (hr.mono (by omega)) KB_Version_query pass0 (pk_cons (pv 8) pk_nil)) (pe_meth (pe_meth0 (pv 4) T.cl_Blocks ⟨T.m_Blocks_branch, T.t_Blocks_branch, T.k_Blocks_branch⟩ G_Blocks_branch (hr.mono (by omega)) T.b_Blocks_branch .nil pass0) T.cl_Blocks ⟨T.m_Blocks_query, T.t_Blocks_query, T.k_Blocks_query⟩ G_Blocks_query (hr.mono (by omega)) T.b_Blocks_query .nil pass0 (pa_cons (pv 8) pa_nil)) (nomark _)) (pss_one (ps_ret pe_bl)) pss_nil))))))
        (pss_one (ps_if (pt_not (pt_val (pe_call G_l_of_right (hr.mono (by omega)) rfl T.g_l_of_right T.F_l_of_right.kp T.b_l_of_right .nil pass0 (pa_cons (pe_meth0 (pv 3) T.cl_Blocks ⟨T.m_Blocks_members, T.t_Blocks_members, T.k_Blocks_members⟩ G_Blocks_members (hr.mono (by omega)) T.b_Blocks_members .nil pass0) (pa_cons (pe_call G_l_take (hr.mono (by omega)) rfl T.g_l_take T.F_l_take.kp T.b_l_take .nil pass0 (pa_cons (pv 2) (pa_cons pe_int pa_nil))) pa_nil))))) (pss_one (ps_ret pe_bl)) pss_nil)))))))
      (pss_one (ps_ret pe_bl))), ?_⟩
    have tb : TabsN (TT T) H := fun p hp => by
      rcases List.mem_cons.mp hp with e | hp
      · rw [e]
        exact NdefX.TabN.nil ht
      · rw [List.mem_singleton.mp hp]
        exact NdefX.TabN.nil ht2
    refine ⟨_, rfl, a, _, rfl, .inl hS, 3, _, rfl, _, _, rfl, rfl, _, rfl, ?_, ?_, ?_⟩
    · split <;> omega
    · split <;> omega
    generalize hN : ((1 : Int) + (if (((ns.map V.int).length : Nat) : Int) < 3 then (((ns.map V.int).length : Nat) : Int) else 3)).toNat = N
    have hN2 : N ≤ 5 := by
      rw [← hN]
      split <;> omega
    refine for_range (fun i σ H' => ∃ y1 y2 y3 y4 y5 y6 y7 y8, σ = [some (.ref a), y1, y2, y3, y4, y5, y6, y7, y8] ∧ Go T H H') ⟨_, _, _, _, _, _, _, _, rfl, ⟨ExtN.refl _, (fun _ e => e), tb⟩⟩ ?_ ?_
    · rintro i σ H' hi ⟨y1, y2, y3, y4, y5, y6, y7, y8, rfl, g1⟩
      have hS1 := sqlExt hS g1.ext
      refine ⟨_, rfl, _, rfl, a, ns, i, by rw [Int.zero_add]; rfl, hS1, by omega, fun p H2 np s2 b2 => ?_⟩
      replace np := Fr.mk np
      refine ⟨_, rfl, p, 4, rfl, b2, by decide, by decide, fun way H3 w0 w1 b3 k3 => ⟨⟨way, rfl, ?_, fun t x y H4 g4 f4 d4 n4 lx ly et hcoll => ?_⟩⟩⟩
      · exact (Go.same g1.tb (fun a o e => k3.at_ _ _ (s2 _ _ e) (not_cons (ne_of_none e np.h) not_nil))).tb
      have s3 : Same H' H3 := fun a o e => k3.at_ _ _ (s2 _ _ e) (not_cons (ne_of_none e np.h) not_nil)
      have g3 := Go.same g1.tb s3
      have b4 := bag_ext b3 g4.ext
      obtain ⟨l3, hp3⟩ := bag_lst b3
      obtain ⟨l4, hp4⟩ := bag_lst b4
      have fx : ∀ a ∈ own x ++ own y, a ≠ p := fun a m z => ne_of_none hp3 (f4 a m).h z.symm
      obtain ⟨cx, cy⟩ := hcoll [p] (mu_lst hp3 mu_nil) (mu_lst hp4 mu_nil)
      have j0 : J17 T (own x ++ own y ++ [p]) p H' (zOf way) x y [] [] [] [] H4 := ⟨cx, cy, lx, ly, b4, memR memA, fun m => fx p (memL m) rfl, fun m => fx p (memR m) rfl, d4, n4.app (ntx_lst hp4 ntx_nil), fun a m => (List.mem_append.mp m).elim (fun m => ⟨s3.free (f4 a m).h⟩) (fun m => by rw [List.mem_singleton.mp m]; exact np), g3.trans g4, (fun _ m => nomatch m), fun _ m => nomatch m⟩
      clear cx cy hcoll
      refine ⟨t, _, rfl, sqtOf et, rfl, _, _, rfl, _, _, rfl, _, _, rfl, rfl, ?_⟩
      obtain ⟨dr, dr0, dr1, dr2, dr3, dr4, dr5⟩ := rp (K := K) w0 w1
      obtain ⟨dx1, bu1, k1, h1, q1, hb1⟩ := j0.hb
      refine ⟨_, rfl, x.b, dx1, _, rfl, hb1, rfl, j0.qrys (by decide) (by decide) (by decide) (by decide) fun v1 H5 j5 e5 _ => ⟨v1, dr, rfl, by rw [e5 rfl]; exact dr0 _, dr1, dr2, dr3, dr4, by rw [e5 rfl]; exact dr5, _, rfl, _, dr, rfl, dr0 _, dr1, dr2, dr3, dr4, dr5, rfl, _, rfl, ifF (nd rfl) ?_⟩⟩
      obtain ⟨dx2, bu2, k2, h2, q2, hb2⟩ := j5.swap.hb
      refine ⟨_, rfl, y.b, dx2, _, rfl, hb2, rfl, rfl, rfl, j5.swap.qrys (by decide) (by decide) (by decide) (by decide) fun v2 H6 j6 e6 _ => ⟨v2, dr, rfl, by rw [e6 rfl]; exact dr0 _, dr1, dr2, dr3, dr4, by rw [e6 rfl]; exact dr5, _, rfl, _, dr, rfl, dr0 _, dr1, dr2, dr3, dr4, dr5, rfl, _, rfl, ?_⟩⟩
      refine ifF (nd rfl) ?_
      have j7 := j6.swap
      clear j0 j5 j6
      have les : (([] : List Ent) ++ qents 0 (bns ([] : List Int).length)).length ≤ 0 := by
        have h := qents_len 0 (bns 0)
        rw [show bns 0 = [] from bns_zero] at h
        rw [List.nil_append, show bns ([] : List Int).length = [] from bns_zero]
        exact h
      refine ⟨_, rfl, p, 21, rfl, j7.bag, by decide, by decide, fun tm H7 v0 v1 b7 k7 => ?_⟩
      have j8 := j7.take k7 b7
      clear j7
      generalize ([] : List Ent) ++ qents 0 (bns ([] : List Int).length) = es0 at j8 les
      refine ⟨tm, rfl, by omega, by omega, ?_⟩
      have htm : tm.toNat ≤ 20 := by omega
      refine for_range (n := tm.toNat) (fun t' σ H' => ∃ z6 z7 z8 is es, σ = [some (.ref a), some (.int (0 + (i : Int))), some (.ref p), some (.ref x.b), some (.ref y.b), some (zOf way), z6, z7, z8] ∧ J17 T (own x ++ own y ++ [p]) p _ (zOf way) x y is is es es H' ∧ is.length = t' ∧ es.length ≤ 60 * t') ⟨_, _, _, [], es0, rfl, j8, rfl, les⟩ ?_ ?_
      · rintro t' σ H9 ht' ⟨z6, z7, z8, is, es, rfl, j9, lis, lse⟩
        refine ⟨_, rfl, p, 100, rfl, j9.bag, by decide, by decide, fun v HA va vb bA kA => ⟨_, rfl, p, 100, rfl, bA, by decide, by decide, fun tp HB ta tc bB kB => ⟨_, _, rfl, ?_⟩⟩⟩
        have jB := (j9.take kA bA).take kB bB
        clear j9
        have ne : is ++ [v] ≠ [] := fun z => nomatch (List.append_eq_nil_iff.mp z).2
        have l1 : (is ++ [v]).length = t' + 1 := by
          rw [List.length_append, lis]
          rfl
        have lE : (es ++ [Ent.build (lastNs is.length)] ++ qents 0 (bns (is ++ [v]).length)).length ≤ 60 * (t' + 1) := by
          have h1 := qents_len 0 (bns (is ++ [v]).length)
          have h2 := bl_len (is ++ [v]).length
          rw [bns_len] at h1
          rw [List.length_append, List.length_append]
          show es.length + 1 + _ ≤ _
          omega
        have lE0 : (es ++ [Ent.build (lastNs is.length)]).length < 80000 := by
          rw [List.length_append]
          show es.length + 1 < _
          omega
        obtain ⟨dx3, bu3, k3', h3, q3, hb3⟩ := jB.hb
        refine ⟨_, rfl, x.b, _, _, rfl, hb3, rfl, _, rfl, jB.adds va vb (by omega) (by omega) fun HC jC => ?_⟩
        obtain ⟨dx4, bu4, k4', h4, q4, hb4⟩ := jC.swap.hb
        refine ⟨_, rfl, y.b, _, _, rfl, hb4, rfl, _, rfl, rfl, rfl, jC.swap.adds va vb (by omega) (by omega) fun HD jD => ⟨rfl, _, rfl, ifF (nd rfl) ?_⟩⟩
        have jE := jD.swap
        clear jB jC jD
        obtain ⟨dx5, bu5, k5', h5, q5, hb5⟩ := jE.hb
        refine ⟨_, rfl, x.b, _, _, rfl, hb5, rfl, _, rfl, jE.qrys ta tc (by omega) lE0 fun r1 HF jF _ e1 => ?_⟩
        obtain rfl := e1 ne
        obtain ⟨dx6, bu6, k6', h6, q6, hb6⟩ := jF.swap.hb
        refine ⟨_, rfl, y.b, _, _, rfl, hb6, rfl, _, rfl, rfl, rfl, jF.swap.qrys ta tc (by omega) lE0 fun r2 HG jG _ e2 => ?_⟩
        obtain rfl := e2 ne
        refine ⟨rfl, _, rfl, ?_⟩
        refine ifF (nd rfl) ?_
        have jH := jG.swap
        clear jE jF jG
        generalize es ++ [Ent.build (lastNs is.length)] ++ qents 0 (bns (is ++ [v]).length) = E9 at jH lE
        obtain ⟨dx7, bu7, k7', h7, q7, hb7⟩ := jH.hb
        refine ⟨_, rfl, x.b, _, _, rfl, hb7, rfl, jH.logs fun o1 us1 HI s1 eo1 lg1 => ?_⟩
        have jI := jH.same s1
        obtain ⟨dx8, bu8, k8', h8, q8, hb8⟩ := jI.swap.hb
        refine ⟨_, rfl, y.b, _, _, rfl, hb8, rfl, jI.swap.logs fun o2 us2 HJ s2' eo2 lg2 => ⟨_, _, .lst (sqlOf (s2' _ _ eo1)) (dp_ents (lg1.same s2')), .lst (sqlOf eo2) (dp_ents lg2), sh_ents _, sh_ents _, _, rfl, ifF (eq_ents _) ?_⟩⟩
        have jJ := jI.same s2'
        clear jH jI
        obtain ⟨dx9, bu9, k9', h9, q9, hb9⟩ := jJ.hb
        refine ⟨_, rfl, x.b, _, _, rfl, hb9, rfl, jJ.mems fun o3 HK _ s3' eo3 => ?_⟩
        have jK := jJ.same s3'
        obtain ⟨dxa, bua, ka', ha, qa, hba⟩ := jK.swap.hb
        refine ⟨_, rfl, y.b, _, _, rfl, hba, rfl, jK.swap.mems fun o4 HL _ s4' eo4 => ⟨_, _, .lst (sqlOf (s4' _ _ eo3)) (dps_int _), .lst (sqlOf eo4) (dps_int _), sh_int _, sh_int _, _, rfl, ifF (eq_int _) ?_⟩⟩
        have jL := jK.same s4'
        clear jJ jK
        obtain ⟨dxb, bub, kb', hb, qb, hbb⟩ := jL.hb
        refine ⟨_, rfl, x.b, _, _, rfl, hbb, rfl, jL.szs (by omega) fun o5 HM s5' eo5 => ?_⟩
        have jM := jL.same s5'
        obtain ⟨dxc, buc, kc', hc, qc, hbc⟩ := jM.swap.hb
        refine ⟨_, rfl, y.b, _, _, rfl, hbc, rfl, jM.swap.szs (by omega) fun o6 HN s6' eo6 => ?_⟩
        rw [natV] at eo5 eo6
        refine ⟨_, _, .lst (sqlOf (s6' _ _ eo5)) (dps_int _), .lst (sqlOf eo6) (dps_int _), sh_int _, sh_int _, _, rfl, ?_⟩
        refine ifF (eq_int _) ?_
        have jN := jM.same s6'
        clear jL jM
        obtain ⟨dxd, bud, kd', hd, qd, hbd⟩ := jN.hb
        refine ⟨_, rfl, x.b, _, _, rfl, hbd, rfl, jN.vers fun v0 c0 l0 HV sv fv fc fl V0 => ?_⟩
        obtain ⟨dxv, kv, hv', pv', hv⟩ := V0.v_at
        refine ⟨v0, dxv, _, rfl, hv, rfl, _, rfl, rfl, rfl, jN.verq sv fc fl V0 ta tc (by omega) ne fun HW jW sW => ?_⟩
        clear jN V0
        obtain ⟨dxe, bue, ke', he, qe, hbe⟩ := jW.swap.hb
        refine ⟨_, rfl, y.b, _, _, rfl, hbe, rfl, jW.swap.brs fun b0 c1 l1' HX sx fb' fc' fl' C0 => ?_⟩
        obtain ⟨dxf, buf, kf', hf', qf, hbf⟩ := C0.b_at
        refine ⟨b0, dxf, _, rfl, hbf, rfl, _, rfl, jW.swap.brq sx fc' fl' C0 ta tc (by omega) ne fun HY jY sY => ⟨rfl, _, rfl, ?_⟩⟩
        refine ifF (nd rfl) ?_
        exact ⟨_, _, _, is ++ [v], E9, rfl, jY.swap, l1, lE⟩
      · rintro σ H9 ⟨z6, z7, z8, is, es, rfl, j9, lis, lse⟩
        obtain ⟨dx3, bu3, k3', h3, q3, hb3⟩ := j9.hb
        refine ⟨_, rfl, x.b, _, _, rfl, hb3, rfl, j9.mems fun o HA no sA eo => ?_⟩
        have jA := j9.same sA
        have npo : o ≠ p := by
          obtain ⟨l9, hp9⟩ := bag_lst j9.bag
          exact (neN no hp9).symm
        refine ⟨_, rfl, p, 100, rfl, jA.bag, by decide, by decide, fun tp HB ta tc bB kB => ?_⟩
        have jB := jA.take kB bB
        refine ⟨⟨o, is, tp, rfl, kB.at_ _ _ eo (not_cons npo not_nil), jB.sx, by omega, ta, tc, jB.go.tb, fun HC gC => ?_⟩⟩
        refine ⟨_, rfl, ifF rfl ?_⟩
        exact ⟨_, _, _, _, _, _, _, _, rfl, g1.trans (jB.go.trans gC)⟩
    · rintro σ H' ⟨y1, y2, y3, y4, y5, y6, y7, y8, rfl, g1⟩
      o_readsAll
      exact q _
end
end Ob

set_option Elab.async false
set_option linter.all false
set_option maxRecDepth 100000
set_option maxHeartbeats 1000000
namespace Ob
open PySem PySem.Spec PyProof.Rows L2
open LamX (Tabs TabB TabS ExtN)

set_option hygiene false in
local macro_rules
  | `(tactic| kp_flats) => `(tactic| first
    | assumption
    | exact upd_same
    | (apply atNew; assumption; kp_flats)
    | (apply atNe; (next => kbo_bools); kp_flats)
    | (apply atSame; assumption; kp_flats)
    | (apply atKp; assumption; (next => kaf_pre); kp_flats))
set_option hygiene false in
local macro_rules
  | `(tactic| kaf_pre) => `(tactic| first
    | assumption
    | exact not_nil
    | (apply not_cons; (next => kbo_bools); kaf_pre)
    | (apply not_app; (next => kaf_pre); kaf_pre))
set_option hygiene false in
local macro_rules
  | `(tactic| kbo_bools) => `(tactic| first
    | assumption
    | (apply Ne.symm; assumption)
    | (apply neN; assumption; kp_flats)
    | (apply neN'; assumption; kp_flats))
set_option hygiene false in
local macro_rules
  | `(tactic| o_reads) => `(tactic| first
    | with_reducible rfl
    | assumption
    | rfl
    | kp_flats
    | (show SqL _ _ _ _; first | assumption | (apply sqlOf; kp_flats) | (apply sqlSame; assumption; o_reads))
    | (show SqT _ _ _ _; first | assumption | (apply sqtOf; kp_flats) | (apply sqtAll; assumption) | (apply sqtSame; assumption; o_reads))
    | (show Cls _ _; first | exact T.cl_Calls | exact T.cl_Asker | exact T.cl_Builder | exact T.cl_Blocks | exact T.cl_Version)
    | (show NoAttr _ _ _; first | exact T.n_Calls_entries | exact T.n_Calls_running | exact T.n_Asker_calls | exact T.n_Asker_ask_call | exact T.n_Asker_join_call | exact T.n_Asker_zero | exact T.n_Builder_calls | exact T.n_Builder_build_call | exact T.n_Blocks_calls | exact T.n_Blocks_builder | exact T.n_Blocks_asker | exact T.n_Blocks_held | exact T.n_Blocks_parts | exact T.n_Version_calls | exact T.n_Version_asker | exact T.n_Version_held | exact T.n_Version_parts)
    | (apply Or.inl; o_reads)
    | (apply Or.inr; o_reads)
    | (apply And.intro; (next => o_reads); o_reads)
    | (apply Exists.intro; o_reads)
    | exact Nat.le_of_ble_eq_true rfl
    | exact Nat.succ_ne_zero _
    | (show Fr _ _; kba_ints)
    | (show Same _ _; kd_subs)
    | (show Kp _ _ _; kxs_still)
    | (show (_ : Nat) ≤ _; simp only [List.length_append, List.length_map, List.length_cons, List.length_nil, List.length_take, List.length_drop, List.length_replicate, List.length_range, sizeLine_eq]; omega)
    | (show _ = none; apply Fr.h; kba_ints)
    | (show Bag _ _; first | assumption | (apply bag_putF; assumption; o_reads) | (apply bag_neF; (next => kbo_bools); o_reads) | (apply bag_kpR; assumption; (next => kaf_pre); o_reads))
    | omega
    | decide)
local macro_rules
  | `(tactic| o_readsAll) => `(tactic| repeat (first
    | (refine fun (pNew : Addr) (nNew : _ = none) => ?_; replace nNew := Fr.mk nNew)
    | (refine fun (xNew dNew : Addr) (nNew : _ = none) (mNew : _ = none) (eNew : dNew ≠ xNew) => ?_; replace nNew := Fr.mk nNew; replace mNew := Fr.mk mNew)
    | (apply And.intro; next => o_reads)
    | apply Exists.intro (α := V)
    | apply Exists.intro (α := Addr)
    | apply Exists.intro (α := Int)
    | apply Exists.intro (α := Bool)
    | apply Exists.intro (α := List V)
    | apply Exists.intro (α := List Nat)
    | apply Exists.intro (α := List (Str × V))
    | apply Exists.intro (α := List _)
    | apply Exists.intro (α := Str)
    | apply Exists.intro (α := HO)
    | apply Exists.intro (α := Sp)
    | apply Exists.intro (α := VK)))
set_option hygiene false in
local macro_rules
  | `(tactic| kba_ints) => `(tactic| first
    | assumption
    | (apply frUp; (first | assumption | (apply Ne.symm; assumption)); kba_ints)
    | (apply noneOf; assumption; intro oF eF; apply Exists.intro; kp_flats)
    | (apply frUp; (next => kbo_bools); kba_ints))
set_option hygiene false in
local macro_rules
  | `(tactic| kxs_still) => `(tactic| first
    | assumption
    | exact kp_refl _ _
    | (apply kp_newF; assumption; kxs_still)
    | (apply kp_new; assumption; kxs_still)
    | (apply kp_up; (next => o_fieldsN); kxs_still)
    | (apply kp_new; (next => kba_ints); kxs_still)
    | (apply kp_sameR; assumption; kxs_still)
    | (apply kp_transR; assumption; kxs_still)
    | (apply kp_freshR; assumption; (next => kaf_suf); kxs_still))
set_option hygiene false in
local macro_rules
  | `(tactic| kaf_suf) => `(tactic| first
    | assumption
    | exact subNil
    | (apply subCons; (first | (apply Or.inl; o_fieldsN) | (apply Or.inr; kba_ints)); kaf_suf)
    | (apply subApp; (next => kaf_suf); kaf_suf))
set_option hygiene false in
local macro_rules
  | `(tactic| o_fieldsN) => `(tactic| first
    | assumption
    | exact memA
    | (apply memB; o_fieldsN)
    | (apply memL; o_fieldsN)
    | (apply memR; o_fieldsN))
set_option hygiene false in
local macro_rules
  | `(tactic| kd_subs) => `(tactic| first
    | assumption
    | exact Same.refl _
    | (apply same_putF; assumption; kd_subs)
    | (apply same_putG; assumption; kd_subs)
    | (apply same_putF; (next => kba_ints); kd_subs)
    | (apply same_transR; assumption; kd_subs))

open NdefX (TabsN)
set_option pp.maxSteps 700
theorem all_mk {QQ : Program} {l : PySem.W.OpenLaw} {w : World} {K : PySem.W.Frag} {h : Heap} {mg : Str → Option Value} {fa : Addr} (X : K.In h) (G : h.Ns mainGlobals mg) (hfa : mg "law" = some (.ref fa)) (tt : Inf.TopTabs QQ K mg h)
    {C_Calls : Addr} {C_Asker : Addr} {C_Builder : Addr} {C_Blocks : Addr} {C_Version : Addr} {a0 : Addr} {oc0 kV0 dc0 pm0 ct0 : Value} {od0 an0 : Option Addr} {sl0 : Array (Option Value)} {cd0 : Value} {a1 : Addr} {oc1 kV1 dc1 pm1 ct1 : Value} {od1 an1 : Option Addr} {sl1 : Array (Option Value)} {cd1 : Value} {dT1 dE1 : Addr} {oT1 : Value} {pT1 pE1 : Option Addr} {nT1 nE1 : Nat} {sT1 sE1 : Array (Option Value)} {a2 : Addr} {oc2 kV2 dc2 pm2 ct2 : Value} {od2 an2 : Option Addr} {sl2 : Array (Option Value)} {cd2 : Value} {a3 : Addr} {oc3 kV3 dc3 pm3 ct3 : Value} {od3 an3 : Option Addr} {sl3 : Array (Option Value)} {cd3 : Value} {dT3 dE3 : Addr} {oT3 : Value} {pT3 pE3 : Option Addr} {nT3 nE3 : Nat} {sT3 sE3 : Array (Option Value)} {a4 : Addr} {oc4 kV4 dc4 pm4 ct4 : Value} {od4 an4 : Option Addr} {sl4 : Array (Option Value)} {cd4 : Value} {dT4 dE4 : Addr} {oT4 : Value} {pT4 pE4 : Option Addr} {nT4 nE4 : Nat} {sT4 sE4 : Array (Option Value)} {a5 : Addr} {oc5 kV5 dc5 pm5 ct5 : Value} {od5 an5 : Option Addr} {sl5 : Array (Option Value)} {cd5 : Value} {dT5 dE5 : Addr} {oT5 : Value} {pT5 pE5 : Option Addr} {nT5 nE5 : Nat} {sT5 sE5 : Array (Option Value)} {a6 : Addr} {oc6 kV6 dc6 pm6 ct6 : Value} {od6 an6 : Option Addr} {sl6 : Array (Option Value)} {cd6 : Value} {a7 : Addr} {oc7 kV7 dc7 pm7 ct7 : Value} {od7 an7 : Option Addr} {sl7 : Array (Option Value)} {cd7 : Value} {a8 : Addr} {oc8 kV8 dc8 pm8 ct8 : Value} {od8 an8 : Option Addr} {sl8 : Array (Option Value)} {cd8 : Value} {a9 : Addr} {kd9 : Addr} {oc9 dc9 pm9 ct9 : Value} {od9 an9 : Option Addr} {sl9 : Array (Option Value)} {cd9 : Value} {a10 : Addr} {pc10 : Addr} {rl10 : List Value} {kd10 : Addr} {oc10 dc10 pm10 ct10 : Value} {od10 an10 : Option Addr} {sl10 : Array (Option Value)} {cd10 : Value} {a11 : Addr} {oc11 kV11 dc11 pm11 ct11 : Value} {od11 an11 : Option Addr} {sl11 : Array (Option Value)} {cd11 : Value} {a12 : Addr} {oc12 kV12 dc12 pm12 ct12 : Value} {od12 an12 : Option Addr} {sl12 : Array (Option Value)} {cd12 : Value} {a13 : Addr} {oc13 kV13 dc13 pm13 ct13 : Value} {od13 an13 : Option Addr} {sl13 : Array (Option Value)} {cd13 : Value} {a14 : Addr} {oc14 kV14 dc14 pm14 ct14 : Value} {od14 an14 : Option Addr} {sl14 : Array (Option Value)} {cd14 : Value} {a15 : Addr} {oc15 kV15 dc15 pm15 ct15 : Value} {od15 an15 : Option Addr} {sl15 : Array (Option Value)} {cd15 : Value} {a16 : Addr} {oc16 kV16 dc16 pm16 ct16 : Value} {od16 an16 : Option Addr} {sl16 : Array (Option Value)} {cd16 : Value} {a17 : Addr} {oc17 kV17 dc17 pm17 ct17 : Value} {od17 an17 : Option Addr} {sl17 : Array (Option Value)} {cd17 : Value} {a18 : Addr} {oc18 kV18 dc18 pm18 ct18 : Value} {od18 an18 : Option Addr} {sl18 : Array (Option Value)} {cd18 : Value} {a19 : Addr} {oc19 kV19 dc19 pm19 ct19 : Value} {od19 an19 : Option Addr} {sl19 : Array (Option Value)} {cd19 : Value} {a20 : Addr} {oc20 kV20 dc20 pm20 ct20 : Value} {od20 an20 : Option Addr} {sl20 : Array (Option Value)} {cd20 : Value} {a21 : Addr} {oc21 kV21 dc21 pm21 ct21 : Value} {od21 an21 : Option Addr} {sl21 : Array (Option Value)} {cd21 : Value} {a22 : Addr} {oc22 kV22 dc22 pm22 ct22 : Value} {od22 an22 : Option Addr} {sl22 : Array (Option Value)} {cd22 : Value} {a23 : Addr} {oc23 kV23 dc23 pm23 ct23 : Value} {od23 an23 : Option Addr} {sl23 : Array (Option Value)} {cd23 : Value} {a24 : Addr} {oc24 kV24 dc24 pm24 ct24 : Value} {od24 an24 : Option Addr} {sl24 : Array (Option Value)} {cd24 : Value} {a25 : Addr} {oc25 kV25 dc25 pm25 ct25 : Value} {od25 an25 : Option Addr} {sl25 : Array (Option Value)} {cd25 : Value} {a26 : Addr} {oc26 kV26 dc26 pm26 ct26 : Value} {od26 an26 : Option Addr} {sl26 : Array (Option Value)} {cd26 : Value} {a27 : Addr} {oc27 kV27 dc27 pm27 ct27 : Value} {od27 an27 : Option Addr} {sl27 : Array (Option Value)} {cd27 : Value} {a28 : Addr} {oc28 kV28 dc28 pm28 ct28 : Value} {od28 an28 : Option Addr} {sl28 : Array (Option Value)} {cd28 : Value} {a29 : Addr} {oc29 kV29 dc29 pm29 ct29 : Value} {od29 an29 : Option Addr} {sl29 : Array (Option Value)} {cd29 : Value} {dT29 dE29 : Addr} {oT29 : Value} {pT29 pE29 : Option Addr} {nT29 nE29 : Nat} {sT29 sE29 : Array (Option Value)} {a30 : Addr} {oc30 kV30 dc30 pm30 ct30 : Value} {od30 an30 : Option Addr} {sl30 : Array (Option Value)} {cd30 : Value} {a31 : Addr} {oc31 kV31 dc31 pm31 ct31 : Value} {od31 an31 : Option Addr} {sl31 : Array (Option Value)} {cd31 : Value} {a32 : Addr} {oc32 kV32 dc32 pm32 ct32 : Value} {od32 an32 : Option Addr} {sl32 : Array (Option Value)} {cc32 pp32 : Addr} {lv32 : Array Value} {lo32 : Value} {ld32 : Option Addr} {ls32 : Array (Option Value)} {a33 : Addr} {oc33 kV33 dc33 pm33 ct33 : Value} {od33 an33 : Option Addr} {sl33 : Array (Option Value)} {cc33 pp33 : Addr} {lv33 : Array Value} {lo33 : Value} {ld33 : Option Addr} {ls33 : Array (Option Value)} {a34 : Addr} {oc34 kV34 dc34 pm34 ct34 : Value} {od34 an34 : Option Addr} {sl34 : Array (Option Value)} {cd34 : Value} {t_GREATEST : Tok}
    (gc_Calls : PySem.W.nsIn K mainGlobals "Calls" = some (some (.ref C_Calls)))
    (gc_Asker : PySem.W.nsIn K mainGlobals "Asker" = some (some (.ref C_Asker)))
    (gc_Builder : PySem.W.nsIn K mainGlobals "Builder" = some (some (.ref C_Builder)))
    (gc_Blocks : PySem.W.nsIn K mainGlobals "Blocks" = some (some (.ref C_Blocks)))
    (gc_Version : PySem.W.nsIn K mainGlobals "Version" = some (some (.ref C_Version)))
    (ma0 : PySem.W.findIn K (.ref C_Asker) "__init__" = some (some (.ref a0)))
    (l0 : K.lookup a0 = some ⟨oc0, od0, .func (PySem.W.fnOf "__init__" "Asker.__init__" (defArgs s_Asker_init) (defBody s_Asker_init) (defScope s_Asker_init) .none kV0 dc0 pm0 an0 cd0 ct0), sl0⟩) (c0 : PySem.W.codeIn K cd0 "Asker.__init__" = true) (k0 : PySem.W.keepIn K (.ref a0) = true)
    (mt0 : PySem.W.isFn K (.ref a0) = true) (my0 : PySem.W.typeIn K (.ref a0) = some (.type "function"))
    (ma1 : PySem.W.findIn K (.ref C_Asker) "answer" = some (some (.ref a1)))
    (l1 : K.lookup a1 = some ⟨oc1, od1, .func (PySem.W.fnOf "answer" "Asker.answer" (defArgs s_Asker_answer) (defBody s_Asker_answer) (defScope s_Asker_answer) (.ref dT1) kV1 dc1 pm1 an1 cd1 ct1), sl1⟩) (c1 : PySem.W.codeIn K cd1 "Asker.answer" = true) (k1 : PySem.W.keepIn K (.ref a1) = true)
    (dl1 : K.lookup dT1 = some ⟨oT1, pT1, .seq (List.toArray [.ref dE1]) nT1, sT1⟩) (de1 : K.lookup dE1 = some ⟨.type "tuple", pE1, .seq (List.toArray []) nE1, sE1⟩)
    (mt1 : PySem.W.isFn K (.ref a1) = true) (my1 : PySem.W.typeIn K (.ref a1) = some (.type "function"))
    (ma2 : PySem.W.findIn K (.ref C_Builder) "__init__" = some (some (.ref a2)))
    (l2 : K.lookup a2 = some ⟨oc2, od2, .func (PySem.W.fnOf "__init__" "Builder.__init__" (defArgs s_Builder_init) (defBody s_Builder_init) (defScope s_Builder_init) .none kV2 dc2 pm2 an2 cd2 ct2), sl2⟩) (c2 : PySem.W.codeIn K cd2 "Builder.__init__" = true) (k2 : PySem.W.keepIn K (.ref a2) = true)
    (mt2 : PySem.W.isFn K (.ref a2) = true) (my2 : PySem.W.typeIn K (.ref a2) = some (.type "function"))
    (ma3 : PySem.W.findIn K (.ref C_Builder) "part" = some (some (.ref a3)))
    (l3 : K.lookup a3 = some ⟨oc3, od3, .func (PySem.W.fnOf "part" "Builder.part" (defArgs s_Builder_part) (defBody s_Builder_part) (defScope s_Builder_part) (.ref dT3) kV3 dc3 pm3 an3 cd3 ct3), sl3⟩) (c3 : PySem.W.codeIn K cd3 "Builder.part" = true) (k3 : PySem.W.keepIn K (.ref a3) = true)
    (dl3 : K.lookup dT3 = some ⟨oT3, pT3, .seq (List.toArray [.ref dE3]) nT3, sT3⟩) (de3 : K.lookup dE3 = some ⟨.type "tuple", pE3, .seq (List.toArray []) nE3, sE3⟩)
    (mt3 : PySem.W.isFn K (.ref a3) = true) (my3 : PySem.W.typeIn K (.ref a3) = some (.type "function"))
    (ma4 : PySem.W.findIn K (.ref C_Builder) "row" = some (some (.ref a4)))
    (l4 : K.lookup a4 = some ⟨oc4, od4, .func (PySem.W.fnOf "row" "Builder.row" (defArgs s_Builder_row) (defBody s_Builder_row) (defScope s_Builder_row) (.ref dT4) kV4 dc4 pm4 an4 cd4 ct4), sl4⟩) (c4 : PySem.W.codeIn K cd4 "Builder.row" = true) (k4 : PySem.W.keepIn K (.ref a4) = true)
    (dl4 : K.lookup dT4 = some ⟨oT4, pT4, .seq (List.toArray [.ref dE4]) nT4, sT4⟩) (de4 : K.lookup dE4 = some ⟨.type "tuple", pE4, .seq (List.toArray []) nE4, sE4⟩)
    (mt4 : PySem.W.isFn K (.ref a4) = true) (my4 : PySem.W.typeIn K (.ref a4) = some (.type "function"))
    (ma5 : PySem.W.findIn K (.ref C_Builder) "grown_row" = some (some (.ref a5)))
    (l5 : K.lookup a5 = some ⟨oc5, od5, .func (PySem.W.fnOf "grown_row" "Builder.grown_row" (defArgs s_Builder_grown_row) (defBody s_Builder_grown_row) (defScope s_Builder_grown_row) (.ref dT5) kV5 dc5 pm5 an5 cd5 ct5), sl5⟩) (c5 : PySem.W.codeIn K cd5 "Builder.grown_row" = true) (k5 : PySem.W.keepIn K (.ref a5) = true)
    (dl5 : K.lookup dT5 = some ⟨oT5, pT5, .seq (List.toArray [.ref dE5]) nT5, sT5⟩) (de5 : K.lookup dE5 = some ⟨.type "tuple", pE5, .seq (List.toArray []) nE5, sE5⟩)
    (mt5 : PySem.W.isFn K (.ref a5) = true) (my5 : PySem.W.typeIn K (.ref a5) = some (.type "function"))
    (ma6 : PySem.W.findIn K (.ref C_Calls) "__init__" = some (some (.ref a6)))
    (l6 : K.lookup a6 = some ⟨oc6, od6, .func (PySem.W.fnOf "__init__" "Calls.__init__" (defArgs s_Calls_init) (defBody s_Calls_init) (defScope s_Calls_init) .none kV6 dc6 pm6 an6 cd6 ct6), sl6⟩) (c6 : PySem.W.codeIn K cd6 "Calls.__init__" = true) (k6 : PySem.W.keepIn K (.ref a6) = true)
    (mt6 : PySem.W.isFn K (.ref a6) = true) (my6 : PySem.W.typeIn K (.ref a6) = some (.type "function"))
    (ma7 : PySem.W.findIn K (.ref C_Calls) "check" = some (some (.ref a7)))
    (l7 : K.lookup a7 = some ⟨oc7, od7, .func (PySem.W.fnOf "check" "Calls.check" (defArgs s_Calls_check) (defBody s_Calls_check) (defScope s_Calls_check) .none kV7 dc7 pm7 an7 cd7 ct7), sl7⟩) (c7 : PySem.W.codeIn K cd7 "Calls.check" = true) (k7 : PySem.W.keepIn K (.ref a7) = true)
    (mt7 : PySem.W.isFn K (.ref a7) = true) (my7 : PySem.W.typeIn K (.ref a7) = some (.type "function"))
    (ma8 : PySem.W.findIn K (.ref C_Calls) "run" = some (some (.ref a8)))
    (l8 : K.lookup a8 = some ⟨oc8, od8, .func (PySem.W.fnOf "run" "Calls.run" (defArgs s_Calls_run) (defBody s_Calls_run) (defScope s_Calls_run) .none kV8 dc8 pm8 an8 cd8 ct8), sl8⟩) (c8 : PySem.W.codeIn K cd8 "Calls.run" = true) (k8 : PySem.W.keepIn K (.ref a8) = true)
    (mt8 : PySem.W.isFn K (.ref a8) = true) (my8 : PySem.W.typeIn K (.ref a8) = some (.type "function"))
    (ma9 : PySem.W.findIn K (.ref C_Blocks) "__init__" = some (some (.ref a9)))
    (l9 : K.lookup a9 = some ⟨oc9, od9, .func (PySem.W.fnOf "__init__" "Blocks.__init__" (defArgs s_Blocks_init) (defBody s_Blocks_init) (defScope s_Blocks_init) .none (.ref kd9) dc9 pm9 an9 cd9 ct9), sl9⟩) (c9 : PySem.W.codeIn K cd9 "Blocks.__init__" = true) (k9 : PySem.W.keepIn K (.ref a9) = true)
    (kw9_0 : PySem.W.nsIn K kd9 "zero" = some (some .none))
    (mt9 : PySem.W.isFn K (.ref a9) = true) (my9 : PySem.W.typeIn K (.ref a9) = some (.type "function"))
    (cf10 : PySem.W.findCls K (.ref C_Blocks) (.type "type") "of" = some (.get (.builtin "classmethod.__get__") (.ref pc10) .none (.ref C_Blocks))) (cc10_ : PySem.W.recIn K pc10 "classmethod" = some (.ref a10 :: rl10)) (ci10 : PySem.W.fnIn K a10 = true) (cd10_ : PySem.W.readsIn K C_Blocks (.type "type") = true) (cg10 : PySem.W.specialIn K (.ref C_Blocks) "__getattribute__" = some (some (.builtin "type.__getattribute__")))
    (l10 : K.lookup a10 = some ⟨oc10, od10, .func (PySem.W.fnOf "of" "Blocks.of" (defArgs s_Blocks_of) (defBody s_Blocks_of) (defScope s_Blocks_of) .none (.ref kd10) dc10 pm10 an10 cd10 ct10), sl10⟩) (c10 : PySem.W.codeIn K cd10 "Blocks.of" = true) (k10 : PySem.W.keepIn K (.ref a10) = true)
    (kw10_0 : PySem.W.nsIn K kd10 "zero" = some (some .none))
    (ma11 : PySem.W.findIn K (.ref C_Blocks) "add" = some (some (.ref a11)))
    (l11 : K.lookup a11 = some ⟨oc11, od11, .func (PySem.W.fnOf "add" "Blocks.add" (defArgs s_Blocks_add) (defBody s_Blocks_add) (defScope s_Blocks_add) .none kV11 dc11 pm11 an11 cd11 ct11), sl11⟩) (c11 : PySem.W.codeIn K cd11 "Blocks.add" = true) (k11 : PySem.W.keepIn K (.ref a11) = true)
    (mt11 : PySem.W.isFn K (.ref a11) = true) (my11 : PySem.W.typeIn K (.ref a11) = some (.type "function"))
    (ma12 : PySem.W.findIn K (.ref C_Blocks) "query" = some (some (.ref a12)))
    (l12 : K.lookup a12 = some ⟨oc12, od12, .func (PySem.W.fnOf "query" "Blocks.query" (defArgs s_Blocks_query) (defBody s_Blocks_query) (defScope s_Blocks_query) .none kV12 dc12 pm12 an12 cd12 ct12), sl12⟩) (c12 : PySem.W.codeIn K cd12 "Blocks.query" = true) (k12 : PySem.W.keepIn K (.ref a12) = true)
    (mt12 : PySem.W.isFn K (.ref a12) = true) (my12 : PySem.W.typeIn K (.ref a12) = some (.type "function"))
    (ma13 : PySem.W.findIn K (.ref C_Blocks) "members" = some (some (.ref a13)))
    (l13 : K.lookup a13 = some ⟨oc13, od13, .func (PySem.W.fnOf "members" "Blocks.members" (defArgs s_Blocks_members) (defBody s_Blocks_members) (defScope s_Blocks_members) .none kV13 dc13 pm13 an13 cd13 ct13), sl13⟩) (c13 : PySem.W.codeIn K cd13 "Blocks.members" = true) (k13 : PySem.W.keepIn K (.ref a13) = true)
    (mt13 : PySem.W.isFn K (.ref a13) = true) (my13 : PySem.W.typeIn K (.ref a13) = some (.type "function"))
    (ma14 : PySem.W.findIn K (.ref C_Blocks) "sizes" = some (some (.ref a14)))
    (l14 : K.lookup a14 = some ⟨oc14, od14, .func (PySem.W.fnOf "sizes" "Blocks.sizes" (defArgs s_Blocks_sizes) (defBody s_Blocks_sizes) (defScope s_Blocks_sizes) .none kV14 dc14 pm14 an14 cd14 ct14), sl14⟩) (c14 : PySem.W.codeIn K cd14 "Blocks.sizes" = true) (k14 : PySem.W.keepIn K (.ref a14) = true)
    (mt14 : PySem.W.isFn K (.ref a14) = true) (my14 : PySem.W.typeIn K (.ref a14) = some (.type "function"))
    (ma15 : PySem.W.findIn K (.ref C_Blocks) "log" = some (some (.ref a15)))
    (l15 : K.lookup a15 = some ⟨oc15, od15, .func (PySem.W.fnOf "log" "Blocks.log" (defArgs s_Blocks_log) (defBody s_Blocks_log) (defScope s_Blocks_log) .none kV15 dc15 pm15 an15 cd15 ct15), sl15⟩) (c15 : PySem.W.codeIn K cd15 "Blocks.log" = true) (k15 : PySem.W.keepIn K (.ref a15) = true)
    (mt15 : PySem.W.isFn K (.ref a15) = true) (my15 : PySem.W.typeIn K (.ref a15) = some (.type "function"))
    (ma16 : PySem.W.findIn K (.ref C_Blocks) "version" = some (some (.ref a16)))
    (l16 : K.lookup a16 = some ⟨oc16, od16, .func (PySem.W.fnOf "version" "Blocks.version" (defArgs s_Blocks_version) (defBody s_Blocks_version) (defScope s_Blocks_version) .none kV16 dc16 pm16 an16 cd16 ct16), sl16⟩) (c16 : PySem.W.codeIn K cd16 "Blocks.version" = true) (k16 : PySem.W.keepIn K (.ref a16) = true)
    (mt16 : PySem.W.isFn K (.ref a16) = true) (my16 : PySem.W.typeIn K (.ref a16) = some (.type "function"))
    (ma17 : PySem.W.findIn K (.ref C_Blocks) "branch" = some (some (.ref a17)))
    (l17 : K.lookup a17 = some ⟨oc17, od17, .func (PySem.W.fnOf "branch" "Blocks.branch" (defArgs s_Blocks_branch) (defBody s_Blocks_branch) (defScope s_Blocks_branch) .none kV17 dc17 pm17 an17 cd17 ct17), sl17⟩) (c17 : PySem.W.codeIn K cd17 "Blocks.branch" = true) (k17 : PySem.W.keepIn K (.ref a17) = true)
    (mt17 : PySem.W.isFn K (.ref a17) = true) (my17 : PySem.W.typeIn K (.ref a17) = some (.type "function"))
    (ma18 : PySem.W.findIn K (.ref C_Version) "__init__" = some (some (.ref a18)))
    (l18 : K.lookup a18 = some ⟨oc18, od18, .func (PySem.W.fnOf "__init__" "Version.__init__" (defArgs s_Version_init) (defBody s_Version_init) (defScope s_Version_init) .none kV18 dc18 pm18 an18 cd18 ct18), sl18⟩) (c18 : PySem.W.codeIn K cd18 "Version.__init__" = true) (k18 : PySem.W.keepIn K (.ref a18) = true)
    (mt18 : PySem.W.isFn K (.ref a18) = true) (my18 : PySem.W.typeIn K (.ref a18) = some (.type "function"))
    (ma19 : PySem.W.findIn K (.ref C_Version) "query" = some (some (.ref a19)))
    (l19 : K.lookup a19 = some ⟨oc19, od19, .func (PySem.W.fnOf "query" "Version.query" (defArgs s_Version_query) (defBody s_Version_query) (defScope s_Version_query) .none kV19 dc19 pm19 an19 cd19 ct19), sl19⟩) (c19 : PySem.W.codeIn K cd19 "Version.query" = true) (k19 : PySem.W.keepIn K (.ref a19) = true)
    (mt19 : PySem.W.isFn K (.ref a19) = true) (my19 : PySem.W.typeIn K (.ref a19) = some (.type "function"))
    (ga20 : PySem.W.nsIn K mainGlobals "block_sizes" = some (some (.ref a20)))
    (l20 : K.lookup a20 = some ⟨oc20, od20, .func (PySem.W.fnOf "block_sizes" "block_sizes" (defArgs s_block_sizes) (defBody s_block_sizes) (defScope s_block_sizes) .none kV20 dc20 pm20 an20 cd20 ct20), sl20⟩) (c20 : PySem.W.codeIn K cd20 "block_sizes" = true) (k20 : PySem.W.keepIn K (.ref a20) = true)
    (ga21 : PySem.W.nsIn K mainGlobals "exponent" = some (some (.ref a21)))
    (l21 : K.lookup a21 = some ⟨oc21, od21, .func (PySem.W.fnOf "exponent" "exponent" (defArgs s_exponent) (defBody s_exponent) (defScope s_exponent) .none kV21 dc21 pm21 an21 cd21 ct21), sl21⟩) (c21 : PySem.W.codeIn K cd21 "exponent" = true) (k21 : PySem.W.keepIn K (.ref a21) = true)
    (ga22 : PySem.W.nsIn K mainGlobals "lowest_power" = some (some (.ref a22)))
    (l22 : K.lookup a22 = some ⟨oc22, od22, .func (PySem.W.fnOf "lowest_power" "lowest_power" (defArgs s_lowest_power) (defBody s_lowest_power) (defScope s_lowest_power) .none kV22 dc22 pm22 an22 cd22 ct22), sl22⟩) (c22 : PySem.W.codeIn K cd22 "lowest_power" = true) (k22 : PySem.W.keepIn K (.ref a22) = true)
    (ga23 : PySem.W.nsIn K mainGlobals "greatest_power" = some (some (.ref a23)))
    (l23 : K.lookup a23 = some ⟨oc23, od23, .func (PySem.W.fnOf "greatest_power" "greatest_power" (defArgs s_greatest_power) (defBody s_greatest_power) (defScope s_greatest_power) .none kV23 dc23 pm23 an23 cd23 ct23), sl23⟩) (c23 : PySem.W.codeIn K cd23 "greatest_power" = true) (k23 : PySem.W.keepIn K (.ref a23) = true)
    (ga24 : PySem.W.nsIn K mainGlobals "is_integer" = some (some (.ref a24)))
    (l24 : K.lookup a24 = some ⟨oc24, od24, .func (PySem.W.fnOf "is_integer" "is_integer" (defArgs s_is_integer) (defBody s_is_integer) (defScope s_is_integer) .none kV24 dc24 pm24 an24 cd24 ct24), sl24⟩) (c24 : PySem.W.codeIn K cd24 "is_integer" = true) (k24 : PySem.W.keepIn K (.ref a24) = true)
    (ga25 : PySem.W.nsIn K mainGlobals "check_integer" = some (some (.ref a25)))
    (l25 : K.lookup a25 = some ⟨oc25, od25, .func (PySem.W.fnOf "check_integer" "check_integer" (defArgs s_check_integer) (defBody s_check_integer) (defScope s_check_integer) .none kV25 dc25 pm25 an25 cd25 ct25), sl25⟩) (c25 : PySem.W.codeIn K cd25 "check_integer" = true) (k25 : PySem.W.keepIn K (.ref a25) = true)
    (ga26 : PySem.W.nsIn K mainGlobals "check_number" = some (some (.ref a26)))
    (l26 : K.lookup a26 = some ⟨oc26, od26, .func (PySem.W.fnOf "check_number" "check_number" (defArgs s_check_number) (defBody s_check_number) (defScope s_check_number) .none kV26 dc26 pm26 an26 cd26 ct26), sl26⟩) (c26 : PySem.W.codeIn K cd26 "check_number" = true) (k26 : PySem.W.keepIn K (.ref a26) = true)
    (ga27 : PySem.W.nsIn K mainGlobals "growth" = some (some (.ref a27)))
    (l27 : K.lookup a27 = some ⟨oc27, od27, .func (PySem.W.fnOf "growth" "growth" (defArgs s_growth) (defBody s_growth) (defScope s_growth) .none kV27 dc27 pm27 an27 cd27 ct27), sl27⟩) (c27 : PySem.W.codeIn K cd27 "growth" = true) (k27 : PySem.W.keepIn K (.ref a27) = true)
    (ga28 : PySem.W.nsIn K mainGlobals "split_numbers" = some (some (.ref a28)))
    (l28 : K.lookup a28 = some ⟨oc28, od28, .func (PySem.W.fnOf "split_numbers" "split_numbers" (defArgs s_split_numbers) (defBody s_split_numbers) (defScope s_split_numbers) .none kV28 dc28 pm28 an28 cd28 ct28), sl28⟩) (c28 : PySem.W.codeIn K cd28 "split_numbers" = true) (k28 : PySem.W.keepIn K (.ref a28) = true)
    (ga29 : PySem.W.nsIn K mainGlobals "build_entry" = some (some (.ref a29)))
    (l29 : K.lookup a29 = some ⟨oc29, od29, .func (PySem.W.fnOf "build_entry" "build_entry" (defArgs s_build_entry) (defBody s_build_entry) (defScope s_build_entry) (.ref dT29) kV29 dc29 pm29 an29 cd29 ct29), sl29⟩) (c29 : PySem.W.codeIn K cd29 "build_entry" = true) (k29 : PySem.W.keepIn K (.ref a29) = true)
    (dl29 : K.lookup dT29 = some ⟨oT29, pT29, .seq (List.toArray [.ref dE29]) nT29, sT29⟩) (de29 : K.lookup dE29 = some ⟨.type "tuple", pE29, .seq (List.toArray []) nE29, sE29⟩)
    (ga30 : PySem.W.nsIn K mainGlobals "_law_bag" = some (some (.ref a30)))
    (l30 : K.lookup a30 = some ⟨oc30, od30, .func (PySem.W.fnOf "_law_bag" "_law_bag" (defArgs s_l_bag) (defBody s_l_bag) (defScope s_l_bag) .none kV30 dc30 pm30 an30 cd30 ct30), sl30⟩) (c30 : PySem.W.codeIn K cd30 "_law_bag" = true) (k30 : PySem.W.keepIn K (.ref a30) = true)
    (ga31 : PySem.W.nsIn K mainGlobals "_law_take" = some (some (.ref a31)))
    (l31 : K.lookup a31 = some ⟨oc31, od31, .func (PySem.W.fnOf "_law_take" "_law_take" (defArgs s_l_take) (defBody s_l_take) (defScope s_l_take) .none kV31 dc31 pm31 an31 cd31 ct31), sl31⟩) (c31 : PySem.W.codeIn K cd31 "_law_take" = true) (k31 : PySem.W.keepIn K (.ref a31) = true)
    (ga32 : PySem.W.nsIn K mainGlobals "_law_pair" = some (some (.ref a32)))
    (l32 : K.lookup a32 = some ⟨oc32, od32, .func (PySem.W.fnOf "_law_pair" "_law_pair" (defArgs s_l_pair) (defBody s_l_pair) (defScope s_l_pair) .none kV32 dc32 pm32 an32 (.ref cc32) ct32), sl32⟩) (c32 : PySem.W.codeIn K (.ref cc32) "_law_pair" = true) (k32 : PySem.W.keepIn K (.ref a32) = true)
    (tl32 : K.lookup cc32 = some ⟨lo32, ld32, .fields lv32, ls32⟩) (tp32 : lv32[11]? = some (.ref pp32)) (tn32 : K.lookup pp32 = none) (tr32 : (PyProof.Rows.recsOf QQ).any (fun d => d.name == "_law_pair") = true)
    (ga33 : PySem.W.nsIn K mainGlobals "_law_of_right" = some (some (.ref a33)))
    (l33 : K.lookup a33 = some ⟨oc33, od33, .func (PySem.W.fnOf "_law_of_right" "_law_of_right" (defArgs s_l_of_right) (defBody s_l_of_right) (defScope s_l_of_right) .none kV33 dc33 pm33 an33 (.ref cc33) ct33), sl33⟩) (c33 : PySem.W.codeIn K (.ref cc33) "_law_of_right" = true) (k33 : PySem.W.keepIn K (.ref a33) = true)
    (tl33 : K.lookup cc33 = some ⟨lo33, ld33, .fields lv33, ls33⟩) (tp33 : lv33[11]? = some (.ref pp33)) (tn33 : K.lookup pp33 = none) (tr33 : (PyProof.Rows.recsOf QQ).any (fun d => d.name == "_law_of_right") = true)
    (ga34 : PySem.W.nsIn K mainGlobals "law" = some (some (.ref a34)))
    (l34 : K.lookup a34 = some ⟨oc34, od34, .func (PySem.W.fnOf "law" "law" (defArgs s_law) (defBody s_law) (defScope s_law) .none kV34 dc34 pm34 an34 cd34 ct34), sl34⟩) (c34 : PySem.W.codeIn K cd34 "law" = true) (k34 : PySem.W.keepIn K (.ref a34) = true)
    (pne32_33 : pp32 ≠ pp33)
    (z_abs : PySem.W.nsIn K mainGlobals "abs" = some none)
    (z_bool : PySem.W.nsIn K mainGlobals "bool" = some none)
    (z_classmethod : PySem.W.nsIn K mainGlobals "classmethod" = some none)
    (z_int : PySem.W.nsIn K mainGlobals "int" = some none)
    (z_isinstance : PySem.W.nsIn K mainGlobals "isinstance" = some none)
    (z_len : PySem.W.nsIn K mainGlobals "len" = some none)
    (z_list : PySem.W.nsIn K mainGlobals "list" = some none)
    (z_min : PySem.W.nsIn K mainGlobals "min" = some none)
    (z_range : PySem.W.nsIn K mainGlobals "range" = some none)
    (z_repr : PySem.W.nsIn K mainGlobals "repr" = some none)
    (z_sum : PySem.W.nsIn K mainGlobals "sum" = some none)
    (z_tuple : PySem.W.nsIn K mainGlobals "tuple" = some none)
    (v_GREATEST : PySem.W.nsIn K mainGlobals "GREATEST" = some (some (.int (10 ^ (30 : Nat)) t_GREATEST)))
    (pg_Calls : PySem.W.plainGet K C_Calls Str.empty = true)
    (hd_Calls : PySem.W.hasDictIn K C_Calls = true)
    (po_Calls : PySem.W.plainOver K C_Calls = true)
    (sa_Calls : PySem.W.findIn K (.ref C_Calls) "__setattr__" = some (some (.builtin "object.__setattr__")))
    (mk_Calls : PySem.W.makesIn K C_Calls = true)
    (kp_Calls : PySem.W.keepIn K (.ref C_Calls) = true)
    (n_Calls_entries : PySem.W.findIn K (.ref C_Calls) "entries" = some none)
    (n_Calls_running : PySem.W.findIn K (.ref C_Calls) "running" = some none)
    (pg_Asker : PySem.W.plainGet K C_Asker Str.empty = true)
    (hd_Asker : PySem.W.hasDictIn K C_Asker = true)
    (po_Asker : PySem.W.plainOver K C_Asker = true)
    (sa_Asker : PySem.W.findIn K (.ref C_Asker) "__setattr__" = some (some (.builtin "object.__setattr__")))
    (mk_Asker : PySem.W.makesIn K C_Asker = true)
    (kp_Asker : PySem.W.keepIn K (.ref C_Asker) = true)
    (n_Asker_calls : PySem.W.findIn K (.ref C_Asker) "calls" = some none)
    (n_Asker_ask_call : PySem.W.findIn K (.ref C_Asker) "ask_call" = some none)
    (n_Asker_join_call : PySem.W.findIn K (.ref C_Asker) "join_call" = some none)
    (n_Asker_zero : PySem.W.findIn K (.ref C_Asker) "zero" = some none)
    (pg_Builder : PySem.W.plainGet K C_Builder Str.empty = true)
    (hd_Builder : PySem.W.hasDictIn K C_Builder = true)
    (po_Builder : PySem.W.plainOver K C_Builder = true)
    (sa_Builder : PySem.W.findIn K (.ref C_Builder) "__setattr__" = some (some (.builtin "object.__setattr__")))
    (mk_Builder : PySem.W.makesIn K C_Builder = true)
    (kp_Builder : PySem.W.keepIn K (.ref C_Builder) = true)
    (n_Builder_calls : PySem.W.findIn K (.ref C_Builder) "calls" = some none)
    (n_Builder_build_call : PySem.W.findIn K (.ref C_Builder) "build_call" = some none)
    (pg_Blocks : PySem.W.plainGet K C_Blocks Str.empty = true)
    (hd_Blocks : PySem.W.hasDictIn K C_Blocks = true)
    (po_Blocks : PySem.W.plainOver K C_Blocks = true)
    (sa_Blocks : PySem.W.findIn K (.ref C_Blocks) "__setattr__" = some (some (.builtin "object.__setattr__")))
    (mk_Blocks : PySem.W.makesIn K C_Blocks = true)
    (kp_Blocks : PySem.W.keepIn K (.ref C_Blocks) = true)
    (n_Blocks_calls : PySem.W.findIn K (.ref C_Blocks) "calls" = some none)
    (n_Blocks_builder : PySem.W.findIn K (.ref C_Blocks) "builder" = some none)
    (n_Blocks_asker : PySem.W.findIn K (.ref C_Blocks) "asker" = some none)
    (n_Blocks_held : PySem.W.findIn K (.ref C_Blocks) "held" = some none)
    (n_Blocks_parts : PySem.W.findIn K (.ref C_Blocks) "parts" = some none)
    (pg_Version : PySem.W.plainGet K C_Version Str.empty = true)
    (hd_Version : PySem.W.hasDictIn K C_Version = true)
    (po_Version : PySem.W.plainOver K C_Version = true)
    (sa_Version : PySem.W.findIn K (.ref C_Version) "__setattr__" = some (some (.builtin "object.__setattr__")))
    (mk_Version : PySem.W.makesIn K C_Version = true)
    (kp_Version : PySem.W.keepIn K (.ref C_Version) = true)
    (n_Version_calls : PySem.W.findIn K (.ref C_Version) "calls" = some none)
    (n_Version_asker : PySem.W.findIn K (.ref C_Version) "asker" = some none)
    (n_Version_held : PySem.W.findIn K (.ref C_Version) "held" = some none)
    (n_Version_parts : PySem.W.findIn K (.ref C_Version) "parts" = some none) : Inf.LawAtG l w K CX0 40 63 "_law_script" mg fa h := by
  have e := hfa.symm.trans (PySem.W.mg_of X G ga34)
  cases e
  have F0 := fun_mk (st := s_Asker_init) l0 c0 k0
  have F1 : FunD K "answer" "Asker.answer" (defArgs s_Asker_answer) (defBody s_Asker_answer) (defScope s_Asker_answer) [V.ref dE1] [] a1 _ := ⟨⟨_, _, _, _, _, _, _, _, _, _, rfl, l1, c1, .inr ⟨List.cons_ne_nil _ _, dT1, _, [.ref dE1], _, rfl, dl1, rfl, .cons rfl .nil⟩, .inl rfl⟩, k1⟩
  obtain ⟨ds1, vd1, bd1⟩ := FunD.binds1 (ps := ["self", "parts", "question", "mark"]) F1 3 0 (List.cons_ne_nil _ _) rfl (fun T kV doc pm an cdv ct us its h1 h2 => match us, h1, its, h2 with | [_, _, _], _, [_], _ => ⟨_, rfl, rfl⟩)
  obtain ⟨es1, ve1, be1⟩ := FunD.binds1 (ps := ["self", "parts", "question", "mark"]) F1 4 1 (List.cons_ne_nil _ _) rfl (fun T kV doc pm an cdv ct us its h1 h2 => match us, h1, its, h2 with | [_, _, _, _], _, [_], _ => ⟨_, rfl, rfl⟩)
  cases ve1
  have F2 := fun_mk (st := s_Builder_init) l2 c2 k2
  have F3 : FunD K "part" "Builder.part" (defArgs s_Builder_part) (defBody s_Builder_part) (defScope s_Builder_part) [V.ref dE3] [] a3 _ := ⟨⟨_, _, _, _, _, _, _, _, _, _, rfl, l3, c3, .inr ⟨List.cons_ne_nil _ _, dT3, _, [.ref dE3], _, rfl, dl3, rfl, .cons rfl .nil⟩, .inl rfl⟩, k3⟩
  obtain ⟨ds3, vd3, bd3⟩ := FunD.binds1 (ps := ["self", "numbers", "held", "mark"]) F3 3 0 (List.cons_ne_nil _ _) rfl (fun T kV doc pm an cdv ct us its h1 h2 => match us, h1, its, h2 with | [_, _, _], _, [_], _ => ⟨_, rfl, rfl⟩)
  obtain ⟨es3, ve3, be3⟩ := FunD.binds1 (ps := ["self", "numbers", "held", "mark"]) F3 4 1 (List.cons_ne_nil _ _) rfl (fun T kV doc pm an cdv ct us its h1 h2 => match us, h1, its, h2 with | [_, _, _, _], _, [_], _ => ⟨_, rfl, rfl⟩)
  cases ve3
  have F4 : FunD K "row" "Builder.row" (defArgs s_Builder_row) (defBody s_Builder_row) (defScope s_Builder_row) [V.ref dE4] [] a4 _ := ⟨⟨_, _, _, _, _, _, _, _, _, _, rfl, l4, c4, .inr ⟨List.cons_ne_nil _ _, dT4, _, [.ref dE4], _, rfl, dl4, rfl, .cons rfl .nil⟩, .inl rfl⟩, k4⟩
  obtain ⟨ds4, vd4, bd4⟩ := FunD.binds1 (ps := ["self", "numbers", "held", "mark"]) F4 3 0 (List.cons_ne_nil _ _) rfl (fun T kV doc pm an cdv ct us its h1 h2 => match us, h1, its, h2 with | [_, _, _], _, [_], _ => ⟨_, rfl, rfl⟩)
  obtain ⟨es4, ve4, be4⟩ := FunD.binds1 (ps := ["self", "numbers", "held", "mark"]) F4 4 1 (List.cons_ne_nil _ _) rfl (fun T kV doc pm an cdv ct us its h1 h2 => match us, h1, its, h2 with | [_, _, _, _], _, [_], _ => ⟨_, rfl, rfl⟩)
  cases ve4
  have F5 : FunD K "grown_row" "Builder.grown_row" (defArgs s_Builder_grown_row) (defBody s_Builder_grown_row) (defScope s_Builder_grown_row) [V.ref dE5] [] a5 _ := ⟨⟨_, _, _, _, _, _, _, _, _, _, rfl, l5, c5, .inr ⟨List.cons_ne_nil _ _, dT5, _, [.ref dE5], _, rfl, dl5, rfl, .cons rfl .nil⟩, .inl rfl⟩, k5⟩
  obtain ⟨ds5, vd5, bd5⟩ := FunD.binds1 (ps := ["self", "parts", "many", "number", "held", "mark"]) F5 5 0 (List.cons_ne_nil _ _) rfl (fun T kV doc pm an cdv ct us its h1 h2 => match us, h1, its, h2 with | [_, _, _, _, _], _, [_], _ => ⟨_, rfl, rfl⟩)
  obtain ⟨es5, ve5, be5⟩ := FunD.binds1 (ps := ["self", "parts", "many", "number", "held", "mark"]) F5 6 1 (List.cons_ne_nil _ _) rfl (fun T kV doc pm an cdv ct us its h1 h2 => match us, h1, its, h2 with | [_, _, _, _, _, _], _, [_], _ => ⟨_, rfl, rfl⟩)
  cases ve5
  have F6 := fun_mk (st := s_Calls_init) l6 c6 k6
  have F7 := fun_mk (st := s_Calls_check) l7 c7 k7
  have F8 := fun_mk (st := s_Calls_run) l8 c8 k8
  have F9 : FunD K "__init__" "Blocks.__init__" (defArgs s_Blocks_init) (defBody s_Blocks_init) (defScope s_Blocks_init) [] [("zero", V.non)] a9 _ := ⟨⟨_, _, _, _, _, _, _, _, _, _, rfl, l9, c9, .inl ⟨rfl, rfl⟩, .inr ⟨kd9, rfl, fun q hq => by
      rcases List.mem_singleton.mp hq with rfl
      exact ⟨_, kw9_0, rfl⟩⟩⟩, k9⟩
  have F10 : FunD K "of" "Blocks.of" (defArgs s_Blocks_of) (defBody s_Blocks_of) (defScope s_Blocks_of) [] [("zero", V.non)] a10 _ := ⟨⟨_, _, _, _, _, _, _, _, _, _, rfl, l10, c10, .inl ⟨rfl, rfl⟩, .inr ⟨kd10, rfl, fun q hq => by
      rcases List.mem_singleton.mp hq with rfl
      exact ⟨_, kw10_0, rfl⟩⟩⟩, k10⟩
  have F11 := fun_mk (st := s_Blocks_add) l11 c11 k11
  have F12 := fun_mk (st := s_Blocks_query) l12 c12 k12
  have F13 := fun_mk (st := s_Blocks_members) l13 c13 k13
  have F14 := fun_mk (st := s_Blocks_sizes) l14 c14 k14
  have F15 := fun_mk (st := s_Blocks_log) l15 c15 k15
  have F16 := fun_mk (st := s_Blocks_version) l16 c16 k16
  have F17 := fun_mk (st := s_Blocks_branch) l17 c17 k17
  have F18 := fun_mk (st := s_Version_init) l18 c18 k18
  have F19 := fun_mk (st := s_Version_query) l19 c19 k19
  have F20 := fun_mk (st := s_block_sizes) l20 c20 k20
  have F21 := fun_mk (st := s_exponent) l21 c21 k21
  have F22 := fun_mk (st := s_lowest_power) l22 c22 k22
  have F23 := fun_mk (st := s_greatest_power) l23 c23 k23
  have F24 := fun_mk (st := s_is_integer) l24 c24 k24
  have F25 := fun_mk (st := s_check_integer) l25 c25 k25
  have F26 := fun_mk (st := s_check_number) l26 c26 k26
  have F27 := fun_mk (st := s_growth) l27 c27 k27
  have F28 := fun_mk (st := s_split_numbers) l28 c28 k28
  have F29 : FunD K "build_entry" "build_entry" (defArgs s_build_entry) (defBody s_build_entry) (defScope s_build_entry) [V.ref dE29] [] a29 _ := ⟨⟨_, _, _, _, _, _, _, _, _, _, rfl, l29, c29, .inr ⟨List.cons_ne_nil _ _, dT29, _, [.ref dE29], _, rfl, dl29, rfl, .cons rfl .nil⟩, .inl rfl⟩, k29⟩
  obtain ⟨ds29, vd29, bd29⟩ := FunD.binds1 (ps := ["numbers", "mark"]) F29 1 0 (List.cons_ne_nil _ _) rfl (fun T kV doc pm an cdv ct us its h1 h2 => match us, h1, its, h2 with | [_], _, [_], _ => ⟨_, rfl, rfl⟩)
  obtain ⟨es29, ve29, be29⟩ := FunD.binds1 (ps := ["numbers", "mark"]) F29 2 1 (List.cons_ne_nil _ _) rfl (fun T kV doc pm an cdv ct us its h1 h2 => match us, h1, its, h2 with | [_, _], _, [_], _ => ⟨_, rfl, rfl⟩)
  cases ve29
  have F30 := fun_mk (st := s_l_bag) l30 c30 k30
  have F31 := fun_mk (st := s_l_take) l31 c31 k31
  have F32 : FunT K "_law_pair" "_law_pair" s_l_pair a32 _ cc32 := ⟨⟨_, _, _, _, _, _, _, _, rfl, l32, c32⟩, k32⟩
  have B32 : Binds K _ ["_law_way"] [] := .all (fd := PySem.W.fnOf "_law_pair" "_law_pair" (defArgs s_l_pair) (defBody s_l_pair) (defScope s_l_pair) .none kV32 dc32 pm32 an32 (.ref cc32) ct32) fun us hl => match us, hl with | [_], _ => rfl
  have F33 : FunT K "_law_of_right" "_law_of_right" s_l_of_right a33 _ cc33 := ⟨⟨_, _, _, _, _, _, _, _, rfl, l33, c33⟩, k33⟩
  have B33 : Binds K _ ["_law_things", "_law_topic"] [] := .all (fd := PySem.W.fnOf "_law_of_right" "_law_of_right" (defArgs s_l_of_right) (defBody s_l_of_right) (defScope s_l_of_right) .none kV33 dc33 pm33 an33 (.ref cc33) ct33) fun us hl => match us, hl with | [_, _], _ => rfl
  have F34 := fun_mk (st := s_law) l34 c34 k34
  have T32 := tt "_law_pair" a32 cc32 pp32 _ _ _ _ _ _ tr32 (PySem.W.mg_of X G ga32) l32 rfl rfl tl32 tp32
  have T33 := tt "_law_of_right" a33 cc33 pp33 _ _ _ _ _ _ tr33 (PySem.W.mg_of X G ga33) l33 rfl rfl tl33 tp33
  let T : Txt K mg := {
    C_Calls := C_Calls,
    gc_Calls := PySem.W.mg_of X G gc_Calls,
    C_Asker := C_Asker,
    gc_Asker := PySem.W.mg_of X G gc_Asker,
    C_Builder := C_Builder,
    gc_Builder := PySem.W.mg_of X G gc_Builder,
    C_Blocks := C_Blocks,
    gc_Blocks := PySem.W.mg_of X G gc_Blocks,
    C_Version := C_Version,
    gc_Version := PySem.W.mg_of X G gc_Version,
    f_Asker_init := a0,
    d_Asker_init := _,
    F_Asker_init := F0,
    b_Asker_init := (F0.binds (ps := ["self", "calls", "ask", "join", "zero"]) fun _ _ _ _ _ _ us hl => match us, hl with | [_, _, _, _, _], _ => rfl),
    m_Asker_init := ma0,
    t_Asker_init := mt0,
    y_Asker_init := my0,
    k_Asker_init := k0,
    f_Asker_answer := a1,
    d_Asker_answer := _,
    E_Asker_answer := dE1,
    F_Asker_answer := F1,
    S_Asker_answer := fun _ => .inr ⟨_, _, _, de1, rfl, rfl, by decide, .nil⟩,
    ds_Asker_answer := ds1,
    vd_Asker_answer := vd1,
    bd_Asker_answer := bd1,
    b_Asker_answer := be1,
    m_Asker_answer := ma1,
    t_Asker_answer := mt1,
    y_Asker_answer := my1,
    k_Asker_answer := k1,
    f_Builder_init := a2,
    d_Builder_init := _,
    F_Builder_init := F2,
    b_Builder_init := (F2.binds (ps := ["self", "calls", "build"]) fun _ _ _ _ _ _ us hl => match us, hl with | [_, _, _], _ => rfl),
    m_Builder_init := ma2,
    t_Builder_init := mt2,
    y_Builder_init := my2,
    k_Builder_init := k2,
    f_Builder_part := a3,
    d_Builder_part := _,
    E_Builder_part := dE3,
    F_Builder_part := F3,
    S_Builder_part := fun _ => .inr ⟨_, _, _, de3, rfl, rfl, by decide, .nil⟩,
    ds_Builder_part := ds3,
    vd_Builder_part := vd3,
    bd_Builder_part := bd3,
    b_Builder_part := be3,
    m_Builder_part := ma3,
    t_Builder_part := mt3,
    y_Builder_part := my3,
    k_Builder_part := k3,
    f_Builder_row := a4,
    d_Builder_row := _,
    E_Builder_row := dE4,
    F_Builder_row := F4,
    S_Builder_row := fun _ => .inr ⟨_, _, _, de4, rfl, rfl, by decide, .nil⟩,
    ds_Builder_row := ds4,
    vd_Builder_row := vd4,
    bd_Builder_row := bd4,
    b_Builder_row := be4,
    m_Builder_row := ma4,
    t_Builder_row := mt4,
    y_Builder_row := my4,
    k_Builder_row := k4,
    f_Builder_grown_row := a5,
    d_Builder_grown_row := _,
    E_Builder_grown_row := dE5,
    F_Builder_grown_row := F5,
    S_Builder_grown_row := fun _ => .inr ⟨_, _, _, de5, rfl, rfl, by decide, .nil⟩,
    ds_Builder_grown_row := ds5,
    vd_Builder_grown_row := vd5,
    bd_Builder_grown_row := bd5,
    b_Builder_grown_row := be5,
    m_Builder_grown_row := ma5,
    t_Builder_grown_row := mt5,
    y_Builder_grown_row := my5,
    k_Builder_grown_row := k5,
    f_Calls_init := a6,
    d_Calls_init := _,
    F_Calls_init := F6,
    b_Calls_init := (F6.binds (ps := ["self"]) fun _ _ _ _ _ _ us hl => match us, hl with | [_], _ => rfl),
    m_Calls_init := ma6,
    t_Calls_init := mt6,
    y_Calls_init := my6,
    k_Calls_init := k6,
    f_Calls_check := a7,
    d_Calls_check := _,
    F_Calls_check := F7,
    b_Calls_check := (F7.binds (ps := ["self"]) fun _ _ _ _ _ _ us hl => match us, hl with | [_], _ => rfl),
    m_Calls_check := ma7,
    t_Calls_check := mt7,
    y_Calls_check := my7,
    k_Calls_check := k7,
    f_Calls_run := a8,
    d_Calls_run := _,
    F_Calls_run := F8,
    m_Calls_run := ma8,
    t_Calls_run := mt8,
    y_Calls_run := my8,
    k_Calls_run := k8,
    f_Blocks_init := a9,
    d_Blocks_init := _,
    F_Blocks_init := F9,
    m_Blocks_init := ma9,
    t_Blocks_init := mt9,
    y_Blocks_init := my9,
    k_Blocks_init := k9,
    f_Blocks_of := a10,
    d_Blocks_of := _,
    cp_Blocks_of := pc10,
    F_Blocks_of := F10,
    cr_Blocks := ⟨cd10_, cg10⟩,
    cm_Blocks_of := ⟨cf10, ⟨_, cc10_⟩, ci10⟩,
    f_Blocks_add := a11,
    d_Blocks_add := _,
    F_Blocks_add := F11,
    b_Blocks_add := (F11.binds (ps := ["self", "member"]) fun _ _ _ _ _ _ us hl => match us, hl with | [_, _], _ => rfl),
    m_Blocks_add := ma11,
    t_Blocks_add := mt11,
    y_Blocks_add := my11,
    k_Blocks_add := k11,
    f_Blocks_query := a12,
    d_Blocks_query := _,
    F_Blocks_query := F12,
    b_Blocks_query := (F12.binds (ps := ["self", "question"]) fun _ _ _ _ _ _ us hl => match us, hl with | [_, _], _ => rfl),
    m_Blocks_query := ma12,
    t_Blocks_query := mt12,
    y_Blocks_query := my12,
    k_Blocks_query := k12,
    f_Blocks_members := a13,
    d_Blocks_members := _,
    F_Blocks_members := F13,
    b_Blocks_members := (F13.binds (ps := ["self"]) fun _ _ _ _ _ _ us hl => match us, hl with | [_], _ => rfl),
    m_Blocks_members := ma13,
    t_Blocks_members := mt13,
    y_Blocks_members := my13,
    k_Blocks_members := k13,
    f_Blocks_sizes := a14,
    d_Blocks_sizes := _,
    F_Blocks_sizes := F14,
    b_Blocks_sizes := (F14.binds (ps := ["self"]) fun _ _ _ _ _ _ us hl => match us, hl with | [_], _ => rfl),
    m_Blocks_sizes := ma14,
    t_Blocks_sizes := mt14,
    y_Blocks_sizes := my14,
    k_Blocks_sizes := k14,
    f_Blocks_log := a15,
    d_Blocks_log := _,
    F_Blocks_log := F15,
    b_Blocks_log := (F15.binds (ps := ["self"]) fun _ _ _ _ _ _ us hl => match us, hl with | [_], _ => rfl),
    m_Blocks_log := ma15,
    t_Blocks_log := mt15,
    y_Blocks_log := my15,
    k_Blocks_log := k15,
    f_Blocks_version := a16,
    d_Blocks_version := _,
    F_Blocks_version := F16,
    b_Blocks_version := (F16.binds (ps := ["self"]) fun _ _ _ _ _ _ us hl => match us, hl with | [_], _ => rfl),
    m_Blocks_version := ma16,
    t_Blocks_version := mt16,
    y_Blocks_version := my16,
    k_Blocks_version := k16,
    f_Blocks_branch := a17,
    d_Blocks_branch := _,
    F_Blocks_branch := F17,
    b_Blocks_branch := (F17.binds (ps := ["self"]) fun _ _ _ _ _ _ us hl => match us, hl with | [_], _ => rfl),
    m_Blocks_branch := ma17,
    t_Blocks_branch := mt17,
    y_Blocks_branch := my17,
    k_Blocks_branch := k17,
    f_Version_init := a18,
    d_Version_init := _,
    F_Version_init := F18,
    b_Version_init := (F18.binds (ps := ["self", "held", "parts", "ask", "join", "zero"]) fun _ _ _ _ _ _ us hl => match us, hl with | [_, _, _, _, _, _], _ => rfl),
    m_Version_init := ma18,
    t_Version_init := mt18,
    y_Version_init := my18,
    k_Version_init := k18,
    f_Version_query := a19,
    d_Version_query := _,
    F_Version_query := F19,
    b_Version_query := (F19.binds (ps := ["self", "question"]) fun _ _ _ _ _ _ us hl => match us, hl with | [_, _], _ => rfl),
    m_Version_query := ma19,
    t_Version_query := mt19,
    y_Version_query := my19,
    k_Version_query := k19,
    f_block_sizes := a20,
    d_block_sizes := _,
    F_block_sizes := F20,
    b_block_sizes := (F20.binds (ps := ["many"]) fun _ _ _ _ _ _ us hl => match us, hl with | [_], _ => rfl),
    g_block_sizes := PySem.W.mg_of X G ga20,
    f_exponent := a21,
    d_exponent := _,
    F_exponent := F21,
    b_exponent := (F21.binds (ps := ["number"]) fun _ _ _ _ _ _ us hl => match us, hl with | [_], _ => rfl),
    g_exponent := PySem.W.mg_of X G ga21,
    f_lowest_power := a22,
    d_lowest_power := _,
    F_lowest_power := F22,
    b_lowest_power := (F22.binds (ps := ["number"]) fun _ _ _ _ _ _ us hl => match us, hl with | [_], _ => rfl),
    g_lowest_power := PySem.W.mg_of X G ga22,
    f_greatest_power := a23,
    d_greatest_power := _,
    F_greatest_power := F23,
    b_greatest_power := (F23.binds (ps := ["number"]) fun _ _ _ _ _ _ us hl => match us, hl with | [_], _ => rfl),
    g_greatest_power := PySem.W.mg_of X G ga23,
    f_is_integer := a24,
    d_is_integer := _,
    F_is_integer := F24,
    b_is_integer := (F24.binds (ps := ["value"]) fun _ _ _ _ _ _ us hl => match us, hl with | [_], _ => rfl),
    g_is_integer := PySem.W.mg_of X G ga24,
    f_check_integer := a25,
    d_check_integer := _,
    F_check_integer := F25,
    b_check_integer := (F25.binds (ps := ["value"]) fun _ _ _ _ _ _ us hl => match us, hl with | [_], _ => rfl),
    g_check_integer := PySem.W.mg_of X G ga25,
    f_check_number := a26,
    d_check_number := _,
    F_check_number := F26,
    b_check_number := (F26.binds (ps := ["value"]) fun _ _ _ _ _ _ us hl => match us, hl with | [_], _ => rfl),
    g_check_number := PySem.W.mg_of X G ga26,
    f_growth := a27,
    d_growth := _,
    F_growth := F27,
    b_growth := (F27.binds (ps := ["parts", "many", "number"]) fun _ _ _ _ _ _ us hl => match us, hl with | [_, _, _], _ => rfl),
    g_growth := PySem.W.mg_of X G ga27,
    f_split_numbers := a28,
    d_split_numbers := _,
    F_split_numbers := F28,
    b_split_numbers := (F28.binds (ps := ["numbers"]) fun _ _ _ _ _ _ us hl => match us, hl with | [_], _ => rfl),
    g_split_numbers := PySem.W.mg_of X G ga28,
    f_build_entry := a29,
    d_build_entry := _,
    E_build_entry := dE29,
    F_build_entry := F29,
    S_build_entry := fun _ => .inr ⟨_, _, _, de29, rfl, rfl, by decide, .nil⟩,
    ds_build_entry := ds29,
    vd_build_entry := vd29,
    bd_build_entry := bd29,
    b_build_entry := be29,
    g_build_entry := PySem.W.mg_of X G ga29,
    f_l_bag := a30,
    d_l_bag := _,
    F_l_bag := F30,
    b_l_bag := (F30.binds (ps := ["_law_script", "_law_at"]) fun _ _ _ _ _ _ us hl => match us, hl with | [_, _], _ => rfl),
    g_l_bag := PySem.W.mg_of X G ga30,
    f_l_take := a31,
    d_l_take := _,
    F_l_take := F31,
    b_l_take := (F31.binds (ps := ["_law_bag_here", "_law_many"]) fun _ _ _ _ _ _ us hl => match us, hl with | [_, _], _ => rfl),
    g_l_take := PySem.W.mg_of X G ga31,
    f_l_pair := a32,
    d_l_pair := _,
    c_l_pair := cc32,
    p_l_pair := pp32,
    F_l_pair := F32,
    b_l_pair := B32,
    g_l_pair := PySem.W.mg_of X G ga32,
    f_l_of_right := a33,
    d_l_of_right := _,
    c_l_of_right := cc33,
    p_l_of_right := pp33,
    F_l_of_right := F33,
    b_l_of_right := B33,
    g_l_of_right := PySem.W.mg_of X G ga33,
    pne_l_pair_l_of_right := pne32_33,
    z_abs := PySem.W.mg_none_of X G z_abs,
    z_bool := PySem.W.mg_none_of X G z_bool,
    z_classmethod := PySem.W.mg_none_of X G z_classmethod,
    z_int := PySem.W.mg_none_of X G z_int,
    z_isinstance := PySem.W.mg_none_of X G z_isinstance,
    z_len := PySem.W.mg_none_of X G z_len,
    z_list := PySem.W.mg_none_of X G z_list,
    z_min := PySem.W.mg_none_of X G z_min,
    z_range := PySem.W.mg_none_of X G z_range,
    z_repr := PySem.W.mg_none_of X G z_repr,
    z_sum := PySem.W.mg_none_of X G z_sum,
    z_tuple := PySem.W.mg_none_of X G z_tuple,
    u_GREATEST := _,
    v_GREATEST := PySem.W.mg_of X G v_GREATEST,
    r_GREATEST := ⟨_, rfl⟩,
    cl_Calls := ⟨pg_Calls, hd_Calls, po_Calls, sa_Calls⟩,
    mk_Calls := mk_Calls,
    kp_Calls := kp_Calls,
    n_Calls_entries := n_Calls_entries,
    n_Calls_running := n_Calls_running,
    cl_Asker := ⟨pg_Asker, hd_Asker, po_Asker, sa_Asker⟩,
    mk_Asker := mk_Asker,
    kp_Asker := kp_Asker,
    n_Asker_calls := n_Asker_calls,
    n_Asker_ask_call := n_Asker_ask_call,
    n_Asker_join_call := n_Asker_join_call,
    n_Asker_zero := n_Asker_zero,
    cl_Builder := ⟨pg_Builder, hd_Builder, po_Builder, sa_Builder⟩,
    mk_Builder := mk_Builder,
    kp_Builder := kp_Builder,
    n_Builder_calls := n_Builder_calls,
    n_Builder_build_call := n_Builder_build_call,
    cl_Blocks := ⟨pg_Blocks, hd_Blocks, po_Blocks, sa_Blocks⟩,
    mk_Blocks := mk_Blocks,
    kp_Blocks := kp_Blocks,
    n_Blocks_calls := n_Blocks_calls,
    n_Blocks_builder := n_Blocks_builder,
    n_Blocks_asker := n_Blocks_asker,
    n_Blocks_held := n_Blocks_held,
    n_Blocks_parts := n_Blocks_parts,
    cl_Version := ⟨pg_Version, hd_Version, po_Version, sa_Version⟩,
    mk_Version := mk_Version,
    kp_Version := kp_Version,
    n_Version_calls := n_Version_calls,
    n_Version_asker := n_Version_asker,
    n_Version_held := n_Version_held,
    n_Version_parts := n_Version_parts }
  refine ⟨PySem.W.fnOf "law" "law" (defArgs s_law) (defBody s_law) (defScope s_law) .none kV34 dc34 pm34 an34 cd34 ct34, [(cc32, pp32), (cc33, pp33)], spLaw T, (all_cons T32.2 (all_cons T33.2 (fun _ z => nomatch z))), (all_cons tn32 (all_cons tn33 (fun _ z => nomatch z))), (all_cons T32.1 (all_cons T33.1 (fun _ z => nomatch z))), fun s v => .of_eq rfl, fun H a ns hl ht hS => ⟨a, ns, rfl, hS, hl, ht _ (List.mem_cons_self ..), ht _ (List.mem_cons_of_mem _ (List.mem_cons_self ..)), fun _ => rfl⟩, fun base _ _ tb => (ok_law T (tb _ (List.mem_cons_self ..)) (tb _ (List.mem_cons_of_mem _ (List.mem_cons_self ..))) F34)⟩
end Ob
open PySem PySem.W PyProof.Rows
set_option maxHeartbeats 0 in
theorem PySem.Challenge.cw_oncebuilt_k17_calls_by_names_holds : PySem.Challenge.rw_oncebuilt_k17_calls_by_names.Holds := by
  w_on; o_law; k_head; (case hw => w_witness2)
  k_fill
  refine Inf.walk_topG (l := PySem.Challenge.rw_oncebuilt_k17_calls_by_names) (n := 63) (k := 40) (x := "_law_script") (YP := _) (CX := fun _ => L2.CX0) rfl (by decide) rfl ⟨rfl, by decide, by decide⟩ (fun w h Y => by first | exact PySem.W.kIn_of Y | exact PySem.W.km_in_of Y) ?F (fun _ _ _ _ _ h => h)
  case F =>
    intro w mg fa h Y KX G hmg tt
    refine' Ob.all_mk KX G hmg tt ?gc_Calls ?gc_Asker ?gc_Builder ?gc_Blocks ?gc_Version ?ma0 ?l0 ?c0 ?k0 ?mt0 ?my0 ?ma1 ?l1 ?c1 ?k1 ?dl1 ?de1 ?mt1 ?my1 ?ma2 ?l2 ?c2 ?k2 ?mt2 ?my2 ?ma3 ?l3 ?c3 ?k3 ?dl3 ?de3 ?mt3 ?my3 ?ma4 ?l4 ?c4 ?k4 ?dl4 ?de4 ?mt4 ?my4 ?ma5 ?l5 ?c5 ?k5 ?dl5 ?de5 ?mt5 ?my5 ?ma6 ?l6 ?c6 ?k6 ?mt6 ?my6 ?ma7 ?l7 ?c7 ?k7 ?mt7 ?my7 ?ma8 ?l8 ?c8 ?k8 ?mt8 ?my8 ?ma9 ?l9 ?c9 ?k9 ?kw9_0 ?mt9 ?my9 ?cf10 ?cc10_ ?ci10 ?cd10_ ?cg10 ?l10 ?c10 ?k10 ?kw10_0 ?ma11 ?l11 ?c11 ?k11 ?mt11 ?my11 ?ma12 ?l12 ?c12 ?k12 ?mt12 ?my12 ?ma13 ?l13 ?c13 ?k13 ?mt13 ?my13 ?ma14 ?l14 ?c14 ?k14 ?mt14 ?my14 ?ma15 ?l15 ?c15 ?k15 ?mt15 ?my15 ?ma16 ?l16 ?c16 ?k16 ?mt16 ?my16 ?ma17 ?l17 ?c17 ?k17 ?mt17 ?my17 ?ma18 ?l18 ?c18 ?k18 ?mt18 ?my18 ?ma19 ?l19 ?c19 ?k19 ?mt19 ?my19 ?ga20 ?l20 ?c20 ?k20 ?ga21 ?l21 ?c21 ?k21 ?ga22 ?l22 ?c22 ?k22 ?ga23 ?l23 ?c23 ?k23 ?ga24 ?l24 ?c24 ?k24 ?ga25 ?l25 ?c25 ?k25 ?ga26 ?l26 ?c26 ?k26 ?ga27 ?l27 ?c27 ?k27 ?ga28 ?l28 ?c28 ?k28 ?ga29 ?l29 ?c29 ?k29 ?dl29 ?de29 ?ga30 ?l30 ?c30 ?k30 ?ga31 ?l31 ?c31 ?k31 ?ga32 ?l32 ?c32 ?k32 ?tl32 ?tp32 ?tn32 ?tr32 ?ga33 ?l33 ?c33 ?k33 ?tl33 ?tp33 ?tn33 ?tr33 ?ga34 ?l34 ?c34 ?k34 ?pne32_33 ?z_abs ?z_bool ?z_classmethod ?z_int ?z_isinstance ?z_len ?z_list ?z_min ?z_range ?z_repr ?z_sum ?z_tuple ?v_GREATEST ?pg_Calls ?hd_Calls ?po_Calls ?sa_Calls ?mk_Calls ?kp_Calls ?n_Calls_entries ?n_Calls_running ?pg_Asker ?hd_Asker ?po_Asker ?sa_Asker ?mk_Asker ?kp_Asker ?n_Asker_calls ?n_Asker_ask_call ?n_Asker_join_call ?n_Asker_zero ?pg_Builder ?hd_Builder ?po_Builder ?sa_Builder ?mk_Builder ?kp_Builder ?n_Builder_calls ?n_Builder_build_call ?pg_Blocks ?hd_Blocks ?po_Blocks ?sa_Blocks ?mk_Blocks ?kp_Blocks ?n_Blocks_calls ?n_Blocks_builder ?n_Blocks_asker ?n_Blocks_held ?n_Blocks_parts ?pg_Version ?hd_Version ?po_Version ?sa_Version ?mk_Version ?kp_Version ?n_Version_calls ?n_Version_asker ?n_Version_held ?n_Version_parts
    (case gc_Calls => k_is); (case gc_Asker => k_is); (case gc_Builder => k_is); (case gc_Blocks => k_is); (case gc_Version => k_is); (case ma0 => k_is); (case l0 => k_is); (case c0 => k_is); (case k0 => k_is); (case mt0 => k_is); (case my0 => k_is); (case ma1 => k_is); (case l1 => k_is); (case c1 => k_is); (case k1 => k_is); (case dl1 => k_is); (case de1 => k_is); (case mt1 => k_is); (case my1 => k_is); (case ma2 => k_is); (case l2 => k_is); (case c2 => k_is); (case k2 => k_is); (case mt2 => k_is); (case my2 => k_is); (case ma3 => k_is); (case l3 => k_is); (case c3 => k_is); (case k3 => k_is); (case dl3 => k_is); (case de3 => k_is); (case mt3 => k_is); (case my3 => k_is); (case ma4 => k_is); (case l4 => k_is); (case c4 => k_is); (case k4 => k_is); (case dl4 => k_is); (case de4 => k_is); (case mt4 => k_is); (case my4 => k_is); (case ma5 => k_is); (case l5 => k_is); (case c5 => k_is); (case k5 => k_is); (case dl5 => k_is); (case de5 => k_is); (case mt5 => k_is); (case my5 => k_is); (case ma6 => k_is); (case l6 => k_is); (case c6 => k_is); (case k6 => k_is); (case mt6 => k_is); (case my6 => k_is); (case ma7 => k_is); (case l7 => k_is); (case c7 => k_is); (case k7 => k_is); (case mt7 => k_is); (case my7 => k_is); (case ma8 => k_is); (case l8 => k_is); (case c8 => k_is); (case k8 => k_is); (case mt8 => k_is); (case my8 => k_is); (case ma9 => k_is); (case l9 => k_is); (case c9 => k_is); (case k9 => k_is); (case kw9_0 => k_is); (case mt9 => k_is); (case my9 => k_is); (case cf10 => k_is); (case cc10_ => k_is); (case ci10 => k_is); (case cd10_ => k_is); (case cg10 => k_is); (case l10 => k_is); (case c10 => k_is); (case k10 => k_is); (case kw10_0 => k_is); (case ma11 => k_is); (case l11 => k_is); (case c11 => k_is); (case k11 => k_is); (case mt11 => k_is); (case my11 => k_is); (case ma12 => k_is); (case l12 => k_is); (case c12 => k_is); (case k12 => k_is); (case mt12 => k_is); (case my12 => k_is); (case ma13 => k_is); (case l13 => k_is); (case c13 => k_is); (case k13 => k_is); (case mt13 => k_is); (case my13 => k_is); (case ma14 => k_is); (case l14 => k_is); (case c14 => k_is); (case k14 => k_is); (case mt14 => k_is); (case my14 => k_is); (case ma15 => k_is); (case l15 => k_is); (case c15 => k_is); (case k15 => k_is); (case mt15 => k_is); (case my15 => k_is); (case ma16 => k_is); (case l16 => k_is); (case c16 => k_is); (case k16 => k_is); (case mt16 => k_is); (case my16 => k_is); (case ma17 => k_is); (case l17 => k_is); (case c17 => k_is); (case k17 => k_is); (case mt17 => k_is); (case my17 => k_is); (case ma18 => k_is); (case l18 => k_is); (case c18 => k_is); (case k18 => k_is); (case mt18 => k_is); (case my18 => k_is); (case ma19 => k_is); (case l19 => k_is); (case c19 => k_is); (case k19 => k_is); (case mt19 => k_is); (case my19 => k_is); (case ga20 => k_is); (case l20 => k_is); (case c20 => k_is); (case k20 => k_is); (case ga21 => k_is); (case l21 => k_is); (case c21 => k_is); (case k21 => k_is); (case ga22 => k_is); (case l22 => k_is); (case c22 => k_is); (case k22 => k_is); (case ga23 => k_is); (case l23 => k_is); (case c23 => k_is); (case k23 => k_is); (case ga24 => k_is); (case l24 => k_is); (case c24 => k_is); (case k24 => k_is); (case ga25 => k_is); (case l25 => k_is); (case c25 => k_is); (case k25 => k_is); (case ga26 => k_is); (case l26 => k_is); (case c26 => k_is); (case k26 => k_is); (case ga27 => k_is); (case l27 => k_is); (case c27 => k_is); (case k27 => k_is); (case ga28 => k_is); (case l28 => k_is); (case c28 => k_is); (case k28 => k_is); (case ga29 => k_is); (case l29 => k_is); (case c29 => k_is); (case k29 => k_is); (case dl29 => k_is); (case de29 => k_is); (case ga30 => k_is); (case l30 => k_is); (case c30 => k_is); (case k30 => k_is); (case ga31 => k_is); (case l31 => k_is); (case c31 => k_is); (case k31 => k_is); (case ga32 => k_is); (case l32 => k_is); (case c32 => k_is); (case k32 => k_is); (case tl32 => k_is); (case tp32 => rfl); (case tn32 => kernel_rfl); (case tr32 => rfl); (case ga33 => k_is); (case l33 => k_is); (case c33 => k_is); (case k33 => k_is); (case tl33 => k_is); (case tp33 => rfl); (case tn33 => kernel_rfl); (case tr33 => rfl); (case ga34 => k_is); (case l34 => k_is); (case c34 => k_is); (case k34 => k_is); (case pne32_33 => decide); (case z_abs => k_is); (case z_bool => k_is); (case z_classmethod => k_is); (case z_int => k_is); (case z_isinstance => k_is); (case z_len => k_is); (case z_list => k_is); (case z_min => k_is); (case z_range => k_is); (case z_repr => k_is); (case z_sum => k_is); (case z_tuple => k_is); (case v_GREATEST => k_is); (case pg_Calls => k_is); (case hd_Calls => k_is); (case po_Calls => k_is); (case sa_Calls => k_is); (case mk_Calls => k_is); (case kp_Calls => k_is); (case n_Calls_entries => k_is); (case n_Calls_running => k_is); (case pg_Asker => k_is); (case hd_Asker => k_is); (case po_Asker => k_is); (case sa_Asker => k_is); (case mk_Asker => k_is); (case kp_Asker => k_is); (case n_Asker_calls => k_is); (case n_Asker_ask_call => k_is); (case n_Asker_join_call => k_is); (case n_Asker_zero => k_is); (case pg_Builder => k_is); (case hd_Builder => k_is); (case po_Builder => k_is); (case sa_Builder => k_is); (case mk_Builder => k_is); (case kp_Builder => k_is); (case n_Builder_calls => k_is); (case n_Builder_build_call => k_is); (case pg_Blocks => k_is); (case hd_Blocks => k_is); (case po_Blocks => k_is); (case sa_Blocks => k_is); (case mk_Blocks => k_is); (case kp_Blocks => k_is); (case n_Blocks_calls => k_is); (case n_Blocks_builder => k_is); (case n_Blocks_asker => k_is); (case n_Blocks_held => k_is); (case n_Blocks_parts => k_is); (case pg_Version => k_is); (case hd_Version => k_is); (case po_Version => k_is); (case sa_Version => k_is); (case mk_Version => k_is); (case kp_Version => k_is); (case n_Version_calls => k_is); (case n_Version_asker => k_is); (case n_Version_held => k_is); (case n_Version_parts => k_is)


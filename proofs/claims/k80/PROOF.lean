import PyProof.Rows.All
import Wide.All
import OpenK.AllK
import Wide.FinOn
import HandS.ForMost
import HandS.ForExc
import HandS.Nested
import HandS.Star
import HandS.Finally
import HandS.EndTab
import HandS.Replace
import HandS.Defaults
import HandS.ClsMeth
import HandS.MakeKwOnly
import HandS.Wide
import HandS.WideBits
import HandS.IsInst
import HandS.Codes
import HandS.Comp
import HandS.Conv
import HandS.SortKw
import HandS.SortInts
import HandS.MethStar
import PySem.Challenge.RW_oncebuilt_k80_sorted_blocks_and_lines
import HandS.More
import HandS.Style
set_option Elab.async false
set_option linter.all false
set_option maxRecDepth 100000
set_option maxHeartbeats 4000000
namespace Inf
open PySem PySem.Spec PyProof.Rows L2 NdefX LamX
/-! ### a cell that is told -/
def CellO (c : Addr) (v : V) : HO := .ext fun h => ∃ u, L2.RelV v u ∧ h.IsCell c (some u)
theorem cellO_at {P : Program} {w : World} {H : Hp} {h : Heap} {c : Addr} {v : V} (hok : HOk P w H h) (e : H c = some (CellO c v)) : ∃ u, L2.RelV v u ∧ h.IsCell c (some u) := by
  obtain ⟨z, _, _⟩ := hok c _ e
  exact z
theorem cellO_ok {P : Program} {w : World} {H : Hp} {h : Heap} {c : Addr} {v : V} (x : ∃ u, L2.RelV v u ∧ h.IsCell c (some u)) : ObjOk P w H h c (CellO c v) := by
  refine ⟨x, ?_, fun h1 h2 ⟨u, r, o, e, d⟩ k => ⟨u, r, o, k o e, d⟩⟩
  obtain ⟨u, _, o, e, _⟩ := x
  exact ⟨o, e⟩
/-! ### cells left out, and put back -/
def cut (cs : List Addr) (H : Hp) : Hp := fun b => if b ∈ cs then Option.none else H b
def mend (cs : List Addr) (H H1 : Hp) : Hp := fun b => if b ∈ cs then H b else H1 b
theorem cut_in {cs : List Addr} {H : Hp} {b : Addr} (h : b ∈ cs) : cut cs H b = Option.none := if_pos h
theorem cut_out {cs : List Addr} {H : Hp} {b : Addr} (h : b ∉ cs) : cut cs H b = H b := if_neg h
theorem mend_in {cs : List Addr} {H H1 : Hp} {b : Addr} (h : b ∈ cs) : mend cs H H1 b = H b := if_pos h
theorem mend_out {cs : List Addr} {H H1 : Hp} {b : Addr} (h : b ∉ cs) : mend cs H H1 b = H1 b := if_neg h
def cellsOf (F : NF) (fr : List Str) : List Addr := fr.filterMap fun y => F.cl.lookup y
theorem mem_cells {F : NF} {fr : List Str} {c : Addr} : c ∈ cellsOf F fr ↔ ∃ y ∈ fr, F.cl.lookup y = some c := List.mem_filterMap
/-- the function F stands at f, and its captured cells hold ws -/
structure Clo (H : Hp) (f : Addr) (F : NF) (fr : List Str) (ws : List V) : Prop where
  fn : H f = some (FnO f F)
  code : H F.c = some (CodeO F.c F.qual)
  len : ws.length = fr.length
  dom : ∀ y c, F.cl.lookup y = some c → y ∈ fr
  inj : ∀ x y c, F.cl.lookup x = some c → F.cl.lookup y = some c → x = y
  at_ : ∀ (i : Nat) (y : Str), fr[i]? = some y → ∃ c v, F.cl.lookup y = some c ∧ ws[i]? = some v ∧ H c = some (CellO c v)
theorem Clo.same {H H1 : Hp} {f : Addr} {F : NF} {fr : List Str} {ws : List V} (h : Clo H f F fr ws) (s : Same H H1) : Clo H1 f F fr ws :=
  ⟨s _ _ h.fn, s _ _ h.code, h.len, h.dom, h.inj, fun i y e => by
    obtain ⟨c, v, a, b, d⟩ := h.at_ i y e
    exact ⟨c, v, a, b, s _ _ d⟩⟩
theorem Clo.cell {H : Hp} {f : Addr} {F : NF} {fr : List Str} {ws : List V} (h : Clo H f F fr ws) {b : Addr} (hb : b ∈ cellsOf F fr) : ∃ v, H b = some (CellO b v) := by
  obtain ⟨y, hy, e⟩ := mem_cells.mp hb
  obtain ⟨i, hi⟩ := List.mem_iff_getElem?.mp hy
  obtain ⟨c, v, a, _, d⟩ := h.at_ i y hi
  rw [e] at a
  cases a
  exact ⟨v, d⟩
/-- what is no thing by a word of its own is no cell -/
theorem Clo.out {H : Hp} {f : Addr} {F : NF} {fr : List Str} {ws : List V} (h : Clo H f F fr ws) {b : Addr} {o : HO} (e : H b = some o) (n : ∀ φ, o ≠ .ext φ) : b ∉ cellsOf F fr := fun hb => by
  obtain ⟨v, d⟩ := h.cell hb
  rw [e] at d
  exact n _ (Option.some.inj d)
section
variable {P : Program} {w : World} {K : PySem.W.Frag} {mg : Str → Option Value} {base : Heap} {k : Nat} {f : Addr} {F : NF} {ps fr : List Str} {sp : List (Option V) → Sp}
/-- A FUNCTION THAT WAS MADE IN A DEF, called from anywhere: its cells are told; while it runs they are left out, behind it they are put back -/
theorem clo_fnR (N : NOk P w K mg base CX0 k f F ps fr sp) :
    FnR P w K mg base CX0 k f (fun vs H Q E => ∃ ws, Clo H f F fr ws ∧ sp (ws.map some) vs (cut (cellsOf F fr) H) (fun v H1 => (∀ b, b ∈ cellsOf F fr → H1 b = Option.none) → Q v (mend (cellsOf F fr) H H1)) E) := by
  intro A outer s H us vs Q E hr e0 r hsp
  obtain ⟨ws, hc, hsp⟩ := hsp
  have cellAt : ∀ b, b ∈ cellsOf F fr → ∃ v, H b = some (CellO b v) := fun b hb => hc.cell hb
  have fnout : f ∉ cellsOf F fr := fun hb => by
    obtain ⟨v, e⟩ := cellAt f hb
    obtain ⟨u, _, o, e1, e2⟩ := cellO_at e0.hok e
    obtain ⟨od, sl, doc, pm, ctv, e3⟩ := fnO_at e0.hok hc.fn
    rw [e1] at e3
    cases e3
    cases e2
  have cout : F.c ∉ cellsOf F fr := fun hb => by
    obtain ⟨v, e⟩ := cellAt F.c hb
    obtain ⟨u, _, o, e1, e2⟩ := cellO_at e0.hok e
    obtain ⟨⟨oc, vs', t, h1, h2, h3⟩, _, _⟩ := e0.hok F.c _ hc.code
    rw [e1] at h1
    cases h1
    rw [e2] at h2
    cases h2
  have hokc : HOk P w (cut (cellsOf F fr) H) s.heap := fun b o e => by
    by_cases hb : b ∈ cellsOf F fr
    · rw [cut_in hb] at e
      cases e
    · rw [cut_out hb] at e
      refine (e0.hok b o e).stay (fun c u _ q => q) (fun c q => ?_) fun c xs q => ?_
      · rw [cut_out (hc.out q (fun φ z => nomatch z))]
        exact q
      · rw [cut_out (hc.out q (fun φ z => nomatch z))]
        exact q
  have noneC : ∀ b, H b = Option.none → cut (cellsOf F fr) H b = Option.none := fun b e => by
    by_cases hb : b ∈ cellsOf F fr
    · exact cut_in hb
    · rw [cut_out hb]
      exact e
  have e1 : Env0 P w K mg base A outer s (cut (cellsOf F fr) H) := ⟨e0.frames, e0.mod, fun b o q => ⟨(e0.bs b o q).1, noneC b (e0.bs b o q).2⟩, e0.bsz, e0.funs, fun b hb => noneC b (e0.frf b hb), hokc, e0.bare⟩
  have C : CellsAt F.cl fr (ws.map some) s.heap (cut (cellsOf F fr) H) := by
    refine ⟨by rw [List.length_map]; exact hc.len, fun y c e => ?_, hc.inj, fun i y e => ?_⟩
    · have hb : c ∈ cellsOf F fr := mem_cells.mpr ⟨y, hc.dom y c e, e⟩
      obtain ⟨v, d⟩ := cellAt c hb
      obtain ⟨u, _, z⟩ := cellO_at e0.hok d
      exact ⟨cut_in hb, _, z⟩
    · obtain ⟨c, v, a, b, d⟩ := hc.at_ i y e
      refine ⟨c, a, fun v' e' => ?_⟩
      rw [List.getElem?_map, b] at e'
      cases e'
      obtain ⟨u, r', z⟩ := cellO_at e0.hok d
      exact ⟨u, r', z⟩
  refine codeAny_mono (N.run A outer s (cut (cellsOf F fr) H) us vs (ws.map some) _ E hr e1 (by rw [cut_out fnout]; exact hc.fn) (by rw [cut_out cout]; exact hc.code) C r hsp) fun res s' hq => ?_
  cases res with
  | error e => exact hq
  | ok fl =>
    cases fl with
    | next => exact hq
    | brk => exact hq
    | cont => exact hq
    | ret u =>
      obtain ⟨v, H1, os, bare, un, hok1, rv, q⟩ := hq
      have gone : ∀ b, b ∈ cellsOf F fr → H1 b = Option.none := fun b hb => by
        obtain ⟨v, d⟩ := cellAt b hb
        obtain ⟨u, _, o, z1, z2⟩ := cellO_at e0.hok d
        exact un.free b o z1 (cut_in hb) (by simp)
      have notfr : ∀ b, b ∈ cellsOf F fr → b ∉ frs outer := fun b hb z => by
        obtain ⟨v, d⟩ := cellAt b hb
        rw [e0.frf b z] at d
        cases d
      refine ⟨v, mend (cellsOf F fr) H H1, os, bare, ⟨fun b o a n h1 h2 => un.keep b o a (noneC b n) h1 h2, fun b o a n h1 h2 => un.slot b o a (noneC b n) h1 h2, fun b o a n h2 => ?_, un.there, fun b xs e => ?_, fun b o u e => ?_, fun b ps e => ?_⟩, fun b o e => ?_, rv, q gone⟩
      · by_cases hb : b ∈ cellsOf F fr
        · rw [mend_in hb]
          exact n
        · rw [mend_out hb]
          exact un.free b o a (noneC b n) h2
      · have hb := hc.out e (fun φ z => nomatch z)
        rw [mend_out hb]
        exact un.tups b xs (by rw [cut_out hb]; exact e)
      · have hb := hc.out e (fun φ z => nomatch z)
        rw [mend_out hb]
        exact un.frzs b o u (by rw [cut_out hb]; exact e)
      · have hb := hc.out e (fun φ z => nomatch z)
        rw [mend_out hb]
        exact un.tbls b ps (by rw [cut_out hb]; exact e)
      · by_cases hb : b ∈ cellsOf F fr
        · rw [mend_in hb] at e
          obtain ⟨v', d⟩ := cellAt b hb
          rw [d] at e
          cases e
          obtain ⟨u', r', o', z1, z2⟩ := cellO_at e0.hok d
          exact cellO_ok ⟨u', r', o', un.keep b o' z1 (cut_in hb) (notfr b hb) (by simp), z2⟩
        · rw [mend_out hb] at e
          refine (hok1 b o e).stay (fun c u _ q => q) (fun c q => ?_) fun c xs q => ?_
          · have hb' : c ∉ cellsOf F fr := fun z => by
              rw [gone c z] at q
              cases q
            rw [mend_out hb']
            exact q
          · have hb' : c ∉ cellsOf F fr := fun z => by
              rw [gone c z] at q
              cases q
            rw [mend_out hb']
            exact q
end
theorem mend_at {cs : List Addr} {H H1 : Hp} {a : Addr} {o : HO} (g : ∀ b, b ∈ cs → H1 b = Option.none) (e : H1 a = some o) : mend cs H H1 a = some o := by
  rw [mend_out fun z => by rw [g a z] at e; cases e]
  exact e
theorem cut_at {cs : List Addr} {H : Hp} {a : Addr} {o : HO} (n : a ∉ cs) (e : H a = some o) : cut cs H a = some o := (cut_out n).trans e
end Inf

set_option Elab.async false
set_option linter.all false
set_option maxRecDepth 100000
set_option maxHeartbeats 4000000
namespace Inf
open PySem PySem.Spec PyProof.Rows L2 NdefX LamX
/-! ### a body that ends in a return: what its names hold there is told -/
abbrev TSR := (L2.St → V → Hp → Prop) → L2.St → Hp → Prop
structure PSsR (X : Cx) (ss : List Stmt) (t : TSR) : Prop where
  run : ∀ (pins : List (Addr × Obj)) (s : Shared) (σ : L2.St) (H : Hp) (R : L2.St → V → Hp → Prop), Inv X pins σ H s → t R σ H →
    wpAny (model X.prog X.w) X.A (execs ss X.env) (fun fl s' => ∃ u v σ' H', fl = .ret u ∧ Inv X pins σ' H' s' ∧ L2.RelV v u ∧ R σ' v H') X.xe s
theorem psr_cons {X : Cx} {st : Stmt} {rest : List Stmt} {t : TS} {u : TSR} (h1 : PS X st t) (h2 : PSsR X rest u) : PSsR X (st :: rest) (fun R σ H => t { nx := fun σ' H' => u R σ' H', rt := fun _ _ => False } σ H) := by
  refine ⟨fun pins s σ H R I h => ?_⟩
  refine wpAny_execs_cons (thn (h1.run pins s σ H { nx := fun σ' H' => u R σ' H', rt := fun _ _ => False } I h) fun fl s1 q => ?_)
  cases fl with
  | next =>
    obtain ⟨σ1, H1, I1, q1⟩ := q
    exact h2.run pins s1 σ1 H1 R I1 q1
  | brk =>
    obtain ⟨_, _, _, q1⟩ := q
    exact False.elim q1
  | cont =>
    obtain ⟨_, _, _, q1⟩ := q
    exact False.elim q1
  | ret v =>
    obtain ⟨_, _, _, _, _, q1⟩ := q
    exact False.elim q1
theorem psr_ret {X : Cx} {e : Expr} {pos : Pos} {te : TE} (he : PE X e te) : PSsR X [.Return (some e) pos] (fun R σ H => te σ H (R σ)) := by
  refine ⟨fun pins s σ H R I h => ?_⟩
  refine wpAny_execs_cons (wpAny_Return_some (thn (he.run pins s σ H _ I h) fun v s1 ⟨x, H1, I1, r1, q1⟩ => ?_))
  exact ⟨v, x, σ, H1, rfl, I1, r1, q1⟩
/-! ### a def that returns things that hold its names -/
/-- the heap behind the return: the def's cells are told -/
structure Fin (cells : List (Str × Addr)) (names : List (Str × NameKind)) (N : List Str) (σ : L2.St) (H H' : Hp) : Prop where
  same : Same H H'
  gone : ∀ b, H' b = Option.none → H b = Option.none
  inj : ∀ x y c, cells.lookup x = some c → cells.lookup y = some c → x = y
  at_ : ∀ (i : Nat) (y : Str) (c : Addr) (v : V), N[i]? = some y → names.lookup y = some .cell → cells.lookup y = some c → σ[i]? = some (some v) → H' c = some (CellO c v)
theorem cells_big : ∀ (names : List (Str × NameKind)) (n lo : Nat) (acc : List (Str × Addr)), (∀ p ∈ acc, lo ≤ p.2) → lo ≤ n → ∀ p ∈ cellsFrom n names acc, lo ≤ p.2
  | [], n, lo, acc, h, _ => h
  | (x, kd) :: r, n, lo, acc, h, hn => by
    unfold cellsFrom
    split
    · exact cells_big r (n + 1) lo _ (fun p hp => by
        rcases List.mem_cons.mp hp with rfl | hp
        · exact hn
        · exact h p hp) (by omega)
    · exact cells_big r n lo acc h hn
section
variable {CX : CXT} {P : Program} {w : World} {K : PySem.W.Frag} {mg : Str → Option Value} {base : Heap} {N ps : List Str} {qual : Str} {scope : Scope} {f : Addr} {cdv : Value} {A : Around} {outer : List Env} {s s' : Shared} {H H' : Hp} {E : XK} {σ : L2.St} {Q : VK}
open Classical in
theorem fin_make (nd : N.Nodup) (J : Inv (cxOf CX P w K mg base N qual scope f cdv A outer s H E) [] σ H' s') :
    ∃ H'', Fin (envOfC qual scope s.heap.objs.size f cdv).cells scope.names N σ H' H'' ∧ Un (frs outer) [] H H'' s.heap s'.heap ∧ HOk P w H'' s'.heap := by
  have ge : ∀ (y : Str) (c : Addr), (envOfC qual scope s.heap.objs.size f cdv).cells.lookup y = some c → s.heap.objs.size ≤ c := fun y c e =>
    cells_big scope.names (s.heap.objs.size + 1) s.heap.objs.size [] (fun p hp => by cases hp) (Nat.le_succ _) (y, c) (PySem.mem_of_lookup e)
  have J0 : Un (frs outer) [] H H' s.heap s'.heap := J.base
  have inj := J.ok.inj
  let Pr : Addr → V → Prop := fun b v => ∃ (i : Nat) (y : Str), N[i]? = some y ∧ scope.names.lookup y = some .cell ∧ (envOfC qual scope s.heap.objs.size f cdv).cells.lookup y = some b ∧ σ[i]? = some (some v)
  have gone : ∀ b v, Pr b v → H' b = Option.none := fun b v ⟨i, y, _, _, e, _⟩ => J.freeC y b e
  have uniq : ∀ b v u, Pr b v → Pr b u → v = u := fun b v u ⟨i, y, a1, a2, a3, a4⟩ ⟨j, z, b1, b2, b3, b4⟩ => by
    have e1 : y = z := inj y z b a3 b3
    subst e1
    have e2 : i = j := by
      obtain ⟨h1, g1⟩ := List.getElem?_eq_some_iff.mp a1
      obtain ⟨h2, g2⟩ := List.getElem?_eq_some_iff.mp b1
      exact (List.getElem_inj nd).mp (g1.trans g2.symm)
    subst e2
    rw [a4] at b4
    exact Option.some.inj (Option.some.inj b4)
  let H'' : Hp := fun b => if h : ∃ v, Pr b v then some (CellO b (Classical.choose h)) else H' b
  have inC : ∀ b v, Pr b v → H'' b = some (CellO b v) := fun b v h => by
    have hx : ∃ v, Pr b v := ⟨v, h⟩
    show (if h : ∃ v, Pr b v then some (CellO b (Classical.choose h)) else H' b) = _
    rw [dif_pos hx, uniq b _ v (Classical.choose_spec hx) h]
  have outC : ∀ b, (¬ ∃ v, Pr b v) → H'' b = H' b := fun b h => dif_neg h
  have known : ∀ b o, H' b = some o → H'' b = some o := fun b o e => by
    rw [outC b fun ⟨v, h⟩ => by rw [gone b v h] at e; cases e]
    exact e
  refine ⟨H'', ⟨known, fun b e => ?_, inj, fun i y c v h1 h2 h3 h4 => inC c v ⟨i, y, h1, h2, h3, h4⟩⟩, ⟨J0.keep, J0.slot, fun b o a n h2 => ?_, J0.there, fun b xs e => known _ _ (J0.tups b xs e), fun b o u e => known _ _ (J0.frzs b o u e), fun b ps' e => ?_⟩, fun b o e => ?_⟩
  · by_cases hb : ∃ v, Pr b v
    · obtain ⟨v, h⟩ := hb
      rw [inC b v h] at e
      cases e
    · rw [outC b hb] at e
      exact e
  · rw [outC b fun ⟨v, i, y, _, _, e, _⟩ => by
      exact absurd (Heap.lt_size a) (Nat.not_lt.mpr (ge y b e))]
    exact J0.free b o a n h2
  · obtain ⟨more, e2⟩ := J0.tbls b ps' e
    exact ⟨more, known _ _ e2⟩
  · by_cases hb : ∃ v, Pr b v
    · obtain ⟨v, h⟩ := hb
      rw [inC b v h] at e
      cases e
      obtain ⟨i, y, a1, a2, a3, a4⟩ := h
      obtain ⟨m, hn, hl⟩ := J.loc
      obtain ⟨u, ru, lk⟩ := hl i y v a1 a4 (.inr (.inl a2))
      refine cellO_ok ⟨u, ru, ?_⟩
      rcases lk with ⟨z, _⟩ | ⟨_, c', hc', hcell⟩
      · have z' : scope.names.lookup y = some .local := z
        rw [a2] at z'
        cases z'
      · have hc2 : (envOfC qual scope s.heap.objs.size f cdv).cells.lookup y = some c' := hc'
        rw [a3] at hc2
        cases hc2
        exact hcell
    · rw [outC b hb] at e
      exact (J.hok b o e).stay (fun c u _ q => q) (fun c q => known _ _ q) fun c xs q => known _ _ q
end
/-- THE RULE for such a def -/
theorem Fun.okC {P : Program} {w : World} {K : PySem.W.Frag} {mg : Str → Option Value} {base : Heap} {x qual : Str} {st : Stmt} {f : Addr} {fd : FuncData} {N ps : List Str} {k : Nat} {sp : Sp} (F : L2.Fun K x qual st f fd) (S : FnScope N ps (defScope st)) (len : ∀ vs H Q E, sp vs H Q E → vs.length = ps.length)
    (hbody : ∀ (cdv : Value) (A : Around) (outer : List Env) (s : Shared) (H : Hp) (vs : List V) (Q : VK) (E : XK), Room k (A.deeper (envOfC qual (defScope st) s.heap.objs.size f cdv)) → PySem.W.codeIn K cdv qual = true → sp vs H Q E →
      ∃ t, PSsR (cxOf CX0 P w K mg base N qual (defScope st) f cdv A outer s H E).nox (defBody st) t ∧
        t (fun σ v H' => ∀ H'', Fin (envOfC qual (defScope st) s.heap.objs.size f cdv).cells (defScope st).names N σ H' H'' → Q v H'') (start N vs) H) : FnOk P w K mg base CX0 (k + 1) f fd ps sp := by
  obtain ⟨oc, od, kV, doc, pm, an, cdv, ct, osl, rfl, lk, hcd⟩ := F.ex
  refine ⟨len, fun A outer s H args us vs Q E hr e0 hb r hsp => ?_⟩
  have hl := len _ _ _ _ hsp
  have KX : K.In s.heap := e0.mod.kin.keeps fun b o e => (e0.bs b o e).1
  have lim : s.heap.NoLimit := e0.mod.nolimit.keeps fun b o e => (e0.bs b o e).1
  have hkind : ∀ y ∈ ps.zip us, (defScope st).names.lookup y.1 = some .local ∨ ((defScope st).names.lookup y.1 = some .cell ∧ ((cellsFrom (s.heap.objs.size + 1) (defScope st).names []).lookup y.1).isSome = true) := fun ⟨n, v⟩ hy => by
    rcases S.par n (List.of_mem_zip hy).1 with q | q
    · exact .inl q
    · exact .inr ⟨q, PySem.W.cellsFrom_some _ _ _ (.inl q)⟩
  refine codeAny_call_function hr.depth (KX _ _ lk) rfl S.co S.gen rfl (PySem.W.codeRec_of KX hcd) (hb _ _ _ _ ?_)
  refine wpAny_newFunctionEnv_cells S.kind hkind fun env he s1 xx => ?_
  subst he
  refine ⟨lim.keeps xx.toInCall.keep, codeAny_func ?_⟩
  obtain ⟨t, ht, hq⟩ := hbody cdv A outer s H vs Q E (hr.deeper _) hcd hsp
  have I : Inv (cxOf CX0 P w K mg base N qual (defScope st) f cdv A outer s H E) [] (start N vs) H s1 := inv_start S hr.hd e0 hl r xx
  refine wpAny_mono (ht.run [] s1 (start N vs) H _ (I.wish _) hq) (fun fl s' hs => ?_) fun e s' hs => False.elim hs
  obtain ⟨u, v, σ', H', rfl, J', rv, q⟩ := hs
  have J : Inv (cxOf CX0 P w K mg base N qual (defScope st) f cdv A outer s H E) [] σ' H' s' := J'.unwish
  obtain ⟨H'', hF, hU, hO⟩ := fin_make S.nd J
  exact ⟨v, H'', J.os, J.bare, hU, hO, rv, q H'' hF⟩
end Inf

set_option Elab.async false
set_option linter.all false
set_option maxRecDepth 100000
set_option maxHeartbeats 4000000
namespace Inf
open PySem PySem.Spec PyProof.Rows L2 NdefX LamX
/-! ### f( *values), f a name that holds a function that was made in a def -/
/-- such a thing is a function object -/
def FnHO (f : Addr) (o : HO) : Prop := ∀ (P : Program) (w : World) (H : Hp) (h : Heap), HOk P w H h → H f = some o → PySem.W.FnAt f h
theorem fnHO_of {f : Addr} {F : NF} : FnHO f (FnO f F) := fun P w H h hok e => by
  obtain ⟨od, sl, doc, pm, ctv, z⟩ := fnO_at hok e
  exact ⟨_, od, _, sl, z⟩
def tAct (P : Program) (w : World) (K : PySem.W.Frag) (mg : Str → Option Value) (base : Heap) (CX : CXT) (k i : Nat) (E : L2.St → XK) (te : TE) : TE := fun σ H Q => ∃ f, σ[i]? = some (some (.ref f)) ∧ te σ H fun y H1 => ∃ a xs o sp, y = V.ref a ∧ (SqT K H1 a xs ∨ SqL K H1 a xs) ∧ H1 f = some o ∧ FnHO f o ∧
  FnR P w K mg base CX k f sp ∧ sp xs H1 Q (E σ)
section
variable {X : Cx} {CX : CXT} {k i : Nat} {E : L2.St → XK} {x : Str} {e : Expr} {te : TE} {p sp_ pos : Pos}
theorem run_fnE {pins : List (Addr × Obj)} {σ : L2.St} {H : Hp} {s : Shared} {f : Addr} {sp : Sp} {Q : VK} {us : List Value} {vs : List V} (F : FnR X.prog X.w X.K X.mg X.base CX k f sp) (hr : Room k X.A) (hx : PassesAt CX X σ (E σ)) (I : Inv X pins σ H s) (r : Vals vs us) (h : sp vs H Q (E σ)) :
    wpAny (model X.prog X.w) X.A (call (.ref f) us) (EP X pins σ Q) X.xe s := by
  refine wpAny_call (codeAny_mono (F X.A X.stack s H us vs Q (E σ) hr I.env0 r h) fun r s' hq => ?_)
  match r, hq with
  | .error e, hq => exact hx pins H s e s' I hq
  | .ok (.ret u), hq => exact I.after hq
  | .ok .next, hq => exact False.elim hq
  | .ok .brk, hq => exact False.elim hq
  | .ok .cont, hq => exact False.elim hq
theorem pe_act (hN : X.N[i]? = some x) (hv : Vis X.env.scope x) (hr : Room k X.A) (hx : ∀ σ, PassesAt CX X σ (E σ)) (he : PE X e te) (hd : (x == ("__debug__" : Str)) = false := by decide) (hcd : (x == ("__classdict__" : Str)) = false := by decide)
    (hst : starEach [.Starred e sp_] X.env = [(true, eval e X.env)] := by rfl) : PE X (.Call (.Name x p) [.Starred e sp_] [] pos) (tAct X.prog X.w X.K X.mg X.base CX k i E te) := by
  refine ⟨fun pins s σ H Q I h => ?_⟩
  obtain ⟨f, hs, h⟩ := h
  refine wpAny_Call_Name_kw (thn ((pe_var (pos := p) hN hv hd hcd).run pins s σ H (fun v H1 => v = .ref f ∧ H1 = H) I ⟨.ref f, hs, rfl, rfl⟩) fun u s1 ⟨v, H1, I1, r1, ev, eH⟩ => ?_)
  subst ev
  rw [eH] at I1
  obtain rfl : u = Value.ref f := r1
  rw [show backTo pos (starEach [.Starred e sp_] X.env) = [(true, (do let v ← eval e X.env; standAt pos; pure v))] by rw [hst]; rfl]
  refine PySem.W.ks_call (P := PySem.W.FnAt f) rfl PySem.W.keeps_F (PySem.W.ks_lone ?_)
  refine thn (he.run pins s1 σ H _ I1 h) fun v s2 ⟨y, H2, I2, ry, a, xs, o, sp, ey, hxs, hf, ho, hF, q⟩ => ?_
  subst ey
  obtain rfl : v = Value.ref a := ry
  exact StX.star_any I2 hxs fun us s3 I3 rv => ⟨ho _ _ _ _ I3.hok hf, run_fnE hF hr (hx σ) I3 rv q⟩
end
/-! ### try: body finally: suite, where nothing is raised -/
section
variable {X : Cx} {body : List Stmt} {f₀ : Stmt} {fs : List Stmt} {pos : Pos} {tb tf : TS}
def tFin0 (tb tf : TS) : TS := fun D σ H => tb { nx := fun σ1 H1 => tf D σ1 H1, rt := fun _ _ => False } σ H
theorem ps_fin0 (hb : PSs X.nox body tb) (hf : PSs X.nox (f₀ :: fs) tf) : PS X (.Try body [] [] (f₀ :: fs) pos) (tFin0 tb tf) := by
  refine ⟨fun pins s σ H D I h => wpAny_Try_finally (wpAny_mono (hb.run pins s σ H _ (I.wish _) h) (fun g s1 z => ?_) fun _ _ z => False.elim z)⟩
  match g, z with
  | .ret u, z => exact (z.elim fun _ z => z.elim fun _ z => z.elim fun _ z => z.2.2).elim
  | .brk, z => exact (z.elim fun _ z => z.elim fun _ z => z.2).elim
  | .cont, z => exact (z.elim fun _ z => z.elim fun _ z => z.2).elim
  | .next, z =>
    obtain ⟨σ1, H1, J1, q1⟩ := z
    refine wpAny_execs_nil (wpAny_mono (hf.run pins s1 σ1 H1 D (J1.unwish.wish _) q1) (fun g2 s2 q2 => ?_) fun _ _ e => False.elim e)
    have q3 : SP X pins D g2 s2 := q2.unwish
    cases g2 <;> exact q3
end
end Inf

set_option Elab.async false
set_option linter.all false
set_option maxRecDepth 100000
set_option maxHeartbeats 4000000
namespace Inf
open PySem PySem.Spec PyProof.Rows L2 NdefX LamX
/-- the tables of the code objects of the top's defs, as the written part and the head tell them -/
def TopTabs (q : Program) (K : PySem.W.Frag) (mg : Str → Option Value) (h : Heap) : Prop := ∀ (x : Str) (f c P : Addr) (o1 : Obj) (fd1 : FuncData) (e : Value) (dd : Option Addr) (vs1 : Array Value) (sl : Array (Option Value)),
  (recsOf q).any (fun d => d.name == x) = true → mg x = some (.ref f) → K.lookup f = some o1 → o1.data = .func fd1 → fd1.code = .ref c → K.lookup c = some ⟨e, dd, .fields vs1, sl⟩ → vs1[11]? = some (.ref P) →
    PySem.W.CodeHd h c P ∧ h.get? P = some { cls := .none, data := .fields #[] }
theorem walk_top {l : PySem.W.OpenLaw} {n k : Nat} {q : Program} {loose : List Str} {XP : (Str → Option Value) → Heap → Prop} {YP : World → Heap → Prop} {d : DefRec} {K : Params → PySem.W.Frag} {CX : World → CXT} {x : Str}
    (hn : l.most = some n) (hn2 : n ≤ sizeLine) (hdf : d.params.defaults = []) (hr : Room k callerA) (hY : ∀ (w : World) (h : Heap), YP w h → (K w.params).In h)
    (F : ∀ (w : World) (mg : Str → Option Value) (fa : Addr) (h : Heap), YP w h → (K w.params).In h → h.Ns mainGlobals mg → mg d.name = some (.ref fa) → TopTabs q (K w.params) mg h → LawAtS l w (K w.params) (CX w) k n x mg fa h)
    (hCX : ∀ (w : World) (H : Hp) (s : Shared) (e : Value) (s' : Shared), CX w [] H s (fun _ _ _ => False) e s' → False) :
    PySem.W.WalkO q loose XP YP l.row.toRowW d [] (fun f vs => PySem.call f vs) :=
  Att.attach_callB hn hdf fun w s₀ s₁ mg mb fa o pm cd doc a vs ns G Y ho hd hcd hmg hobj hints hlen hbits hg => by
    have KX := hY w _ Y
    have tabs : TopTabs q (K w.params) mg s₁.heap := fun x f c P o1 fd1 e dd vs1 sl hrec hx k1 k2 k3 k4 k5 => by
      obtain ⟨dL, hm, hn1⟩ := List.any_eq_true.mp hrec
      have hn2 : dL.name = x := beq_iff_eq.mp hn1
      obtain ⟨a', o', fd', c', P', h1, h2, h3, h4, h5, h6⟩ := G.T.tab dL hm
      rw [hn2, hx] at h1
      cases h1
      have g1 := KX _ _ k1
      rw [g1] at h2
      cases h2
      rw [k2] at h3
      cases h3
      rw [k3] at h4
      cases h4
      have hC := PySem.W.CodeHd.of h5 h6
      obtain ⟨⟨oc, vc, e1, _, e3, e4⟩, hP⟩ := h6
      have g2 := KX _ _ k4
      rw [g2] at e1
      cases e1
      cases e3
      rw [k5] at e4
      cases e4
      exact ⟨hC, hP⟩
    obtain ⟨fd, cs, sp, hT, nT, C, hb, hsp, hF⟩ := F w mg fa _ Y KX G.T.g hmg tabs
    exact law_callTs KX G.T.g G.T.b G.T.builtins G.T.nolimit hg hT nT C G.T.bmain hobj hints (Nat.le_trans hlen hn2) hr hF hb (fun H hH hS => hsp H a ns hlen hbits hH hS) fun H e s' => hCX w H s₁ e s'
end Inf

set_option Elab.async false
set_option linter.all false
set_option maxRecDepth 100000
set_option maxHeartbeats 4000000
namespace Inf
open PySem PySem.Spec PyProof.Rows L2 NdefX LamX
/-! ### promises of defs that are called where no repr is under way -/
structure FnOkG (P : Program) (w : World) (K : PySem.W.Frag) (mg : Str → Option Value) (base : Heap) (CX : CXT) (k : Nat) (f : Addr) (fd : FuncData) (ps : List Str) (sp : Sp) : Prop where
  len : ∀ vs H Q E, sp vs H Q E → vs.length = ps.length
  run : ∀ (A : Around) (outer : List Env) (s : Shared) (H : Hp) (args : Args) (us : List Value) (vs : List V) (Q : VK) (E : XK), A.guards = some [] → Room k A → Env0 P w K mg base A outer s H → BindsTo s fd args (ps.zip us) → Vals vs us → sp vs H Q E →
    codeAny (model P w) A (.call (.ref f) args) (CR CX outer P w H s Q E) s
theorem FnOkG.of {P : Program} {w : World} {K : PySem.W.Frag} {mg : Str → Option Value} {base : Heap} {CX : CXT} {k : Nat} {f : Addr} {fd : FuncData} {ps : List Str} {sp : Sp} (F : FnOk P w K mg base CX k f fd ps sp) : FnOkG P w K mg base CX k f fd ps sp :=
  ⟨F.len, fun A outer s H args us vs Q E _ => F.run A outer s H args us vs Q E⟩
section
variable {P : Program} {w : World} {K : PySem.W.Frag} {mg mb : Str → Option Value} {CX : CXT} {k : Nat} {fa a : Addr} {cs : List (Addr × Addr)} {fd : FuncData} {x : Str} {sp : Sp} {s₁ : Shared} {vs : List Value} {ns : List Int}
/-- the law's call, from such a promise -/
theorem call_lawG (KX : K.In s₁.heap) (hns : s₁.heap.Ns mainGlobals mg) (hb : s₁.heap.Ns builtinsNs mb) (hbb : ∀ x : Str, x ≠ "__name__" → mb x = bootBuiltins x) (hlim : s₁.heap.NoLimit) (hg : s₁.gens = #[])
    (hT : ∀ p ∈ cs, s₁.heap.get? p.2 = some { cls := .none, data := .fields #[] }) (nT : ∀ p ∈ cs, K.lookup p.2 = none) (C : ∀ p ∈ cs, PySem.W.CodeHd s₁.heap p.1 p.2)
    (hbm : ∃ (bm : Addr) (ob : Obj), mg "__builtins__" = some (.ref bm) ∧ bm ≠ builtinsNs ∧ s₁.heap.get? bm = some ob ∧ ob.cls = .type "module" ∧ ob.dict = some builtinsNs ∧ ob.data = .plain)
    (ha : s₁.heap.get? a = some { cls := .type "list", data := .seq vs.toArray }) (hi : IntsAre vs ns) (hl : ns.length ≤ sizeLine) (hr : Room k callerA)
    (F : ∀ base : Heap, K.In base → base.Ns mainGlobals mg → (∀ p ∈ cs, TabB base mg p.1 p.2) → FnOkG P w K mg base CX k fa fd [x] sp) (hbind : ∀ (s : Shared) (u : Value), BindsTo s fd ⟨[u], []⟩ [(x, u)])
    (hsp : ∀ H : Hp, (∀ p ∈ cs, H p.2 = some (.tbl #[])) → SqL K H a (ns.map V.int) → sp [.ref a] H (fun v _ => v = .bl true) fun _ _ _ => False)
    (hCX : ∀ H e s', CX [] H s₁ (fun _ _ _ => False) e s' → False) :
    codeAny (model P w) callerA (.call (.ref fa) ⟨[.ref a], []⟩) (fun r s' => r = .ok (.ret (.bool true)) ∧ OldK s₁.heap s'.heap ∧ s'.os = s₁.os ∧ AllBare s'.gens) s₁ := by
  have tabAt : ∀ b, b ∈ cs.map (·.2) → s₁.heap.get? b = some { cls := .none, data := .fields #[] } := fun b hb => (List.mem_map.mp hb).elim fun p hp => hp.2 ▸ hT p hp.1
  have tabK : ∀ b, b ∈ cs.map (·.2) → K.lookup b = none := fun b hb => (List.mem_map.mp hb).elim fun p hp => hp.2 ▸ nT p hp.1
  -- the abstract heap: the tables, and the script where the written part doesn't hold it
  let H : Hp := fun b => if b ∈ cs.map (·.2) then some (.tbl #[]) else if b = a ∧ K.lookup a = none then some (.frz { cls := .type "list", data := .seq vs.toArray } (.lst (ns.map V.int))) else none
  have aNot : a ∉ cs.map (·.2) := fun z => by
    have := tabAt a z
    rw [ha] at this
    cases this
  have Htab : ∀ b, b ∈ cs.map (·.2) → H b = some (.tbl #[]) := fun b hb => if_pos hb
  have Hcase : ∀ b u, H b = some u → (b ∈ cs.map (·.2) ∧ u = .tbl #[]) ∨ (b = a ∧ K.lookup a = none ∧ u = .frz { cls := .type "list", data := .seq vs.toArray } (.lst (ns.map V.int))) := fun b u e => by
    by_cases h1 : b ∈ cs.map (·.2)
    · exact .inl ⟨h1, Option.some.inj (e.symm.trans (Htab b h1))⟩
    · by_cases h2 : b = a ∧ K.lookup a = none
      · exact .inr ⟨h2.1, h2.2, Option.some.inj (e.symm.trans ((if_neg h1).trans (if_pos h2)))⟩
      · exact absurd (e.symm.trans ((if_neg h1).trans (if_neg h2))) (fun z => nomatch z)
  have other : ∀ b o, s₁.heap.get? b = some o → (∀ its n, o.data ≠ .seq its n) → o.data ≠ .fields #[] → H b = none := fun b o e n1 n2 => by
    match q : H b with
    | none => rfl
    | some u =>
      rcases Hcase b u q with ⟨z, _⟩ | ⟨z, _, _⟩
      · rw [tabAt b z] at e
        exact absurd (by cases e; rfl) n2
      · rw [z, ha] at e
        exact absurd (by cases e; rfl) (n1 vs.toArray 0)
  have hok : HOk P w H s₁.heap := fun b u e => by
    rcases Hcase b u e with ⟨z, rfl⟩ | ⟨rfl, _, rfl⟩
    · exact tabAt b z
    · exact ⟨ha, by rw [List.length_map]; exact hl, vs, _, vals_ints hi, ha⟩
  have hS : SqL K H a (ns.map V.int) := by
    match hk : K.lookup a with
    | none => exact .inl (.inr ⟨_, (if_neg aNot).trans (if_pos ⟨rfl, hk⟩)⟩)
    | some o =>
      have e := KX a o hk
      rw [ha] at e
      cases e
      have lenV := hi.length
      exact .inr ⟨_, vs.toArray, _, hk, rfl, rfl, rfl, by rw [List.size_toArray, lenV]; exact hl, by simpa using vals_ints hi⟩
  have low : ∀ b o, s₁.heap.get? b = some o → H b = none → (hidT s₁.heap H).get? b = some o := fun b o e n => hidT_get e n
  have lowNs : ∀ {b : Addr} {m : Str → Option Value}, s₁.heap.Ns b m → (hidT s₁.heap H).Ns b m := fun {b m} h => by
    obtain ⟨o, es, ep, e, d, r⟩ := h
    exact ⟨o, es, ep, low b o e (other b o e (fun its n z => by rw [d] at z; cases z) fun z => by rw [d] at z; cases z), d, r⟩
  have lowK : K.In (hidT s₁.heap H) := fun b o e => low b o (KX b o e) (by
    match q : H b with
    | none => rfl
    | some u =>
      rcases Hcase b u q with ⟨z, _⟩ | ⟨rfl, z, _⟩
      · rw [tabK b z] at e
        cases e
      · rw [z] at e
        cases e)
  have notG : ∀ b o, s₁.heap.get? b = some o → (∀ es ep, o.data ≠ .dict es ep) → b ≠ mainGlobals := fun b o e n z => by
    obtain ⟨o', es, ep, e', d, _⟩ := hns
    rw [z, e'] at e
    cases e
    exact n es ep d
  have lowT : ∀ p ∈ cs, TabB (hidT s₁.heap H) mg p.1 p.2 := fun p hp => by
    refine ⟨?_, ?_, Ne.symm (notG p.2 _ (hT p hp) (fun es ep z => nomatch z))⟩
    · obtain ⟨o, us, file, tf, flags, tg, inF, text, tt, e1, r1, r2, r3, rest⟩ := C p hp
      refine ⟨o, us, file, tf, flags, tg, inF, text, tt, low _ o e1 (other _ o e1 (fun its n z => by rw [r2] at z; cases z) fun z => ?_), r1, r2, r3, rest⟩
      rw [r2] at z
      cases z
      simp at r3
    · obtain ⟨bm, ob, b1, b2, b3, b4, b5, b6⟩ := hbm
      refine ⟨bm, ob, b1, b2, notG bm ob b3 (fun es ep z => by rw [b6] at z; cases z), fun z => ?_, low bm ob b3 (other bm ob b3 (fun its n z => by rw [b6] at z; cases z) fun z => by rw [b6] at z; cases z), b4, b5, b6⟩
      rw [z, hT p hp] at b3
      cases b3
      cases b6
  have lowM : L2.Mod K mg (hidT s₁.heap H) := ⟨lowK, lowNs hns, ⟨mb, lowNs hb, hbb⟩, hlim.elim fun mc h => ⟨mc, lowNs h.1, h.2⟩⟩
  have e0 : Env0 P w K mg (hidT s₁.heap H) callerA [] s₁ H := ⟨rfl, lowM, fun b o e => of_hidT e, Nat.le_of_eq (hidT_size _ _), trivial, fun b hb => absurd (show b ∈ ([] : List Addr) from hb) (List.not_mem_nil), hok, .of_eq hg⟩
  refine codeAny_mono ((F _ lowK (lowNs hns) lowT).run callerA [] s₁ H ⟨[.ref a], []⟩ [.ref a] [.ref a] _ _ rfl hr e0 (hbind s₁ (.ref a)) (.cons rfl .nil) (hsp H (fun p hp => Htab _ (List.mem_map.mpr ⟨p, hp, rfl⟩)) hS)) fun r s' h => ?_
  match r, h with
  | .error e, h => exact (hCX H e s' h).elim
  | .ok .next, h => exact False.elim h
  | .ok .brk, h => exact False.elim h
  | .ok .cont, h => exact False.elim h
  | .ok (.ret u), h =>
    obtain ⟨v, H', os, bare, un, hok', r', q⟩ := h
    have q2 : v = .bl true := q
    subst q2
    obtain rfl : u = Value.bool true := r'
    have stays : ∀ b o, b ∉ cs.map (·.2) → s₁.heap.get? b = some o → s'.heap.get? b = some o := fun b o nb e => by
      match z : H b with
      | none => exact un.keep b o e z (fun z => nomatch z) (fun z => nomatch z)
      | some u =>
        rcases Hcase b u z with ⟨y, _⟩ | ⟨rfl, _, rfl⟩
        · exact absurd y nb
        · obtain ⟨e1, _⟩ := hok' b _ (un.frzs b _ _ z)
          rw [ha] at e
          cases e
          exact e1
    have tabs : ∀ p ∈ cs, ∃ more : Array Value, s'.heap.get? p.2 = some { cls := .none, data := .fields more } := fun p hp =>
      (un.tbls p.2 #[] (Htab _ (List.mem_map.mpr ⟨p, hp, rfl⟩))).elim fun more z => ⟨_, hok' p.2 _ z⟩
    refine ⟨rfl, ⟨fun b o e => ?_, fun b o e => ?_⟩, os, bare⟩
    · by_cases nb : b ∈ cs.map (·.2)
      · obtain ⟨p, hp, rfl⟩ := List.mem_map.mp nb
        rw [hT p hp] at e
        cases e
        exact (tabs p hp).elim fun more hm => .inr (.inl ⟨((C p hp).tab (hT p hp)).isCodeTable, rfl, #[], more, rfl, hm.trans (by rw [Array.empty_append])⟩)
      · exact .inl (stays b o nb e)
    · by_cases nb : b ∈ cs.map (·.2)
      · obtain ⟨p, hp, rfl⟩ := List.mem_map.mp nb
        exact (tabs p hp).elim fun more hm => ⟨_, hm⟩
      · exact ⟨o, stays b o nb e⟩
end
/-- what is known of the law's promise at the head's heap, where no repr is under way -/
def LawAtG (l : PySem.W.OpenLaw) (w : World) (K : PySem.W.Frag) (CX : CXT) (k n : Nat) (x : Str) (mg : Str → Option Value) (fa : Addr) (h : Heap) : Prop :=
  ∃ (fd : FuncData) (cs : List (Addr × Addr)) (sp : Sp), (∀ p ∈ cs, h.get? p.2 = some { cls := .none, data := .fields #[] }) ∧ (∀ p ∈ cs, K.lookup p.2 = none) ∧ (∀ p ∈ cs, PySem.W.CodeHd h p.1 p.2) ∧ (∀ (s : Shared) (u : Value), BindsTo s fd ⟨[u], []⟩ [(x, u)]) ∧
    (∀ (H : Hp) (a : Addr) (ns : List Int), ns.length ≤ n → (∀ p ∈ cs, H p.2 = some (.tbl #[])) → SqL K H a (ns.map V.int) → sp [.ref a] H (fun v _ => v = .bl true) fun _ _ _ => False) ∧
    ∀ base : Heap, K.In base → base.Ns mainGlobals mg → (∀ p ∈ cs, TabB base mg p.1 p.2) → FnOkG l.prog w K mg base CX k fa fd [x] sp
theorem walk_topG {l : PySem.W.OpenLaw} {n k : Nat} {q : Program} {loose : List Str} {XP : (Str → Option Value) → Heap → Prop} {YP : World → Heap → Prop} {d : DefRec} {K : Params → PySem.W.Frag} {CX : World → CXT} {x : Str}
    (hn : l.most = some n) (hn2 : n ≤ sizeLine) (hdf : d.params.defaults = []) (hr : Room k callerA) (hY : ∀ (w : World) (h : Heap), YP w h → (K w.params).In h)
    (F : ∀ (w : World) (mg : Str → Option Value) (fa : Addr) (h : Heap), YP w h → (K w.params).In h → h.Ns mainGlobals mg → mg d.name = some (.ref fa) → TopTabs q (K w.params) mg h → LawAtG l w (K w.params) (CX w) k n x mg fa h)
    (hCX : ∀ (w : World) (H : Hp) (s : Shared) (e : Value) (s' : Shared), CX w [] H s (fun _ _ _ => False) e s' → False) :
    PySem.W.WalkO q loose XP YP l.row.toRowW d [] (fun f vs => PySem.call f vs) :=
  Att.attach_callB hn hdf fun w s₀ s₁ mg mb fa o pm cd doc a vs ns G Y ho hd hcd hmg hobj hints hlen hbits hg => by
    have KX := hY w _ Y
    have tabs : TopTabs q (K w.params) mg s₁.heap := fun x f c P o1 fd1 e dd vs1 sl hrec hx k1 k2 k3 k4 k5 => by
      obtain ⟨dL, hm, hn1⟩ := List.any_eq_true.mp hrec
      have hn2 : dL.name = x := beq_iff_eq.mp hn1
      obtain ⟨a', o', fd', c', P', h1, h2, h3, h4, h5, h6⟩ := G.T.tab dL hm
      rw [hn2, hx] at h1
      cases h1
      have g1 := KX _ _ k1
      rw [g1] at h2
      cases h2
      rw [k2] at h3
      cases h3
      rw [k3] at h4
      cases h4
      have hC := PySem.W.CodeHd.of h5 h6
      obtain ⟨⟨oc, vc, e1, _, e3, e4⟩, hP⟩ := h6
      have g2 := KX _ _ k4
      rw [g2] at e1
      cases e1
      cases e3
      rw [k5] at e4
      cases e4
      exact ⟨hC, hP⟩
    obtain ⟨fd, cs, sp, hT, nT, C, hb, hsp, hF⟩ := F w mg fa _ Y KX G.T.g hmg tabs
    exact call_lawG KX G.T.g G.T.b G.T.builtins G.T.nolimit hg hT nT C G.T.bmain hobj hints (Nat.le_trans hlen hn2) hr hF hb (fun H hH hS => hsp H a ns hlen hH hS) fun H e s' => hCX w H s₁ e s'
/-! ### bodies and calls of such defs -/
theorem okG {P : Program} {w : World} {K : PySem.W.Frag} {mg : Str → Option Value} {base : Heap} {x qual : Str} {st : Stmt} {f : Addr} {fd : FuncData} {N ps : List Str} {k : Nat} {sp : Sp} (F : L2.Fun K x qual st f fd) (S : FnScope N ps (defScope st)) (len : ∀ vs H Q E, sp vs H Q E → vs.length = ps.length)
    (hbody : ∀ (cdv : Value) (A : Around) (outer : List Env) (s : Shared) (H : Hp) (vs : List V) (Q : VK) (E : XK), (A.deeper (envOfC qual (defScope st) s.heap.objs.size f cdv)).guards = some [] → Room k (A.deeper (envOfC qual (defScope st) s.heap.objs.size f cdv)) → sp vs H Q E →
      ∃ t, PSs (cxOf CX0 P w K mg base N qual (defScope st) f cdv A outer s H E).nox (defBody st) t ∧ t { nx := fun _ H' => Q .non H', rt := Q } (start N vs) H) : FnOkG P w K mg base CX0 (k + 1) f fd ps sp := by
  obtain ⟨oc, od, kV, doc, pm, an, cdv, ct, osl, rfl, lk, hcd⟩ := F.ex
  refine ⟨len, fun A outer s H args us vs Q E hga hr e0 hb r hsp => ?_⟩
  have KX : K.In s.heap := e0.mod.kin.keeps fun b o e => (e0.bs b o e).1
  have lim : s.heap.NoLimit := e0.mod.nolimit.keeps fun b o e => (e0.bs b o e).1
  have hl := len _ _ _ _ hsp
  have hkind : ∀ y ∈ ps.zip us, (defScope st).names.lookup y.1 = some .local ∨ ((defScope st).names.lookup y.1 = some .cell ∧ ((cellsFrom (s.heap.objs.size + 1) (defScope st).names []).lookup y.1).isSome = true) := fun ⟨n, v⟩ hy =>
    (S.par n (List.of_mem_zip hy).1).elim .inl fun q => .inr ⟨q, PySem.W.cellsFrom_some _ _ _ (.inl q)⟩
  refine codeAny_call_function hr.depth (KX _ _ lk) rfl S.co S.gen rfl (PySem.W.codeRec_of KX hcd) (hb _ _ _ _ (wpAny_newFunctionEnv_cells S.kind hkind fun env he s1 xx => ?_))
  subst he
  obtain ⟨t, ht, hq⟩ := hbody cdv A outer s H vs Q E hga (hr.deeper _) hsp
  have I : Inv (cxOf CX0 P w K mg base N qual (defScope st) f cdv A outer s H E) [] (start N vs) H s1 := inv_start S hr.hd e0 hl r xx
  refine ⟨lim.keeps xx.toInCall.keep, codeAny_func (wpAny_mono (ht.run [] s1 (start N vs) H _ (I.wish _) hq) (fun fl s' hs => ?_) fun e s' hs => False.elim hs)⟩
  have fin : ∀ {σ' : L2.St} {H' : Hp} {v : V} {u : Value}, Inv (cxOf CX0 P w K mg base N qual (defScope st) f cdv A outer s H E).nox [] σ' H' s' → L2.RelV v u → Q v H' → CE outer P w H s Q u s' :=
    fun {σ' H' v u} J rv q => ⟨v, H', J.os, J.bare, J.base, J.hok, rv, q⟩
  match fl, hs with
  | .ret u, hs => exact hs.elim fun v z => z.elim fun σ' z => z.elim fun H' z => fin z.1 z.2.1 z.2.2
  | .next, hs => exact hs.elim fun σ' z => z.elim fun H' z => fin (v := V.non) (u := Value.none) z.1 rfl z.2
  | .brk, hs => exact hs.elim fun _ z => z.elim fun _ z => False.elim z.2
  | .cont, hs => exact hs.elim fun _ z => z.elim fun _ z => False.elim z.2
section
variable {X : Cx} {CX : CXT} {k : Nat} {f : Addr} {fd : FuncData} {ps : List Str} {sp : Sp} {E : XK} {x : Str} {p pos : Pos} {e : Expr} {es : List Expr} {t : TA}
/-- f(e, ..), f such a def -/
theorem pe_callG (F : FnOkG X.prog X.w X.K X.mg X.base CX k f fd ps sp) (hG : X.A.guards = some []) (hr : Room k X.A) (hg : Gl X x) (hm : X.mg x = some (.ref f)) (hk : PySem.W.keepIn X.K (.ref f) = true) (hb : L2.Binds X.K fd ps []) (hx : Passes CX X E)
    (ha : PA X (e :: es) t) (hdb : (x == ("__debug__" : Str)) = false := by decide) (he : starEach (e :: es) X.env = (false, eval e X.env) :: starEach es X.env := by rfl) (hpl : (backTo pos (starEach es X.env)).any (·.1) = false := by rfl) :
    PE X (.Call (.Name x p) (e :: es) [] pos) (fun σ H Q => t σ H fun vs H1 => sp vs H1 Q E) := by
  refine ⟨fun pins s σ H Q I h => wpAny_Call_Name_kw (ld_glob I hg hm (PySem.W.callWith_K (h₀ := X.base) I.ok.mod.kin hk (thn (ha.run pos pins s σ H _ I h) fun us s1 ⟨vs, H1, I1, r, q⟩ => ⟨I1.kIn, ?_⟩) he hpl) hdb)⟩
  have hl : us.length = ps.length := r.length.symm.trans (F.len _ _ _ _ q)
  have hb2 : BindsTo s1 fd ⟨us, []⟩ (ps.zip us) := by
    have := hb s1 us I1.kIn (by rw [List.append_nil]; exact hl)
    rwa [List.append_nil] at this
  refine wpAny_call (codeAny_mono (F.run X.A X.stack s1 H1 ⟨us, []⟩ us vs Q E hG hr I1.env0 hb2 r q) fun res s' hq => ?_)
  match res, hq with
  | .error er, hq => exact hx pins σ H1 s1 er s' I1 hq
  | .ok (.ret u), hq => exact I1.after hq
  | .ok .next, hq => exact False.elim hq
  | .ok .brk, hq => exact False.elim hq
  | .ok .cont, hq => exact False.elim hq
/-- repr of data: what PyData.shown says -/
theorem call_reprD (hG : X.A.guards = some []) (hu : X.A.units + 64 + 16 < cLine) : CallR X (.builtin "repr") (fun xs H Q => ∃ (v : V) (d : PyData), xs = [v] ∧ Dp X.K H v d ∧ d.showable = true ∧ d.hasDict = false ∧ d.depth ≤ 64 ∧ d.shown.length ≤ sizeLine ∧ (∀ i, v = .int i → i.natAbs.log2 < 1920) ∧ Q (.str d.shown) H) := by
  intro pins s σ H xs us Q I r h
  obtain ⟨v, d, rfl, hd, hs, hnd, hdp, hsz, hi, q⟩ := h
  obtain ⟨u, rfl, ru⟩ := vals1 r
  have txt : ∀ tk, ∃ (y : V) (H1 : Hp), Inv X pins σ H1 { s with toks := tk } ∧ L2.RelV y (.str d.shown s.toks) ∧ Q y H1 := fun tk => ⟨.str d.shown, H, I.kept (t' := tk) fun _ _ z => z, ⟨_, rfl⟩, q⟩
  have obj : ∀ (a : Addr), u = .ref a → wpAny (model X.prog X.w) X.A (call (.builtin "repr") [u]) (EP X pins σ Q) X.xe s := fun a e => by
    subst e
    obtain ⟨as, rd⟩ := Dp.reads I _ _ _ hd ru
    exact repr_of_reads' rd hs (fun z => by rw [hnd] at z; cases z) hG (by omega) (fun _ _ z => z) (fun h' u tk hk => ⟨.str d.shown, H, I.kept (h' := h') (t' := tk) hk, ⟨_, rfl⟩, q⟩) hsz
  cases hd with
  | non =>
    obtain rfl : u = Value.none := ru
    exact P.repr_of_none (txt _)
  | bl b =>
    obtain rfl : u = Value.bool b := ru
    exact P.repr_of_bool (by cases b <;> exact txt _)
  | int i =>
    obtain ⟨t, rfl⟩ := ru
    exact P.repr_of_int (hi i rfl) (txt _)
  | str y =>
    obtain ⟨t, rfl⟩ := ru
    exact P.repr_of_str (txt _) hsz
  | lst h1 h2 => exact obj _ ru
  | tup h1 h2 => exact obj _ ru
end
end Inf

set_option Elab.async false
set_option linter.all false
set_option maxRecDepth 100000
set_option maxHeartbeats 4000000
namespace Inf
open PySem PySem.Spec PyProof.Rows L2 NdefX LamX
/-! ### a lambda as a value: a function that stands where it was made -/
/-- its words, the cells that it captured, its code object -/
structure LF where
  qual : Str
  params : Arguments
  body : Expr
  scope : Scope
  cl : List (Str × Addr)
  c : Addr
def LamO (f : Addr) (F : LF) : HO := .ext fun h => ∃ (pm ctv : Value), h.get? f = some (PySem.W.kla_obj "<lambda>" F.qual F.params F.body F.scope F.cl pm F.c ctv)
theorem lamO_at {P : Program} {w : World} {H : Hp} {h : Heap} {f : Addr} {F : LF} (hok : HOk P w H h) (e : H f = some (LamO f F)) : ∃ (pm ctv : Value), h.get? f = some (PySem.W.kla_obj "<lambda>" F.qual F.params F.body F.scope F.cl pm F.c ctv) := by
  obtain ⟨z, _, _⟩ := hok f _ e
  exact z
theorem lamO_ok {P : Program} {w : World} {H : Hp} {h : Heap} {f : Addr} {F : LF} (e : ∃ (pm ctv : Value), h.get? f = some (PySem.W.kla_obj "<lambda>" F.qual F.params F.body F.scope F.cl pm F.c ctv)) : ObjOk P w H h f (LamO f F) := by
  refine ⟨e, ?_, fun h1 h2 ⟨pm, ctv, z⟩ k => ⟨pm, ctv, k _ z⟩⟩
  obtain ⟨pm, ctv, z⟩ := e
  exact ⟨_, z⟩
theorem lamHO {f : Addr} {F : LF} : FnHO f (LamO f F) := fun P w H h hok e => by
  obtain ⟨pm, ctv, z⟩ := lamO_at hok e
  exact ⟨_, _, _, _, z⟩
section
variable {X : Cx} {pins : List (Addr × Obj)} {σ : L2.St} {H : Hp} {s : Shared}
/-- the lambda is made and told where it stands; its code object is new, or found in the table -/
theorem lam_told {T : List (Addr × Str)} {c P : Addr} {params : Arguments} {body : Expr} {scope : Scope} {pos : Pos} {E : Value → Shared → Prop} {Q : Value → Shared → Prop} (I : Inv X pins σ H s) (TB : TabB X.base X.mg c P) (hcode : X.env.code = .ref c)
    (hm : (P, X.env.qual ++ "<lambda>") ∈ T) (hu : ∀ p ∈ T, p.1 = P → p.2 = X.env.qual ++ "<lambda>") (hT : Tabs T H) (hdef : defaultsOf params X.env = ([], [])) (hfree : ∀ y ∈ scope.names, y.2 = .free → ∃ c, X.env.cells.lookup y.1 = some c)
    (h : ∀ (f c' : Addr) (H1 : Hp) (s' : Shared), Inv X pins σ (upd H1 f (LamO f ⟨X.env.qual ++ "<lambda>", params, body, scope, cloFrom X.env.cells scope.names [], c'⟩)) s' → (∀ b o, H b = some o → b ≠ P → H1 b = some o) → (∀ b, H1 b = none → H b = none) → Tabs T H1 → H1 f = none → H1 c' = some (CodeO c' (X.env.qual ++ "<lambda>")) → Q (.ref f) s') :
    wpAny (model X.prog X.w) X.A (eval (.Lambda params body scope pos) X.env) Q E s := by
  obtain ⟨ps, tP, tO, tA⟩ := hT _ hm
  have bP := TB.bm.keeps (h' := s.heap) I.bk
  have gP : s.heap.get? P = some { cls := .none, data := .fields ps } := I.hok P _ tP
  refine PySem.W.kla_eval hdef ?_
  cases cd : codeAmong pos ps.toList with
  | none =>
    refine PySem.W.kla_makeFunction (mg := X.mg) (c := c) (P := P) (ps := ps) (closure_ok hfree) I.ok.glob (I.mod.glob.keeps I.bk) hcode (TB.code.keeps I.bk) gP tO cd TB.gP bP fun c' ctv h' tk hx hge hlt hrec htb => ?_
    obtain ⟨c2, oc, vs, t, e2, hoc, hd, hv⟩ := hrec
    cases e2
    have nC : H c' = none := I.hok.fresh hge
    have I0 := inv_table (q := X.env.qual ++ "<lambda>") (t' := tk) (more := #[rawInt pos.line, rawInt pos.col, .ref c']) (h' := h') I tP hx htb hge ⟨oc, vs, t, hoc, hd, hv⟩
    have I1 := I0.laid (a := h'.objs.size) (o := LamO h'.objs.size ⟨X.env.qual ++ "<lambda>", params, body, scope, cloFrom X.env.cells scope.names [], c'⟩) (h' := h'.push (PySem.W.kla_obj "<lambda>" (X.env.qual ++ "<lambda>") params body scope (cloFrom X.env.cells scope.names []) ((X.mg "__name__").getD .none) c' ctv)) (t' := tk)
      (fun b u z => Heap.get?_push_of_some _ z) (Nat.le_refl _) (lamO_ok ⟨_, _, Heap.get?_push_size _ rfl⟩)
    have stays : ∀ b o, H b = some o → b ≠ P → (upd (upd H P (.tbl (ps ++ #[rawInt pos.line, rawInt pos.col, .ref c']))) c' (CodeO c' (X.env.qual ++ "<lambda>"))) b = some o := fun b o e n => by
      rw [upd_ne (ne_of_none e nC), upd_ne n]
      exact e
    have neP : ∀ {b : Addr} {c2 : Addr} {q : Str}, H b = some (CodeO c2 q) → b ≠ P := fun e z => by
      rw [z, tP] at e
      exact codeO_ne _ (Option.some.inj e).symm
    refine h _ c' _ _ I1 stays (fun b z => ?_) (fun p hp => ?_) (I0.hok.fresh (Nat.le_refl _)) upd_same
    · by_cases b1 : b = c'
      · rw [b1]
        exact nC
      · rw [upd_ne b1] at z
        by_cases b2 : b = P
        · rw [b2, upd_same] at z
          cases z
        · rw [upd_ne b2] at z
          exact z
    · obtain ⟨qs, a1, a2, a3⟩ := hT p hp
      by_cases hb : p.1 = P
      · have eL : (ps ++ #[rawInt pos.line, rawInt pos.col, .ref c']).toList = ps.toList ++ [rawInt pos.line, rawInt pos.col, .ref c'] := by simp
        refine ⟨_, by rw [hb, upd_ne (ne_of_none tP nC), upd_same], ?_, fun p' cv y => ?_⟩
        · rw [eL]
          exact PySem.TriplesOk_snoc _ _ _ _ tO
        · rw [eL] at y
          rw [hu p hp hb]
          rcases among_app _ tO y with z | z
          · obtain ⟨c0, k1, k2⟩ := tA p' cv z
            exact ⟨c0, k1, stays _ _ k2 (neP k2)⟩
          · exact ⟨c', z, upd_same⟩
      · refine ⟨qs, ?_, a2, fun p' cv y => ?_⟩
        · rw [upd_ne (ne_of_none a1 nC), upd_ne hb]
          exact a1
        · obtain ⟨c0, k1, k2⟩ := a3 p' cv y
          exact ⟨c0, k1, stays _ _ k2 (neP k2)⟩
  | some cv =>
    obtain ⟨c', e, hco⟩ := tA pos cv cd
    subst e
    refine PySem.W.kla_makeFunctionHit (mg := X.mg) (c := c) (P := P) (ps := ps) (closure_ok hfree) I.ok.glob (I.mod.glob.keeps I.bk) hcode (TB.code.keeps I.bk) gP tO cd bP fun ctv h' tk hx hsz => ?_
    have I0 : Inv X pins σ H { s with heap := h', toks := tk } := I.kept hx
    have I1 := I0.laid (a := h'.objs.size) (o := LamO h'.objs.size ⟨X.env.qual ++ "<lambda>", params, body, scope, cloFrom X.env.cells scope.names [], c'⟩) (h' := h'.push (PySem.W.kla_obj "<lambda>" (X.env.qual ++ "<lambda>") params body scope (cloFrom X.env.cells scope.names []) ((X.mg "__name__").getD .none) c' ctv)) (t' := tk)
      (fun b u z => Heap.get?_push_of_some _ z) (Nat.le_refl _) (lamO_ok ⟨_, _, Heap.get?_push_size _ rfl⟩)
    exact h _ c' H _ I1 (fun _ _ e _ => e) (fun _ z => z) hT (I0.hok.fresh (Nat.le_refl _)) hco
end
def tLamO (T : List (Addr × Str)) (P : Addr) (F : Addr → LF) : TE := fun σ H Q => Tabs T H ∧ ∀ (f c' : Addr) (H1 : Hp), (∀ b o, H b = some o → b ≠ P → H1 b = some o) → (∀ b, H1 b = none → H b = none) → Tabs T H1 → H1 f = none → H1 c' = some (CodeO c' (F c').qual) → Q (.ref f) (upd H1 f (LamO f (F c')))
theorem pe_lamO {X : Cx} {T : List (Addr × Str)} {c P : Addr} {params : Arguments} {body : Expr} {scope : Scope} {pos : Pos} (TB : TabB X.base X.mg c P) (hcode : X.env.code = .ref c) (hm : (P, X.env.qual ++ "<lambda>") ∈ T) (hu : ∀ p ∈ T, p.1 = P → p.2 = X.env.qual ++ "<lambda>")
    (hdef : defaultsOf params X.env = ([], [])) (hfree : ∀ y ∈ scope.names, y.2 = .free → X.env.scope.names.lookup y.1 = some .cell ∨ X.env.scope.names.lookup y.1 = some .free) :
    PE X (.Lambda params body scope pos) (tLamO T P fun c' => ⟨X.env.qual ++ "<lambda>", params, body, scope, cloFrom X.env.cells scope.names [], c'⟩) := by
  refine ⟨fun pins s σ H Q I h => ?_⟩
  obtain ⟨hT, q⟩ := h
  exact lam_told I TB hcode hm hu hT hdef (fun y hy e => (hfree y hy e).elim (fun z => I.ok.has _ (.inl z)) fun z => I.ok.has _ (.inr z)) fun f c' H1 s' I1 e1 n1 t1 nf hc => ⟨.ref f, _, I1, rfl, q f c' H1 e1 n1 t1 nf hc⟩
end Inf

set_option Elab.async false
set_option linter.all false
set_option maxRecDepth 100000
set_option maxHeartbeats 4000000
namespace Inf
open PySem PySem.Spec PyProof.Rows L2 NdefX LamX
/-- its words as those of a function: for the frame alone -/
def LF.nf (F : LF) : NF := ⟨"<lambda>", F.qual, F.params, [], F.scope, F.cl, F.c⟩
section
variable {P : Program} {w : World} {K : PySem.W.Frag} {mg : Str → Option Value} {base : Heap} {k : Nat} {f : Addr} {F : LF} {N ps : List Str} {sp : Sp}
/-- a lambda that captures nothing, called from anywhere -/
theorem lam_fnR (S : NScope N ps [] F.scope) (hcl : F.cl = []) (hb : ∀ (pm ctv : Value) (us : List Value), us.length = ps.length → bindArgs (PySem.W.kla_fn "<lambda>" F.qual F.params F.body F.scope F.cl pm (.ref F.c) ctv) ⟨us, []⟩ = pure (ps.zip us))
    (len : ∀ vs H Q E, sp vs H Q E → vs.length = ps.length)
    (hbody : ∀ (A : Around) (outer : List Env) (s : Shared) (H : Hp) (vs : List V) (Q : VK) (E : XK), Room k (A.deeper (envF F.nf f s.heap.objs.size)) → sp vs H Q E → ∃ te, PE (ncx CX0 P w K mg base N F.nf f A outer s H E) F.body te ∧ te (startF N vs []) H Q) :
    FnR P w K mg base CX0 (k + 1) f (fun vs H Q E => H f = some (LamO f F) ∧ H F.c = some (CodeO F.c F.qual) ∧ sp vs H Q E) := by
  intro A outer s H us vs Q E hr e0 r hsp
  obtain ⟨hf, hc, hsp⟩ := hsp
  have hl := len _ _ _ _ hsp
  have lim : s.heap.NoLimit := e0.mod.nolimit.keeps fun b o e => (e0.bs b o e).1
  obtain ⟨pm, ctv, ho⟩ := lamO_at e0.hok hf
  have C : CellsAt F.nf.cl [] [] s.heap H := by
    show CellsAt F.cl [] [] s.heap H
    rw [hcl]
    exact ⟨rfl, (fun y c e => nomatch e), (fun x y c e => nomatch e), (fun i y e => nomatch e)⟩
  refine PySem.W.kla_callFunE hr.depth ho rfl S.co S.gen rfl (codeO_at e0.hok hc) ?_
  rw [hb pm ctv us (by rw [← r.length]; exact hl)]
  refine wpAny_pure (wpAny_newFunctionEnv S.nocell (fun ⟨n, _⟩ hy => S.par n (List.of_mem_zip hy).1) (fun h₁ hns hsb => ⟨lim.fresh _ hsb, ?_⟩) S.kind)
  obtain ⟨te, ht, hq⟩ := hbody A outer s H vs Q E (hr.deeper _) hsp
  have kp : ∀ b o, s.heap.get? b = some o → h₁.get? b = some o := fun b o e => hsb.extBut b o (Nat.ne_of_lt (Heap.lt_size e)) (Heap.get?_push_of_some _ e)
  have I := inv_startN (CX := CX0) (P := P) (w := w) (K := K) (mg := mg) (base := base) (F := F.nf) (f := f) (A := A) (outer := outer) (E := E) (tk := s.toks + (ps.zip us).length) S hr.hd e0 hl r C hns kp
  refine PySem.W.kla_codeExpr (wpAny_mono (ht.run [] _ (startF N vs []) H Q I hq) (fun u s' hs => ?_) fun e s' hs => hs)
  obtain ⟨v, H', J, rv, q⟩ := hs
  exact ⟨v, H', J.os, J.bare, J.base, J.hok, rv, q⟩
end
end Inf

set_option Elab.async false
set_option linter.all false
set_option maxRecDepth 100000
set_option maxHeartbeats 4000000
namespace Inf
open PySem PySem.Spec PyProof.Rows L2 NdefX LamX
/-- a def that returns things that hold its names, by what K knows of it -/
theorem okC_of {P : Program} {w : World} {K : PySem.W.Frag} {mg : Str → Option Value} {base : Heap} {x qual : Str} {st : Stmt} {f : Addr} {N ps : List Str} {k : Nat} {sp : Sp} {oc : Value} {od : Option Addr} {kV doc pm cdv ct : Value} {an : Option Addr} {osl : Array (Option Value)}
    (lk : K.lookup f = some ⟨oc, od, .func (PySem.W.fnOf x qual (defArgs st) (defBody st) (defScope st) .none kV doc pm an cdv ct), osl⟩) (hcd : PySem.W.codeIn K cdv qual = true) (S : FnScope N ps (defScope st)) (len : ∀ vs H Q E, sp vs H Q E → vs.length = ps.length)
    (hbody : ∀ (A : Around) (outer : List Env) (s : Shared) (H : Hp) (vs : List V) (Q : VK) (E : XK), Room k (A.deeper (envOfC qual (defScope st) s.heap.objs.size f cdv)) → sp vs H Q E →
      ∃ t, PSsR (cxOf CX0 P w K mg base N qual (defScope st) f cdv A outer s H E).nox (defBody st) t ∧
        t (fun σ v H' => ∀ H'', Fin (envOfC qual (defScope st) s.heap.objs.size f cdv).cells (defScope st).names N σ H' H'' → Q v H'') (start N vs) H) :
    FnOk P w K mg base CX0 (k + 1) f (PySem.W.fnOf x qual (defArgs st) (defBody st) (defScope st) .none kV doc pm an cdv ct) ps sp := by
  refine ⟨len, fun A outer s H args us vs Q E hr e0 hb r hsp => ?_⟩
  have hl := len _ _ _ _ hsp
  have KX : K.In s.heap := e0.mod.kin.keeps fun b o e => (e0.bs b o e).1
  have lim : s.heap.NoLimit := e0.mod.nolimit.keeps fun b o e => (e0.bs b o e).1
  have hkind : ∀ y ∈ ps.zip us, (defScope st).names.lookup y.1 = some .local ∨ ((defScope st).names.lookup y.1 = some .cell ∧ ((cellsFrom (s.heap.objs.size + 1) (defScope st).names []).lookup y.1).isSome = true) := fun ⟨n, v⟩ hy => by
    rcases S.par n (List.of_mem_zip hy).1 with q | q
    · exact .inl q
    · exact .inr ⟨q, PySem.W.cellsFrom_some _ _ _ (.inl q)⟩
  refine codeAny_call_function hr.depth (KX _ _ lk) rfl S.co S.gen rfl (PySem.W.codeRec_of KX hcd) (hb _ _ _ _ ?_)
  refine wpAny_newFunctionEnv_cells S.kind hkind fun env he s1 xx => ?_
  subst he
  refine ⟨lim.keeps xx.toInCall.keep, codeAny_func ?_⟩
  obtain ⟨t, ht, hq⟩ := hbody A outer s H vs Q E (hr.deeper _) hsp
  have I : Inv (cxOf CX0 P w K mg base N qual (defScope st) f cdv A outer s H E) [] (start N vs) H s1 := inv_start S hr.hd e0 hl r xx
  refine wpAny_mono (ht.run [] s1 (start N vs) H _ (I.wish _) hq) (fun fl s' hs => ?_) fun e s' hs => False.elim hs
  obtain ⟨u, v, σ', H', rfl, J', rv, q⟩ := hs
  have J : Inv (cxOf CX0 P w K mg base N qual (defScope st) f cdv A outer s H E) [] σ' H' s' := J'.unwish
  obtain ⟨H'', hF, hU, hO⟩ := fin_make S.nd J
  exact ⟨v, H'', J.os, J.bare, hU, hO, rv, q H'' hF⟩
/-- a function that the def made, behind its return: its captured cells are told -/
theorem clo_fin {cells : List (Str × Addr)} {names nn : List (Str × NameKind)} {N fr : List Str} {σ : L2.St} {H H' : Hp} {f : Addr} {F : NF} {ws : List V} (X : Fin cells names N σ H H') (hc : ∀ y, names.lookup y = some .cell → (cells.lookup y).isSome = true) (hcl : F.cl = cloFrom cells nn []) (hcel : ∀ y ∈ nn, y.2 = .free → names.lookup y.1 = some .cell)
    (hfr : ∀ y ∈ fr, (y, NameKind.free) ∈ nn) (hrf : ∀ y ∈ nn, y.2 = .free → y.1 ∈ fr) (hf : H f = some (FnO f F)) (hco : H F.c = some (CodeO F.c F.qual)) (len : ws.length = fr.length) (at_ : ∀ (i : Nat) (y : Str), fr[i]? = some y → ∃ (j : Nat) (v : V), N[j]? = some y ∧ ws[i]? = some v ∧ σ[j]? = some (some v)) : Clo H' f F fr ws := by
  have hfree : ∀ y ∈ nn, y.2 = .free → ∃ c, cells.lookup y.1 = some c := fun y hy e => Option.isSome_iff_exists.mp (hc _ (hcel y hy e))
  refine ⟨X.same _ _ hf, X.same _ _ hco, len, fun y c e => ?_, fun x y c e1 e2 => ?_, fun i y e => ?_⟩
  · rw [hcl] at e
    have m := PySem.mem_of_lookup e
    rcases cloFrom_mem m with q | ⟨q, _⟩
    · cases q
    · exact hrf _ q rfl
  · rw [hcl] at e1 e2
    exact X.inj x y c (clo_cm hfree e1) (clo_cm hfree e2)
  · have hy : y ∈ fr := List.mem_of_getElem? e
    have hm := hfr y hy
    have hn := hcel _ hm rfl
    obtain ⟨c, hcc⟩ := Option.isSome_iff_exists.mp (hc y hn)
    obtain ⟨j, v, h1, h2, h3⟩ := at_ i y e
    refine ⟨c, v, ?_, h2, X.at_ j y c v h1 hn hcc h3⟩
    rw [hcl]
    exact clo_has hfree hm hcc
end Inf

set_option Elab.async false
set_option linter.all false
set_option maxRecDepth 100000
set_option maxHeartbeats 4000000
namespace Inf
open PySem PySem.Spec PyProof.Rows L2
section
variable {X : Cx}
/-- o.replace(str(e), "c"), a token out: what is struck is not c -/
def tStrike (to tt : TE) (c : Str) : TE := fun σ H Q => to σ H fun x H1 => ∃ a, x = V.str a ∧ tt σ H1 fun y H2 => ∃ i : Int, y = .int i ∧ i.natAbs.log2 < 1920 ∧ (Str.ofString (toString i) == c) = false ∧ a.length + (a.length + 1) * c.length ≤ 16777216 ∧ Q (.str (Txt.replace a (Str.ofString (toString i)) c)) H2
theorem pet_strike {o e : Expr} {to tt : TE} {c : Str} {ck : Nat} {apos np cp ccp pos : Pos} (ho : PE X o to) (he : PE X e tt) (hg : Gl X "str") (hm : X.mg "str" = none)
    (hbase : attributeBase o "replace" X.env (eval o X.env) = eval o X.env := by rfl)
    (hfew : ((backTo pos (starEach [.Call (.Name "str" np) [e] [] cp, .Constant (.str c) ck ccp] X.env)).all (fun x => !x.1) && (backToKw pos (keywordEach [] X.env)).all (fun x => x.1.isSome)
      && decide (([.Call (.Name "str" np) [e] [] cp, .Constant (.str c) ck ccp] : List Expr).length + ([] : List Keyword).length + (if ([] : List Keyword).isEmpty then 0 else 1) < 30)) = true := by rfl)
    (hline : (apos.endLine == pos.line) = true := by rfl) (hs : starEach [e] X.env = [(false, eval e X.env)] := by rfl) (hpl : (backTo cp (starEach [] X.env)).any (·.1) = false := by rfl) :
    PET X (.Call (.Attribute o "replace" apos) [.Call (.Name "str" np) [e] [] cp, .Constant (.str c) ck ccp] [] pos) (tStrike to tt c) := by
  intro pins s σ H Q h0 I h
  refine wpAny_Call_method_late hbase hfew hline rfl (wpAny_mono (PySem.wpAny_toks (ho.run pins s σ H _ I h)) (fun v s1 q => ?_) fun _ _ z => z.2)
  obtain ⟨hk1, x, H1, I1, r1, a, rfl, q⟩ := q
  obtain ⟨t, rfl⟩ := _root_.id r1
  refine ⟨"str", _, F.plainAttrs_str, F.slot_str_replace, F.type_str_replace, typeIs_str _ _ _, (fun _ e => nomatch e), ?_⟩
  refine Calls.callWith_builtin rfl (Calls.evalArgs_plain ?_)
  show wpAny _ _ (spliced ((false, eval (.Call (.Name "str" np) [e] [] cp) X.env) :: backTo pos (starEach [.Constant (.str c) ck ccp] X.env))) _ _ s1
  refine Calls.spliced_cons ?_
  refine wpAny_Call_Name_kw (ld_blt I1 hg hm (show bootBuiltins "str" = some (.type "str") by decide +kernel) ?_ (by decide) (by decide))
  refine PyProof.Rows.callWith_type1 (wpAny_mono (PySem.wpAny_toks ((pa_cons he pa_nil hs).run cp pins s1 σ H1 (fun vs H2 => match vs with
    | [y] => ∃ i : Int, y = V.int i ∧ i.natAbs.log2 < 1920 ∧ (Str.ofString (toString i) == c) = false ∧ a.length + (a.length + 1) * c.length ≤ 16777216 ∧ Q (.str (Txt.replace a (Str.ofString (toString i)) c)) H2
    | _ => False) I1 q)) (fun us s2 q2 => ?_) fun _ _ z => z.2) hs hpl
  obtain ⟨hk2, vs, H2, I2, r2, q2⟩ := q2
  match vs, r2, q2 with
  | [y], r2, ⟨i, ey, hz, hne, hb, q3⟩ =>
    subst ey
    obtain ⟨u, rfl, t2, rfl⟩ := vals1 r2
    have h2 : 1 ≤ s2.toks := Nat.le_trans h0 (Nat.le_trans hk1 hk2)
    refine PySem.P.str_of_int hz ?_
    refine Calls.spliced_cons (Calls.Constant_str (k := ck) (pos := ccp) (Calls.spliced_nil ?_))
    refine SC.replace (u := s2.toks) (v := s2.toks + 1) (Nat.ne_of_gt h2) (Nat.succ_ne_zero _) (Nat.ne_of_lt (Nat.lt_succ_self _)) hne hb fun t' k => ?_
    exact ⟨.str _, H2, I2.tok _, ⟨_, rfl⟩, q3⟩
/-- one token out: a return -/
theorem pst_ret {e : Expr} {te : TE} {pos : Pos} (he : PET X e te) : PST X (.Return (some e) pos) (tRet te) := fun pins s σ H D h0 I h =>
  wpAny_Return_some (thn (he pins s σ H _ h0 I h) fun v s1 ⟨x, H1, I1, r1, q1⟩ => ⟨x, σ, H1, I1, r1, q1⟩)
theorem psst_one {st : Stmt} {t : TS} (h1 : PST X st t) : PSsT X [st] t := by
  intro pins s σ H D h0 I h
  refine wpAny_execs_cons (thn (h1 pins s σ H D h0 I h) fun f s1 q => ?_)
  cases f with
  | next => exact wpAny_execs_nil q
  | ret v => exact q
  | brk => exact q
  | cont => exact q
/-- if x op 3: behind the test a token is out -/
theorem ps_ifC {a : Expr} {op : CmpOp} {r : R2} {ta : TE} {j : Int} {k : Nat} {cpos cp pos : Pos} {A B : List Stmt} {t u : TS} (ho : OpR X (compareOp op) r) (ha : PE X a ta) (hm : behindInMarks op (.Constant (.int j) k cpos) = false) (hA : PSsT X A t) (hB : PSs X B u) :
    PS X (.If (.Compare a [op] [.Constant (.int j) k cpos] cp) A B pos) (tIfS (tTest (tOp r ta (tC (.int j)))) t u) := by
  refine ⟨fun pins s σ H D I h => ?_⟩
  refine wpAny_If (wpAny_mono (Q := fun d s' => 1 ≤ s'.toks ∧ TP X pins σ (fun b H1 => if b = true then t D σ H1 else u D σ H1) d s') (E := X.xe) ?_ (fun d s1 q => ?_) fun _ _ z => z)
  · refine wpAny_isTrue_Compare1 (thn (ha.run pins s σ H _ I h) fun v s1 ⟨x, H1, I1, r1, q1⟩ => ?_) hm
    refine wpAny_Constant_int ?_
    refine wpAny_mono (PySem.wpAny_toks (ho pins _ σ H1 x (.int j) v (.int j s1.toks) _ (I1.tok _) r1 ⟨_, rfl⟩ q1)) (fun c s3 q3 => ?_) fun _ _ z => z.2
    obtain ⟨hk, z, H3, I3, r3, b, e, q3⟩ := q3
    subst e
    cases r3
    exact wpAny_truthy_bool ⟨Nat.le_trans (Nat.le_add_left 1 _) hk, H3, I3, q3⟩
  · obtain ⟨hk, H1, I1, q1⟩ := q
    cases d with
    | true => exact hA pins s1 σ H1 D hk I1 q1
    | false => exact hB.run pins s1 σ H1 D I1 q1
end
end Inf

set_option Elab.async false
set_option linter.all false
set_option maxRecDepth 100000
set_option maxHeartbeats 4000000
namespace Inf
open PySem PySem.Spec PyProof.Rows L2
section
variable {X : Cx} {CX : CXT} {k n : Nat} {f C : Addr} {fd : FuncData} {ps ks : List Str} {sp : Sp} {E : XK} {m : Str} {pos apos : Pos} {e o : Expr} {es : List Expr} {kws : List Keyword} {ta : TE} {t tk : TA} {g : List Value → List Value → List Value} {gV : List V → List V → List V}
/-- a method called with keywords: n values are written, then j keywords -/
def tMethN (C : Addr) (m : Str) (n j : Nat) (sp : Sp) (gV : List V → List V → List V) (E : XK) (ta : TE) (t tk : TA) : TE := fun σ H Q => ta σ H fun x H1 => ∃ a dx fs, x = V.ref a ∧ H1 a = some (.ins C dx fs) ∧ fs.lookup m = none ∧ t σ H1 fun vs H2 => tk σ H2 fun zs H3 => vs.length = n ∧ zs.length = j ∧ sp (gV (.ref a :: vs) zs) H3 Q E
theorem pe_methK0 {pl : Sem Bool} (he : PE X o ta) (c : Cls X.K C) (hm : Meth X.K C m f) (F : FnOk X.prog X.w X.K X.mg X.base CX k f fd ps sp) (hr : Room k X.A) (hb : KBn X.K fd ps 1 ks g gV) (hx : Passes CX X E) (hkw : PK X kws tk)
    (hall : (backToKw pos (keywordEach kws X.env)).all (·.1.isSome) = true := by rfl) (hks : (backToKw pos (keywordEach kws X.env)).filterMap (·.1) = ks := by rfl)
    (hpl : ((backTo pos (starEach [] X.env)).any (·.1) || (backToKw pos (keywordEach kws X.env)).any (·.1.isNone)) = false := by rfl)
    (ht : eval (.Call (.Attribute o m apos) [] kws pos) X.env = (do
      let ov ← eval o X.env
      standAt apos.atName
      let (f, first) ← holding [ov] (getMethod ov m pl)
      callWith pos f first (backTo pos (starEach [] X.env)) (backToKw pos (keywordEach kws X.env))) := by rfl) :
    PE X (.Call (.Attribute o m apos) [] kws pos) (tMethN C m 0 ks.length sp gV E ta tNil tk) := by
  refine ⟨fun pins s σ H Q I h => ?_⟩
  refine PySem.W.methodCall_KW (pl := pl) (thn (he.run pins s σ H _ I h) fun u s1 ⟨x, H1, I1, rx, a, dx, fs, ex, ea, l, q⟩ => ?_) ht
  subst ex
  obtain rfl : u = Value.ref a := rx
  refine getmeth_ok I1 ea c hm l ?_
  refine PySem.W.callWith_KW0 (first := [.ref a]) (h₀ := X.base) I.ok.mod.kin hm.kp hall (thn (hkw.run pos pins s1 σ H1 _ I1 q) fun ws s2 ⟨zs, H2, I2, rz, l1, l2, q2⟩ => ⟨I2.kIn, ?_⟩) hpl
  rw [hks]
  exact run_fnN (us := [.ref a]) (vs := [.ref a]) F hr hb hx I2 (.cons rfl .nil) rz rfl l2 q2
theorem pe_methK {pl : Sem Bool} (he : PE X o ta) (c : Cls X.K C) (hm : Meth X.K C m f) (F : FnOk X.prog X.w X.K X.mg X.base CX k f fd ps sp) (hr : Room k X.A) (hb : KBn X.K fd ps (n + 1) ks g gV) (hx : Passes CX X E) (ha : PA X (e :: es) t) (hkw : PK X kws tk)
    (hall : (backToKw pos (keywordEach kws X.env)).all (·.1.isSome) = true := by rfl) (hks : (backToKw pos (keywordEach kws X.env)).filterMap (·.1) = ks := by rfl)
    (hst : starEach (e :: es) X.env = (false, eval e X.env) :: starEach es X.env := by rfl)
    (hpl : ((backTo pos (starEach (e :: es) X.env)).any (·.1) || (backToKw pos (keywordEach kws X.env)).any (·.1.isNone)) = false := by rfl)
    (ht : eval (.Call (.Attribute o m apos) (e :: es) kws pos) X.env = (do
      let ov ← eval o X.env
      standAt apos.atName
      let (f, first) ← holding [ov] (getMethod ov m pl)
      callWith pos f first (backTo pos (starEach (e :: es) X.env)) (backToKw pos (keywordEach kws X.env))) := by rfl) :
    PE X (.Call (.Attribute o m apos) (e :: es) kws pos) (tMethN C m n ks.length sp gV E ta t tk) := by
  refine ⟨fun pins s σ H Q I h => ?_⟩
  refine PySem.W.methodCall_KW (pl := pl) (thn (he.run pins s σ H _ I h) fun u s1 ⟨x, H1, I1, rx, a, dx, fs, ex, ea, l, q⟩ => ?_) ht
  subst ex
  obtain rfl : u = Value.ref a := rx
  refine getmeth_ok I1 ea c hm l ?_
  refine PySem.W.callWith_KW (first := [.ref a]) (h₀ := X.base) I.ok.mod.kin hm.kp hall (thn (ha.run pos pins s1 σ H1 _ I1 q) fun us s2 ⟨vs, H2, I2, r, q2⟩ => ?_) hpl hst
  refine thn (hkw.run pos pins s2 σ H2 _ I2 q2) fun ws s3 ⟨zs, H3, I3, rz, l1, l2, q3⟩ => ⟨I3.kIn, ?_⟩
  rw [hks]
  exact run_fnN (us := .ref a :: us) (vs := .ref a :: vs) F hr hb hx I3 (.cons rfl r) rz (congrArg Nat.succ l1) l2 q3
end
end Inf

set_option Elab.async false
set_option linter.all false
set_option maxRecDepth 100000
set_option maxHeartbeats 4000000
namespace Inf
open PySem PySem.Spec PyProof.Rows L2 NdefX LamX
section
variable {X : Cx} {pins : List (Addr × Obj)} {σ : L2.St} {H : Hp} {s : Shared}
/-- a lambda in a def that makes functions by name, too: the table knows the names by their places -/
theorem lam_toldN {T : List NTab} {nm : Nat → Nat → Str} {c P : Addr} {params : Arguments} {body : Expr} {scope : Scope} {pos : Pos} {E : Value → Shared → Prop} {Q : Value → Shared → Prop} (I : Inv X pins σ H s) (TB : TabB X.base X.mg c P) (hcode : X.env.code = .ref c)
    (hm : (P, nm) ∈ T) (hn : nm pos.line pos.col = X.env.qual ++ "<lambda>") (hu : ∀ p ∈ T, p.1 = P → p.2 = nm) (hT : TabsN T H) (hdef : defaultsOf params X.env = ([], [])) (hfree : ∀ y ∈ scope.names, y.2 = .free → ∃ c, X.env.cells.lookup y.1 = some c)
    (h : ∀ (f c' : Addr) (H1 : Hp) (s' : Shared), Inv X pins σ H1 s' → ExtN H H1 → (∀ b, H1 b = Option.none → H b = Option.none) → TabsN T H1 → H f = none → H1 f = some (LamO f ⟨X.env.qual ++ "<lambda>", params, body, scope, cloFrom X.env.cells scope.names [], c'⟩) → H1 c' = some (CodeO c' (X.env.qual ++ "<lambda>")) → Q (.ref f) s') :
    wpAny (model X.prog X.w) X.A (eval (.Lambda params body scope pos) X.env) Q E s := by
  obtain ⟨ps, hP, ht, ha⟩ := (show TabN H P nm from hT _ hm)
  have bP := TB.bm.keeps (h' := s.heap) I.bk
  have gP : s.heap.get? P = some { cls := .none, data := .fields ps } := I.hok P _ hP
  refine PySem.W.kla_eval hdef ?_
  cases cd : codeAmong pos ps.toList with
  | none =>
    refine PySem.W.kla_makeFunction (mg := X.mg) (c := c) (P := P) (ps := ps) (closure_ok hfree) I.ok.glob (I.mod.glob.keeps I.bk) hcode (TB.code.keeps I.bk) gP ht cd TB.gP bP fun c' ctv h' tk hx hge hlt hrec htb => ?_
    obtain ⟨c2, oc, vs, t, e2, hoc, hd, hv⟩ := hrec
    cases e2
    have nC : H c' = none := I.hok.fresh hge
    have I1 := inv_table (q := X.env.qual ++ "<lambda>") (t' := tk) (more := #[rawInt pos.line, rawInt pos.col, .ref c']) (h' := h') I hP hx htb hge ⟨oc, vs, t, hoc, hd, hv⟩
    have hE : ExtN H (upd (upd H P (.tbl (ps ++ #[rawInt pos.line, rawInt pos.col, .ref c']))) c' (CodeO c' (X.env.qual ++ "<lambda>"))) := fun b o e n => by
      rw [upd_ne (ne_of_none e nC), upd_ne (fun z => n ps (Option.some.inj (e.symm.trans (by rw [z]; exact hP))))]
      exact e
    have eL : (ps ++ #[rawInt pos.line, rawInt pos.col, .ref c']).toList = ps.toList ++ [rawInt pos.line, rawInt pos.col, .ref c'] := by simp
    have T1 : TabsN T (upd (upd H P (.tbl (ps ++ #[rawInt pos.line, rawInt pos.col, .ref c']))) c' (CodeO c' (X.env.qual ++ "<lambda>"))) := fun p hp => by
      by_cases hb : p.1 = P
      · rw [hu p hp hb, hb]
        refine ⟨_, by rw [upd_ne (ne_of_none hP nC), upd_same], by rw [eL]; exact PySem.TriplesOk_snoc _ _ _ _ ht, fun p' cv hcv => ?_⟩
        rw [eL] at hcv
        rcases among_app2 _ ht hcv with z | ⟨z, z1, z2⟩
        · obtain ⟨c0, e1, e2⟩ := ha p' cv z
          exact ⟨c0, e1, hE _ _ e2 codeO_ne⟩
        · refine ⟨c', z, ?_⟩
          rw [← z1, ← z2, hn]
          exact upd_same
      · obtain ⟨ps', a1, a2, a3⟩ := hT p hp
        refine ⟨ps', by rw [upd_ne (ne_of_none a1 nC), upd_ne hb]; exact a1, a2, fun p' cv hcv => ?_⟩
        obtain ⟨c0, e1, e2⟩ := a3 p' cv hcv
        exact ⟨c0, e1, hE _ _ e2 codeO_ne⟩
    have nF := I1.hok.fresh (Nat.le_refl h'.objs.size)
    have I2 := I1.laid (a := h'.objs.size) (o := LamO h'.objs.size ⟨X.env.qual ++ "<lambda>", params, body, scope, cloFrom X.env.cells scope.names [], c'⟩) (h' := h'.push (PySem.W.kla_obj "<lambda>" (X.env.qual ++ "<lambda>") params body scope (cloFrom X.env.cells scope.names []) ((X.mg "__name__").getD .none) c' ctv)) (t' := tk)
      (fun b u z => Heap.get?_push_of_some _ z) (Nat.le_refl _) (lamO_ok ⟨_, _, Heap.get?_push_size _ rfl⟩)
    refine h h'.objs.size c' _ _ I2 (fun b o e n => ?_) (fun b e => NdefX.upd_none (NdefX.upd_none (NdefX.upd_none e))) (T1.ext fun b o e => ?_) (I.hok.fresh (Nat.le_trans hge (Nat.le_of_lt hlt))) upd_same ?_
    · have e1 := hE b o e n
      exact (upd_ne (ne_of_none e1 nF)).trans e1
    · exact (upd_ne (ne_of_none e nF)).trans e
    · exact (upd_ne (Nat.ne_of_lt hlt)).trans upd_same
  | some cv =>
    obtain ⟨c', e, hco⟩ := ha pos cv cd
    subst e
    rw [hn] at hco
    refine PySem.W.kla_makeFunctionHit (mg := X.mg) (c := c) (P := P) (ps := ps) (closure_ok hfree) I.ok.glob (I.mod.glob.keeps I.bk) hcode (TB.code.keeps I.bk) gP ht cd bP fun ctv h' tk hx hsz => ?_
    have I0 : Inv X pins σ H { s with heap := h', toks := tk } := I.kept hx
    have nF : H h'.objs.size = none := I0.hok.fresh (Nat.le_refl _)
    have I2 := I0.laid (a := h'.objs.size) (o := LamO h'.objs.size ⟨X.env.qual ++ "<lambda>", params, body, scope, cloFrom X.env.cells scope.names [], c'⟩) (h' := h'.push (PySem.W.kla_obj "<lambda>" (X.env.qual ++ "<lambda>") params body scope (cloFrom X.env.cells scope.names []) ((X.mg "__name__").getD .none) c' ctv)) (t' := tk)
      (fun b u z => Heap.get?_push_of_some _ z) (Nat.le_refl _) (lamO_ok ⟨_, _, Heap.get?_push_size _ rfl⟩)
    refine h h'.objs.size c' _ _ I2 (fun b o e n => ?_) (fun b e => NdefX.upd_none e) (hT.ext fun b o e => ?_) nF upd_same ?_
    · exact (upd_ne (ne_of_none e nF)).trans e
    · exact (upd_ne (ne_of_none e nF)).trans e
    · exact (upd_ne (ne_of_none hco nF)).trans hco
end
def tLamN (T : List NTab) (F : Addr → LF) : TE := fun σ H Q => TabsN T H ∧ ∀ (f c' : Addr) (H1 : Hp), ExtN H H1 → (∀ b, H1 b = Option.none → H b = Option.none) → TabsN T H1 → H f = none → H1 f = some (LamO f (F c')) → H1 c' = some (CodeO c' (F c').qual) → Q (.ref f) H1
theorem pe_lamN {X : Cx} {T : List NTab} {nm : Nat → Nat → Str} {c P : Addr} {params : Arguments} {body : Expr} {scope : Scope} {pos : Pos} (TB : TabB X.base X.mg c P) (hcode : X.env.code = .ref c) (hm : (P, nm) ∈ T) (hn : nm pos.line pos.col = X.env.qual ++ "<lambda>") (hu : ∀ p ∈ T, p.1 = P → p.2 = nm)
    (hdef : defaultsOf params X.env = ([], [])) (hfree : ∀ y ∈ scope.names, y.2 = .free → X.env.scope.names.lookup y.1 = some .cell ∨ X.env.scope.names.lookup y.1 = some .free) :
    PE X (.Lambda params body scope pos) (tLamN T fun c' => ⟨X.env.qual ++ "<lambda>", params, body, scope, cloFrom X.env.cells scope.names [], c'⟩) := by
  refine ⟨fun pins s σ H Q I h => ?_⟩
  obtain ⟨hT, q⟩ := h
  exact lam_toldN I TB hcode hm hn hu hT hdef (fun y hy e => (hfree y hy e).elim (fun z => I.ok.has _ (.inl z)) fun z => I.ok.has _ (.inr z)) fun f c' H1 s' I1 e1 n1 t1 nf hf hc => ⟨.ref f, H1, I1, rfl, q f c' H1 e1 n1 t1 nf hf hc⟩
end Inf

set_option Elab.async false
set_option linter.all false
set_option maxRecDepth 100000
set_option maxHeartbeats 4000000
namespace Inf
open PySem PySem.Spec PyProof.Rows L2 ClX
section
variable {M : Model} {A : Around} {E : Value → Shared → Prop} {s : Shared} {K : PySem.W.Frag} {env : Env} {pos : Pos} {first : List Value} {Q : Value → Shared → Prop} {kws : List Keyword} {q g : Addr} {self : Value}
/-- a bound method, called by names alone -/
theorem callWith_MK0 (hf : PySem.W.fnIn K g = true) (hall : (backToKw pos (keywordEach kws env)).all (·.1.isSome) = true)
    (h : wpAny M A (evalAll ((backToKw pos (keywordEach kws env)).map (·.2))) (fun ks s₂ => PySem.W.MethP K q g self s₂.heap ∧ wpAny M A (call (.ref q) (first ++ []) (((backToKw pos (keywordEach kws env)).filterMap (·.1)).zip ks)) Q E s₂) E s)
    (hplain : ((backTo pos (starEach [] env)).any (·.1) || (backToKw pos (keywordEach kws env)).any (·.1.isNone)) = false := by rfl) :
    wpAny M A (callWith pos (.ref q) first (backTo pos (starEach [] env)) (backToKw pos (keywordEach kws env))) Q E s :=
  PySem.W.callWith_of hplain (PySem.W.keeps_M hf) (evalArgs_kw2_nil hall h)
theorem callWith_MK {e : Expr} {rest : List Expr} (hf : PySem.W.fnIn K g = true) (hall : (backToKw pos (keywordEach kws env)).all (·.1.isSome) = true)
    (h : wpAny M A (spliced (backTo pos (starEach (e :: rest) env))) (fun vs s₁ => wpAny M A (evalAll ((backToKw pos (keywordEach kws env)).map (·.2)))
      (fun ks s₂ => PySem.W.MethP K q g self s₂.heap ∧ wpAny M A (call (.ref q) (first ++ vs) (((backToKw pos (keywordEach kws env)).filterMap (·.1)).zip ks)) Q E s₂) E s₁) E s)
    (hplain : ((backTo pos (starEach (e :: rest) env)).any (·.1) || (backToKw pos (keywordEach kws env)).any (·.1.isNone)) = false := by rfl) (he : starEach (e :: rest) env = (false, eval e env) :: starEach rest env := by rfl) :
    wpAny M A (callWith pos (.ref q) first (backTo pos (starEach (e :: rest) env)) (backToKw pos (keywordEach kws env))) Q E s :=
  PySem.W.callWith_of hplain (PySem.W.keeps_M hf) (evalArgs_kw2 hall h he)
end
section
variable {X : Cx} {CX : CXT} {k n : Nat} {f C p : Addr} {mc : Value} {fd : FuncData} {ps ks : List Str} {sp : Sp} {E : XK} {m x : Str} {pos apos : Pos} {e o : Expr} {es : List Expr} {kws : List Keyword} {ta : TE} {t tk : TA} {g : List Value → List Value → List Value} {gV : List V → List V → List V}
/-- the call of a bound classmethod by values and names -/
theorem run_cmN {pins : List (Addr × Obj)} {σ : L2.St} {H : Hp} {s : Shared} {Q : VK} {q : Addr} {us ws : List Value} {vs zs : List V} (F : FnOk X.prog X.w X.K X.mg X.base CX k f fd ps sp) (hr : Room k X.A) (hb : KBn X.K fd ps (n + 1) ks g gV) (hx : Passes CX X E)
    (I : Inv X ((q, PySem.W.methodObj (.ref f) (.ref C)) :: pins) σ H s) (r : Vals vs us) (rz : Vals zs ws) (l1 : vs.length = n) (l2 : zs.length = ks.length) (h : sp (gV (.ref C :: vs) zs) H Q E) :
    wpAny (model X.prog X.w) X.A (call (.ref q) us (ks.zip ws)) (EP X pins σ Q) X.xe s := by
  have r1 : Vals (V.ref C :: vs) (Value.ref C :: us) := .cons rfl r
  have r2 := hb.rel r1 rz
  have n1 : (Value.ref C :: us).length = n + 1 := by
    rw [List.length_cons, ← r.length, l1]
  have z : wpAny (model X.prog X.w) X.A (call (.ref q) us (ks.zip ws)) (EP X ((q, PySem.W.methodObj (.ref f) (.ref C)) :: pins) σ Q) X.xe s := by
    refine wpAny_call (PySem.W.method_call (pin_at I) (codeAny_mono (F.run X.A X.stack s H ⟨Value.ref C :: us, ks.zip ws⟩ (g (Value.ref C :: us) ws) _ Q E hr I.env0 (hb.to s _ ws I.kIn n1 (rz.length.symm.trans l2)) r2 h) fun r s' hq => ?_))
    cases r with
    | error e => exact hx _ σ H s e s' I hq
    | ok fl =>
      cases fl with
      | ret u => exact I.after hq
      | next => exact False.elim hq
      | brk => exact False.elim hq
      | cont => exact False.elim hq
  exact thn z fun _ _ y => unpinE y
/-- C.m(k = v, ..), m a classmethod: n values are written, then j names -/
def tCMethN (C : Addr) (n j : Nat) (sp : Sp) (gV : List V → List V → List V) (E : XK) (ta : TE) (t tk : TA) : TE := fun σ H Q => ta σ H fun x H1 => x = .ref C ∧ t σ H1 fun vs H2 => tk σ H2 fun zs H3 => vs.length = n ∧ zs.length = j ∧ sp (gV (.ref C :: vs) zs) H3 Q E
theorem pe_cmethK0 {pl : Sem Bool} (he : PE X o ta) (r : CRead X.K C mc) (c : CMet X.K C mc m p f) (F : FnOk X.prog X.w X.K X.mg X.base CX k f fd ps sp) (hr : Room k X.A) (hb : KBn X.K fd ps 1 ks g gV) (hx : Passes CX X E) (hkw : PK X kws tk)
    (hall : (backToKw pos (keywordEach kws X.env)).all (·.1.isSome) = true := by rfl) (hks : (backToKw pos (keywordEach kws X.env)).filterMap (·.1) = ks := by rfl)
    (hpl : ((backTo pos (starEach [] X.env)).any (·.1) || (backToKw pos (keywordEach kws X.env)).any (·.1.isNone)) = false := by rfl)
    (ht : eval (.Call (.Attribute o m apos) [] kws pos) X.env = (do
      let ov ← eval o X.env
      standAt apos.atName
      let (f, first) ← holding [ov] (getMethod ov m pl)
      callWith pos f first (backTo pos (starEach [] X.env)) (backToKw pos (keywordEach kws X.env))) := by rfl) :
    PE X (.Call (.Attribute o m apos) [] kws pos) (tCMethN C 0 ks.length sp gV E ta tNil tk) := by
  refine ⟨fun pins s σ H Q I h => ?_⟩
  refine PySem.W.methodCall_KW (pl := pl) (thn (he.run pins s σ H _ I h) fun u s1 ⟨x, H1, I1, rx, ex, q⟩ => ?_) ht
  subst ex
  obtain rfl : u = Value.ref C := rx
  refine getmethcm_ok I1 r c fun s2 I2 => ?_
  refine callWith_MK0 (first := []) c.fi hall (thn (hkw.run pos _ s2 σ H1 _ I2 q) fun ws s3 ⟨zs, H2, I3, rz, l1, l2, q2⟩ => ⟨⟨pin_at I3, I3.kIn⟩, ?_⟩) hpl
  rw [hks]
  exact run_cmN (us := []) (vs := []) F hr hb hx I3 .nil rz rfl l2 q2
theorem pe_cmethK {pl : Sem Bool} (he : PE X o ta) (r : CRead X.K C mc) (c : CMet X.K C mc m p f) (F : FnOk X.prog X.w X.K X.mg X.base CX k f fd ps sp) (hr : Room k X.A) (hb : KBn X.K fd ps (n + 1) ks g gV) (hx : Passes CX X E) (ha : PA X (e :: es) t) (hkw : PK X kws tk)
    (hall : (backToKw pos (keywordEach kws X.env)).all (·.1.isSome) = true := by rfl) (hks : (backToKw pos (keywordEach kws X.env)).filterMap (·.1) = ks := by rfl)
    (hst : starEach (e :: es) X.env = (false, eval e X.env) :: starEach es X.env := by rfl)
    (hpl : ((backTo pos (starEach (e :: es) X.env)).any (·.1) || (backToKw pos (keywordEach kws X.env)).any (·.1.isNone)) = false := by rfl)
    (ht : eval (.Call (.Attribute o m apos) (e :: es) kws pos) X.env = (do
      let ov ← eval o X.env
      standAt apos.atName
      let (f, first) ← holding [ov] (getMethod ov m pl)
      callWith pos f first (backTo pos (starEach (e :: es) X.env)) (backToKw pos (keywordEach kws X.env))) := by rfl) :
    PE X (.Call (.Attribute o m apos) (e :: es) kws pos) (tCMethN C n ks.length sp gV E ta t tk) := by
  refine ⟨fun pins s σ H Q I h => ?_⟩
  refine PySem.W.methodCall_KW (pl := pl) (thn (he.run pins s σ H _ I h) fun u s1 ⟨x, H1, I1, rx, ex, q⟩ => ?_) ht
  subst ex
  obtain rfl : u = Value.ref C := rx
  refine getmethcm_ok I1 r c fun s2 I2 => ?_
  refine callWith_MK (self := .ref C) (first := []) c.fi hall (thn (ha.run pos _ s2 σ H1 _ I2 q) fun us s3 ⟨vs, H2, I3, rv, q2⟩ => ?_) hpl hst
  refine thn (hkw.run pos _ s3 σ H2 _ I3 q2) fun ws s4 ⟨zs, H3, I4, rz, l1, l2, q3⟩ => ⟨⟨pin_at I4, I4.kIn⟩, ?_⟩
  rw [hks]
  exact run_cmN F hr hb hx I4 rv rz l1 l2 q3
/-- c(e, .., k = v, ..), c a local name that holds the class at C -/
def tMakeL (C : Addr) (n j : Nat) (sp : Sp) (gV : List V → List V → List V) (E : XK) (ta : TE) (t tk : TA) : TE := fun σ H Q => ta σ H fun x H0 => x = .ref C ∧ tMakeK C n j sp gV E t tk σ H0 Q
theorem pe_makeL (hc : PE X (.Name x pos) ta) (M : Mk X.K C f) (F : FnOk X.prog X.w X.K X.mg X.base CX k f fd ps sp) (hr : Room (k + 1) X.A) (hb : KBn X.K fd ps (n + 1) ks g gV) (hx : Passes CX X E) (ha : PA X (e :: es) t) (hkw : PK X kws tk)
    (hall : (backToKw apos (keywordEach kws X.env)).all (·.1.isSome) = true := by rfl) (hks : (backToKw apos (keywordEach kws X.env)).filterMap (·.1) = ks := by rfl)
    (he : starEach (e :: es) X.env = (false, eval e X.env) :: starEach es X.env := by rfl) (hpl : ((backTo apos (starEach (e :: es) X.env)).any (·.1) || (backToKw apos (keywordEach kws X.env)).any (·.1.isNone)) = false := by rfl) :
    PE X (.Call (.Name x pos) (e :: es) kws apos) (tMakeL C n ks.length sp gV E ta t tk) := by
  refine ⟨fun pins s σ H Q I h => ?_⟩
  refine wpAny_Call_Name_kw (thn (hc.run pins s σ H _ I h) fun u s0 ⟨y, H0, I0, ry, ey, h0⟩ => ?_)
  subst ey
  obtain rfl : u = Value.ref C := ry
  refine PySem.W.callWith_KW (h₀ := X.base) I0.ok.mod.kin M.kp hall (thn (ha.run apos pins s0 σ H0 _ I0 h0) fun us s1 ⟨vs, H1, I1, r, q⟩ => ?_) hpl he
  refine thn (hkw.run apos pins s1 σ H1 _ I1 q) fun ws s2 ⟨zs, H2, I2, rz, l1, l2, q2⟩ => ⟨I2.kIn, ?_⟩
  rw [hks]
  exact run_makeK M F hr hb hx I2 r rz l1 l2 q2
end
end Inf

set_option Elab.async false
set_option linter.all false
set_option maxRecDepth 100000
set_option maxHeartbeats 4000000
namespace Inf
open PySem PySem.Spec PyProof.Rows L2 NdefX LamX
/-! ### a lambda that captures cells -/
/-- a cell at c that holds v -/
def CellAt (H : Hp) (c : Addr) (v : V) : Prop := ∃ φ, H c = some (.ext φ) ∧ ∀ h : Heap, φ h → ∃ u, L2.RelV v u ∧ h.IsCell c (some u)
theorem CellAt.of {H : Hp} {c : Addr} {v : V} (h : H c = some (CellO c v)) : CellAt H c v := ⟨_, h, fun _ z => z⟩
theorem CellAt.at_ {P : Program} {w : World} {H : Hp} {h : Heap} {c : Addr} {v : V} (hok : HOk P w H h) (e : CellAt H c v) : ∃ u, L2.RelV v u ∧ h.IsCell c (some u) := by
  obtain ⟨φ, e1, e2⟩ := e
  obtain ⟨z, _, _⟩ := hok c _ e1
  exact e2 _ z
theorem CellAt.same {H H1 : Hp} {c : Addr} {v : V} (h : CellAt H c v) (s : Same H H1) : CellAt H1 c v := by
  obtain ⟨φ, e1, e2⟩ := h
  exact ⟨φ, s _ _ e1, e2⟩
/-- the lambda F stands at f, and its captured cells hold ws -/
structure LClo (H : Hp) (f : Addr) (F : LF) (fr : List Str) (ws : List V) : Prop where
  fn : H f = some (LamO f F)
  code : H F.c = some (CodeO F.c F.qual)
  len : ws.length = fr.length
  dom : ∀ y c, F.cl.lookup y = some c → y ∈ fr
  inj : ∀ x y c, F.cl.lookup x = some c → F.cl.lookup y = some c → x = y
  at_ : ∀ (i : Nat) (y : Str), fr[i]? = some y → ∃ c v, F.cl.lookup y = some c ∧ ws[i]? = some v ∧ CellAt H c v
theorem LClo.same {H H1 : Hp} {f : Addr} {F : LF} {fr : List Str} {ws : List V} (h : LClo H f F fr ws) (s : Same H H1) : LClo H1 f F fr ws :=
  ⟨s _ _ h.fn, s _ _ h.code, h.len, h.dom, h.inj, fun i y e => by
    obtain ⟨c, v, a, b, d⟩ := h.at_ i y e
    exact ⟨c, v, a, b, d.same s⟩⟩
theorem LClo.cell {H : Hp} {f : Addr} {F : LF} {fr : List Str} {ws : List V} (h : LClo H f F fr ws) {b : Addr} (hb : b ∈ cellsOf F.nf fr) : ∃ v, CellAt H b v := by
  obtain ⟨y, hy, e⟩ := mem_cells.mp hb
  obtain ⟨i, hi⟩ := List.mem_iff_getElem?.mp hy
  obtain ⟨c, v, a, _, d⟩ := h.at_ i y hi
  have e' : F.cl.lookup y = some b := e
  rw [e'] at a
  cases a
  exact ⟨v, d⟩
theorem LClo.out {H : Hp} {f : Addr} {F : LF} {fr : List Str} {ws : List V} (h : LClo H f F fr ws) {b : Addr} {o : HO} (e : H b = some o) (n : ∀ φ, o ≠ .ext φ) : b ∉ cellsOf F.nf fr := fun hb => by
  obtain ⟨v, φ, d, _⟩ := h.cell hb
  rw [e] at d
  exact n _ (Option.some.inj d)
section
variable {P : Program} {w : World} {K : PySem.W.Frag} {mg : Str → Option Value} {base : Heap} {k : Nat} {f : Addr} {F : LF} {N ps fr : List Str} {sp : List (Option V) → Sp}
theorem lam_run (S : NScope N ps fr F.scope) (hb : ∀ (pm ctv : Value) (us : List Value), us.length = ps.length → bindArgs (PySem.W.kla_fn "<lambda>" F.qual F.params F.body F.scope F.cl pm (.ref F.c) ctv) ⟨us, []⟩ = pure (ps.zip us))
    (len : ∀ ws vs H Q E, sp ws vs H Q E → vs.length = ps.length)
    (hbody : ∀ (A : Around) (outer : List Env) (s : Shared) (H : Hp) (vs : List V) (ws : List (Option V)) (Q : VK) (E : XK), Room k (A.deeper (envF F.nf f s.heap.objs.size)) → ws.length = fr.length → sp ws vs H Q E → ∃ te, PE (ncx CX0 P w K mg base N F.nf f A outer s H E) F.body te ∧ te (startF N vs ws) H Q)
    (A : Around) (outer : List Env) (s : Shared) (H : Hp) (us : List Value) (vs : List V) (ws : List (Option V)) (Q : VK) (E : XK) (hr : Room (k + 1) A) (e0 : Env0 P w K mg base A outer s H) (hf : H f = some (LamO f F)) (hc : H F.c = some (CodeO F.c F.qual)) (C : CellsAt F.cl fr ws s.heap H) (r : Vals vs us) (hsp : sp ws vs H Q E) :
    codeAny (model P w) A (.call (.ref f) ⟨us, []⟩) (CR CX0 outer P w H s Q E) s := by
  have hl := len _ _ _ _ _ hsp
  have lim : s.heap.NoLimit := e0.mod.nolimit.keeps fun b o e => (e0.bs b o e).1
  obtain ⟨pm, ctv, ho⟩ := lamO_at e0.hok hf
  refine PySem.W.kla_callFunE hr.depth ho rfl S.co S.gen rfl (codeO_at e0.hok hc) ?_
  rw [hb pm ctv us (by rw [← r.length]; exact hl)]
  refine wpAny_pure (wpAny_newFunctionEnv S.nocell (fun ⟨n, _⟩ hy => S.par n (List.of_mem_zip hy).1) (fun h₁ hns hsb => ⟨lim.fresh _ hsb, ?_⟩) S.kind)
  obtain ⟨te, ht, hq⟩ := hbody A outer s H vs ws Q E (hr.deeper _) C.len hsp
  have kp : ∀ b o, s.heap.get? b = some o → h₁.get? b = some o := fun b o e => hsb.extBut b o (Nat.ne_of_lt (Heap.lt_size e)) (Heap.get?_push_of_some _ e)
  have I := inv_startN (CX := CX0) (P := P) (w := w) (K := K) (mg := mg) (base := base) (F := F.nf) (f := f) (A := A) (outer := outer) (E := E) (tk := s.toks + (ps.zip us).length) S hr.hd e0 hl r C hns kp
  refine PySem.W.kla_codeExpr (wpAny_mono (ht.run [] _ (startF N vs ws) H Q I hq) (fun u s' hs => ?_) fun e s' hs => hs)
  obtain ⟨v, H', J, rv, q⟩ := hs
  exact ⟨v, H', J.os, J.bare, J.base, J.hok, rv, q⟩
/-- A LAMBDA THAT CAPTURES CELLS, called from anywhere: its cells are told; while it runs they are left out, behind it they are put back -/
theorem lam_cloR (S : NScope N ps fr F.scope) (hb : ∀ (pm ctv : Value) (us : List Value), us.length = ps.length → bindArgs (PySem.W.kla_fn "<lambda>" F.qual F.params F.body F.scope F.cl pm (.ref F.c) ctv) ⟨us, []⟩ = pure (ps.zip us))
    (len : ∀ ws vs H Q E, sp ws vs H Q E → vs.length = ps.length)
    (hbody : ∀ (A : Around) (outer : List Env) (s : Shared) (H : Hp) (vs : List V) (ws : List (Option V)) (Q : VK) (E : XK), Room k (A.deeper (envF F.nf f s.heap.objs.size)) → ws.length = fr.length → sp ws vs H Q E → ∃ te, PE (ncx CX0 P w K mg base N F.nf f A outer s H E) F.body te ∧ te (startF N vs ws) H Q) :
    FnR P w K mg base CX0 (k + 1) f (fun vs H Q E => ∃ ws, LClo H f F fr ws ∧ sp (ws.map some) vs (cut (cellsOf F.nf fr) H) (fun v H1 => (∀ b, b ∈ cellsOf F.nf fr → H1 b = Option.none) → Q v (mend (cellsOf F.nf fr) H H1)) E) := by
  intro A outer s H us vs Q E hr e0 r hsp
  obtain ⟨ws, hc, hsp⟩ := hsp
  have cellAt : ∀ b, b ∈ cellsOf F.nf fr → ∃ v, CellAt H b v := fun b hb => hc.cell hb
  have isC : ∀ b, b ∈ cellsOf F.nf fr → ∃ u, s.heap.IsCell b (some u) := fun b hb => by
    obtain ⟨v, e⟩ := cellAt b hb
    obtain ⟨u, _, z⟩ := e.at_ e0.hok
    exact ⟨u, z⟩
  have fnout : f ∉ cellsOf F.nf fr := fun hb => by
    obtain ⟨u, o, e1, e2⟩ := isC f hb
    obtain ⟨pm, ctv, e3⟩ := lamO_at e0.hok hc.fn
    rw [e1] at e3
    cases e3
    cases e2
  have cout : F.c ∉ cellsOf F.nf fr := fun hb => by
    obtain ⟨u, o, e1, e2⟩ := isC F.c hb
    obtain ⟨⟨oc, vs', t, h1, h2, h3⟩, _, _⟩ := e0.hok F.c _ hc.code
    rw [e1] at h1
    cases h1
    rw [e2] at h2
    cases h2
  have hokc : HOk P w (cut (cellsOf F.nf fr) H) s.heap := fun b o e => by
    by_cases hb : b ∈ cellsOf F.nf fr
    · rw [cut_in hb] at e
      cases e
    · rw [cut_out hb] at e
      refine (e0.hok b o e).stay (fun c u _ q => q) (fun c q => ?_) fun c xs q => ?_
      · rw [cut_out (hc.out q (fun φ z => nomatch z))]
        exact q
      · rw [cut_out (hc.out q (fun φ z => nomatch z))]
        exact q
  have noneC : ∀ b, H b = Option.none → cut (cellsOf F.nf fr) H b = Option.none := fun b e => by
    by_cases hb : b ∈ cellsOf F.nf fr
    · exact cut_in hb
    · rw [cut_out hb]
      exact e
  have e1 : Env0 P w K mg base A outer s (cut (cellsOf F.nf fr) H) := ⟨e0.frames, e0.mod, fun b o q => ⟨(e0.bs b o q).1, noneC b (e0.bs b o q).2⟩, e0.bsz, e0.funs, fun b hb => noneC b (e0.frf b hb), hokc, e0.bare⟩
  have C : CellsAt F.cl fr (ws.map some) s.heap (cut (cellsOf F.nf fr) H) := by
    refine ⟨by rw [List.length_map]; exact hc.len, fun y c e => ?_, hc.inj, fun i y e => ?_⟩
    · have hb : c ∈ cellsOf F.nf fr := mem_cells.mpr ⟨y, hc.dom y c e, e⟩
      obtain ⟨u, z⟩ := isC c hb
      exact ⟨cut_in hb, _, z⟩
    · obtain ⟨c, v, a, b, d⟩ := hc.at_ i y e
      refine ⟨c, a, fun v' e' => ?_⟩
      rw [List.getElem?_map, b] at e'
      cases e'
      obtain ⟨u, r', z⟩ := d.at_ e0.hok
      exact ⟨u, r', z⟩
  refine codeAny_mono (lam_run S hb len hbody A outer s (cut (cellsOf F.nf fr) H) us vs (ws.map some) _ E hr e1 (by rw [cut_out fnout]; exact hc.fn) (by rw [cut_out cout]; exact hc.code) C r hsp) fun res s' hq => ?_
  cases res with
  | error e => exact hq
  | ok fl =>
    cases fl with
    | next => exact hq
    | brk => exact hq
    | cont => exact hq
    | ret u =>
      obtain ⟨v, H1, os, bare, un, hok1, rv, q⟩ := hq
      have gone : ∀ b, b ∈ cellsOf F.nf fr → H1 b = Option.none := fun b hb => by
        obtain ⟨u, o, z1, z2⟩ := isC b hb
        exact un.free b o z1 (cut_in hb) (by simp)
      have notfr : ∀ b, b ∈ cellsOf F.nf fr → b ∉ frs outer := fun b hb z => by
        obtain ⟨v, φ, d, _⟩ := cellAt b hb
        rw [e0.frf b z] at d
        cases d
      refine ⟨v, mend (cellsOf F.nf fr) H H1, os, bare, ⟨fun b o a n h1 h2 => un.keep b o a (noneC b n) h1 h2, fun b o a n h1 h2 => un.slot b o a (noneC b n) h1 h2, fun b o a n h2 => ?_, un.there, fun b xs e => ?_, fun b o u e => ?_, fun b ps e => ?_⟩, fun b o e => ?_, rv, q gone⟩
      · by_cases hb : b ∈ cellsOf F.nf fr
        · rw [mend_in hb]
          exact n
        · rw [mend_out hb]
          exact un.free b o a (noneC b n) h2
      · have hb := hc.out e (fun φ z => nomatch z)
        rw [mend_out hb]
        exact un.tups b xs (by rw [cut_out hb]; exact e)
      · have hb := hc.out e (fun φ z => nomatch z)
        rw [mend_out hb]
        exact un.frzs b o u (by rw [cut_out hb]; exact e)
      · have hb := hc.out e (fun φ z => nomatch z)
        rw [mend_out hb]
        exact un.tbls b ps (by rw [cut_out hb]; exact e)
      · by_cases hb : b ∈ cellsOf F.nf fr
        · rw [mend_in hb] at e
          obtain ⟨v', φ, d, _⟩ := cellAt b hb
          rw [d] at e
          cases e
          obtain ⟨z, ⟨o', z1⟩, st⟩ := e0.hok b _ d
          have z2 := un.keep b o' z1 (cut_in hb) (notfr b hb) (by simp)
          refine ⟨st _ _ z (fun x hx => ?_), ⟨o', z2⟩, st⟩
          rw [z1] at hx
          cases hx
          exact z2
        · rw [mend_out hb] at e
          refine (hok1 b o e).stay (fun c u _ q => q) (fun c q => ?_) fun c xs q => ?_
          · have hb' : c ∉ cellsOf F.nf fr := fun z => by
              rw [gone c z] at q
              cases q
            rw [mend_out hb']
            exact q
          · have hb' : c ∉ cellsOf F.nf fr := fun z => by
              rw [gone c z] at q
              cases q
            rw [mend_out hb']
            exact q
end
/-! ### a call while the def's cells are told -/
/-- HT is H with the def's cells cs told -/
structure Tel (cells : List (Str × Addr)) (names : List (Str × NameKind)) (N : List Str) (σ : L2.St) (H : Hp) (cs : List Addr) (HT : Hp) : Prop where
  no : ∀ b, b ∈ cs → H b = Option.none
  ext : ∀ b, b ∈ cs → ∃ φ, HT b = some (.ext φ)
  out : ∀ b, b ∉ cs → HT b = H b
  inj : ∀ x y c, cells.lookup x = some c → cells.lookup y = some c → x = y
  has : ∀ y, names.lookup y = some .cell → ∃ c, cells.lookup y = some c
  at_ : ∀ (i : Nat) (y : Str) (c : Addr) (v : V), N[i]? = some y → names.lookup y = some .cell → cells.lookup y = some c → σ[i]? = some (some v) → CellAt HT c v
theorem Tel.same {cells : List (Str × Addr)} {names : List (Str × NameKind)} {N : List Str} {σ : L2.St} {H HT : Hp} {cs : List Addr} (t : Tel cells names N σ H cs HT) : Same H HT := fun b o e => by
  rw [t.out b fun z => by rw [t.no b z] at e; cases e]
  exact e
theorem Tel.cut_at {cells : List (Str × Addr)} {names : List (Str × NameKind)} {N : List Str} {σ : L2.St} {H HT H1 : Hp} {cs : List Addr} (t : Tel cells names N σ H cs HT) (g : ∀ b, b ∈ cs → H1 b = HT b) {b : Addr} {o : HO} (e : H1 b = some o) (n : ∀ φ, o ≠ .ext φ) : cut cs H1 b = some o := by
  rw [cut_out fun z => ?_]
  · exact e
  · obtain ⟨φ, f⟩ := t.ext b z
    rw [g b z, f] at e
    exact n _ (Option.some.inj e).symm
theorem Tel.cut_same {cells : List (Str × Addr)} {names : List (Str × NameKind)} {N : List Str} {σ : L2.St} {H HT H1 : Hp} {cs : List Addr} (t : Tel cells names N σ H cs HT) (s : Same HT H1) : Same H (cut cs H1) := fun b o e => by
  rw [cut_out fun z => by rw [t.no b z] at e; cases e]
  exact s _ _ (t.same _ _ e)
theorem Tel.back {cells : List (Str × Addr)} {names : List (Str × NameKind)} {N : List Str} {σ : L2.St} {H HT : Hp} {cs : List Addr} (t : Tel cells names N σ H cs HT) : cut cs HT = H := funext fun b => by
  by_cases hb : b ∈ cs
  · rw [cut_in hb, t.no b hb]
  · rw [cut_out hb, t.out b hb]
theorem mend_cut {cs : List Addr} {H : Hp} : mend cs H (cut cs H) = H := funext fun b => by
  by_cases hb : b ∈ cs
  · rw [mend_in hb]
  · rw [mend_out hb, cut_out hb]
/-- a lambda that was made in the def, while the def's cells are told -/
theorem Tel.lclo {cells : List (Str × Addr)} {names : List (Str × NameKind)} {N : List Str} {σ : L2.St} {H HT : Hp} {cs : List Addr} (t : Tel cells names N σ H cs HT) {NL psL fr : List Str} {F : LF} {f : Addr} {js : List Nat} {ws : List V}
    (S : NScope NL psL fr F.scope) (hcl : F.cl = cloFrom cells F.scope.names []) (hfree : ∀ y ∈ fr, names.lookup y = some .cell)
    (hN : js.map (fun j => N[j]?) = fr.map some) (hσ : js.map (fun j => σ[j]?) = ws.map fun v => some (some v))
    (hf : H f = some (LamO f F)) (hc : H F.c = some (CodeO F.c F.qual)) : LClo HT f F fr ws := by
  have hfr : ∀ y ∈ F.scope.names, y.2 = .free → ∃ c, cells.lookup y.1 = some c := fun y hy e => t.has _ (hfree _ (S.free y hy e))
  have l1 := congrArg List.length hN
  have l2 := congrArg List.length hσ
  rw [List.length_map, List.length_map] at l1 l2
  refine ⟨t.same _ _ hf, t.same _ _ hc, by omega, fun y c e => ?_, fun x y c e1 e2 => ?_, fun i y e => ?_⟩
  · rw [hcl] at e
    rcases cloFrom_mem (PySem.mem_of_lookup e) with h | ⟨h, _⟩
    · cases h
    · exact S.free _ h rfl
  · rw [hcl] at e1 e2
    exact t.inj x y c (clo_cm hfr e1) (clo_cm hfr e2)
  · have my : y ∈ fr := List.mem_of_getElem? e
    obtain ⟨c, hc⟩ := t.has y (hfree y my)
    have li : i < fr.length := (List.getElem?_eq_some_iff.mp e).1
    obtain ⟨j, hj⟩ : ∃ j, js[i]? = some j := ⟨_, List.getElem?_eq_getElem (by omega)⟩
    obtain ⟨v, hv⟩ : ∃ v, ws[i]? = some v := ⟨_, List.getElem?_eq_getElem (by omega)⟩
    have n1 : (js.map fun j => N[j]?)[i]? = some (some y) := by
      rw [hN, List.getElem?_map, e]
      rfl
    have n2 : (js.map fun j => σ[j]?)[i]? = some (some (some v)) := by
      rw [hσ, List.getElem?_map, hv]
      rfl
    rw [List.getElem?_map, hj] at n1 n2
    exact ⟨c, v, by rw [hcl]; exact clo_has hfr (PySem.mem_of_lookup (S.frk y my)) hc, hv, t.at_ j y c v (Option.some.inj n1) (hfree y my) hc (Option.some.inj n2)⟩
section
variable {X : Cx} {pins : List (Addr × Obj)} {σ : L2.St} {H : Hp} {s : Shared}
def frCells (l : List (Str × Addr)) : List Addr := l.filterMap fun p => l.lookup p.1
theorem mem_frCells {l : List (Str × Addr)} {b : Addr} (h : b ∈ frCells l) : ∃ x, l.lookup x = some b := by
  obtain ⟨p, _, e⟩ := List.mem_filterMap.mp h
  exact ⟨p.1, e⟩
theorem frCells_mem {l : List (Str × Addr)} {x : Str} {b : Addr} (h : l.lookup x = some b) : b ∈ frCells l := List.mem_filterMap.mpr ⟨(x, b), PySem.mem_of_lookup h, h⟩
theorem tel_run {k : Nat} {f : Addr} {fd : FuncData} {ps : List Str} {ds : List Value} {dvs : List V} {sp : Sp} {Q : VK} {us : List Value} {vs : List V} (F : FnOk X.prog X.w X.K X.mg X.base CX0 k f fd ps sp) (hr : Room k X.A) (hb : Binds X.K fd ps ds) (hd : Vals dvs ds) (hfn : ∀ x, X.fn x = true)
    (I : Inv X pins σ H s) (r : Vals vs us) (h : ∀ cs HT, Tel X.env.cells X.env.scope.names X.N σ H cs HT → sp (vs ++ dvs) HT (fun v H1 => (∀ b, b ∈ cs → H1 b = HT b) ∧ Q v (cut cs H1)) E0) : wpAny (model X.prog X.w) X.A (call (.ref f) us) (EP X pins σ Q) X.xe s := by
  let cs := frCells X.env.cells
  let HT : Hp := fun b => if b ∈ cs then (match s.heap.get? b with | some o => some (.ext fun h => h.get? b = some o) | Option.none => Option.none) else H b
  have big : ∀ b, b ∈ cs → X.s_0.heap.objs.size ≤ b := fun b hb => by
    obtain ⟨x, e⟩ := mem_frCells hb
    exact I.ok.cab x b (hfn x) e
  have no : ∀ b, b ∈ cs → H b = Option.none := fun b hb => by
    obtain ⟨x, e⟩ := mem_frCells hb
    exact I.freeC x b e
  have inT : ∀ b, b ∈ cs → ∃ v o, s.heap.get? b = some o ∧ o.data = .cell v ∧ HT b = some (.ext fun h => h.get? b = some o) := fun b hb => by
    obtain ⟨x, e⟩ := mem_frCells hb
    obtain ⟨v, o, e1, e2⟩ := I.cell x b e
    refine ⟨v, o, e1, e2, ?_⟩
    show (if b ∈ cs then _ else _) = _
    rw [if_pos hb, e1]
  have outT : ∀ b, b ∉ cs → HT b = H b := fun b hb => if_neg hb
  have nonT : ∀ b, b ∉ cs → H b = Option.none → HT b = Option.none := fun b hb e => (outT b hb).trans e
  have T : Tel X.env.cells X.env.scope.names X.N σ H cs HT := by
    refine ⟨no, fun b hb => ?_, outT, I.ok.inj, fun y h => I.ok.has _ (.inl h), fun i y c v h1 h2 h3 h4 => ?_⟩
    · obtain ⟨v, o, _, _, e⟩ := inT b hb
      exact ⟨_, e⟩
    · obtain ⟨v', o, e1, e2, e3⟩ := inT c (frCells_mem h3)
      obtain ⟨m, hn, hl⟩ := I.loc
      obtain ⟨u, ru, lk⟩ := hl i y v h1 h4 (.inr (.inl h2))
      refine ⟨_, e3, fun h hh => ⟨u, ru, o, hh, ?_⟩⟩
      rcases lk with ⟨z, _⟩ | ⟨_, c', hc', hcell⟩
      · have z' : X.env.scope.names.lookup y = some .local := z
        rw [h2] at z'
        cases z'
      · rw [h3] at hc'
        cases hc'
        obtain ⟨o', g1, g2⟩ := hcell
        rw [e1] at g1
        cases g1
        exact g2
  have ncs : ∀ b, b < X.s_0.heap.objs.size → b ∉ cs := fun b l m => Nat.not_lt.mpr (big b m) l
  have e0 := I.env0
  have notfr : ∀ b, b ∈ frs X.stack → b ∉ cs := fun b hb m => by
    rcases List.mem_cons.mp (I.stkSub b hb) with e | hb'
    · obtain ⟨x, ex⟩ := mem_frCells m
      exact I.cne x b ex e
    · obtain ⟨_, o, ho, _⟩ := I.ok.funs.mem hb'
      exact ncs b (Heap.lt_size ho) m
  have nonext : ∀ {b : Addr} {o : HO}, H b = some o → b ∉ cs := fun e m => by
    rw [no _ m] at e
    cases e
  have e1 : Env0 X.prog X.w X.K X.mg X.base X.A X.stack s HT := by
    refine ⟨e0.frames, e0.mod, fun b o q => ⟨(e0.bs b o q).1, nonT b (ncs b (Nat.lt_of_lt_of_le (Heap.lt_size q) I.ok.bsz)) (e0.bs b o q).2⟩, e0.bsz, e0.funs, fun b hb => nonT b (notfr b hb) (e0.frf b hb), fun b o e => ?_, e0.bare⟩
    by_cases hb : b ∈ cs
    · obtain ⟨v, o', g1, g2, g3⟩ := inT b hb
      rw [g3] at e
      cases e
      exact ⟨g1, ⟨o', g1⟩, fun h1 h2 z k => k _ z⟩
    · rw [outT b hb] at e
      refine (e0.hok b o e).stay (fun c u _ q => q) (fun c q => ?_) fun c xs q => ?_
      · rw [outT c (nonext q)]
        exact q
      · rw [outT c (nonext q)]
        exact q
  have hq0 := h cs HT T
  have r2 : Vals (vs ++ dvs) (us ++ ds) := r.append hd
  have hl : (us ++ ds).length = ps.length := by rw [← r2.length]; exact F.len _ _ _ _ hq0
  refine wpAny_call (codeAny_mono (F.run X.A X.stack s HT ⟨us, []⟩ (us ++ ds) (vs ++ dvs) _ E0 hr e1 (hb s us I.kIn hl) r2 hq0) fun r s' hq => ?_)
  cases r with
  | error e => exact False.elim hq
  | ok fl =>
    cases fl with
    | next => exact False.elim hq
    | brk => exact False.elim hq
    | cont => exact False.elim hq
    | ret u =>
      obtain ⟨v, H1, os, bare, un, hok1, rv, kc, q⟩ := hq
      have notin : ∀ {b : Addr} {o : HO}, H1 b = some o → (∀ φ, o ≠ .ext φ) → b ∉ cs := fun {b o} e n m => by
        obtain ⟨v, o', _, _, g3⟩ := inT b m
        rw [kc b m, g3] at e
        exact n _ (Option.some.inj e).symm
      have keepC : ∀ b o, b ∈ cs → s.heap.get? b = some o → s'.heap.get? b = some o := fun b o m e => by
        obtain ⟨v, o', g1, _, g3⟩ := inT b m
        rw [g1] at e
        cases e
        have := hok1 b _ ((kc b m).trans g3)
        exact this.1
      refine I.after ⟨v, cut cs H1, os, bare, ⟨fun b o a n h1 h2 => ?_, fun b o a n h1 h2 => ?_, fun b o a n h2 => ?_, un.there, fun b xs e => ?_, fun b o u e => ?_, fun b ps e => ?_⟩, fun b o e => ?_, rv, q⟩
      · by_cases m : b ∈ cs
        · exact keepC b o m a
        · exact un.keep b o a (nonT b m n) h1 h2
      · exact un.slot b o a (nonT b (notfr b h1) n) h1 h2
      · by_cases m : b ∈ cs
        · exact cut_in m
        · rw [cut_out m]
          exact un.free b o a (nonT b m n) h2
      · have m := nonext e
        rw [cut_out m]
        exact un.tups b xs ((outT b m).trans e)
      · have m := nonext e
        rw [cut_out m]
        exact un.frzs b o u ((outT b m).trans e)
      · have m := nonext e
        rw [cut_out m]
        exact un.tbls b ps ((outT b m).trans e)
      · by_cases m : b ∈ cs
        · rw [cut_in m] at e
          cases e
        · rw [cut_out m] at e
          refine (hok1 b o e).stay (fun c u _ q => q) (fun c q => ?_) fun c xs q => ?_
          · rw [cut_out (notin q (fun φ z => nomatch z))]
            exact q
          · rw [cut_out (notin q (fun φ z => nomatch z))]
            exact q
end
/-- f(..) while the cells are told -/
def tCallT (X : Cx) (sp : Sp) (dvs : List V) (t : TA) : TE := fun σ H Q => t σ H fun vs H1 => ∀ cs HT, Tel X.env.cells X.env.scope.names X.N σ H1 cs HT → sp (vs ++ dvs) HT (fun v H2 => (∀ b, b ∈ cs → H2 b = HT b) ∧ Q v (cut cs H2)) E0
theorem pe_callT {X : Cx} {k : Nat} {f : Addr} {fd : FuncData} {ps : List Str} {ds : List Value} {dvs : List V} {sp : Sp} {x : Str} {p pos : Pos} {e : Expr} {es : List Expr} {t : TA} (hfn : ∀ x, X.fn x = true) (F : FnOk X.prog X.w X.K X.mg X.base CX0 k f fd ps sp) (hr : Room k X.A) (hg : Gl X x) (hm : X.mg x = some (.ref f)) (hk : PySem.W.keepIn X.K (.ref f) = true) (hb : Binds X.K fd ps ds) (hd : Vals dvs ds)
    (ha : PA X (e :: es) t) (hdb : (x == ("__debug__" : Str)) = false := by decide) (he : starEach (e :: es) X.env = (false, eval e X.env) :: starEach es X.env := by rfl) (hpl : (backTo pos (starEach es X.env)).any (·.1) = false := by rfl) :
    PE X (.Call (.Name x p) (e :: es) [] pos) (tCallT X sp dvs t) := by
  refine ⟨fun pins s σ H Q I h => ?_⟩
  refine wpAny_Call_Name_kw (ld_glob I hg hm ?_ hdb)
  refine PySem.W.callWith_K (h₀ := X.base) I.ok.mod.kin hk (thn (ha.run pos pins s σ H _ I h) fun us s1 ⟨vs, H1, I1, r, q⟩ => ⟨I1.kIn, ?_⟩) he hpl
  exact tel_run F hr hb hd hfn I1 r q
section
variable {X : Cx} {pins : List (Addr × Obj)} {σ : L2.St} {H : Hp} {s : Shared}
/-- a lambda in a def that makes functions by name, too: the table knows the names by their places -/
theorem lam_toldP {T : List NTab} {nm : Nat → Nat → Str} {c P : Addr} {params : Arguments} {body : Expr} {scope : Scope} {pos : Pos} {E : Value → Shared → Prop} {Q : Value → Shared → Prop} (I : Inv X pins σ H s) (TB : TabB X.base X.mg c P) (hcode : X.env.code = .ref c)
    (hm : (P, nm) ∈ T) (hn : nm pos.line pos.col = X.env.qual ++ "<lambda>") (hu : ∀ p ∈ T, p.1 = P → p.2 = nm) (hT : TabsN T H) (hdef : defaultsOf params X.env = ([], [])) (hfree : ∀ y ∈ scope.names, y.2 = .free → ∃ c, X.env.cells.lookup y.1 = some c)
    (h : ∀ (f c' : Addr) (H1 : Hp) (s' : Shared), Inv X pins σ H1 s' → (∀ b o, H b = some o → b ≠ P → H1 b = some o) → (∀ b, H1 b = Option.none → H b = Option.none) → TabsN T H1 → H f = none → H1 f = some (LamO f ⟨X.env.qual ++ "<lambda>", params, body, scope, cloFrom X.env.cells scope.names [], c'⟩) → H1 c' = some (CodeO c' (X.env.qual ++ "<lambda>")) → Q (.ref f) s') :
    wpAny (model X.prog X.w) X.A (eval (.Lambda params body scope pos) X.env) Q E s := by
  obtain ⟨ps, hP, ht, ha⟩ := (show TabN H P nm from hT _ hm)
  have bP := TB.bm.keeps (h' := s.heap) I.bk
  have gP : s.heap.get? P = some { cls := .none, data := .fields ps } := I.hok P _ hP
  refine PySem.W.kla_eval hdef ?_
  cases cd : codeAmong pos ps.toList with
  | none =>
    refine PySem.W.kla_makeFunction (mg := X.mg) (c := c) (P := P) (ps := ps) (closure_ok hfree) I.ok.glob (I.mod.glob.keeps I.bk) hcode (TB.code.keeps I.bk) gP ht cd TB.gP bP fun c' ctv h' tk hx hge hlt hrec htb => ?_
    obtain ⟨c2, oc, vs, t, e2, hoc, hd, hv⟩ := hrec
    cases e2
    have nC : H c' = none := I.hok.fresh hge
    have I1 := inv_table (q := X.env.qual ++ "<lambda>") (t' := tk) (more := #[rawInt pos.line, rawInt pos.col, .ref c']) (h' := h') I hP hx htb hge ⟨oc, vs, t, hoc, hd, hv⟩
    have hE : ExtN H (upd (upd H P (.tbl (ps ++ #[rawInt pos.line, rawInt pos.col, .ref c']))) c' (CodeO c' (X.env.qual ++ "<lambda>"))) := fun b o e n => by
      rw [upd_ne (ne_of_none e nC), upd_ne (fun z => n ps (Option.some.inj (e.symm.trans (by rw [z]; exact hP))))]
      exact e
    have eL : (ps ++ #[rawInt pos.line, rawInt pos.col, .ref c']).toList = ps.toList ++ [rawInt pos.line, rawInt pos.col, .ref c'] := by simp
    have T1 : TabsN T (upd (upd H P (.tbl (ps ++ #[rawInt pos.line, rawInt pos.col, .ref c']))) c' (CodeO c' (X.env.qual ++ "<lambda>"))) := fun p hp => by
      by_cases hb : p.1 = P
      · rw [hu p hp hb, hb]
        refine ⟨_, by rw [upd_ne (ne_of_none hP nC), upd_same], by rw [eL]; exact PySem.TriplesOk_snoc _ _ _ _ ht, fun p' cv hcv => ?_⟩
        rw [eL] at hcv
        rcases among_app2 _ ht hcv with z | ⟨z, z1, z2⟩
        · obtain ⟨c0, e1, e2⟩ := ha p' cv z
          exact ⟨c0, e1, hE _ _ e2 codeO_ne⟩
        · refine ⟨c', z, ?_⟩
          rw [← z1, ← z2, hn]
          exact upd_same
      · obtain ⟨ps', a1, a2, a3⟩ := hT p hp
        refine ⟨ps', by rw [upd_ne (ne_of_none a1 nC), upd_ne hb]; exact a1, a2, fun p' cv hcv => ?_⟩
        obtain ⟨c0, e1, e2⟩ := a3 p' cv hcv
        exact ⟨c0, e1, hE _ _ e2 codeO_ne⟩
    have nF := I1.hok.fresh (Nat.le_refl h'.objs.size)
    have I2 := I1.laid (a := h'.objs.size) (o := LamO h'.objs.size ⟨X.env.qual ++ "<lambda>", params, body, scope, cloFrom X.env.cells scope.names [], c'⟩) (h' := h'.push (PySem.W.kla_obj "<lambda>" (X.env.qual ++ "<lambda>") params body scope (cloFrom X.env.cells scope.names []) ((X.mg "__name__").getD .none) c' ctv)) (t' := tk)
      (fun b u z => Heap.get?_push_of_some _ z) (Nat.le_refl _) (lamO_ok ⟨_, _, Heap.get?_push_size _ rfl⟩)
    have hX : ∀ b o, H b = some o → b ≠ P → (upd (upd H P (.tbl (ps ++ #[rawInt pos.line, rawInt pos.col, .ref c']))) c' (CodeO c' (X.env.qual ++ "<lambda>"))) b = some o := fun b o e n => by
      rw [upd_ne (ne_of_none e nC), upd_ne n]
      exact e
    refine h h'.objs.size c' _ _ I2 (fun b o e n => ?_) (fun b e => NdefX.upd_none (NdefX.upd_none (NdefX.upd_none e))) (T1.ext fun b o e => ?_) (I.hok.fresh (Nat.le_trans hge (Nat.le_of_lt hlt))) upd_same ?_
    · have e1 := hX b o e n
      exact (upd_ne (ne_of_none e1 nF)).trans e1
    · exact (upd_ne (ne_of_none e nF)).trans e
    · exact (upd_ne (Nat.ne_of_lt hlt)).trans upd_same
  | some cv =>
    obtain ⟨c', e, hco⟩ := ha pos cv cd
    subst e
    rw [hn] at hco
    refine PySem.W.kla_makeFunctionHit (mg := X.mg) (c := c) (P := P) (ps := ps) (closure_ok hfree) I.ok.glob (I.mod.glob.keeps I.bk) hcode (TB.code.keeps I.bk) gP ht cd bP fun ctv h' tk hx hsz => ?_
    have I0 : Inv X pins σ H { s with heap := h', toks := tk } := I.kept hx
    have nF : H h'.objs.size = none := I0.hok.fresh (Nat.le_refl _)
    have I2 := I0.laid (a := h'.objs.size) (o := LamO h'.objs.size ⟨X.env.qual ++ "<lambda>", params, body, scope, cloFrom X.env.cells scope.names [], c'⟩) (h' := h'.push (PySem.W.kla_obj "<lambda>" (X.env.qual ++ "<lambda>") params body scope (cloFrom X.env.cells scope.names []) ((X.mg "__name__").getD .none) c' ctv)) (t' := tk)
      (fun b u z => Heap.get?_push_of_some _ z) (Nat.le_refl _) (lamO_ok ⟨_, _, Heap.get?_push_size _ rfl⟩)
    refine h h'.objs.size c' _ _ I2 (fun b o e n => ?_) (fun b e => NdefX.upd_none e) (hT.ext fun b o e => ?_) nF upd_same ?_
    · exact (upd_ne (ne_of_none e nF)).trans e
    · exact (upd_ne (ne_of_none e nF)).trans e
    · exact (upd_ne (ne_of_none hco nF)).trans hco
end
def tLamP (T : List NTab) (P : Addr) (F : Addr → LF) : TE := fun σ H Q => TabsN T H ∧ ∀ (f c' : Addr) (H1 : Hp), (∀ b o, H b = some o → b ≠ P → H1 b = some o) → (∀ b, H1 b = Option.none → H b = Option.none) → TabsN T H1 → H f = none → H1 f = some (LamO f (F c')) → H1 c' = some (CodeO c' (F c').qual) → Q (.ref f) H1
theorem pe_lamP {X : Cx} {T : List NTab} {nm : Nat → Nat → Str} {c P : Addr} {params : Arguments} {body : Expr} {scope : Scope} {pos : Pos} (TB : TabB X.base X.mg c P) (hcode : X.env.code = .ref c) (hm : (P, nm) ∈ T) (hn : nm pos.line pos.col = X.env.qual ++ "<lambda>") (hu : ∀ p ∈ T, p.1 = P → p.2 = nm)
    (hdef : defaultsOf params X.env = ([], [])) (hfree : ∀ y ∈ scope.names, y.2 = .free → X.env.scope.names.lookup y.1 = some .cell ∨ X.env.scope.names.lookup y.1 = some .free) :
    PE X (.Lambda params body scope pos) (tLamP T P fun c' => ⟨X.env.qual ++ "<lambda>", params, body, scope, cloFrom X.env.cells scope.names [], c'⟩) := by
  refine ⟨fun pins s σ H Q I h => ?_⟩
  obtain ⟨hT, q⟩ := h
  exact lam_toldP I TB hcode hm hn hu hT hdef (fun y hy e => (hfree y hy e).elim (fun z => I.ok.has _ (.inl z)) fun z => I.ok.has _ (.inr z)) fun f c' H1 s' I1 e1 n1 t1 nf hf hc => ⟨.ref f, H1, I1, rfl, q f c' H1 e1 n1 t1 nf hf hc⟩
/-! ### f(e, ..), f a name that holds a function that was made in a def -/
def tActP (P : Program) (w : World) (K : PySem.W.Frag) (mg : Str → Option Value) (base : Heap) (CX : CXT) (k i : Nat) (E : L2.St → XK) (t : TA) : TE := fun σ H Q => ∃ f, σ[i]? = some (some (.ref f)) ∧ t σ H fun vs H1 => ∃ o sp, H1 f = some o ∧ FnHO f o ∧ FnR P w K mg base CX k f sp ∧ sp vs H1 Q (E σ)
theorem lamHO2 {f : Addr} {F : LF} : FnHO f (LamO f F) := lamHO
theorem pe_actP {X : Cx} {CX : CXT} {k i : Nat} {E : L2.St → XK} {x : Str} {e : Expr} {es : List Expr} {t : TA} {p pos : Pos} (hN : X.N[i]? = some x) (hv : Vis X.env.scope x) (hr : Room k X.A) (hx : ∀ σ, PassesAt CX X σ (E σ)) (ha : PA X (e :: es) t) (hd : (x == ("__debug__" : Str)) = false := by decide) (hcd : (x == ("__classdict__" : Str)) = false := by decide)
    (he : starEach (e :: es) X.env = (false, eval e X.env) :: starEach es X.env := by rfl) (hpl : (backTo pos (starEach es X.env)).any (·.1) = false := by rfl) : PE X (.Call (.Name x p) (e :: es) [] pos) (tActP X.prog X.w X.K X.mg X.base CX k i E t) := by
  refine ⟨fun pins s σ H Q I h => ?_⟩
  obtain ⟨f, hs, h⟩ := h
  refine wpAny_Call_Name_kw (thn ((pe_var (pos := p) hN hv hd hcd).run pins s σ H (fun v H1 => v = .ref f ∧ H1 = H) I ⟨.ref f, hs, rfl, rfl⟩) fun u s1 ⟨v, H1, I1, r1, ev, eH⟩ => ?_)
  subst ev
  rw [eH] at I1
  obtain rfl : u = Value.ref f := r1
  rw [he]
  refine PySem.W.callWith_of (P := PySem.W.FnAt f) (by show ((false || (backTo pos (starEach es X.env)).any (·.1)) || false) = false; rw [hpl]; rfl) PySem.W.keeps_F (PySem.Calls.evalArgs_plain (?_ : wpAny _ _ (spliced (backTo pos ((false, eval e X.env) :: starEach es X.env))) _ _ _))
  rw [← he]
  exact thn (ha.run pos pins s1 σ H _ I1 h) fun us s2 ⟨vs, H2, I2, r, o, sp, hf, ho, hF, q⟩ => ⟨ho _ _ _ _ I2.hok hf, run_fnE hF hr (hx σ) I2 r q⟩
end Inf


set_option Elab.async false
set_option linter.all false
set_option maxRecDepth 100000
set_option maxHeartbeats 4000000
namespace Ob
open PySem PySem.Spec PyProof.Rows L2
/-! ### a def whose code object is named: it makes functions -/
structure FunT (K : PySem.W.Frag) (x qual : Str) (st : Stmt) (f : Addr) (fd : FuncData) (c : Addr) : Prop where
  ex : ∃ (oc : Value) (od : Option Addr) (kV doc pm : Value) (an : Option Addr) (ct : Value) (osl : Array (Option Value)),
    fd = PySem.W.fnOf x qual (defArgs st) (defBody st) (defScope st) .none kV doc pm an (.ref c) ct ∧ K.lookup f = some ⟨oc, od, .func fd, osl⟩ ∧ PySem.W.codeIn K (.ref c) qual = true
  kp : PySem.W.keepIn K (.ref f) = true
theorem FunT.ok {P : Program} {w : World} {K : PySem.W.Frag} {mg : Str → Option Value} {base : Heap} {x qual : Str} {st : Stmt} {f c : Addr} {fd : FuncData} {CX : CXT} {N ps : List Str} {k : Nat} {sp : Sp} (F : FunT K x qual st f fd c) (S : FnScope N ps (defScope st)) (len : ∀ vs H Q E, sp vs H Q E → vs.length = ps.length)
    (hbody : ∀ (A : Around) (outer : List Env) (s : Shared) (H : Hp) (vs : List V) (Q : VK) (E : XK), Room k (A.deeper (envOfC qual (defScope st) s.heap.objs.size f (.ref c))) → sp vs H Q E →
      ∃ t, PSs (cxOf CX P w K mg base N qual (defScope st) f (.ref c) A outer s H E) (defBody st) t ∧ t { nx := fun _ H' => Q .non H', rt := Q } (L2.start N vs) H) : FnOk P w K mg base CX (k + 1) f fd ps sp := by
  obtain ⟨oc, od, kV, doc, pm, an, ct, osl, rfl, lk, hcd⟩ := F.ex
  exact fn_of lk hcd S len fun A outer s H vs Q E hr hsp => hbody A outer s H vs Q E hr hsp
theorem FunT.okC {P : Program} {w : World} {K : PySem.W.Frag} {mg : Str → Option Value} {base : Heap} {x qual : Str} {st : Stmt} {f c : Addr} {fd : FuncData} {N ps : List Str} {k : Nat} {sp : Sp} (F : FunT K x qual st f fd c) (S : FnScope N ps (defScope st)) (len : ∀ vs H Q E, sp vs H Q E → vs.length = ps.length)
    (hbody : ∀ (A : Around) (outer : List Env) (s : Shared) (H : Hp) (vs : List V) (Q : VK) (E : XK), Room k (A.deeper (envOfC qual (defScope st) s.heap.objs.size f (.ref c))) → sp vs H Q E →
      ∃ t, Inf.PSsR (cxOf CX0 P w K mg base N qual (defScope st) f (.ref c) A outer s H E).nox (defBody st) t ∧
        t (fun σ v H' => ∀ H'', Inf.Fin (envOfC qual (defScope st) s.heap.objs.size f (.ref c)).cells (defScope st).names N σ H' H'' → Q v H'') (L2.start N vs) H) : FnOk P w K mg base CX0 (k + 1) f fd ps sp := by
  obtain ⟨oc, od, kV, doc, pm, an, ct, osl, rfl, lk, hcd⟩ := F.ex
  exact Inf.okC_of lk hcd S len hbody
theorem all_cons {α : Type} {P : α → Prop} {a : α} {l : List α} (h : P a) (t : ∀ x ∈ l, P x) : ∀ x ∈ a :: l, P x := fun x m => (List.mem_cons.mp m).elim (fun e => by rw [e]; exact h) (t x)

/-! ### the text -/
def topS (i : Nat) : Stmt := PySem.Challenge.pw_oncebuilt_k80_sorted_blocks_and_lines.main.body.getD i (.Pass ⟨0, 0, 0, 0⟩)
abbrev s_sorted_block : Stmt := topS 1
abbrev n_sorted_block : List Str := ["integers"]
theorem sc_sorted_block : FnScope n_sorted_block ["integers"] (defScope s_sorted_block) := ⟨rfl, rfl, rfl, by decide +kernel, rfl, by decide +kernel, by decide +kernel⟩
abbrev s_count_below : Stmt := topS 2
abbrev n_count_below : List Str := ["block", "bound"]
theorem sc_count_below : FnScope n_count_below ["block", "bound"] (defScope s_count_below) := ⟨rfl, rfl, rfl, by decide +kernel, rfl, by decide +kernel, by decide +kernel⟩
abbrev s_lines_block : Stmt := topS 3
abbrev n_lines_block : List Str := ["lines", "lowest", "a", "b", "kept", "line"]
theorem sc_lines_block : FnScope n_lines_block ["lines"] (defScope s_lines_block) := ⟨rfl, rfl, rfl, by decide +kernel, rfl, by decide +kernel, by decide +kernel⟩
abbrev s_least_at : Stmt := topS 4
abbrev n_least_at : List Str := ["block", "x", "at"]
theorem sc_least_at : FnScope n_least_at ["block", "x"] (defScope s_least_at) := ⟨rfl, rfl, rfl, by decide +kernel, rfl, by decide +kernel, by decide +kernel⟩
abbrev s_count_leading : Stmt := topS 5
abbrev n_count_leading : List Str := ["many", "holds", "low", "high", "middle"]
theorem sc_count_leading : FnScope n_count_leading ["many", "holds"] (defScope s_count_leading) := ⟨rfl, rfl, rfl, by decide +kernel, rfl, by decide +kernel, by decide +kernel⟩
abbrev s_value_at : Stmt := topS 6
abbrev n_value_at : List Str := ["line", "x"]
theorem sc_value_at : FnScope n_value_at ["line", "x"] (defScope s_value_at) := ⟨rfl, rfl, rfl, by decide +kernel, rfl, by decide +kernel, by decide +kernel⟩
abbrev s_is_hidden : Stmt := topS 7
abbrev n_is_hidden : List Str := ["left", "middle", "right", "begin", "end"]
theorem sc_is_hidden : FnScope n_is_hidden ["left", "middle", "right"] (defScope s_is_hidden) := ⟨rfl, rfl, rfl, by decide +kernel, rfl, by decide +kernel, by decide +kernel⟩
abbrev s_l_bag : Stmt := topS 9
abbrev n_l_bag : List Str := ["_law_script", "_law_at", "_law_cell", "_law_great", "_law_primes"]
theorem sc_l_bag : FnScope n_l_bag ["_law_script", "_law_at"] (defScope s_l_bag) := ⟨rfl, rfl, rfl, by decide +kernel, rfl, by decide +kernel, by decide +kernel⟩
abbrev s_l_take : Stmt := topS 10
abbrev n_l_take : List Str := ["_law_bag_here", "_law_many", "_law_digit"]
theorem sc_l_take : FnScope n_l_take ["_law_bag_here", "_law_many"] (defScope s_l_take) := ⟨rfl, rfl, rfl, by decide +kernel, rfl, by decide +kernel, by decide +kernel⟩
abbrev s_l_integer : Stmt := topS 11
abbrev n_l_integer : List Str := ["_law_bag_here", "_law_wide"]
theorem sc_l_integer : FnScope n_l_integer ["_law_bag_here", "_law_wide"] (defScope s_l_integer) := ⟨rfl, rfl, rfl, by decide +kernel, rfl, by decide +kernel, by decide +kernel⟩
abbrev s_l_counts_right : Stmt := topS 12
abbrev n_l_counts_right : List Str := ["_law_bag_here", "_law_wide", "_law_numbers", "_law_shown", "_law_lent", "_law_made", "_law_limits", "_law_limit", "_law_due", "_law_k", "_law_one"]
theorem sc_l_counts_right : FnScope n_l_counts_right ["_law_bag_here", "_law_wide"] (defScope s_l_counts_right) := ⟨rfl, rfl, rfl, by decide +kernel, rfl, by decide +kernel, by decide +kernel⟩
abbrev s_l_lines : Stmt := topS 13
abbrev n_l_lines : List Str := ["_law_bag_here", "_law_wide", "_law_slopes", "_law_spot", "_law_y", "_law_k", "_law_slope"]
theorem sc_l_lines : FnScope n_l_lines ["_law_bag_here", "_law_wide"] (defScope s_l_lines) := ⟨rfl, rfl, rfl, by decide +kernel, rfl, by decide +kernel, by decide +kernel⟩
abbrev s_l_lines_right : Stmt := topS 14
abbrev n_l_lines_right : List Str := ["_law_bag_here", "_law_wide", "_law_slopes", "_law_shown", "_law_lent", "_law_made", "_law_spot", "_law_due", "_law_height", "_law_k", "_law_slope"]
theorem sc_l_lines_right : FnScope n_l_lines_right ["_law_bag_here", "_law_wide"] (defScope s_l_lines_right) := ⟨rfl, rfl, rfl, by decide +kernel, rfl, by decide +kernel, by decide +kernel⟩
abbrev s_law : Stmt := topS 15
abbrev n_law : List Str := ["_law_script", "_law_at", "_law_bag_here", "_law_wide"]
theorem sc_law : FnScope n_law ["_law_script"] (defScope s_law) := ⟨rfl, rfl, rfl, by decide +kernel, rfl, by decide +kernel, by decide +kernel⟩
structure Txt (K : PySem.W.Frag) (mg : Str → Option Value) where
  f_sorted_block : Addr
  d_sorted_block : FuncData
  F_sorted_block : Fun K "sorted_block" "sorted_block" s_sorted_block f_sorted_block d_sorted_block
  b_sorted_block : Binds K d_sorted_block ["integers"] []
  g_sorted_block : mg "sorted_block" = some (.ref f_sorted_block)
  f_count_below : Addr
  d_count_below : FuncData
  c_count_below : Addr
  p_count_below : Addr
  F_count_below : FunT K "count_below" "count_below" s_count_below f_count_below d_count_below c_count_below
  b_count_below : Binds K d_count_below ["block", "bound"] []
  g_count_below : mg "count_below" = some (.ref f_count_below)
  f_lines_block : Addr
  d_lines_block : FuncData
  F_lines_block : Fun K "lines_block" "lines_block" s_lines_block f_lines_block d_lines_block
  b_lines_block : Binds K d_lines_block ["lines"] []
  g_lines_block : mg "lines_block" = some (.ref f_lines_block)
  f_least_at : Addr
  d_least_at : FuncData
  c_least_at : Addr
  p_least_at : Addr
  F_least_at : FunT K "least_at" "least_at" s_least_at f_least_at d_least_at c_least_at
  b_least_at : Binds K d_least_at ["block", "x"] []
  g_least_at : mg "least_at" = some (.ref f_least_at)
  f_count_leading : Addr
  d_count_leading : FuncData
  F_count_leading : Fun K "count_leading" "count_leading" s_count_leading f_count_leading d_count_leading
  b_count_leading : Binds K d_count_leading ["many", "holds"] []
  g_count_leading : mg "count_leading" = some (.ref f_count_leading)
  f_value_at : Addr
  d_value_at : FuncData
  F_value_at : Fun K "value_at" "value_at" s_value_at f_value_at d_value_at
  b_value_at : Binds K d_value_at ["line", "x"] []
  g_value_at : mg "value_at" = some (.ref f_value_at)
  f_is_hidden : Addr
  d_is_hidden : FuncData
  F_is_hidden : Fun K "is_hidden" "is_hidden" s_is_hidden f_is_hidden d_is_hidden
  b_is_hidden : Binds K d_is_hidden ["left", "middle", "right"] []
  g_is_hidden : mg "is_hidden" = some (.ref f_is_hidden)
  f_l_bag : Addr
  d_l_bag : FuncData
  F_l_bag : Fun K "_law_bag" "_law_bag" s_l_bag f_l_bag d_l_bag
  b_l_bag : Binds K d_l_bag ["_law_script", "_law_at"] []
  g_l_bag : mg "_law_bag" = some (.ref f_l_bag)
  f_l_take : Addr
  d_l_take : FuncData
  F_l_take : Fun K "_law_take" "_law_take" s_l_take f_l_take d_l_take
  b_l_take : Binds K d_l_take ["_law_bag_here", "_law_many"] []
  g_l_take : mg "_law_take" = some (.ref f_l_take)
  f_l_integer : Addr
  d_l_integer : FuncData
  F_l_integer : Fun K "_law_integer" "_law_integer" s_l_integer f_l_integer d_l_integer
  b_l_integer : Binds K d_l_integer ["_law_bag_here", "_law_wide"] []
  g_l_integer : mg "_law_integer" = some (.ref f_l_integer)
  f_l_counts_right : Addr
  d_l_counts_right : FuncData
  F_l_counts_right : Fun K "_law_counts_right" "_law_counts_right" s_l_counts_right f_l_counts_right d_l_counts_right
  b_l_counts_right : Binds K d_l_counts_right ["_law_bag_here", "_law_wide"] []
  g_l_counts_right : mg "_law_counts_right" = some (.ref f_l_counts_right)
  f_l_lines : Addr
  d_l_lines : FuncData
  F_l_lines : Fun K "_law_lines" "_law_lines" s_l_lines f_l_lines d_l_lines
  b_l_lines : Binds K d_l_lines ["_law_bag_here", "_law_wide"] []
  g_l_lines : mg "_law_lines" = some (.ref f_l_lines)
  f_l_lines_right : Addr
  d_l_lines_right : FuncData
  F_l_lines_right : Fun K "_law_lines_right" "_law_lines_right" s_l_lines_right f_l_lines_right d_l_lines_right
  b_l_lines_right : Binds K d_l_lines_right ["_law_bag_here", "_law_wide"] []
  g_l_lines_right : mg "_law_lines_right" = some (.ref f_l_lines_right)
  pne_count_below_least_at : p_count_below ≠ p_least_at
  z_abs : mg "abs" = none
  z_len : mg "len" = none
  z_list : mg "list" = none
  z_max : mg "max" = none
  z_min : mg "min" = none
  z_range : mg "range" = none
  z_sorted : mg "sorted" = none
  z_tuple : mg "tuple" = none

theorem log_lo {n : Nat} (h : n ≠ 0) : 2 ^ n.log2 ≤ n := Nat.log2_self_le h
theorem log_hi {n : Nat} : n < 2 ^ (n.log2 + 1) := Nat.lt_log2_self
theorem log_lt {n f : Nat} (h : n ≠ 0) (hf : n < 2 ^ f) : n.log2 < f := (Nat.log2_lt h).mpr hf
theorem rest_lt {n : Nat} (h : n ≠ 0) : n - 2 ^ n.log2 < 2 ^ n.log2 := by
  have a := log_hi (n := n)
  have b := log_lo h
  rw [Nat.pow_succ] at a
  omega
theorem rest_lt' {n f : Nat} (h : n ≠ 0) (hf : n < 2 ^ (f + 1)) : n - 2 ^ n.log2 < 2 ^ f := by
  have a := rest_lt h
  have b := log_lt h hf
  have c : 2 ^ n.log2 ≤ 2 ^ f := Nat.pow_le_pow_right (by decide) (by omega)
  omega
/-- the lowest power -/
def low (n : Nat) : Nat := if h : n = 0 then 1 else if n % 2 = 0 then 2 * low (n / 2) else 1
termination_by n
decreasing_by omega
theorem low_even {n : Nat} (h : n ≠ 0) (e : n % 2 = 0) : low n = 2 * low (n / 2) := by
  rw [low, dif_neg h, if_pos e]
theorem low_odd {n : Nat} (e : n % 2 = 1) : low n = 1 := by
  rw [low, dif_neg (by omega), if_neg (by omega)]
theorem low_is : ∀ (j n : Nat), n ≠ 0 → n % 2 ^ j = 0 → ¬ n % 2 ^ (j + 1) = 0 → low n = 2 ^ j
  | 0, n, h, _, e => by
    rw [Nat.zero_add, Nat.pow_one] at e
    exact low_odd (by omega)
  | j + 1, n, h, a, b => by
    have e2 : n % 2 = 0 := by
      rw [Nat.pow_succ] at a
      have := Nat.mod_mod_of_dvd n (show 2 ∣ 2 ^ j * 2 from ⟨2 ^ j, Nat.mul_comm _ _⟩)
      rw [a] at this
      omega
    obtain ⟨m, rfl⟩ : ∃ m, n = 2 * m := ⟨n / 2, by omega⟩
    have hm : m ≠ 0 := by omega
    rw [low_even h e2, Nat.mul_div_cancel_left _ (by decide), Nat.pow_succ, Nat.mul_comm]
    have a' : m % 2 ^ j = 0 := by
      rw [Nat.pow_succ, Nat.mul_comm (2 ^ j) 2, Nat.mul_mod_mul_left] at a
      omega
    have b' : ¬ m % 2 ^ (j + 1) = 0 := fun z => by
      rw [Nat.pow_succ, Nat.mul_comm (2 ^ (j + 1)) 2, Nat.mul_mod_mul_left, z] at b
      exact b rfl
    rw [low_is j m hm a' b']
theorem low_pow (j : Nat) : low (2 ^ j) = 2 ^ j := by
  refine low_is j _ (Nat.pos_iff_ne_zero.mp (Nat.two_pow_pos j)) (Nat.mod_self _) fun z => ?_
  rw [Nat.mod_eq_of_lt (Nat.pow_lt_pow_right (by decide) (by omega))] at z
  have := Nat.two_pow_pos j
  omega

theorem ifT {c : Bool} {A B : Prop} (hc : c = true) (h : A) : if c = true then A else B := by
  rw [if_pos hc]
  exact h
theorem ifF {c : Bool} {A B : Prop} (hc : c = false) (h : B) : if c = true then A else B := by
  rw [hc, if_neg Bool.false_ne_true]
  exact h
theorem dF {p : Prop} [Decidable p] (h : ¬ p) : decide p = false := decide_eq_false h
theorem dT {p : Prop} [Decidable p] (h : p) : decide p = true := decide_eq_true h
theorem bits_nat {n : Nat} (h : n ≠ 0) : (Builtin.Int.intBits (n : Int) : Nat) = n.log2 + 1 := by
  unfold Builtin.Int.intBits
  rw [if_neg (show ¬ ((n : Int) == 0) = true by simpa using (show (n : Int) ≠ 0 by omega))]
  rfl
theorem gp_eq {n : Nat} (h : n ≠ 0) : (1 : Int) * 2 ^ (((Builtin.Int.intBits (n : Int) : Nat) : Int) - 1).toNat = ((2 ^ n.log2 : Nat) : Int) := by
  rw [bits_nat h, show (((n.log2 + 1 : Nat) : Int) - 1).toNat = n.log2 by omega, Int.one_mul]
  exact (PySem.W.kbt_cast _).symm
theorem gp_ok {n : Nat} (h : n ≠ 0) (hn : n < 2 ^ 200) : CShl 1 (((Builtin.Int.intBits (n : Int) : Nat) : Int) - 1) := by
  have a := log_lt h hn
  rw [bits_nat h, show (((n.log2 + 1 : Nat) : Int) - 1) = (n.log2 : Int) by omega]
  exact shl_ok (n := 1) (by decide) (by omega)
theorem nat_cast_lt {a : Nat} {n : Nat} (h : n < 2 ^ a) : (n : Int).natAbs < 2 ^ a := h
theorem pow_nat (k : Nat) : (2 : Int) ^ k = ((2 ^ k : Nat) : Int) := (PySem.W.kbt_cast k).symm
theorem p10 : (10 : Int) ^ Int.toNat 30 = ((10 ^ 30 : Nat) : Int) := by decide +kernel
theorem le6 : 6 ≤ sizeLine := by decide
theorem p100 : (10 ^ 30 : Nat) < 2 ^ 100 := by decide +kernel
def intAt (σ : L2.St) (i : Nat) : Nat := match σ[i]? with
  | some (some (V.int r)) => r.toNat
  | _ => 0
theorem le2 : 2 ≤ sizeLine := by decide
theorem cdiv_nat (a b : Nat) : ((a : Int) / (b : Int)) = ((a / b : Nat) : Int) := rfl

/-! ### heaps -/
theorem same_put {H H1 : Hp} {p : Addr} {o : HO} (h : Same H H1) (n : H p = none) : Same H (upd H1 p o) := fun b u e => by
  rw [upd_ne (ne_of_none e n)]
  exact h b u e
theorem same_new {H : Hp} {p : Addr} {o : HO} (n : H p = none) : Same H (upd H p o) := same_put (Same.refl H) n
theorem same_no {H H1 : Hp} {p : Addr} (h : Same H H1) (n : H1 p = none) : H p = none := h.free n
/-- all but p is as it was -/
def But (p : Addr) (H H' : Hp) : Prop := ∀ b o, H b = some o → b ≠ p → H' b = some o
theorem but_refl (p : Addr) (H : Hp) : But p H H := fun _ _ h _ => h
theorem but_trans {p : Addr} {H H1 H2 : Hp} (a : But p H H1) (b : But p H1 H2) : But p H H2 := fun c o h n => b c o (a c o h n) n
theorem but_of_same {p : Addr} {H H1 : Hp} (a : Same H H1) : But p H H1 := fun c o h _ => a c o h
theorem but_upd (p : Addr) (H : Hp) (o : HO) : But p H (upd H p o) := fun b u e n => by
  rw [upd_ne n]
  exact e
theorem but_fresh {p : Addr} {H0 H H1 : Hp} (s : Same H0 H) (n : H0 p = none) (b : But p H H1) : Same H0 H1 := fun c o e => b c o (s c o e) (ne_of_none e n)
/-! ### a bag of digits -/
def Bag (H : Hp) (p : Addr) : Prop := ∃ g m c : Int, H p = some (.lst [.int g, .int m, .int c]) ∧ 0 ≤ g ∧ 0 ≤ m ∧ m < 2147483648
theorem fm0 {a b : Int} (h : 0 < b) : 0 ≤ a.fmod b := by
  rw [Int.fmod_eq_emod_of_nonneg a (by omega)]
  exact Int.emod_nonneg a (by omega)
theorem fm1 {a b : Int} (h : 0 < b) : a.fmod b < b := by
  rw [Int.fmod_eq_emod_of_nonneg a (by omega)]
  exact Int.emod_lt_of_pos a h
theorem nz1 : (2147483647 : Int) ≠ 0 := by decide
theorem nz2 : (2147483629 : Int) ≠ 0 := by decide
section
variable {P : Program} {w : World} {K : PySem.W.Frag} {mg : Str → Option Value} {base : Heap}
def spTake : Sp := fun vs H Q _ => ∃ (p : Addr) (n : Int), vs = [.ref p, .int n] ∧ Bag H p ∧ 0 < n ∧ n.natAbs < 2 ^ 200 ∧
  ∀ r H', 0 ≤ r → r < n → Bag H' p → But p H H' → Q (.int r) H'
theorem ok_take (T : Txt K mg) : FnOk P w K mg base CX0 1 T.f_l_take T.d_l_take ["_law_bag_here", "_law_many"] spTake := by
  refine T.F_l_take.ok sc_l_take (fun vs H Q E h => ?_) (fun cdv A outer s H vs Q E hr h => ?_)
  · obtain ⟨p, n, rfl, _⟩ := h
    rfl
  · obtain ⟨p, n, rfl, ⟨g, m, c, hb, g0, m0, m1⟩, n0, n1, q⟩ := h
    refine ⟨_, (pss_cons (ps_if (pt_cmpR op_gt (pe_ix (r := rIxL K) ix_list (pv 0) pe_int (fun _ _ => rfl)) pe_int (nomark _)) (pss_cons (ps_set (i := 2) sc_l_take.nd rfl (.inl rfl) (pe_op op_modN (pe_ix (r := rIxL K) ix_list (pv 0) pe_int (fun _ _ => rfl)) (pv 1)))
        (pss_cons (ps_asg (pe_op op_fdivW (pe_ix (r := rIxL K) ix_list (pv 0) pe_int (fun _ _ => rfl)) (pv 1)) (pg_sub (pv 0) pe_int set_list))
        (pss_one (ps_ret (pv 2))))) pss_nil)
      (pss_cons (ps_asg (pe_op op_add (pe_ix (r := rIxL K) ix_list (pv 0) pe_int (fun _ _ => rfl)) pe_int) (pg_sub (pv 0) pe_int set_list))
      (pss_cons (ps_asg (pe_op op_modN (pe_op op_add (pe_op op_add (pe_op op_mul (pe_ix (r := rIxL K) ix_list (pv 0) pe_int (fun _ _ => rfl)) pe_int) (pe_op op_mul pe_int (pe_ix (r := rIxL K) ix_list (pv 0) pe_int (fun _ _ => rfl)))) pe_int) pe_int) (pg_sub (pv 0) pe_int set_list))
      (pss_one (ps_ret (pe_op op_modN (pe_op op_modN (pe_op op_pow (pe_op op_fdivW (pe_ix (r := rIxL K) ix_list (pv 0) pe_int (fun _ _ => rfl)) pe_int) pe_int) pe_int) (pv 1))))))), ?_⟩
    have hB : SqL K H p [.int g, .int m, .int c] := .inl (.inl hb)
    refine ⟨_, rfl, p, _, 0, .int g, rfl, rfl, hB, atI_nat (j := 0) rfl, _, _, rfl, rfl, _, rfl, ite2 (fun e => ?_) (fun e => ?_)⟩
    · refine ⟨_, rfl, p, _, 0, .int g, rfl, rfl, hB, atI_nat (j := 0) rfl, _, rfl, _, _, rfl, rfl, (by omega), ?_⟩
      refine ⟨_, rfl, p, _, 0, .int g, rfl, rfl, hB, atI_nat (j := 0) rfl, _, rfl, _, _, rfl, rfl, wide_div n0 n1 (by decide) (by decide), ?_⟩
      refine ⟨_, rfl, p, _, _, 0, rfl, rfl, hb, rfl, ?_⟩
      refine ⟨_, rfl, ?_⟩
      exact q _ _ (fm0 n0) (fm1 n0) ⟨g / n, m, c, upd_same, Int.ediv_nonneg g0 (by omega), m0, m1⟩ (but_upd _ _ _)
    · refine ⟨_, rfl, p, _, 2, .int c, rfl, rfl, hB, atI_nat (j := 2) rfl, _, _, rfl, rfl, ?_⟩
      refine ⟨_, rfl, p, _, _, 2, rfl, rfl, hb, rfl, ?_⟩
      have h2 : upd H p (.lst [.int g, .int m, .int (c + 1)]) p = some (.lst [.int g, .int m, .int (c + 1)]) := upd_same
      have hB2 : SqL K (upd H p (.lst [.int g, .int m, .int (c + 1)])) p [.int g, .int m, .int (c + 1)] := .inl (.inl h2)
      refine ⟨_, rfl, p, _, 1, .int m, rfl, rfl, hB2, atI_nat (j := 1) rfl, _, _, rfl, rfl, .inr ⟨by decide, by decide⟩, _, rfl, p, _, 2, .int (c + 1), rfl, rfl, hB2, atI_nat (j := 2) rfl, _, _, rfl, rfl, .inl ⟨by decide, by decide⟩, _, _, rfl, rfl, _, _, rfl, rfl, _, _, rfl, rfl, nz1, ?_⟩
      refine ⟨_, rfl, p, _, _, 1, rfl, rfl, h2, rfl, ?_⟩
      have m0' := fm0 (a := m * 48271 + 6661 * (c + 1) + 17) (show (0 : Int) < 2147483647 by decide)
      have m1' := fm1 (a := m * 48271 + 6661 * (c + 1) + 17) (show (0 : Int) < 2147483647 by decide)
      refine ⟨_, rfl, p, _, 1, _, rfl, rfl, .inl (.inl upd_same), atI_nat (j := 1) rfl, _, _, rfl, rfl, ⟨by decide, by decide⟩, _, _, rfl, rfl, ⟨by decide, by decide, ?_⟩, _, _, rfl, rfl, nz2, _, rfl, _, _, rfl, rfl, (by omega), ?_⟩
      · omega
      exact q _ _ (fm0 n0) (fm1 n0) ⟨g, _, c + 1, upd_same, g0, m0', by omega⟩ (but_trans (but_upd _ _ _) (but_upd _ _ _))
theorem le3 : 3 ≤ sizeLine := by decide
theorem nz3 : (8 : Int) ≠ 0 := by decide
theorem primes_at (k : Nat) : ∃ v : Int, 0 < v ∧ v < 2147483648 ∧ atI [V.int 2147483629, V.int 2147483587, V.int 2147483579, V.int 2147483563, V.int 2147483549, V.int 2147483543, V.int 2147483497, V.int 2147483489] ((k : Int).fmod 8) = some (.int v) := by
  have e : (k : Int).fmod 8 = ((k % 8 : Nat) : Int) := by
    rw [Int.fmod_eq_emod_of_nonneg _ (by decide)]
    rfl
  have h : k % 8 < 8 := Nat.mod_lt _ (by decide)
  rw [e]
  generalize k % 8 = j at h
  match j, h with
  | 0, _ => exact ⟨_, by decide, by decide, atI_nat (j := 0) rfl⟩
  | 1, _ => exact ⟨_, by decide, by decide, atI_nat (j := 1) rfl⟩
  | 2, _ => exact ⟨_, by decide, by decide, atI_nat (j := 2) rfl⟩
  | 3, _ => exact ⟨_, by decide, by decide, atI_nat (j := 3) rfl⟩
  | 4, _ => exact ⟨_, by decide, by decide, atI_nat (j := 4) rfl⟩
  | 5, _ => exact ⟨_, by decide, by decide, atI_nat (j := 5) rfl⟩
  | 6, _ => exact ⟨_, by decide, by decide, atI_nat (j := 6) rfl⟩
  | 7, _ => exact ⟨_, by decide, by decide, atI_nat (j := 7) rfl⟩
  | n + 8, h => exact absurd h (by omega)
def spBag (K : PySem.W.Frag) : Sp := fun vs H Q _ => ∃ (a : Addr) (ns : List Int) (k : Nat), vs = [.ref a, .int (k : Int)] ∧ SqL K H a (ns.map V.int) ∧ k ≤ 1000 ∧
  ∀ p H', H p = none → Same H H' → Bag H' p → Q (.ref p) H'
theorem ok_bag (T : Txt K mg) : FnOk P w K mg base CX0 1 T.f_l_bag T.d_l_bag ["_law_script", "_law_at"] (spBag K) := by
  refine T.F_l_bag.ok sc_l_bag (fun vs H Q E h => ?_) (fun cdv A outer s H vs Q E hr h => ?_)
  · obtain ⟨a, ns, k, rfl, _⟩ := h
    rfl
  · obtain ⟨a, ns, k, rfl, hS, hk, q⟩ := h
    refine ⟨_, (pss_cons (ps_set (i := 2) sc_l_bag.nd rfl (.inl rfl) pe_int)
      (C8.pss_cut (ps_if (pt_cmpR op_lt (pv 1) (pe_callB call_len_seq (by rfl) T.z_len (by decide +kernel) (pa_cons (pv 0) pa_nil)) (nomark _)) (pss_one (ps_set (i := 2) sc_l_bag.nd rfl (.inl rfl) (pe_ix (r := rIxL K) ix_list (pv 0) (pv 1) (fun _ _ => rfl)))) pss_nil)
      (pss_cons (ps_set (i := 3) sc_l_bag.nd rfl (.inl rfl) pe_int)
      (C8.pss_cut (ps_if (pt_cmpR op_ge (pe_callB call_abs (by rfl) T.z_abs (by decide +kernel) (pa_cons (pv 2) pa_nil)) (pe_op op_pow pe_int pe_int) (nomark _)) (pss_one (ps_set (i := 3) sc_l_bag.nd rfl (.inl rfl) (pe_callB call_abs (by rfl) T.z_abs (by decide +kernel) (pa_cons (pv 2) pa_nil)))) pss_nil)
      (pss_cons (ps_set (i := 4) sc_l_bag.nd rfl (.inl rfl) (pe_lst (pa_cons pe_int (pa_cons pe_int (pa_cons pe_int (pa_cons pe_int (pa_cons pe_int (pa_cons pe_int (pa_cons pe_int (pa_cons pe_int pa_nil))))))))))
      (pss_one (ps_ret (pe_lst (pa_cons (pv 3) (pa_cons (pe_op op_modN (pe_op op_pow (pe_op op_add (pe_op op_add (pe_op op_modN (pv 2) pe_int) (pe_op op_mul pe_int (pv 1))) pe_int) pe_int) (pe_ix (r := rIxL K) ix_list (pv 4) (pe_op op_modN (pv 1) pe_int) (fun _ _ => rfl))) (pa_cons pe_int pa_nil))))))))))), ?_⟩
    refine ⟨fun σ' H' => H' = H ∧ ∃ c : Int, σ' = [some (.ref a), some (.int (k : Int)), some (.int c), none, none], ?_, fun σ' H' hM => ?_⟩
    · refine ⟨_, rfl, _, rfl, a, _, rfl, .inl hS, _, _, rfl, rfl, _, rfl, ite2 (fun e => ?_) (fun e => ?_)⟩
      · have e2 := of_decide_eq_true e
        have e3 : k < ns.length := by
          rw [List.length_map] at e2
          omega
        have e4 : (ns.map V.int)[k]? = some (.int ns[k]) := by
          rw [List.getElem?_map, List.getElem?_eq_getElem e3]
          rfl
        exact ⟨_, rfl, _, rfl, a, _, _, _, rfl, rfl, hS, atI_nat e4, rfl, _, rfl⟩
      · exact ⟨rfl, _, rfl⟩
    · obtain ⟨rfl, c, rfl⟩ := hM
      refine ⟨fun σ'' H'' => H'' = H' ∧ ∃ g : Int, σ'' = [some (.ref a), some (.int (k : Int)), some (.int c), some (.int g), none] ∧ 0 ≤ g, ?_, fun σ'' H'' hM => ?_⟩
      · refine ⟨_, rfl, _, rfl, _, _, rfl, rfl, ⟨by decide, by decide, by decide⟩, _, _, rfl, rfl, _, rfl, ite2 (fun e => ?_) (fun e => ?_)⟩
        · refine ⟨_, rfl, _, rfl, rfl, _, rfl, ?_⟩
          split <;> omega
        · exact ⟨rfl, _, rfl, by decide⟩
      · obtain ⟨rfl, g, rfl, g0⟩ := hM
        refine ⟨by decide, fun o no => ?_⟩
        obtain ⟨v, v0, v1, hv⟩ := primes_at k
        have h0 := fm0 (a := c) (show (0 : Int) < 2147483647 by decide)
        have h1 := fm1 (a := c) (show (0 : Int) < 2147483647 by decide)
        refine ⟨_, rfl, _, rfl, _, _, rfl, rfl, nz1, _, rfl, _, _, rfl, rfl, .inl ⟨by decide, by decide⟩, _, _, rfl, rfl, _, _, rfl, rfl, _, _, rfl, rfl, ⟨by decide, by decide, by omega⟩, _, rfl, _, rfl, _, _, rfl, rfl, nz3, o, _, _, _, rfl, rfl, .inl (.inl upd_same), hv, _, _, rfl, rfl, by omega, ?_⟩
        refine ⟨le3, fun p np => ?_⟩
        have np' : H'' p = none := (same_new no).free np
        exact q _ _ np' (same_put (same_new no) np') ⟨g, _, 0, upd_same, g0, fm0 v0, by have := fm1 (a := (c.fmod 2147483647 + 104717 * (k : Int) + 13) ^ Int.toNat 5) v0; omega⟩
end
theorem but_put {p q : Addr} {H H1 : Hp} {o : HO} (b : But p H H1) (n : H1 q = none) : But p H (upd H1 q o) := fun c u e nc => by
  have e1 := b c u e nc
  rw [upd_ne (ne_of_none e1 n)]
  exact e1
theorem bag_put {p q : Addr} {H : Hp} {o : HO} (b : Bag H p) (n : H q = none) : Bag (upd H q o) p := by
  obtain ⟨g, m, c, e, r⟩ := b
  exact ⟨g, m, c, by rw [upd_ne (ne_of_none e n)]; exact e, r⟩
theorem bag_same {p : Addr} {H H1 : Hp} (b : Bag H p) (s : Same H H1) : Bag H1 p := by
  obtain ⟨g, m, c, e, r⟩ := b
  exact ⟨g, m, c, s _ _ e, r⟩
theorem bag_ne {p q : Addr} {H : Hp} (b : Bag H p) (n : H q = none) : q ≠ p := by
  obtain ⟨g, m, c, e, r⟩ := b
  exact (ne_of_none e n).symm

end Ob

set_option Elab.async false
set_option linter.all false
set_option maxRecDepth 100000
set_option maxHeartbeats 1000000
namespace Ob
open PySem PySem.Spec PyProof.Rows L2
open LamX (Tabs TabB TabS ExtN)

/-- nothing stands there -/
structure Fr (H : Hp) (p : Addr) : Prop where
  h : H p = none
theorem neN {H : Hp} {a b : Addr} {o : HO} (h' : Fr H b) (h : H a = some o) : a ≠ b := ne_of_none h h'.h
theorem neN' {H : Hp} {a b : Addr} {o : HO} (h' : Fr H a) (h : H b = some o) : a ≠ b := (ne_of_none h h'.h).symm
theorem atNew {H : Hp} {a p : Addr} {o u : HO} (n : Fr H p) (h : H a = some o) : upd H p u a = some o := (upd_ne (ne_of_none h n.h)).trans h
theorem atNe {H : Hp} {a p : Addr} {o u : HO} (n : a ≠ p) (h : H a = some o) : upd H p u a = some o := (upd_ne n).trans h
theorem atSame {H H1 : Hp} {a : Addr} {o : HO} (s : Same H H1) (h : H a = some o) : H1 a = some o := s _ _ h
/-- all is kept but what stands in cs -/
structure Kp (cs : List Addr) (H H' : Hp) : Prop where
  at_ : ∀ b o, H b = some o → b ∉ cs → H' b = some o
theorem kp_refl (cs : List Addr) (H : Hp) : Kp cs H H := ⟨fun _ _ e _ => e⟩
theorem kp_trans {cs : List Addr} {H H1 H2 : Hp} (a : Kp cs H H1) (b : Kp cs H1 H2) : Kp cs H H2 := ⟨fun c o e n => b.at_ c o (a.at_ c o e n) n⟩
theorem kp_up {cs : List Addr} {H H1 : Hp} {a : Addr} {o : HO} (m : a ∈ cs) (h : Kp cs H H1) : Kp cs H (upd H1 a o) := ⟨fun b u e n => by
  rw [upd_ne (show b ≠ a from fun z => n (by rw [z]; exact m))]
  exact h.at_ b u e n⟩
theorem kp_new {cs : List Addr} {H H1 : Hp} {a : Addr} {o : HO} (m : Fr H1 a) (h : Kp cs H H1) : Kp cs H (upd H1 a o) := ⟨fun b u e n => by
  rw [upd_ne (ne_of_none (h.at_ b u e n) m.h)]
  exact h.at_ b u e n⟩
theorem kp_newF {cs : List Addr} {H H1 : Hp} {a : Addr} {o : HO} (m : Fr H a) (h : Kp cs H H1) : Kp cs H (upd H1 a o) := ⟨fun b u e n => by
  rw [upd_ne (ne_of_none e m.h)]
  exact h.at_ b u e n⟩
theorem kp_same {cs : List Addr} {H H1 : Hp} (s : Same H H1) : Kp cs H H1 := ⟨fun b o e _ => s b o e⟩
theorem kp_more {cs ds : List Addr} {H H1 : Hp} (h : Kp cs H H1) (m : ∀ a ∈ cs, a ∈ ds) : Kp ds H H1 := ⟨fun b o e n => h.at_ b o e fun z => n (m b z)⟩
/-- what is changed is new, as H sees it -/
theorem kp_fresh {cs ds : List Addr} {H H1 H2 : Hp} (a : Kp cs H H1) (b : Kp ds H1 H2) (n : ∀ x ∈ ds, x ∈ cs ∨ Fr H x) : Kp cs H H2 := ⟨fun x o e m => b.at_ x o (a.at_ x o e m) fun z => (n x z).elim m fun f => ne_of_none e f.h rfl⟩
theorem atKp {cs : List Addr} {H H1 : Hp} {a : Addr} {o : HO} (s : Kp cs H H1) (n : a ∉ cs) (h : H a = some o) : H1 a = some o := s.at_ _ _ h n
theorem not_nil {a : Addr} : a ∉ ([] : List Addr) := fun z => nomatch z
theorem not_cons {a b : Addr} {l : List Addr} (h : a ≠ b) (t : a ∉ l) : a ∉ b :: l := fun z => (List.mem_cons.mp z).elim h t
theorem not_app {a : Addr} {l m : List Addr} (h : a ∉ l) (t : a ∉ m) : a ∉ l ++ m := fun z => (List.mem_append.mp z).elim h t
theorem sqlOf {K : PySem.W.Frag} {H : Hp} {a : Addr} {xs : List V} (h : H a = some (.lst xs)) : SqL K H a xs := .inl (.inl h)
theorem sqtOf {K : PySem.W.Frag} {H : Hp} {a : Addr} {xs : List V} (h : H a = some (.tup xs)) : SqT K H a xs := .inl (.inl h)
theorem sqlSame {K : PySem.W.Frag} {H H1 : Hp} {a : Addr} {xs : List V} (s : Same H H1) (h : SqL K H a xs) : SqL K H1 a xs := s.seq h
theorem neO {H : Hp} {a b : Addr} {x y : HO} (ha : H a = some x) (hb : H b = some y) (n : x ≠ y) : a ≠ b := fun z => by
  rw [z, hb] at ha
  exact n (Option.some.inj ha).symm
theorem noneOf {H H1 : Hp} {p : Addr} (h : Fr H1 p) (k : ∀ o, H p = some o → ∃ u, H1 p = some u) : Fr H p := ⟨by
  cases e : H p with
  | none => rfl
  | some o =>
    obtain ⟨u, z⟩ := k o e
    rw [h.h] at z
    cases z⟩
theorem same_newF {H : Hp} {p : Addr} {o : HO} (n : Fr H p) : Same H (upd H p o) := same_new n.h
theorem same_putF {H H1 : Hp} {p : Addr} {o : HO} (n : Fr H1 p) (h : Same H H1) : Same H (upd H1 p o) := h.trans (same_new n.h)
theorem same_putG {H H1 : Hp} {p : Addr} {o : HO} (n : Fr H p) (h : Same H H1) : Same H (upd H1 p o) := same_put h n.h
theorem memA {a : Addr} {l : List Addr} : a ∈ a :: l := List.mem_cons_self ..
theorem memB {a b : Addr} {l : List Addr} (h : a ∈ l) : a ∈ b :: l := List.mem_cons_of_mem _ h
theorem memL {a : Addr} {l m : List Addr} (h : a ∈ l) : a ∈ l ++ m := List.mem_append.mpr (.inl h)
theorem memR {a : Addr} {l m : List Addr} (h : a ∈ m) : a ∈ l ++ m := List.mem_append.mpr (.inr h)
theorem kp_transR {cs : List Addr} {H H1 H2 : Hp} (b : Kp cs H1 H2) (a : Kp cs H H1) : Kp cs H H2 := kp_trans a b
theorem kp_sameR {cs : List Addr} {H H1 H2 : Hp} (b : Same H1 H2) (a : Kp cs H H1) : Kp cs H H2 := kp_trans a (kp_same b)
theorem kp_freshR {cs ds : List Addr} {H H1 H2 : Hp} (b : Kp ds H1 H2) (n : ∀ x ∈ ds, x ∈ cs ∨ Fr H x) (a : Kp cs H H1) : Kp cs H H2 := kp_fresh a b n
theorem same_transR {H H1 H2 : Hp} (b : Same H1 H2) (a : Same H H1) : Same H H2 := a.trans b
theorem subNil {P : Addr → Prop} : ∀ x ∈ ([] : List Addr), P x := fun _ h => nomatch h
theorem subCons {P : Addr → Prop} {a : Addr} {l : List Addr} (h : P a) (t : ∀ x ∈ l, P x) : ∀ x ∈ a :: l, P x := fun x m => (List.mem_cons.mp m).elim (fun e => by rw [e]; exact h) (t x)
theorem subApp {P : Addr → Prop} {l m : List Addr} (h : ∀ x ∈ l, P x) (t : ∀ x ∈ m, P x) : ∀ x ∈ l ++ m, P x := fun x e => (List.mem_append.mp e).elim (h x) (t x)
theorem sqtAll {K : PySem.W.Frag} {H : Hp} {a : Addr} {xs : List V} (h : ∀ H, SqT K H a xs) : SqT K H a xs := h H
theorem sqtSame {K : PySem.W.Frag} {H H1 : Hp} {a : Addr} {xs : List V} (s : Same H H1) (h : SqT K H a xs) : SqT K H1 a xs := by
  rcases h with (h | ⟨o, h⟩) | h
  · exact .inl (.inl (s _ _ h))
  · exact .inl (.inr ⟨o, s _ _ h⟩)
  · exact .inr h
theorem frUp {H : Hp} {a p : Addr} {o : HO} (n : p ≠ a) (h : Fr H p) : Fr (upd H a o) p := ⟨by rw [upd_ne n]; exact h.h⟩
theorem bag_putF {p q : Addr} {H : Hp} {o : HO} (n : Fr H q) (b : Bag H p) : Bag (upd H q o) p := bag_put b n.h
theorem bag_kpR {p : Addr} {cs : List Addr} {H H1 : Hp} (k : Kp cs H H1) (n : p ∉ cs) (h : Bag H p) : Bag H1 p := by
  obtain ⟨g, m, c, e, z⟩ := h
  exact ⟨g, m, c, k.at_ _ _ e n, z⟩

/-- a promise that a run does not open by itself -/
structure Bx (p : Prop) : Prop where
  h : p
def bx (sp : Sp) : Sp := fun vs H Q E => Bx (sp vs H Q E)
theorem fnBx {P : Program} {w : World} {K : PySem.W.Frag} {mg : Str → Option Value} {base : Heap} {CX : CXT} {k : Nat} {f : Addr} {fd : FuncData} {ps : List Str} {sp : Sp} (F : FnOk P w K mg base CX k f fd ps sp) : FnOk P w K mg base CX k f fd ps (bx sp) := F.imp fun _ _ _ _ h => h.h

set_option hygiene false in
local macro_rules
  | `(tactic| kp_flats) => `(tactic| first
    | assumption
    | exact upd_same
    | (apply atNew; assumption; kp_flats)
    | (apply atNe; (next => kbo_bools); kp_flats)
    | (apply atSame; assumption; kp_flats)
    | (apply atKp; assumption; (next => kaf_pre); kp_flats))
set_option hygiene false in
local macro_rules
  | `(tactic| kaf_pre) => `(tactic| first
    | assumption
    | exact not_nil
    | (apply not_cons; (next => kbo_bools); kaf_pre)
    | (apply not_app; (next => kaf_pre); kaf_pre))
set_option hygiene false in
local macro_rules
  | `(tactic| kbo_bools) => `(tactic| first
    | assumption
    | (apply Ne.symm; assumption)
    | (apply neN; assumption; kp_flats)
    | (apply neN'; assumption; kp_flats))
set_option hygiene false in
local macro_rules
  | `(tactic| o_reads) => `(tactic| first
    | with_reducible rfl
    | assumption
    | rfl
    | kp_flats
    | (show SqL _ _ _ _; first | assumption | (apply sqlOf; kp_flats) | (apply sqlSame; assumption; o_reads))
    | (show SqT _ _ _ _; first | assumption | (apply sqtOf; kp_flats) | (apply sqtAll; assumption) | (apply sqtSame; assumption; o_reads))
    | (show Cls _ _; first | skip)
    | (show NoAttr _ _ _; first | skip)
    | (apply Or.inl; o_reads)
    | (apply Or.inr; o_reads)
    | (apply And.intro; (next => o_reads); o_reads)
    | (apply Exists.intro; o_reads)
    | exact Nat.le_of_ble_eq_true rfl
    | exact Nat.succ_ne_zero _
    | (show Fr _ _; kba_ints)
    | (show Same _ _; kd_subs)
    | (show Kp _ _ _; kxs_still)
    | (show (_ : Nat) ≤ _; simp only [List.length_append, List.length_map, List.length_cons, List.length_nil, List.length_take, List.length_drop, List.length_replicate, List.length_range, sizeLine_eq]; omega)
    | (show _ = none; apply Fr.h; kba_ints)
    | (show Bag _ _; first | assumption | (apply bag_putF; assumption; o_reads) | (apply bag_neF; (next => kbo_bools); o_reads) | (apply bag_kpR; assumption; (next => kaf_pre); o_reads))
    | omega
    | decide)
local macro_rules
  | `(tactic| o_readsAll) => `(tactic| repeat (first
    | (refine fun (pNew : Addr) (nNew : _ = none) => ?_; replace nNew := Fr.mk nNew)
    | (refine fun (xNew dNew : Addr) (nNew : _ = none) (mNew : _ = none) (eNew : dNew ≠ xNew) => ?_; replace nNew := Fr.mk nNew; replace mNew := Fr.mk mNew)
    | (apply And.intro; next => o_reads)
    | apply Exists.intro (α := V)
    | apply Exists.intro (α := Addr)
    | apply Exists.intro (α := Int)
    | apply Exists.intro (α := Bool)
    | apply Exists.intro (α := List V)
    | apply Exists.intro (α := List Nat)
    | apply Exists.intro (α := List (Str × V))
    | apply Exists.intro (α := List _)
    | apply Exists.intro (α := Str)
    | apply Exists.intro (α := HO)
    | apply Exists.intro (α := Sp)
    | apply Exists.intro (α := VK)))
set_option hygiene false in
local macro_rules
  | `(tactic| kba_ints) => `(tactic| first
    | assumption
    | (apply frUp; (first | assumption | (apply Ne.symm; assumption)); kba_ints)
    | (apply noneOf; assumption; intro oF eF; apply Exists.intro; kp_flats)
    | (apply frUp; (next => kbo_bools); kba_ints))
set_option hygiene false in
local macro_rules
  | `(tactic| kxs_still) => `(tactic| first
    | assumption
    | exact kp_refl _ _
    | (apply kp_newF; assumption; kxs_still)
    | (apply kp_new; assumption; kxs_still)
    | (apply kp_up; (next => o_fieldsN); kxs_still)
    | (apply kp_new; (next => kba_ints); kxs_still)
    | (apply kp_sameR; assumption; kxs_still)
    | (apply kp_transR; assumption; kxs_still)
    | (apply kp_freshR; assumption; (next => kaf_suf); kxs_still))
set_option hygiene false in
local macro_rules
  | `(tactic| kaf_suf) => `(tactic| first
    | assumption
    | exact subNil
    | (apply subCons; (first | (apply Or.inl; o_fieldsN) | (apply Or.inr; kba_ints)); kaf_suf)
    | (apply subApp; (next => kaf_suf); kaf_suf))
set_option hygiene false in
local macro_rules
  | `(tactic| o_fieldsN) => `(tactic| first
    | assumption
    | exact memA
    | (apply memB; o_fieldsN)
    | (apply memL; o_fieldsN)
    | (apply memR; o_fieldsN))
set_option hygiene false in
local macro_rules
  | `(tactic| kd_subs) => `(tactic| first
    | assumption
    | exact Same.refl _
    | (apply same_putF; assumption; kd_subs)
    | (apply same_putG; assumption; kd_subs)
    | (apply same_putF; (next => kba_ints); kd_subs)
    | (apply same_transR; assumption; kd_subs))

set_option pp.maxSteps 900
def nm_count_below : Nat → Nat → Str := fun l _ => if l = 5 then ("count_below" : Str) ++ ".<locals>." ++ "<lambda>" else ("count_below" : Str) ++ ".<locals>." ++ "<lambda>"
def nm_least_at : Nat → Nat → Str := fun l _ => if l = 18 then ("least_at" : Str) ++ ".<locals>." ++ "<lambda>" else ("least_at" : Str) ++ ".<locals>." ++ "<lambda>"
def TT {K : PySem.W.Frag} {mg : Str → Option Value} (T : Txt K mg) : List NdefX.NTab := [(T.p_count_below, nm_count_below), (T.p_least_at, nm_least_at)]
theorem hm_count_below {K : PySem.W.Frag} {mg : Str → Option Value} (T : Txt K mg) : (T.p_count_below, nm_count_below) ∈ TT T := List.mem_cons_self ..
theorem hu_count_below {K : PySem.W.Frag} {mg : Str → Option Value} (T : Txt K mg) : ∀ p ∈ TT T, p.1 = T.p_count_below → p.2 = nm_count_below := fun p m e => by
  rcases List.mem_cons.mp m with rfl | m
  · exact rfl
  rcases List.mem_cons.mp m with rfl | m
  · exact absurd e.symm T.pne_count_below_least_at
  · cases m
theorem hm_least_at {K : PySem.W.Frag} {mg : Str → Option Value} (T : Txt K mg) : (T.p_least_at, nm_least_at) ∈ TT T := List.mem_cons_of_mem _ (List.mem_cons_self ..)
theorem hu_least_at {K : PySem.W.Frag} {mg : Str → Option Value} (T : Txt K mg) : ∀ p ∈ TT T, p.1 = T.p_least_at → p.2 = nm_least_at := fun p m e => by
  rcases List.mem_cons.mp m with rfl | m
  · exact absurd e T.pne_count_below_least_at
  rcases List.mem_cons.mp m with rfl | m
  · exact rfl
  · cases m
open NdefX (TabsN)
section
variable {P : Program} {w : World} {K : PySem.W.Frag} {mg : Str → Option Value} {base : Heap} {n : Nat}
def natAt (σ : L2.St) (i : Nat) : Nat := match σ[i]? with
  | some (some (V.int r)) => r.toNat
  | _ => 0
/-- f tells p of each index below many, and changes nothing -/
structure Tells (P : Program) (w : World) (K : PySem.W.Frag) (mg : Str → Option Value) (base : Heap) (n : Nat) (f : Addr) (many : Nat) (p : Nat → Bool) (H : Hp) : Prop where
  at_ : ∃ o sp, H f = some o ∧ Inf.FnHO f o ∧ FnR P w K mg base CX0 n f sp ∧ ∀ i, i < many → ∀ Q : VK, Q (.bl (p i)) H → sp [.int (i : Int)] H Q E0
def spLead (P : Program) (w : World) (K : PySem.W.Frag) (mg : Str → Option Value) (base : Heap) (n : Nat) : Sp := fun vs H Q _ => ∃ (many : Nat) (f : Addr) (p : Nat → Bool), vs = [.int (many : Int), .ref f] ∧ many ≤ 100000 ∧ (∀ i, i + 1 < many → p (i + 1) = true → p i = true) ∧ Tells P w K mg base n f many p H ∧
  ∀ c : Nat, c ≤ many → (∀ i, i < c → p i = true) → (∀ i, c ≤ i → i < many → p i = false) → Q (.int (c : Int)) H
theorem pre_all {p : Nat → Bool} {many : Nat} (h : ∀ i, i + 1 < many → p (i + 1) = true → p i = true) : ∀ (m i : Nat), m < many → i ≤ m → p m = true → p i = true
  | 0, i, _, l, e => by
    rw [Nat.le_zero.mp l]
    exact e
  | m + 1, i, hm, l, e => by
    by_cases c : i = m + 1
    · rw [c]
      exact e
    · exact pre_all h m i (by omega) (by omega) (h m hm e)
theorem ok_lead (T : Txt K mg) : FnOk P w K mg base CX0 (n + 1) T.f_count_leading T.d_count_leading ["many", "holds"] (spLead P w K mg base n) := by
  refine T.F_count_leading.ok sc_count_leading (fun vs H Q E h => ?_) (fun cdv A outer s H vs Q E hr h => ?_)
  · obtain ⟨many, f, p, rfl, _⟩ := h
    rfl
  · obtain ⟨many, f, p, rfl, lm, mono, ht, q⟩ := h
    refine ⟨_, (pss_cons (ps_set (i := 2) sc_count_leading.nd rfl (.inl rfl) pe_int)
      (pss_cons (ps_set (i := 3) sc_count_leading.nd rfl (.inl rfl) (pv 0))
      (pss_cons (ps_while PassesOwn.never (pt_cmpR op_lt (pv 2) (pv 3) (nomark _)) (pss_cons (ps_set (i := 4) sc_count_leading.nd rfl (.inl rfl) (pe_op op_fdivW (pe_op op_add (pv 2) (pv 3)) pe_int))
        (pss_one (ps_if (pt_val (Inf.pe_actP (i := 1) (CX := CX0) (k := n) (E := fun _ => E0) rfl (.inl rfl) (hr.mono (by omega)) (fun _ _ _ _ _ _ _ z => False.elim z) (pa_cons (pv 4) pa_nil))) (pss_one (ps_set (i := 2) sc_count_leading.nd rfl (.inl rfl) (pe_op op_add (pv 4) pe_int))) (pss_one (ps_set (i := 3) sc_count_leading.nd rfl (.inl rfl) (pv 4)))))))
      (pss_one (ps_ret (pv 2)))))), ?_⟩
    obtain ⟨o, sp, ho, hO, hF, hsp⟩ := ht
    refine ⟨_, rfl, ?_⟩
    refine while_by (fun σ H' => H' = H ∧ ∃ (lo hi : Nat) (y : Option V), σ = [some (.int (many : Int)), some (.ref f), some (.int (lo : Int)), some (.int (hi : Int)), y] ∧ lo ≤ hi ∧ hi ≤ many ∧ (∀ i, i < lo → p i = true) ∧ (∀ i, hi ≤ i → i < many → p i = false))
      (fun σ _ => natAt σ 3 - natAt σ 2) ⟨rfl, 0, many, none, rfl, Nat.zero_le _, Nat.le_refl _, (fun i l => absurd l (Nat.not_lt_zero _)), fun i l1 l2 => absurd l2 (Nat.not_lt.mpr l1)⟩ ?_ ?_
    · rintro σ H' ⟨rfl, lo, hi, y, rfl, h1, h2, h3, h4⟩
      refine ⟨_, rfl, _, rfl, _, _, rfl, rfl, _, rfl, ite2 (fun e => ?_) (fun e => ?_)⟩
      · have e1 := of_decide_eq_true e
        have e2 : lo < hi := by omega
        have em : ((lo : Int) + (hi : Int)) / 2 = (((lo + hi) / 2 : Nat) : Int) := by omega
        have lm2 : (lo + hi) / 2 < many := by omega
        refine ⟨_, rfl, _, rfl, _, _, rfl, rfl, _, _, rfl, rfl, wide_div (b := 100) (by decide) (by omega) (by decide) (by decide), ?_⟩
        dsimp only
        rw [em]
        refine ⟨f, rfl, _, rfl, o, sp, ho, hO, hF, hsp _ lm2 _ ⟨_, rfl, ?_⟩⟩
        cases hp : p ((lo + hi) / 2) with
        | true =>
          refine ifT rfl ⟨_, rfl, _, _, rfl, rfl, ?_⟩
          refine ⟨⟨rfl, (lo + hi) / 2 + 1, hi, some (.int (((lo + hi) / 2 : Nat) : Int)), rfl, by omega, h2, fun i l => pre_all mono _ i lm2 (by omega) hp, h4⟩, ?_⟩
          show hi - (((lo + hi) / 2 : Nat) + 1 : Int).toNat < hi - lo
          omega
        | false =>
          refine ifF rfl ⟨_, rfl, ?_⟩
          refine ⟨⟨rfl, lo, (lo + hi) / 2, some (.int (((lo + hi) / 2 : Nat) : Int)), rfl, by omega, by omega, h3, fun i l1 l2 => ?_⟩, ?_⟩
          · cases hq : p i with
            | false => rfl
            | true =>
              rw [pre_all mono i _ l2 l1 hq] at hp
              cases hp
          · show (lo + hi) / 2 - lo < hi - lo
            omega
      · have e1 : ¬ ((lo : Int) < (hi : Int)) := fun z => e (dT z)
        obtain rfl : lo = hi := by omega
        exact ⟨_, rfl, q lo h2 h3 h4⟩
    · rintro σ H' Q1 Q2 m ⟨x, hx, y, hy, i, j, e1, e2, c, e3, q⟩
      exact ⟨x, hx, y, hy, i, j, e1, e2, c, e3, m _ _ q⟩
def spVal : Sp := fun vs H Q _ => ∃ (t : Addr) (a b x : Int), vs = [.ref t, .int x] ∧ H t = some (.tup [.int a, .int b]) ∧ a.natAbs < 2 ^ 62 ∧ Q (.int (a * x + b)) H
theorem ok_val (T : Txt K mg) : FnOk P w K mg base CX0 1 T.f_value_at T.d_value_at ["line", "x"] spVal := by
  refine T.F_value_at.ok sc_value_at (fun vs H Q E h => ?_) (fun cdv A outer s H vs Q E hr h => ?_)
  · obtain ⟨t, a, b, x, rfl, _⟩ := h
    rfl
  · obtain ⟨t, a, b, x, rfl, h1, h2, q⟩ := h
    refine ⟨_, (pss_one (ps_ret (pe_op op_add (pe_op op_mul (pe_ix (r := rIxT K) ix_tup (pv 0) pe_int (fun _ _ => rfl)) (pv 1)) (pe_ix (r := rIxT K) ix_tup (pv 0) pe_int (fun _ _ => rfl))))), ?_⟩
    exact ⟨_, rfl, t, _, 0, .int a, rfl, rfl, sqtOf h1, atI_nat (j := 0) rfl, _, rfl, _, _, rfl, rfl, .inl ⟨by omega, by omega⟩, _, rfl, t, _, 1, .int b, rfl, rfl, sqtOf h1, atI_nat (j := 1) rfl, _, _, rfl, rfl, q⟩
def hid (l m r : Int × Int) : Bool := decide ((r.2 - m.2) * (l.1 - m.1) ≤ (m.2 - l.2) * (m.1 - r.1))
def spHid : Sp := fun vs H Q _ => ∃ (t1 t2 t3 : Addr) (l m r : Int × Int), vs = [.ref t1, .ref t2, .ref t3] ∧ H t1 = some (.tup [.int l.1, .int l.2]) ∧ H t2 = some (.tup [.int m.1, .int m.2]) ∧ H t3 = some (.tup [.int r.1, .int r.2]) ∧ (l.1.natAbs < 2 ^ 62 ∧ m.1.natAbs < 2 ^ 62 ∧ r.1.natAbs < 2 ^ 62) ∧ Q (.bl (hid l m r)) H
theorem ok_hid (T : Txt K mg) : FnOk P w K mg base CX0 1 T.f_is_hidden T.d_is_hidden ["left", "middle", "right"] spHid := by
  refine T.F_is_hidden.ok sc_is_hidden (fun vs H Q E h => ?_) (fun cdv A outer s H vs Q E hr h => ?_)
  · obtain ⟨t1, t2, t3, l, m, r, rfl, _⟩ := h
    rfl
  · obtain ⟨t1, t2, t3, l, m, r, rfl, h1, h2, h3, ⟨b1, b2, b3⟩, q⟩ := h
    refine ⟨_, (pss_cons (ps_set (i := 3) sc_is_hidden.nd rfl (.inl rfl) (pe_op op_mul (pe_op op_sub (pe_ix (r := rIxT K) ix_tup (pv 1) pe_int (fun _ _ => rfl)) (pe_ix (r := rIxT K) ix_tup (pv 0) pe_int (fun _ _ => rfl))) (pe_op op_sub (pe_ix (r := rIxT K) ix_tup (pv 1) pe_int (fun _ _ => rfl)) (pe_ix (r := rIxT K) ix_tup (pv 2) pe_int (fun _ _ => rfl)))))
      (pss_cons (ps_set (i := 4) sc_is_hidden.nd rfl (.inl rfl) (pe_op op_mul (pe_op op_sub (pe_ix (r := rIxT K) ix_tup (pv 2) pe_int (fun _ _ => rfl)) (pe_ix (r := rIxT K) ix_tup (pv 1) pe_int (fun _ _ => rfl))) (pe_op op_sub (pe_ix (r := rIxT K) ix_tup (pv 0) pe_int (fun _ _ => rfl)) (pe_ix (r := rIxT K) ix_tup (pv 1) pe_int (fun _ _ => rfl)))))
      (pss_one (ps_ret (pe_cmpR op_ge (pv 3) (pv 4) (nomark _)))))), ?_⟩
    refine ⟨_, rfl, t2, _, 1, .int m.2, rfl, rfl, sqtOf h2, atI_nat (j := 1) rfl, _, rfl, t1, _, 1, .int l.2, rfl, rfl, sqtOf h1, atI_nat (j := 1) rfl, _, _, rfl, rfl, _, rfl, t2, _, 0, .int m.1, rfl, rfl, sqtOf h2, atI_nat (j := 0) rfl, _, rfl, t3, _, 0, .int r.1, rfl, rfl, sqtOf h3, atI_nat (j := 0) rfl, _, _, rfl, rfl, _, _, rfl, rfl, .inr ⟨by omega, by omega⟩, ?_⟩
    refine ⟨_, rfl, t3, _, 1, .int r.2, rfl, rfl, sqtOf h3, atI_nat (j := 1) rfl, _, rfl, t2, _, 1, .int m.2, rfl, rfl, sqtOf h2, atI_nat (j := 1) rfl, _, _, rfl, rfl, _, rfl, t1, _, 0, .int l.1, rfl, rfl, sqtOf h1, atI_nat (j := 0) rfl, _, rfl, t2, _, 0, .int m.1, rfl, rfl, sqtOf h2, atI_nat (j := 0) rfl, _, _, rfl, rfl, _, _, rfl, rfl, .inr ⟨by omega, by omega⟩, ?_⟩
    exact ⟨_, rfl, _, rfl, _, _, rfl, rfl, q⟩
end
end Ob

set_option Elab.async false
set_option linter.all false
set_option maxRecDepth 100000
set_option maxHeartbeats 1000000
namespace Ob
open PySem PySem.Spec PyProof.Rows L2
open LamX (Tabs TabB TabS ExtN)

/-! ### counting and lines -/
theorem filter_take {q : Int → Bool} : ∀ {ns : List Int} {c : Nat}, c ≤ ns.length → (∀ i x, i < c → ns[i]? = some x → q x = true) → (∀ i x, c ≤ i → ns[i]? = some x → q x = false) → (ns.filter q).length = c
  | [], c, h, _, _ => by
    rw [Nat.le_zero.mp h]
    rfl
  | x :: ns, 0, _, _, h2 => by
    have hx := h2 0 x (Nat.le_refl _) rfl
    rw [List.filter_cons, hx]
    exact filter_take (c := 0) (Nat.zero_le _) (fun i y l _ => absurd l (Nat.not_lt_zero _)) fun i y _ e => h2 (i + 1) y (Nat.zero_le _) e
  | x :: ns, c + 1, h, h1, h2 => by
    have hx := h1 0 x (Nat.succ_pos _) rfl
    rw [List.filter_cons, hx, if_pos rfl, List.length_cons]
    exact congrArg Nat.succ (filter_take (Nat.le_of_succ_le_succ h) (fun i y l e => h1 (i + 1) y (Nat.succ_lt_succ l) e) fun i y l e => h2 (i + 1) y (Nat.succ_le_succ l) e)
abbrev Ln := Int × Int
def val (l : Ln) (x : Int) : Int := l.1 * x + l.2
theorem mul_lt {a b c : Int} (h : a < b) (k : 0 < c) : a * c < b * c := Int.mul_lt_mul_of_pos_right h k
theorem hid_dom {l m r : Ln} (h1 : m.1 < l.1) (h2 : r.1 < m.1) (h : hid l m r = true) (x : Int) : val l x ≤ val m x ∨ val r x ≤ val m x := by
  have h := of_decide_eq_true h
  by_cases c1 : val l x ≤ val m x
  · exact .inl c1
  by_cases c2 : val r x ≤ val m x
  · exact .inr c2
  exfalso
  unfold val at c1 c2
  have a1 : m.2 - l.2 < (l.1 - m.1) * x := by
    rw [Int.sub_mul]
    omega
  have a2 : (m.1 - r.1) * x < r.2 - m.2 := by
    rw [Int.sub_mul]
    omega
  have b1 := mul_lt a1 (c := m.1 - r.1) (by omega)
  have b2 := mul_lt a2 (c := l.1 - m.1) (by omega)
  have e : (l.1 - m.1) * x * (m.1 - r.1) = (m.1 - r.1) * x * (l.1 - m.1) := by
    rw [Int.mul_right_comm, Int.mul_comm (l.1 - m.1) (m.1 - r.1), Int.mul_right_comm (m.1 - r.1)]
  rw [e] at b1
  omega
theorem hid_mono {l m r : Ln} (h1 : m.1 < l.1) (h2 : r.1 < m.1) (h : hid l m r = false) {x : Int} (k : val r x ≤ val m x) : val m x ≤ val l x := by
  have h := of_decide_eq_false h
  unfold val at k ⊢
  have a2 : r.2 - m.2 ≤ (m.1 - r.1) * x := by
    rw [Int.sub_mul]
    omega
  by_cases c : m.1 * x + m.2 ≤ l.1 * x + l.2
  · exact c
  exfalso
  have a1 : (l.1 - m.1) * x < m.2 - l.2 := by
    rw [Int.sub_mul]
    omega
  have b1 := mul_lt a1 (c := m.1 - r.1) (by omega)
  have b2 : (r.2 - m.2) * (l.1 - m.1) ≤ (m.1 - r.1) * x * (l.1 - m.1) := Int.mul_le_mul_of_nonneg_right a2 (by omega)
  have e : (l.1 - m.1) * x * (m.1 - r.1) = (m.1 - r.1) * x * (l.1 - m.1) := by
    rw [Int.mul_right_comm, Int.mul_comm (l.1 - m.1) (m.1 - r.1), Int.mul_right_comm (m.1 - r.1)]
  rw [e] at b1
  omega
def NH (k : List Ln) : Prop := ∀ i l m r, k[i]? = some l → k[i + 1]? = some m → k[i + 2]? = some r → hid l m r = false
def Dc (k : List Ln) : Prop := k.Pairwise fun a b => b.1 < a.1
structure Hull (S k : List Ln) : Prop where
  sub : ∀ l ∈ k, l ∈ S
  desc : Dc k
  nh : NH k
  dom : ∀ l ∈ S, ∀ x, ∃ m ∈ k, val m x ≤ val l x
structure Pend (S k : List Ln) (r : Ln) : Prop where
  sub : ∀ l ∈ k, l ∈ S
  desc : Dc k
  lt : ∀ l ∈ k, r.1 < l.1
  nh : NH k
  dom : ∀ l ∈ S, ∀ x, ∃ m ∈ k ++ [r], val m x ≤ val l x
theorem Hull.pend {S k : List Ln} {r : Ln} (h : Hull S k) (l : ∀ m ∈ S, r.1 < m.1) : Pend S k r :=
  ⟨h.sub, h.desc, fun m hm => l m (h.sub m hm), h.nh, fun m hm x => by
    obtain ⟨p, h1, h2⟩ := h.dom m hm x
    exact ⟨p, List.mem_append_left _ h1, h2⟩⟩
theorem NH.pre {k k' : List Ln} (h : NH (k ++ k')) : NH k := fun i l m r e1 e2 e3 => by
  have l3 := (List.getElem?_eq_some_iff.mp e3).1
  exact h i l m r (by rw [List.getElem?_append_left (by omega)]; exact e1) (by rw [List.getElem?_append_left (by omega)]; exact e2) (by rw [List.getElem?_append_left l3]; exact e3)
theorem Pend.pop {S k : List Ln} {l m r : Ln} (h : Pend S (k ++ [l] ++ [m]) r) (hh : hid l m r = true) : Pend S (k ++ [l]) r := by
  have d := List.pairwise_append.mp h.desc
  have ml : m.1 < l.1 := d.2.2 l (List.mem_append_right _ (List.mem_singleton.mpr rfl)) m (List.mem_singleton.mpr rfl)
  have rm : r.1 < m.1 := h.lt m (List.mem_append_right _ (List.mem_singleton.mpr rfl))
  refine ⟨fun p hp => h.sub p (List.mem_append_left _ hp), d.1, fun p hp => h.lt p (List.mem_append_left _ hp), h.nh.pre, fun p hp x => ?_⟩
  obtain ⟨q, h1, h2⟩ := h.dom p hp x
  rcases List.mem_append.mp h1 with h1 | h1
  · rcases List.mem_append.mp h1 with h1 | h1
    · exact ⟨q, List.mem_append_left _ h1, h2⟩
    · rw [List.mem_singleton.mp h1] at h2
      rcases hid_dom ml rm hh x with c | c
      · exact ⟨l, List.mem_append_left _ (List.mem_append_right _ (List.mem_singleton.mpr rfl)), Int.le_trans c h2⟩
      · exact ⟨r, List.mem_append_right _ (List.mem_singleton.mpr rfl), Int.le_trans c h2⟩
  · exact ⟨q, List.mem_append_right _ h1, h2⟩
theorem Pend.push {S k : List Ln} {r : Ln} (h : Pend S k r) (e : ∀ k0 l m, k = k0 ++ [l] ++ [m] → hid l m r = false) : Hull (S ++ [r]) (k ++ [r]) := by
  refine ⟨fun l m => (List.mem_append.mp m).elim (fun m => List.mem_append_left _ (h.sub l m)) fun m => List.mem_append_right _ m, ?_, ?_, ?_⟩
  · exact List.pairwise_append.mpr ⟨h.desc, List.pairwise_singleton .., fun a ha b hb => by rw [List.mem_singleton.mp hb]; exact h.lt a ha⟩
  · intro i l m q e1 e2 e3
    have l3 := (List.getElem?_eq_some_iff.mp e3).1
    rw [List.length_append] at l3
    have l3' : i + 2 < k.length + 1 := l3
    rw [List.getElem?_append_left (by omega)] at e1 e2
    by_cases c : i + 2 < k.length
    · rw [List.getElem?_append_left c] at e3
      exact h.nh i l m q e1 e2 e3
    · have ek : k.length = i + 2 := by omega
      rw [List.getElem?_append_right (by omega), ek, Nat.sub_self] at e3
      cases e3
      refine e (k.take i) l m (List.ext_getElem? fun j => ?_)
      by_cases c1 : j < i
      · rw [List.append_assoc, List.getElem?_append_left (by rw [List.length_take]; omega), List.getElem?_take_of_lt c1]
      · rw [List.append_assoc, List.getElem?_append_right (by rw [List.length_take]; omega), List.length_take, Nat.min_eq_left (by omega)]
        by_cases c2 : j = i
        · rw [c2, Nat.sub_self, e1]
          rfl
        · by_cases c3 : j = i + 1
          · rw [c3, Nat.add_sub_cancel_left, e2]
            rfl
          · rw [List.getElem?_eq_none (by omega), List.getElem?_eq_none (by show 2 ≤ _; omega)]
  · intro l hl x
    rcases List.mem_append.mp hl with hl | hl
    · exact h.dom l hl x
    · exact ⟨r, List.mem_append_right _ (List.mem_singleton.mpr rfl), by rw [List.mem_singleton.mp hl]; exact Int.le_refl _⟩
/-- along the hull the values fall, then rise -/
def lowAt (k : List Ln) (x : Int) (i : Nat) : Bool := decide (val (k.getD (i + 1) (0, 0)) x ≤ val (k.getD i (0, 0)) x)
theorem getD_at {k : List Ln} {i : Nat} (h : i < k.length) : k[i]? = some (k.getD i (0, 0)) := by
  rw [List.getD_eq_getElem?_getD, List.getElem?_eq_getElem h]
  rfl
theorem low_mono {S k : List Ln} (h : Hull S k) (x : Int) : ∀ i, i + 1 < k.length - 1 → lowAt k x (i + 1) = true → lowAt k x i = true := fun i l e => by
  have e := of_decide_eq_true e
  have a0 := getD_at (k := k) (i := i) (by omega)
  have a1 := getD_at (k := k) (i := i + 1) (by omega)
  have a2 := getD_at (k := k) (i := i + 2) (by omega)
  have d1 := (List.pairwise_iff_getElem.mp h.desc) i (i + 1) (by omega) (by omega) (by omega)
  have d2 := (List.pairwise_iff_getElem.mp h.desc) (i + 1) (i + 2) (by omega) (by omega) (by omega)
  rw [(List.getElem?_eq_some_iff.mp a0).2, (List.getElem?_eq_some_iff.mp a1).2] at d1
  rw [(List.getElem?_eq_some_iff.mp a1).2, (List.getElem?_eq_some_iff.mp a2).2] at d2
  exact decide_eq_true (hid_mono d1 d2 (h.nh i _ _ _ a0 a1 a2) e)
theorem low_min {k : List Ln} {x : Int} {c : Nat} (hc : c ≤ k.length - 1) (h1 : ∀ i, i < c → lowAt k x i = true) (h2 : ∀ i, c ≤ i → i < k.length - 1 → lowAt k x i = false) : ∀ j, j < k.length → val (k.getD c (0, 0)) x ≤ val (k.getD j (0, 0)) x := by
  have dn : ∀ d, d ≤ c → val (k.getD c (0, 0)) x ≤ val (k.getD (c - d) (0, 0)) x := fun d => by
    induction d with
    | zero => exact fun _ => Int.le_refl _
    | succ d ih =>
      intro l
      have a := of_decide_eq_true (h1 (c - (d + 1)) (by omega))
      rw [show c - (d + 1) + 1 = c - d by omega] at a
      exact Int.le_trans (ih (by omega)) a
  have up : ∀ d, c + d < k.length → val (k.getD c (0, 0)) x ≤ val (k.getD (c + d) (0, 0)) x := fun d => by
    induction d with
    | zero => exact fun _ => Int.le_refl _
    | succ d ih =>
      intro l
      have a := of_decide_eq_false (h2 (c + d) (by omega) (by omega))
      have b := ih (by omega)
      show _ ≤ val (k.getD (c + d + 1) (0, 0)) x
      omega
  intro j l
  by_cases e : j ≤ c
  · have := dn (c - j) (by omega)
    rw [show c - (c - j) = j by omega] at this
    exact this
  · have := up (j - c) (by omega)
    rw [show c + (j - c) = j by omega] at this
    exact this
end Ob

set_option Elab.async false
set_option linter.all false
set_option maxRecDepth 100000
set_option maxHeartbeats 1000000
namespace Ob
open PySem PySem.Spec PyProof.Rows L2
open LamX (Tabs TabB TabS ExtN)

set_option hygiene false in
local macro_rules
  | `(tactic| kp_flats) => `(tactic| first
    | assumption
    | exact upd_same
    | (apply atNew; assumption; kp_flats)
    | (apply atNe; (next => kbo_bools); kp_flats)
    | (apply atSame; assumption; kp_flats)
    | (apply atKp; assumption; (next => kaf_pre); kp_flats))
set_option hygiene false in
local macro_rules
  | `(tactic| kaf_pre) => `(tactic| first
    | assumption
    | exact not_nil
    | (apply not_cons; (next => kbo_bools); kaf_pre)
    | (apply not_app; (next => kaf_pre); kaf_pre))
set_option hygiene false in
local macro_rules
  | `(tactic| kbo_bools) => `(tactic| first
    | assumption
    | (apply Ne.symm; assumption)
    | (apply neN; assumption; kp_flats)
    | (apply neN'; assumption; kp_flats))
set_option hygiene false in
local macro_rules
  | `(tactic| o_reads) => `(tactic| first
    | with_reducible rfl
    | assumption
    | rfl
    | kp_flats
    | (show SqL _ _ _ _; first | assumption | (apply sqlOf; kp_flats) | (apply sqlSame; assumption; o_reads))
    | (show SqT _ _ _ _; first | assumption | (apply sqtOf; kp_flats) | (apply sqtAll; assumption) | (apply sqtSame; assumption; o_reads))
    | (show Cls _ _; first | skip)
    | (show NoAttr _ _ _; first | skip)
    | (apply Or.inl; o_reads)
    | (apply Or.inr; o_reads)
    | (apply And.intro; (next => o_reads); o_reads)
    | (apply Exists.intro; o_reads)
    | exact Nat.le_of_ble_eq_true rfl
    | exact Nat.succ_ne_zero _
    | (show Fr _ _; kba_ints)
    | (show Same _ _; kd_subs)
    | (show Kp _ _ _; kxs_still)
    | (show (_ : Nat) ≤ _; simp only [List.length_append, List.length_map, List.length_cons, List.length_nil, List.length_take, List.length_drop, List.length_replicate, List.length_range, sizeLine_eq]; omega)
    | (show _ = none; apply Fr.h; kba_ints)
    | (show Bag _ _; first | assumption | (apply bag_putF; assumption; o_reads) | (apply bag_neF; (next => kbo_bools); o_reads) | (apply bag_kpR; assumption; (next => kaf_pre); o_reads))
    | omega
    | decide)
local macro_rules
  | `(tactic| o_readsAll) => `(tactic| repeat (first
    | (refine fun (pNew : Addr) (nNew : _ = none) => ?_; replace nNew := Fr.mk nNew)
    | (refine fun (xNew dNew : Addr) (nNew : _ = none) (mNew : _ = none) (eNew : dNew ≠ xNew) => ?_; replace nNew := Fr.mk nNew; replace mNew := Fr.mk mNew)
    | (apply And.intro; next => o_reads)
    | apply Exists.intro (α := V)
    | apply Exists.intro (α := Addr)
    | apply Exists.intro (α := Int)
    | apply Exists.intro (α := Bool)
    | apply Exists.intro (α := List V)
    | apply Exists.intro (α := List Nat)
    | apply Exists.intro (α := List (Str × V))
    | apply Exists.intro (α := List _)
    | apply Exists.intro (α := Str)
    | apply Exists.intro (α := HO)
    | apply Exists.intro (α := Sp)
    | apply Exists.intro (α := VK)))
set_option hygiene false in
local macro_rules
  | `(tactic| kba_ints) => `(tactic| first
    | assumption
    | (apply frUp; (first | assumption | (apply Ne.symm; assumption)); kba_ints)
    | (apply noneOf; assumption; intro oF eF; apply Exists.intro; kp_flats)
    | (apply frUp; (next => kbo_bools); kba_ints))
set_option hygiene false in
local macro_rules
  | `(tactic| kxs_still) => `(tactic| first
    | assumption
    | exact kp_refl _ _
    | (apply kp_newF; assumption; kxs_still)
    | (apply kp_new; assumption; kxs_still)
    | (apply kp_up; (next => o_fieldsN); kxs_still)
    | (apply kp_new; (next => kba_ints); kxs_still)
    | (apply kp_sameR; assumption; kxs_still)
    | (apply kp_transR; assumption; kxs_still)
    | (apply kp_freshR; assumption; (next => kaf_suf); kxs_still))
set_option hygiene false in
local macro_rules
  | `(tactic| kaf_suf) => `(tactic| first
    | assumption
    | exact subNil
    | (apply subCons; (first | (apply Or.inl; o_fieldsN) | (apply Or.inr; kba_ints)); kaf_suf)
    | (apply subApp; (next => kaf_suf); kaf_suf))
set_option hygiene false in
local macro_rules
  | `(tactic| o_fieldsN) => `(tactic| first
    | assumption
    | exact memA
    | (apply memB; o_fieldsN)
    | (apply memL; o_fieldsN)
    | (apply memR; o_fieldsN))
set_option hygiene false in
local macro_rules
  | `(tactic| kd_subs) => `(tactic| first
    | assumption
    | exact Same.refl _
    | (apply same_putF; assumption; kd_subs)
    | (apply same_putG; assumption; kd_subs)
    | (apply same_putF; (next => kba_ints); kd_subs)
    | (apply same_transR; assumption; kd_subs))

set_option pp.maxSteps 900
open NdefX (TabsN)
/-! ### the lambdas of the program -/
def lamOf : Stmt → Nat → Expr
  | .Return (some (.Call _ es _ _)) _, i => es.getD i (.Constant .none 0 ⟨0, 0, 0, 0⟩)
  | .Assign _ (.Call _ es _ _) _, i => es.getD i (.Constant .none 0 ⟨0, 0, 0, 0⟩)
  | _, _ => .Constant .none 0 ⟨0, 0, 0, 0⟩
def lamF (q : Str) (cl : List (Str × Addr)) (c : Addr) : Expr → Inf.LF
  | .Lambda ps b sc _ => ⟨q, ps, b, sc, cl, c⟩
  | _ => ⟨q, { posonlyargs := [], args := [], vararg := none, kwonlyargs := [], kw_defaults := [], kwarg := none, defaults := [] }, .Constant .none 0 ⟨0, 0, 0, 0⟩, defScope s_law, cl, c⟩
def qB : Str := ("count_below" : Str) ++ ".<locals>." ++ "<lambda>"
def LB (cl : List (Str × Addr)) (c : Addr) : Inf.LF := lamF qB cl c (lamOf ((defBody s_count_below).getD 0 (.Pass ⟨0, 0, 0, 0⟩)) 1)
abbrev frB : List Str := ["block", "bound"]
theorem cellB : ∀ y ∈ frB, (defScope s_count_below).names.lookup y = some .cell := by decide +kernel
theorem scB : NdefX.NScope ["at", "block", "bound"] ["at"] frB (LB [] 0).scope := NdefX.nscope_by (by decide +kernel)
theorem sqt_cut {K : PySem.W.Frag} {H : Hp} {cs : List Addr} {t : Addr} {xs : List V} (h : SqT K H t xs) (n : ∀ b o, H b = some o → (∀ φ, o ≠ .ext φ) → b ∉ cs) : SqT K (Inf.cut cs H) t xs := by
  rcases h with (h | ⟨o, h⟩) | h
  · exact .inl (.inl ((Inf.cut_out (n _ _ h (fun _ z => nomatch z))).trans h))
  · exact .inl (.inr ⟨o, (Inf.cut_out (n _ _ h (fun _ z => nomatch z))).trans h⟩)
  · exact .inr h
theorem tab_ne {T : List NdefX.NTab} {P : Addr} {nm : Nat → Nat → Str} {H : Hp} {a : Addr} {o : HO} (t : TabsN T H) (m : (P, nm) ∈ T) (e : H a = some o) (n : ∀ ps, o ≠ .tbl ps) : a ≠ P := fun z => by
  obtain ⟨ps, h, _⟩ := t _ m
  have h : H P = some (.tbl ps) := h
  rw [← z, e] at h
  exact n ps (Option.some.inj h)
section
variable {P : Program} {w : World} {K : PySem.W.Frag} {mg : Str → Option Value} {base : Heap}
def spLB (K : PySem.W.Frag) : List (Option V) → Sp := fun ws vs H Q _ => ∃ (t : Addr) (ns : List Int) (i : Nat) (b x : Int), ws = [some (.ref t), some (.int b)] ∧ vs = [.int (i : Int)] ∧ SqT K H t (ns.map V.int) ∧ ns[i]? = some x ∧ Q (.bl (decide (x < b))) H
theorem lamB (T : Txt K mg) {cl : List (Str × Addr)} {c f : Addr} : FnR P w K mg base CX0 1 f (fun vs H Q E => ∃ ws, Inf.LClo H f (LB cl c) frB ws ∧ spLB K (ws.map some) vs (Inf.cut (Inf.cellsOf (LB cl c).nf frB) H) (fun v H1 => (∀ b, b ∈ Inf.cellsOf (LB cl c).nf frB → H1 b = Option.none) → Q v (Inf.mend (Inf.cellsOf (LB cl c).nf frB) H H1)) E) := by
  refine Inf.lam_cloR (k := 0) (N := ["at", "block", "bound"]) (ps := ["at"]) scB (fun _ _ us hl => match us, hl with | [_], _ => rfl) (fun ws vs H Q E h => ?_) (fun A outer s H vs ws Q E hr hl h => ?_)
  · obtain ⟨t, ns, i, b, x, rfl, rfl, _⟩ := h
    rfl
  · obtain ⟨t, ns, i, b, x, rfl, rfl, h1, h2, q⟩ := h
    refine ⟨_, pe_cmpR op_lt (pe_ix (r := rIxT K) ix_tup (pv 1) (pv 0) (fun _ _ => rfl)) (pv 2) (nomark _), ?_⟩
    have h3 : (ns.map V.int)[i]? = some (.int x) := by
      rw [List.getElem?_map, h2]
      rfl
    exact ⟨_, rfl, _, rfl, t, _, _, _, rfl, rfl, h1, atI_nat h3, _, rfl, _, _, rfl, rfl, q⟩
theorem get_d {ns : List Int} {i : Nat} (l : i < ns.length) : ns[i]? = some (ns.getD i 0) := by
  rw [List.getD_eq_getElem?_getD, List.getElem?_eq_getElem l]
  rfl
theorem tellsB (T : Txt K mg) {HT : Hp} {f c t : Addr} {cl : List (Str × Addr)} {ns : List Int} {b : Int} (L : Inf.LClo HT f (LB cl c) frB [.ref t, .int b]) (h : SqT K HT t (ns.map V.int)) : Tells P w K mg base 1 f ns.length (fun i => decide (ns.getD i 0 < b)) HT :=
  ⟨_, _, L.fn, Inf.lamHO, lamB T, fun i li Q2 q2 => ⟨_, L, t, ns, i, b, ns.getD i 0, rfl, rfl, sqt_cut h fun b o e n => L.out e n, get_d li, fun _ => by
    rw [Inf.mend_cut]
    exact q2⟩⟩
def spBelow (T : Txt K mg) : Sp := fun vs H Q _ => ∃ (t : Addr) (ns : List Int) (b : Int), vs = [.ref t, .int b] ∧ SqT K H t (ns.map V.int) ∧ ns.Pairwise (· ≤ ·) ∧ ns.length ≤ 100000 ∧ TabsN (TT T) H ∧
  ∀ H', TabsN (TT T) H' → Kp [T.p_count_below] H H' → (∀ b, H' b = none → H b = none) → Q (.int ((ns.filter (· < b)).length : Int)) H'
theorem ok_below (T : Txt K mg) (TB : LamX.TabB base mg T.c_count_below T.p_count_below) : FnOk P w K mg base CX0 3 T.f_count_below T.d_count_below ["block", "bound"] (spBelow T) := by
  have G_count_leading := ok_lead (P := P) (w := w) (base := base) (n := 1) T
  refine T.F_count_below.ok sc_count_below (fun vs H Q E h => ?_) (fun A outer s H vs Q E hr h => ?_)
  · obtain ⟨t, ns, b, rfl, _⟩ := h
    rfl
  · obtain ⟨t, ns, b, rfl, h1, srt, ln, hT, q⟩ := h
    refine ⟨_, (pss_one (ps_ret (Inf.pe_callT (fun _ => rfl) G_count_leading (hr.mono (by omega)) rfl T.g_count_leading T.F_count_leading.kp T.b_count_leading .nil (pa_cons (pe_callB call_len_seq (by rfl) T.z_len (by decide +kernel) (pa_cons (pv 0) pa_nil)) (pa_cons (Inf.pe_lamP (T := TT T) (nm := nm_count_below) (c := T.c_count_below) (P := T.p_count_below) TB rfl (hm_count_below T) rfl (hu_count_below T) rfl (NdefX.ndef_free (sc := defScope s_count_below) (fr := ["block", "bound"]) (by decide +kernel))) pa_nil))))), ?_⟩
    refine ⟨_, rfl, t, _, rfl, .inr h1, hT, fun f c' H1 k1 n1 hT1 nf hf hc cs HT tel => ?_⟩
    have hS : SqT K HT t (ns.map V.int) := by
      rcases h1 with (h | ⟨o, h⟩) | h
      · exact .inl (.inl (tel.same _ _ (k1 _ _ h (tab_ne hT (hm_count_below T) h (fun _ z => nomatch z)))))
      · exact .inl (.inr ⟨o, tel.same _ _ (k1 _ _ h (tab_ne hT (hm_count_below T) h (fun _ z => nomatch z)))⟩)
      · exact .inr h
    refine ⟨ns.length, f, fun i => decide (ns.getD i 0 < b), by rw [List.length_map]; rfl, ln, fun i l e => ?_, ?_, fun c lc e1 e2 => ⟨fun _ _ => rfl, ?_⟩⟩
    · have e := of_decide_eq_true e
      have g0 := get_d (ns := ns) (i := i) (by omega)
      have g1 := get_d (ns := ns) (i := i + 1) (by omega)
      have d1 := (List.pairwise_iff_getElem.mp srt) i (i + 1) (by omega) (by omega) (by omega)
      rw [(List.getElem?_eq_some_iff.mp g0).2, (List.getElem?_eq_some_iff.mp g1).2] at d1
      exact decide_eq_true (by omega)
    · exact tellsB T (tel.lclo (F := LB _ c') (js := [0, 1]) (ws := [.ref t, .int b]) scB rfl cellB rfl rfl hf hc) hS
    · rw [tel.back]
      have : c = (ns.filter (· < b)).length := by
        refine (filter_take lc (fun i x l e => ?_) fun i x l e => ?_).symm
        · have : decide (ns.getD i 0 < b) = true := e1 i l
          rw [List.getD_eq_getElem?_getD, e] at this
          exact this
        · have : decide (ns.getD i 0 < b) = false := e2 i l (List.getElem?_eq_some_iff.mp e).1
          rw [List.getD_eq_getElem?_getD, e] at this
          exact this
      rw [this]
      exact q H1 hT1 ⟨fun b o e n => k1 b o e fun z => n (List.mem_singleton.mpr z)⟩ n1
end
end Ob

set_option Elab.async false
set_option linter.all false
set_option maxRecDepth 100000
set_option maxHeartbeats 1000000
namespace Ob
open PySem PySem.Spec PyProof.Rows L2
open LamX (Tabs TabB TabS ExtN)

set_option hygiene false in
local macro_rules
  | `(tactic| kp_flats) => `(tactic| first
    | assumption
    | exact upd_same
    | (apply atNew; assumption; kp_flats)
    | (apply atNe; (next => kbo_bools); kp_flats)
    | (apply atSame; assumption; kp_flats)
    | (apply atKp; assumption; (next => kaf_pre); kp_flats))
set_option hygiene false in
local macro_rules
  | `(tactic| kaf_pre) => `(tactic| first
    | assumption
    | exact not_nil
    | (apply not_cons; (next => kbo_bools); kaf_pre)
    | (apply not_app; (next => kaf_pre); kaf_pre))
set_option hygiene false in
local macro_rules
  | `(tactic| kbo_bools) => `(tactic| first
    | assumption
    | (apply Ne.symm; assumption)
    | (apply neN; assumption; kp_flats)
    | (apply neN'; assumption; kp_flats))
set_option hygiene false in
local macro_rules
  | `(tactic| o_reads) => `(tactic| first
    | with_reducible rfl
    | assumption
    | rfl
    | kp_flats
    | (show SqL _ _ _ _; first | assumption | (apply sqlOf; kp_flats) | (apply sqlSame; assumption; o_reads))
    | (show SqT _ _ _ _; first | assumption | (apply sqtOf; kp_flats) | (apply sqtAll; assumption) | (apply sqtSame; assumption; o_reads))
    | (show Cls _ _; first | skip)
    | (show NoAttr _ _ _; first | skip)
    | (apply Or.inl; o_reads)
    | (apply Or.inr; o_reads)
    | (apply And.intro; (next => o_reads); o_reads)
    | (apply Exists.intro; o_reads)
    | exact Nat.le_of_ble_eq_true rfl
    | exact Nat.succ_ne_zero _
    | (show Fr _ _; kba_ints)
    | (show Same _ _; kd_subs)
    | (show Kp _ _ _; kxs_still)
    | (show (_ : Nat) ≤ _; simp only [List.length_append, List.length_map, List.length_cons, List.length_nil, List.length_take, List.length_drop, List.length_replicate, List.length_range, sizeLine_eq]; omega)
    | (show _ = none; apply Fr.h; kba_ints)
    | (show Bag _ _; first | assumption | (apply bag_putF; assumption; o_reads) | (apply bag_neF; (next => kbo_bools); o_reads) | (apply bag_kpR; assumption; (next => kaf_pre); o_reads))
    | omega
    | decide)
local macro_rules
  | `(tactic| o_readsAll) => `(tactic| repeat (first
    | (refine fun (pNew : Addr) (nNew : _ = none) => ?_; replace nNew := Fr.mk nNew)
    | (refine fun (xNew dNew : Addr) (nNew : _ = none) (mNew : _ = none) (eNew : dNew ≠ xNew) => ?_; replace nNew := Fr.mk nNew; replace mNew := Fr.mk mNew)
    | (apply And.intro; next => o_reads)
    | apply Exists.intro (α := V)
    | apply Exists.intro (α := Addr)
    | apply Exists.intro (α := Int)
    | apply Exists.intro (α := Bool)
    | apply Exists.intro (α := List V)
    | apply Exists.intro (α := List Nat)
    | apply Exists.intro (α := List (Str × V))
    | apply Exists.intro (α := List _)
    | apply Exists.intro (α := Str)
    | apply Exists.intro (α := HO)
    | apply Exists.intro (α := Sp)
    | apply Exists.intro (α := VK)))
set_option hygiene false in
local macro_rules
  | `(tactic| kba_ints) => `(tactic| first
    | assumption
    | (apply frUp; (first | assumption | (apply Ne.symm; assumption)); kba_ints)
    | (apply noneOf; assumption; intro oF eF; apply Exists.intro; kp_flats)
    | (apply frUp; (next => kbo_bools); kba_ints))
set_option hygiene false in
local macro_rules
  | `(tactic| kxs_still) => `(tactic| first
    | assumption
    | exact kp_refl _ _
    | (apply kp_newF; assumption; kxs_still)
    | (apply kp_new; assumption; kxs_still)
    | (apply kp_up; (next => o_fieldsN); kxs_still)
    | (apply kp_new; (next => kba_ints); kxs_still)
    | (apply kp_sameR; assumption; kxs_still)
    | (apply kp_transR; assumption; kxs_still)
    | (apply kp_freshR; assumption; (next => kaf_suf); kxs_still))
set_option hygiene false in
local macro_rules
  | `(tactic| kaf_suf) => `(tactic| first
    | assumption
    | exact subNil
    | (apply subCons; (first | (apply Or.inl; o_fieldsN) | (apply Or.inr; kba_ints)); kaf_suf)
    | (apply subApp; (next => kaf_suf); kaf_suf))
set_option hygiene false in
local macro_rules
  | `(tactic| o_fieldsN) => `(tactic| first
    | assumption
    | exact memA
    | (apply memB; o_fieldsN)
    | (apply memL; o_fieldsN)
    | (apply memR; o_fieldsN))
set_option hygiene false in
local macro_rules
  | `(tactic| kd_subs) => `(tactic| first
    | assumption
    | exact Same.refl _
    | (apply same_putF; assumption; kd_subs)
    | (apply same_putG; assumption; kd_subs)
    | (apply same_putF; (next => kba_ints); kd_subs)
    | (apply same_transR; assumption; kd_subs))

set_option pp.maxSteps 900
/-! ### the lowest line of each slope -/
def kInt (a : Int) : Key := Sum.inl a
structure Low (S : List Ln) (as : List Int) (kvs : List (Key × V)) : Prop where
  keys : kvs.map (·.1) = as.map kInt
  nd : as.Nodup
  at_ : ∀ a ∈ as, ∃ b, valV kvs (kInt a) = some (.int b) ∧ (a, b) ∈ S ∧ ∀ l ∈ S, l.1 = a → b ≤ l.2
  all : ∀ l ∈ S, l.1 ∈ as
theorem low_nil : Low [] [] [] := ⟨rfl, List.nodup_nil, (fun _ m => nomatch m), fun _ m => nomatch m⟩
theorem key_mem {kvs : List (Key × V)} {as : List Int} (hk : kvs.map (·.1) = as.map kInt) {a : Int} {v : V} (e : valV kvs (kInt a) = some v) : a ∈ as := by
  have h : (kvs.any fun kv => decide (kv.1 = kInt a)) = true := by rw [valV_any, e]; rfl
  obtain ⟨kv, m, d⟩ := List.any_eq_true.mp h
  have m2 : kInt a ∈ kvs.map (·.1) := List.mem_map.mpr ⟨kv, m, of_decide_eq_true d⟩
  rw [hk] at m2
  obtain ⟨x, mx, ex⟩ := List.mem_map.mp m2
  rw [← Sum.inl.inj (show Sum.inl x = Sum.inl a from ex)]
  exact mx
theorem put_keys {kvs : List (Key × V)} {k : Key} {v u : V} (e : valV kvs k = some u) : (putK kvs k v).map (·.1) = kvs.map (·.1) := by
  unfold putK
  rw [valV_any, e]
  show List.map _ (if true = true then _ else _) = _
  rw [if_pos rfl, List.map_map]
  refine List.map_congr_left fun kv _ => ?_
  show (if kv.1 = k then (kv.1, v) else kv).1 = kv.1
  split <;> rfl
theorem Low.put {S : List Ln} {as : List Int} {kvs : List (Key × V)} (h : Low S as kvs) (a b : Int) : ∃ (j : Int) (as' : List Int), (valV kvs (kInt a)).getD (V.int b) = .int j ∧ Low (S ++ [(a, b)]) as' (putK kvs (kInt a) (.int (if j < b then j else b))) := by
  have inS : ∀ {l : Ln}, l ∈ S → l ∈ S ++ [(a, b)] := fun m => List.mem_append_left _ m
  have isN : (a, b) ∈ S ++ [(a, b)] := List.mem_append_right _ (List.mem_singleton.mpr rfl)
  have spl : ∀ {l : Ln}, l ∈ S ++ [(a, b)] → l ∈ S ∨ l = (a, b) := fun m => (List.mem_append.mp m).imp id List.mem_singleton.mp
  have ne : ∀ {x : Int}, x ≠ a → ¬ (kInt x = kInt a) := fun n z => n (Sum.inl.inj z)
  by_cases m : a ∈ as
  · obtain ⟨b0, e, m0, l0⟩ := h.at_ a m
    refine ⟨b0, as, by rw [e]; rfl, (put_keys e).trans h.keys, h.nd, fun x mx => ?_, fun l ml => ?_⟩
    · by_cases ex : x = a
      · subst ex
        refine ⟨_, by rw [valV_put, if_pos rfl], ?_, fun l ml el => ?_⟩
        · split
          · exact inS m0
          · exact isN
        · rcases spl ml with ml | rfl
          · have := l0 l ml el
            split <;> omega
          · show _ ≤ b
            split <;> omega
      · obtain ⟨c, e1, e2, e3⟩ := h.at_ x mx
        refine ⟨c, by rw [valV_put, if_neg (ne ex)]; exact e1, inS e2, fun l ml el => ?_⟩
        rcases spl ml with ml | rfl
        · exact e3 l ml el
        · exact absurd el.symm ex
    · rcases spl ml with ml | rfl
      · exact h.all l ml
      · exact m
  · have e : valV kvs (kInt a) = none := by
      cases e : valV kvs (kInt a) with
      | none => rfl
      | some v => exact absurd (key_mem h.keys e) m
    refine ⟨b, as ++ [a], by rw [e]; rfl, ?_, ?_, fun x mx => ?_, fun l ml => ?_⟩
    · rw [putK_new _ e, List.map_append, List.map_append, h.keys]
      rfl
    · exact List.nodup_append.mpr ⟨h.nd, List.nodup_cons.mpr ⟨(fun z => nomatch z), List.nodup_nil⟩, fun x mx y my z => m (by rw [← List.mem_singleton.mp my, ← z]; exact mx)⟩
    · rcases List.mem_append.mp mx with mx | mx
      · have ex : x ≠ a := fun z => m (by rw [← z]; exact mx)
        obtain ⟨c, e1, e2, e3⟩ := h.at_ x mx
        refine ⟨c, by rw [valV_put, if_neg (ne ex)]; exact e1, inS e2, fun l ml el => ?_⟩
        rcases spl ml with ml | rfl
        · exact e3 l ml el
        · exact absurd el.symm ex
      · have ex := List.mem_singleton.mp mx
        subst ex
        refine ⟨_, by rw [valV_put, if_pos rfl], ?_, fun l ml el => ?_⟩
        · rw [if_neg (by omega)]
          exact isN
        · rw [if_neg (by omega)]
          rcases spl ml with ml | rfl
          · exact absurd (by rw [← el]; exact h.all l ml) m
          · exact Int.le_refl _
    · rcases spl ml with ml | rfl
      · exact List.mem_append_left _ (h.all l ml)
      · exact List.mem_append_right _ (List.mem_singleton.mpr rfl)
def bOf (kvs : List (Key × V)) (a : Int) : Int := match valV kvs (kInt a) with
  | some (.int b) => b
  | _ => 0
def lnOf (kvs : List (Key × V)) (a : Int) : Ln := (a, bOf kvs a)
theorem bOf_at {kvs : List (Key × V)} {a b : Int} (e : valV kvs (kInt a) = some (.int b)) : bOf kvs a = b := by
  unfold bOf
  rw [e]
theorem Low.b {S : List Ln} {as : List Int} {kvs : List (Key × V)} (h : Low S as kvs) {a : Int} (m : a ∈ as) : valV kvs (kInt a) = some (.int (bOf kvs a)) ∧ lnOf kvs a ∈ S ∧ ∀ l ∈ S, l.1 = a → bOf kvs a ≤ l.2 := by
  obtain ⟨b, e1, e2, e3⟩ := h.at_ a m
  unfold lnOf
  rw [bOf_at e1]
  exact ⟨e1, e2, e3⟩
theorem desc_of {zs as : List Int} (p : zs.Perm as) (nd : as.Nodup) (h : OrdB true zs) : zs.Pairwise (· > ·) := by
  have h1 : zs.Pairwise (· ≥ ·) := h
  have h2 : zs.Pairwise (· ≠ ·) := p.nodup_iff.mpr nd
  exact (h1.and h2).imp fun {a b} z => by
    obtain ⟨z1, z2⟩ := z
    have z1 : b ≤ a := z1
    show b < a
    omega
/-- lines that stand as tuples -/
structure LinesAt (H : Hp) (xs : List V) (ls : List Ln) : Prop where
  len : xs.length = ls.length
  at_ : ∀ (i : Nat) (x : V) (l : Ln), xs[i]? = some x → ls[i]? = some l → ∃ t, x = .ref t ∧ H t = some (.tup [.int l.1, .int l.2])
theorem lines_nil {H : Hp} : LinesAt H [] [] := ⟨rfl, fun _ _ _ e => nomatch e⟩
theorem LinesAt.get {H : Hp} {xs : List V} {ls : List Ln} (h : LinesAt H xs ls) {i : Nat} {l : Ln} (e : ls[i]? = some l) : ∃ t, xs[i]? = some (.ref t) ∧ H t = some (.tup [.int l.1, .int l.2]) := by
  have li : i < xs.length := by
    rw [h.len]
    exact (List.getElem?_eq_some_iff.mp e).1
  obtain ⟨t, e1, e2⟩ := h.at_ i _ l (List.getElem?_eq_getElem li) e
  exact ⟨t, by rw [List.getElem?_eq_getElem li, e1], e2⟩
theorem LinesAt.ext {H H1 : Hp} {xs : List V} {ls : List Ln} (h : LinesAt H xs ls) (s : ∀ t ys, H t = some (.tup ys) → H1 t = some (.tup ys)) : LinesAt H1 xs ls := ⟨h.len, fun i x l e1 e2 => by
  obtain ⟨t, e, f⟩ := h.at_ i x l e1 e2
  exact ⟨t, e, s _ _ f⟩⟩
theorem LinesAt.add {H : Hp} {xs : List V} {ls : List Ln} (h : LinesAt H xs ls) {t : Addr} {l : Ln} (e : H t = some (.tup [.int l.1, .int l.2])) : LinesAt H (xs ++ [.ref t]) (ls ++ [l]) := by
  refine ⟨by rw [List.length_append, List.length_append, h.len]; rfl, fun i x m e1 e2 => ?_⟩
  by_cases c : i < ls.length
  · rw [List.getElem?_append_left (by rw [h.len]; exact c)] at e1
    rw [List.getElem?_append_left c] at e2
    exact h.at_ i x m e1 e2
  · have li := (List.getElem?_eq_some_iff.mp e2).1
    rw [List.length_append] at li
    have li : i < ls.length + 1 := li
    have hi : i = ls.length := by omega
    rw [List.getElem?_append_right (by rw [h.len]; omega), h.len, hi, Nat.sub_self] at e1
    rw [List.getElem?_append_right (by omega), hi, Nat.sub_self] at e2
    cases e1
    cases e2
    exact ⟨t, rfl, e⟩
theorem LinesAt.drop {H : Hp} {xs : List V} {ls : List Ln} {l : Ln} (h : LinesAt H xs (ls ++ [l])) : ∃ ys t, xs = ys ++ [.ref t] ∧ LinesAt H ys ls ∧ H t = some (.tup [.int l.1, .int l.2]) := by
  rcases List.eq_nil_or_concat xs with rfl | ⟨ys, x, rfl⟩
  · have := h.len
    rw [List.length_append] at this
    cases this
  · rw [List.concat_eq_append] at h ⊢
    have hl : ys.length = ls.length := by
      have := h.len
      rw [List.length_append, List.length_append] at this
      exact Nat.succ.inj this
    obtain ⟨t, e1, e2⟩ := h.at_ ls.length x l (by rw [← hl]; exact List.getElem?_concat_length ..) (List.getElem?_concat_length ..)
    subst e1
    refine ⟨ys, t, rfl, ⟨hl, fun i y m f1 f2 => h.at_ i y m ?_ ?_⟩, e2⟩
    · rw [List.getElem?_append_left (List.getElem?_eq_some_iff.mp f1).1]
      exact f1
    · rw [List.getElem?_append_left (List.getElem?_eq_some_iff.mp f2).1]
      exact f2
theorem atI_two {α : Type} (xs : List α) (u v : α) : atI (xs ++ [u] ++ [v]) (-2) = some u := by
  have hl : (xs ++ [u] ++ [v]).length = xs.length + 2 := by simp
  have e : ixN (xs ++ [u] ++ [v]).length (-2) = some xs.length := by
    unfold ixN
    rw [hl, if_neg (by decide), if_pos (by omega)]
    congr 1
    omega
  unfold atI
  rw [e]
  show (xs ++ [u] ++ [v])[xs.length]? = some u
  rw [List.append_assoc, List.getElem?_append_right (Nat.le_refl _), Nat.sub_self]
  rfl
theorem same_kp {cs : List Addr} {H0 H H1 : Hp} (s : Same H0 H) (k : Kp cs H H1) (f : ∀ x ∈ cs, Fr H0 x) : Same H0 H1 := fun b o e => k.at_ b o (s b o e) fun m => ne_of_none e (f b m).h rfl
theorem last_at {α : Type} (xs : List α) (v : α) : (xs ++ [v])[(xs ++ [v]).length - 1]? = some v := by
  rw [List.length_append]
  exact List.getElem?_concat_length ..
theorem two_of {α : Type} {k : List α} (h : 2 ≤ k.length) : ∃ k0 l m, k = k0 ++ [l] ++ [m] := by
  rcases List.eq_nil_or_concat k with rfl | ⟨k1, m, rfl⟩
  · exact absurd (show 2 ≤ 0 from h) (by omega)
  · rcases List.eq_nil_or_concat k1 with rfl | ⟨k0, l, rfl⟩
    · exact absurd (show 2 ≤ 1 from h) (by omega)
    · exact ⟨k0, l, m, by rw [List.concat_eq_append, List.concat_eq_append]⟩
def lenOf (o : Option HO) : Nat := match o with
  | some (.lst xs) => xs.length
  | _ => 0
/-- what holds of a block of lines -/
structure LBlk (H : Hp) (p : Addr) (ls k : List Ln) : Prop where
  at_ : ∃ xs, H p = some (.tup xs) ∧ LinesAt H xs k
  sub : ∀ l ∈ k, l ∈ ls
  hull : ∃ S, Hull S k
  dom : ∀ l ∈ ls, ∀ x, ∃ m ∈ k, val m x ≤ val l x
  len : k.length ≤ ls.length
theorem hull_nil : Hull [] [] := ⟨(fun _ m => nomatch m), List.Pairwise.nil, (fun _ _ _ _ e => nomatch e), fun _ m => nomatch m⟩
section
variable {P : Program} {w : World} {K : PySem.W.Frag} {mg : Str → Option Value} {base : Heap}
def spSorted (K : PySem.W.Frag) : Sp := fun vs H Q _ => ∃ (a : Addr) (ns : List Int), vs = [.ref a] ∧ SqL K H a (ns.map V.int) ∧
  ∀ (ns' : List Int) (p : Addr) (H' : Hp), ns'.Perm ns → ns'.Pairwise (· ≤ ·) → Fr H p → Same H H' → H' p = some (.tup (ns'.map V.int)) → Q (.ref p) H'
theorem ok_sortedB (T : Txt K mg) : FnOk P w K mg base CX0 1 T.f_sorted_block T.d_sorted_block ["integers"] (spSorted K) := by
  refine T.F_sorted_block.ok sc_sorted_block (fun vs H Q E h => ?_) (fun cdv A outer s H vs Q E hr h => ?_)
  · obtain ⟨a, ns, rfl, _⟩ := h
    rfl
  · obtain ⟨a, ns, rfl, h1, q⟩ := h
    refine ⟨_, (pss_one (ps_ret (pe_callTy call_tuple_of (by rfl) T.z_tuple (by decide +kernel) (pa_cons (pe_callB (r := rSortedI K) cr_sortedI (by rfl) T.z_sorted (by decide +kernel) (pa_cons (pv 0) pa_nil)) pa_nil)))), ?_⟩
    refine ⟨_, rfl, a, ns, rfl, h1, fun ns' o pm pw no => ?_⟩
    have no' := Fr.mk no
    refine ⟨o, _, rfl, .inl ⟨sqlOf upd_same, fun p np => ?_⟩⟩
    have np' := Fr.mk np
    exact q ns' p _ pm pw (Fr.mk ((same_newF no').free np)) ((same_newF no').trans (same_newF np')) upd_same
def spLines (K : PySem.W.Frag) : Sp := fun vs H Q _ => ∃ (a : Addr) (xs : List V) (ls : List Ln), vs = [.ref a] ∧ SqL K H a xs ∧ LinesAt H xs ls ∧ (∀ l ∈ ls, l.1.natAbs < 2 ^ 62) ∧ ls.length ≤ 1000 ∧
  ∀ (p : Addr) (k : List Ln) (H' : Hp), Fr H p → Same H H' → LBlk H' p ls k → Q (.ref p) H'
theorem ok_linesB (T : Txt K mg) : FnOk P w K mg base CX0 2 T.f_lines_block T.d_lines_block ["lines"] (spLines K) := by
  have G_is_hidden := ok_hid (P := P) (w := w) (base := base) T
  refine T.F_lines_block.ok sc_lines_block (fun vs H Q E h => ?_) (fun cdv A outer s H vs Q E hr h => ?_)
  · obtain ⟨a, xs, ls, rfl, _⟩ := h
    rfl
  · obtain ⟨a, xs, ls, rfl, h1, h2, hb, hl, q⟩ := h
    refine ⟨_, (pss_cons (ps_set (i := 1) sc_lines_block.nd rfl (.inl rfl) pe_dnewK)
      (pss_cons (ps_for PassesOwn.never rfl (pi_list (pv 0)) (pg_tup (by rfl) (pgs_cons (pg_name (i := 2) sc_lines_block.nd rfl (.inl rfl)) (pgs_cons (pg_name (i := 3) sc_lines_block.nd rfl (.inl rfl)) pgs_nil))) (pss_one (ps_dput (hu_of hr) (pv 1) (pv 2) (pe_callB (call_min2 rfl) (by rfl) T.z_min (by decide +kernel) (pa_cons (pv 3) (pa_cons (pe_dget2 (hu_of hr) (pv 1) (pv 2) (pv 3) ⟨rfl, rfl, rfl, rfl⟩) pa_nil))) rfl)))
      (pss_cons (ps_set (i := 4) sc_lines_block.nd rfl (.inl rfl) (pe_lst pa_nil))
      (pss_cons (ps_for PassesOwn.never rfl (pi_list (pe_callBK (cr_sortedRev (b := true)) (by rfl) T.z_sorted (by decide +kernel) (pa_cons (pe_callTy (call_list_dK rfl) (by rfl) T.z_list (by decide +kernel) (pa_cons (pv 1) pa_nil)) pa_nil) (pk_cons pe_bl pk_nil))) (pg_name (i := 2) sc_lines_block.nd rfl (.inl rfl)) (pss_cons (ps_set (i := 5) sc_lines_block.nd rfl (.inl rfl) (pe_tup (pa_cons (pv 2) (pa_cons (pe_dget (hu_of hr) (pv 1) (pv 2) (fun _ _ => rfl)) pa_nil))))
        (pss_cons (ps_while PassesOwn.never (PW.pt (pw_and (pt_cmpR op_ge (pe_callB call_len_seq (by rfl) T.z_len (by decide +kernel) (pa_cons (pv 4) pa_nil)) pe_int (nomark _)) (pw_and1 (pt_val (pe_call G_is_hidden (hr.mono (by omega)) rfl T.g_is_hidden T.F_is_hidden.kp T.b_is_hidden .nil pass0 (pa_cons (pe_ix (r := rIxL K) ix_list (pv 4) (pe_un un_neg pe_int) (fun _ _ => rfl)) (pa_cons (pe_ix (r := rIxL K) ix_list (pv 4) (pe_un un_neg pe_int) (fun _ _ => rfl)) (pa_cons (pv 5) pa_nil)))))))) (pss_one (ps_expr (pe_bm0 PySem.F.plainAttrs_list PySem.F.slot_list_pop PySem.F.type_list_pop mt_pop (pv 4)))))
        (pss_one (ps_expr (pe_bm PySem.F.plainAttrs_list PySem.F.slot_list_append PySem.F.type_list_append mt_append (pv 4) (pa_cons (pv 5) pa_nil)))))))
      (pss_one (ps_ret (pe_callTy call_tuple_of (by rfl) T.z_tuple (by decide +kernel) (pa_cons (pv 4) pa_nil)))))))), ?_⟩
    intro d nd
    have fd : Fr H d := Fr.mk nd
    refine ⟨_, rfl, a, rfl, ⟨_, (same_newF fd).seq h1⟩, ?_⟩
    refine for_list (xs := xs) (fun i σ H' => ∃ y2 y3, σ = [some (.ref a), some (.ref d), y2, y3, none, none] ∧ ∃ (as : List Int) (kvs : List (Key × V)), H' d = some (.dK kvs) ∧ Low (ls.take i) as kvs ∧ kvs.length ≤ i ∧ Same H H') ⟨_, _, rfl, [], [], upd_same, low_nil, Nat.le_refl _, same_newF fd⟩ ?_ ?_ ?_
    · rintro i σ H' _ ⟨y2, y3, rfl, as, kvs, e1, e2, e3, s1⟩
      exact s1.seq h1
    · rintro i x σ H' hx ⟨y2, y3, rfl, as, kvs, e1, e2, e3, s1⟩
      have li : i < ls.length := by
        rw [← h2.len]
        exact (List.getElem?_eq_some_iff.mp hx).1
      have hli : ls[i]? = some ls[i] := List.getElem?_eq_getElem li
      generalize ls[i] = l at hli
      obtain ⟨t, rfl, ht⟩ := h2.at_ i x l hx hli
      have ht' := s1 _ _ ht
      obtain ⟨j, as', ej, lw⟩ := e2.put l.1 l.2
      have hP : DPut H' d (.int l.1) (.int (if j < l.2 then j else l.2)) (upd H' d (.dK (putK kvs (kInt l.1) (.int (if j < l.2 then j else l.2))))) := DPut.k (k := kInt l.1) e1 (by rw [sizeLine_eq]; omega)
      have hG : DGet H' d (.int l.1) (valV kvs (kInt l.1)) := DGet.k (k := kInt l.1) e1
      refine ⟨t, _, rfl, sqtOf ht', rfl, _, _, rfl, _, _, rfl, rfl, ?_⟩
      refine ⟨_, rfl, _, rfl, d, rfl, .inl ⟨kvs, .inl e1⟩, _, rfl, _, rfl, _, hG, l.2, j, by rw [ej], ?_⟩
      refine ⟨_, rfl, _, rfl, d, _, rfl, hP, _, _, rfl, as', _, upd_same, ?_, ?_, same_putG fd s1⟩
      · rw [List.take_succ, hli]
        exact lw
      · exact Nat.le_trans (length_putK _ _ _) (by omega)
    · rintro σ H1 ⟨y2, y3, rfl, as, kvs, e1, e2, e3, s1⟩
      rw [h2.len, List.take_length] at e2
      refine ⟨Nat.zero_le _, fun kp nkp => ?_⟩
      have fkp := Fr.mk nkp
      have e1' : upd H1 kp (.lst []) d = some (.dK kvs) := by kp_flats
      refine ⟨_, rfl, d, kvs, rfl, e1', fun q1 nq1 => ?_⟩
      have fq1 := Fr.mk nq1
      have ek : (kvs.map fun kv => kV kv.1) = as.map V.int := by
        have := congrArg (List.map kV) e2.keys
        rw [List.map_map, List.map_map] at this
        exact this
      rw [ek]
      refine ⟨q1, as, rfl, rfl, sqlOf upd_same, fun zs p pm od np => ?_⟩
      have fp := Fr.mk np
      have dz := desc_of pm e2.nd od
      have n1 : d ≠ kp := neN fkp e1
      have n2 : kp ≠ q1 := neN fq1 upd_same
      have n3 : d ≠ q1 := neN fq1 e1'
      have n4 : kp ≠ p := neN fp (atNe n2 upd_same)
      have n5 : d ≠ p := neN fp (atNe n3 e1')
      have eB : upd (upd (upd H1 kp (.lst [])) q1 (.lst (as.map V.int))) p (.lst (zs.map V.int)) kp = some (.lst []) := by kp_flats
      have eD : upd (upd (upd H1 kp (.lst [])) q1 (.lst (as.map V.int))) p (.lst (zs.map V.int)) d = some (.dK kvs) := by kp_flats
      have sB : Same H (upd (upd (upd H1 kp (.lst [])) q1 (.lst (as.map V.int))) p (.lst (zs.map V.int))) := by kd_subs
      have eP : upd (upd (upd H1 kp (.lst [])) q1 (.lst (as.map V.int))) p (.lst (zs.map V.int)) p = some (.lst (zs.map V.int)) := upd_same
      have fK : Fr H kp := Fr.mk (s1.free nkp)
      generalize upd (upd (upd H1 kp (.lst [])) q1 (.lst (as.map V.int))) p (.lst (zs.map V.int)) = HB at eB eD sB eP ⊢
      have inL : ∀ {z : Int}, z ∈ zs → valV kvs (kInt z) = some (.int (bOf kvs z)) ∧ lnOf kvs z ∈ ls ∧ ∀ l ∈ ls, l.1 = z → bOf kvs z ≤ l.2 := fun m => e2.b (pm.mem_iff.mp m)
      have inS : ∀ {i : Nat} {l : Ln}, l ∈ (zs.take i).map (lnOf kvs) → l ∈ ls := fun m => by
        obtain ⟨z, mz, rfl⟩ := List.mem_map.mp m
        exact (inL (List.mem_of_mem_take mz)).2.1
      refine ⟨p, rfl, ⟨_, sqlOf eP⟩, ?_⟩
      refine for_list (xs := zs.map V.int) (fun i σ H' => ∃ y2 y5, σ = [some (.ref a), some (.ref d), y2, y3, some (.ref kp), y5] ∧ ∃ (ks : List V) (k : List Ln), H' kp = some (.lst ks) ∧ LinesAt H' ks k ∧ Hull ((zs.take i).map (lnOf kvs)) k ∧ k.length ≤ i ∧ Kp [kp] HB H') ⟨_, _, rfl, [], [], eB, lines_nil, hull_nil, Nat.le_refl _, kp_refl _ _⟩ ?_ ?_ ?_
      · rintro i σ H' _ ⟨y2, y5, rfl, ks, k, g1, g2, g3, g5, g4⟩
        exact sqlOf (g4.at_ _ _ eP (not_cons (Ne.symm n4) not_nil))
      · rintro i x σ H' hx ⟨y2, y5, rfl, ks, k, g1, g2, g3, g5, g4⟩
        rw [List.getElem?_map] at hx
        obtain ⟨z, hz, rfl⟩ := Option.map_eq_some_iff.mp hx
        obtain ⟨v1, v2, v3⟩ := inL (List.mem_of_getElem? hz)
        have li : i < zs.length := (List.getElem?_eq_some_iff.mp hz).1
        have lz : zs.length ≤ 1000 := by
          rw [pm.length_eq]
          have := congrArg List.length e2.keys
          rw [List.length_map, List.length_map] at this
          have := h2.len
          omega
        have eD' : H' d = some (.dK kvs) := g4.at_ _ _ eD (not_cons n1 not_nil)
        have hG : DGet H' d (.int z) (some (.int (bOf kvs z))) := by
          rw [← v1]
          exact DGet.k (k := kInt z) eD'
        refine ⟨_, rfl, _, rfl, _, rfl, d, _, rfl, hG, le2, fun t nt => ?_⟩
        have ft := Fr.mk nt
        have gt := neN ft g1
        have pd0 : Pend ((zs.take i).map (lnOf kvs)) k (lnOf kvs z) := g3.pend fun m mm => by
          obtain ⟨u, mu, rfl⟩ := List.mem_map.mp mm
          obtain ⟨j, hj⟩ := List.mem_iff_getElem?.mp mu
          have lj := (List.getElem?_eq_some_iff.mp hj).1
          rw [List.length_take] at lj
          rw [List.getElem?_take_of_lt (by omega)] at hj
          have := (List.pairwise_iff_getElem.mp dz) j i (by omega) li (by omega)
          rw [(List.getElem?_eq_some_iff.mp hj).2, (List.getElem?_eq_some_iff.mp hz).2] at this
          exact this
        have fin : ∀ {H2 : Hp} {ks2 : List V} {k2 : List Ln}, H2 kp = some (.lst ks2) → LinesAt H2 ks2 k2 → Pend ((zs.take i).map (lnOf kvs)) k2 (lnOf kvs z) → H2 t = some (.tup [.int z, .int (bOf kvs z)]) → Kp [kp] HB H2 → k2.length ≤ i → (∀ k0 l m, k2 = k0 ++ [l] ++ [m] → hid l m (lnOf kvs z) = false) →
            ∃ (ks : List V) (k : List Ln), upd H2 kp (.lst (ks2 ++ [.ref t])) kp = some (.lst ks) ∧ LinesAt (upd H2 kp (.lst (ks2 ++ [.ref t]))) ks k ∧ Hull ((zs.take (i + 1)).map (lnOf kvs)) k ∧ k.length ≤ i + 1 ∧ Kp [kp] HB (upd H2 kp (.lst (ks2 ++ [.ref t]))) := fun {H2 ks2 k2} c1 c2 c3 c4 c5 c6 c7 => by
          refine ⟨_, k2 ++ [lnOf kvs z], upd_same, (c2.add (l := lnOf kvs z) c4).ext fun b ys e => (upd_ne fun w => by rw [w, c1] at e; cases e).trans e, ?_, by rw [List.length_append]; exact Nat.succ_le_succ c6, kp_up memA c5⟩
          rw [List.take_succ, hz, List.map_append]
          exact c3.push c7
        refine while_by (fun σ H2 => σ = [some (.ref a), some (.ref d), some (.int z), y3, some (.ref kp), some (.ref t)] ∧ ∃ (ks : List V) (k : List Ln), H2 kp = some (.lst ks) ∧ LinesAt H2 ks k ∧ Pend ((zs.take i).map (lnOf kvs)) k (lnOf kvs z) ∧ H2 t = some (.tup [.int z, .int (bOf kvs z)]) ∧ Kp [kp] HB H2 ∧ k.length ≤ i)
          (fun _ H2 => lenOf (H2 kp)) ⟨rfl, ks, k, atNew ft g1, g2.ext fun b ys e => atNew ft e, pd0, upd_same, kp_new ft g4, g5⟩ ?_ ?_
        · rintro σ H2 ⟨rfl, ks2, k2, c1, c2, c3, c4, c5, c6⟩
          have lk : ks2.length ≤ 1000 := by
            have := c2.len
            omega
          refine ⟨_, rfl, kp, ks2, rfl, .inl (sqlOf c1), _, _, rfl, rfl, _, rfl, ite2 (fun e => ?_) (fun e => ?_)⟩
          · have e1 := of_decide_eq_true e
            obtain ⟨k0, l, m, rfl⟩ := two_of (k := k2) (by have := c2.len; omega)
            obtain ⟨ks1, t2, rfl, d1, f2⟩ := c2.drop
            obtain ⟨ks0, t1, rfl, d2, f1⟩ := d1.drop
            have mL : l ∈ k0 ++ [l] ++ [m] := List.mem_append_left _ (List.mem_append_right _ (List.mem_singleton.mpr rfl))
            have mM : m ∈ k0 ++ [l] ++ [m] := List.mem_append_right _ (List.mem_singleton.mpr rfl)
            refine ⟨_, rfl, 2, rfl, kp, _, -2, _, rfl, rfl, sqlOf c1, atI_two _ _ _, _, rfl, 1, rfl, kp, _, -1, _, rfl, rfl, sqlOf c1, atI_last _ _, _, rfl, ?_⟩
            refine ⟨t1, t2, t, l, m, lnOf kvs z, rfl, f1, f2, c4, ⟨hb _ (inS (c3.sub _ mL)), hb _ (inS (c3.sub _ mM)), hb _ v2⟩, _, rfl, ?_⟩
            cases hh : hid l m (lnOf kvs z) with
            | true =>
              refine ifT rfl ?_
              have la := last_at (ks0 ++ [V.ref t1]) (V.ref t2)
              o_readsAll
              rw [List.dropLast_concat]
              have ng : t ≠ kp := Ne.symm gt
              refine ⟨⟨rfl, ks0 ++ [.ref t1], k0 ++ [l], upd_same, d1.ext fun b ys e => (upd_ne fun w => by rw [w, c1] at e; cases e).trans e, c3.pop hh, (upd_ne ng).trans c4, kp_up memA c5, ?_⟩, ?_⟩
              · rw [List.length_append (as := k0 ++ [l])] at c6
                exact Nat.le_of_succ_le c6
              · show lenOf (upd H2 kp _ kp) < lenOf (H2 kp)
                rw [upd_same, c1]
                show (ks0 ++ [V.ref t1]).length < (ks0 ++ [V.ref t1] ++ [V.ref t2]).length
                rw [List.length_append (as := ks0 ++ [V.ref t1])]
                exact Nat.lt_succ_self _
            | false =>
              refine ifF rfl ?_
              have f7 := fin c1 c2 c3 c4 c5 c6 fun k1 l1 m1 e => by
                obtain ⟨e4, e5⟩ := List.append_inj' e rfl
                obtain ⟨_, e6⟩ := List.append_inj' e4 rfl
                rw [← (List.cons.inj e5).1, ← (List.cons.inj e6).1]
                exact hh
              have lsz : (ks0 ++ [V.ref t1] ++ [V.ref t2]).length < sizeLine := by rw [sizeLine_eq]; omega
              o_readsAll
              exact ⟨_, _, rfl, f7⟩
          · refine ifF rfl ?_
            have f7 := fin c1 c2 c3 c4 c5 c6 fun k1 l1 m1 e1 => by
              have := c2.len
              rw [e1, List.length_append, List.length_append] at this
              have this : ks2.length = k1.length + 1 + 1 := this
              exact absurd (decide_eq_true (show (2 : Int) ≤ (ks2.length : Int) by omega)) e
            have lsz : ks2.length < sizeLine := by rw [sizeLine_eq]; omega
            o_readsAll
            exact ⟨_, _, rfl, f7⟩
        · rintro σ H2 Q1 Q2 m ⟨x, hx, p1, ys, e1, e2, i1, j1, e3, e4, c, e5, h⟩
          refine ⟨x, hx, p1, ys, e1, e2, i1, j1, e3, e4, c, e5, ?_⟩
          cases c with
          | false => exact m _ _ h
          | true =>
            rw [if_pos rfl] at h ⊢
            obtain ⟨a1, b1, a2, b2, a3, a4, a5, a6, b3, b4, b5, b6, a7, b7, a8, b8, a9, a10, a11, a12, b9, b10, b11, b12, a13, b13, t1, t2, t3, l, mm, r, b14, f1, f2, f3, f4, cc, b15, q⟩ := h
            exact ⟨a1, b1, a2, b2, a3, a4, a5, a6, b3, b4, b5, b6, a7, b7, a8, b8, a9, a10, a11, a12, b9, b10, b11, b12, a13, b13, t1, t2, t3, l, mm, r, b14, f1, f2, f3, f4, cc, b15, m _ _ q⟩
      · rintro σ H' ⟨y2, y5, rfl, ks, k, g1, g2, g3, g5, g4⟩
        refine ⟨_, rfl, kp, ks, rfl, .inl ⟨sqlOf g1, fun o no => ?_⟩⟩
        have fo := Fr.mk no
        rw [List.length_map, List.take_length] at g3
        have s2 : Same H H' := same_kp sB g4 (subCons fK subNil)
        refine q o k _ (Fr.mk (s2.free no)) (s2.trans (same_newF fo)) ⟨⟨ks, upd_same, g2.ext fun b ys e => atNew fo e⟩, fun l m => ?_, ⟨_, g3⟩, fun l m x => ?_, ?_⟩
        · obtain ⟨z, mz, rfl⟩ := List.mem_map.mp (g3.sub l m)
          exact (inL mz).2.1
        · have mz : l.1 ∈ zs := pm.mem_iff.mpr (e2.all l m)
          obtain ⟨u, mu, lu⟩ := g3.dom _ (List.mem_map.mpr ⟨l.1, mz, rfl⟩) x
          have b1 := (inL mz).2.2 l m rfl
          refine ⟨u, mu, Int.le_trans lu ?_⟩
          show l.1 * x + bOf kvs l.1 ≤ l.1 * x + l.2
          omega
        · have z1 := pm.length_eq
          have z2 := congrArg List.length e2.keys
          rw [List.length_map, List.length_map] at z2
          rw [List.length_map] at g5
          have := h2.len
          omega
end
end Ob

set_option Elab.async false
set_option linter.all false
set_option maxRecDepth 100000
set_option maxHeartbeats 1000000
namespace Ob
open PySem PySem.Spec PyProof.Rows L2
open LamX (Tabs TabB TabS ExtN)

set_option hygiene false in
local macro_rules
  | `(tactic| kp_flats) => `(tactic| first
    | assumption
    | exact upd_same
    | (apply atNew; assumption; kp_flats)
    | (apply atNe; (next => kbo_bools); kp_flats)
    | (apply atSame; assumption; kp_flats)
    | (apply atKp; assumption; (next => kaf_pre); kp_flats))
set_option hygiene false in
local macro_rules
  | `(tactic| kaf_pre) => `(tactic| first
    | assumption
    | exact not_nil
    | (apply not_cons; (next => kbo_bools); kaf_pre)
    | (apply not_app; (next => kaf_pre); kaf_pre))
set_option hygiene false in
local macro_rules
  | `(tactic| kbo_bools) => `(tactic| first
    | assumption
    | (apply Ne.symm; assumption)
    | (apply neN; assumption; kp_flats)
    | (apply neN'; assumption; kp_flats))
set_option hygiene false in
local macro_rules
  | `(tactic| o_reads) => `(tactic| first
    | with_reducible rfl
    | assumption
    | rfl
    | kp_flats
    | (show SqL _ _ _ _; first | assumption | (apply sqlOf; kp_flats) | (apply sqlSame; assumption; o_reads))
    | (show SqT _ _ _ _; first | assumption | (apply sqtOf; kp_flats) | (apply sqtAll; assumption) | (apply sqtSame; assumption; o_reads))
    | (show Cls _ _; first | skip)
    | (show NoAttr _ _ _; first | skip)
    | (apply Or.inl; o_reads)
    | (apply Or.inr; o_reads)
    | (apply And.intro; (next => o_reads); o_reads)
    | (apply Exists.intro; o_reads)
    | exact Nat.le_of_ble_eq_true rfl
    | exact Nat.succ_ne_zero _
    | (show Fr _ _; kba_ints)
    | (show Same _ _; kd_subs)
    | (show Kp _ _ _; kxs_still)
    | (show (_ : Nat) ≤ _; simp only [List.length_append, List.length_map, List.length_cons, List.length_nil, List.length_take, List.length_drop, List.length_replicate, List.length_range, sizeLine_eq]; omega)
    | (show _ = none; apply Fr.h; kba_ints)
    | (show Bag _ _; first | assumption | (apply bag_putF; assumption; o_reads) | (apply bag_neF; (next => kbo_bools); o_reads) | (apply bag_kpR; assumption; (next => kaf_pre); o_reads))
    | omega
    | decide)
local macro_rules
  | `(tactic| o_readsAll) => `(tactic| repeat (first
    | (refine fun (pNew : Addr) (nNew : _ = none) => ?_; replace nNew := Fr.mk nNew)
    | (refine fun (xNew dNew : Addr) (nNew : _ = none) (mNew : _ = none) (eNew : dNew ≠ xNew) => ?_; replace nNew := Fr.mk nNew; replace mNew := Fr.mk mNew)
    | (apply And.intro; next => o_reads)
    | apply Exists.intro (α := V)
    | apply Exists.intro (α := Addr)
    | apply Exists.intro (α := Int)
    | apply Exists.intro (α := Bool)
    | apply Exists.intro (α := List V)
    | apply Exists.intro (α := List Nat)
    | apply Exists.intro (α := List (Str × V))
    | apply Exists.intro (α := List _)
    | apply Exists.intro (α := Str)
    | apply Exists.intro (α := HO)
    | apply Exists.intro (α := Sp)
    | apply Exists.intro (α := VK)))
set_option hygiene false in
local macro_rules
  | `(tactic| kba_ints) => `(tactic| first
    | assumption
    | (apply frUp; (first | assumption | (apply Ne.symm; assumption)); kba_ints)
    | (apply noneOf; assumption; intro oF eF; apply Exists.intro; kp_flats)
    | (apply frUp; (next => kbo_bools); kba_ints))
set_option hygiene false in
local macro_rules
  | `(tactic| kxs_still) => `(tactic| first
    | assumption
    | exact kp_refl _ _
    | (apply kp_newF; assumption; kxs_still)
    | (apply kp_new; assumption; kxs_still)
    | (apply kp_up; (next => o_fieldsN); kxs_still)
    | (apply kp_new; (next => kba_ints); kxs_still)
    | (apply kp_sameR; assumption; kxs_still)
    | (apply kp_transR; assumption; kxs_still)
    | (apply kp_freshR; assumption; (next => kaf_suf); kxs_still))
set_option hygiene false in
local macro_rules
  | `(tactic| kaf_suf) => `(tactic| first
    | assumption
    | exact subNil
    | (apply subCons; (first | (apply Or.inl; o_fieldsN) | (apply Or.inr; kba_ints)); kaf_suf)
    | (apply subApp; (next => kaf_suf); kaf_suf))
set_option hygiene false in
local macro_rules
  | `(tactic| o_fieldsN) => `(tactic| first
    | assumption
    | exact memA
    | (apply memB; o_fieldsN)
    | (apply memL; o_fieldsN)
    | (apply memR; o_fieldsN))
set_option hygiene false in
local macro_rules
  | `(tactic| kd_subs) => `(tactic| first
    | assumption
    | exact Same.refl _
    | (apply same_putF; assumption; kd_subs)
    | (apply same_putG; assumption; kd_subs)
    | (apply same_putF; (next => kba_ints); kd_subs)
    | (apply same_transR; assumption; kd_subs))

set_option pp.maxSteps 900
open NdefX (TabsN)
/-! ### the least value -/
def qA : Str := ("least_at" : Str) ++ ".<locals>." ++ "<lambda>"
def LA (cl : List (Str × Addr)) (c : Addr) : Inf.LF := lamF qA cl c (lamOf ((defBody s_least_at).getD 0 (.Pass ⟨0, 0, 0, 0⟩)) 1)
abbrev frA : List Str := ["block", "x"]
theorem cellA : ∀ y ∈ frA, (defScope s_least_at).names.lookup y = some .cell := by decide +kernel
theorem scA : NdefX.NScope ["left", "block", "x"] ["left"] frA (LA [] 0).scope := NdefX.nscope_by (by decide +kernel)
theorem LinesAt.cut {H : Hp} {cs : List Addr} {xs : List V} {ls : List Ln} (h : LinesAt H xs ls) (n : ∀ b o, H b = some o → (∀ φ, o ≠ .ext φ) → b ∉ cs) : LinesAt (Inf.cut cs H) xs ls := h.ext fun t ys e => (Inf.cut_out (n _ _ e (fun _ z => nomatch z))).trans e
section
variable {P : Program} {w : World} {K : PySem.W.Frag} {mg : Str → Option Value} {base : Heap}
def spLA : List (Option V) → Sp := fun ws vs H Q _ => ∃ (t : Addr) (xs : List V) (k : List Ln) (i : Nat) (x : Int), ws = [some (.ref t), some (.int x)] ∧ vs = [.int (i : Int)] ∧ H t = some (.tup xs) ∧ LinesAt H xs k ∧ (∀ l ∈ k, l.1.natAbs < 2 ^ 62) ∧ i + 1 < k.length ∧ Q (.bl (lowAt k x i)) H
theorem lamA (T : Txt K mg) {cl : List (Str × Addr)} {c f : Addr} : FnR P w K mg base CX0 2 f (fun vs H Q E => ∃ ws, Inf.LClo H f (LA cl c) frA ws ∧ spLA (ws.map some) vs (Inf.cut (Inf.cellsOf (LA cl c).nf frA) H) (fun v H1 => (∀ b, b ∈ Inf.cellsOf (LA cl c).nf frA → H1 b = Option.none) → Q v (Inf.mend (Inf.cellsOf (LA cl c).nf frA) H H1)) E) := by
  have G_value_at := ok_val (P := P) (w := w) (base := base) T
  refine Inf.lam_cloR (k := 1) (N := ["left", "block", "x"]) (ps := ["left"]) scA (fun _ _ us hl => match us, hl with | [_], _ => rfl) (fun ws vs H Q E h => ?_) (fun A outer s H vs ws Q E hr hl h => ?_)
  · obtain ⟨t, xs, k, i, x, rfl, rfl, _⟩ := h
    rfl
  · obtain ⟨t, xs, k, i, x, rfl, rfl, h1, h2, hb, li, q⟩ := h
    refine ⟨_, pe_cmpR op_le (pe_call G_value_at hr rfl T.g_value_at T.F_value_at.kp (T.b_value_at) .nil pass0 (pa_cons (pe_ix (r := rIxT K) ix_tup (pv 1) (pe_op op_add (pv 0) pe_int) (fun _ _ => rfl)) (pa_cons (pv 2) pa_nil))) (pe_call G_value_at hr rfl T.g_value_at T.F_value_at.kp (T.b_value_at) .nil pass0 (pa_cons (pe_ix (r := rIxT K) ix_tup (pv 1) (pv 0) (fun _ _ => rfl)) (pa_cons (pv 2) pa_nil))) (nomark _), ?_⟩
    obtain ⟨t1, e1, f1⟩ := h2.get (getD_at (k := k) (i := i + 1) li)
    obtain ⟨t0, e0, f0⟩ := h2.get (getD_at (k := k) (i := i) (by omega))
    have b1 : (k.getD (i + 1) (0, 0)).1.natAbs < 2 ^ 62 := hb _ (List.mem_of_getElem? (getD_at (k := k) (i := i + 1) li))
    have b0 : (k.getD i (0, 0)).1.natAbs < 2 ^ 62 := hb _ (List.mem_of_getElem? (getD_at (k := k) (i := i) (by omega)))
    refine ⟨_, rfl, _, rfl, _, _, rfl, rfl, t, _, _, _, rfl, rfl, sqtOf h1, atI_nat (j := i + 1) e1, _, rfl, ?_⟩
    refine ⟨t1, _, _, x, rfl, f1, b1, ?_⟩
    refine ⟨_, rfl, _, rfl, t, _, _, _, rfl, rfl, sqtOf h1, atI_nat (j := i) e0, _, rfl, ?_⟩
    refine ⟨t0, _, _, x, rfl, f0, b0, ?_⟩
    exact ⟨_, _, rfl, rfl, q⟩
theorem tellsA (T : Txt K mg) {HT : Hp} {f c t : Addr} {cl : List (Str × Addr)} {xs : List V} {k : List Ln} {x : Int} (L : Inf.LClo HT f (LA cl c) frA [.ref t, .int x]) (h : HT t = some (.tup xs)) (hl : LinesAt HT xs k) (hb : ∀ l ∈ k, l.1.natAbs < 2 ^ 62) : Tells P w K mg base 2 f (k.length - 1) (lowAt k x) HT :=
  ⟨_, _, L.fn, Inf.lamHO, lamA T, fun i li Q2 q2 => ⟨_, L, t, xs, k, i, x, rfl, rfl, (Inf.cut_out (L.out h (fun _ z => nomatch z))).trans h, hl.cut fun b o e n => L.out e n, hb, by omega, fun _ => by
    rw [Inf.mend_cut]
    exact q2⟩⟩
def spLeast (T : Txt K mg) : Sp := fun vs H Q _ => ∃ (t : Addr) (xs : List V) (S k : List Ln) (x : Int), vs = [.ref t, .int x] ∧ H t = some (.tup xs) ∧ LinesAt H xs k ∧ Hull S k ∧ k ≠ [] ∧ (∀ l ∈ k, l.1.natAbs < 2 ^ 62) ∧ k.length ≤ 1000 ∧ TabsN (TT T) H ∧
  ∀ H' (m : Ln), TabsN (TT T) H' → Kp [T.p_least_at] H H' → (∀ b, H' b = none → H b = none) → m ∈ k → (∀ l ∈ k, val m x ≤ val l x) → Q (.int (val m x)) H'
theorem ok_least (T : Txt K mg) (TB : LamX.TabB base mg T.c_least_at T.p_least_at) : FnOk P w K mg base CX0 4 T.f_least_at T.d_least_at ["block", "x"] (spLeast T) := by
  have G_value_at := ok_val (P := P) (w := w) (base := base) T
  have G_count_leading := ok_lead (P := P) (w := w) (base := base) (n := 2) T
  refine T.F_least_at.ok sc_least_at (fun vs H Q E h => ?_) (fun A outer s H vs Q E hr h => ?_)
  · obtain ⟨t, xs, S, k, x, rfl, _⟩ := h
    rfl
  · obtain ⟨t, xs, S, k, x, rfl, h1, h2, hu, hk, hb, lk, hT, q⟩ := h
    refine ⟨_, (pss_cons (ps_set (i := 2) sc_least_at.nd rfl (.inl rfl) (Inf.pe_callT (fun _ => rfl) G_count_leading (hr.mono (by omega)) rfl T.g_count_leading T.F_count_leading.kp T.b_count_leading .nil (pa_cons (pe_op op_sub (pe_callB call_len_seq (by rfl) T.z_len (by decide +kernel) (pa_cons (pv 0) pa_nil)) pe_int) (pa_cons (Inf.pe_lamP (T := TT T) (nm := nm_least_at) (c := T.c_least_at) (P := T.p_least_at) TB rfl (hm_least_at T) rfl (hu_least_at T) rfl (NdefX.ndef_free (sc := defScope s_least_at) (fr := ["block", "x"]) (by decide +kernel))) pa_nil))))
      (pss_one (ps_ret (pe_call G_value_at (hr.mono (by omega)) rfl T.g_value_at T.F_value_at.kp T.b_value_at .nil pass0 (pa_cons (pe_ix (r := rIxT K) ix_tup (pv 0) (pv 2) (fun _ _ => rfl)) (pa_cons (pv 1) pa_nil)))))), ?_⟩
    have kl : k.length ≠ 0 := fun z => hk (List.length_eq_zero_iff.mp z)
    have up : ∀ {H1 HT : Hp} {u : Addr} {ys : List V}, (∀ b o, H b = some o → b ≠ T.p_least_at → H1 b = some o) → H u = some (.tup ys) → H1 u = some (.tup ys) := fun {H1 HT u ys} k1 e => k1 _ _ e (tab_ne hT (hm_least_at T) e (fun _ z => nomatch z))
    refine ⟨_, rfl, t, _, rfl, .inr (sqtOf h1), _, _, rfl, rfl, hT, fun f c' H1 k1 n1 hT1 nf hf hc cs HT tel => ?_⟩
    have e1 := up (HT := HT) k1 h1
    have l1 := h2.ext fun u ys e => up (HT := HT) k1 e
    refine ⟨k.length - 1, f, lowAt k x, ?_, by omega, low_mono hu x, tellsA T (tel.lclo (F := LA _ c') (js := [0, 1]) (ws := [.ref t, .int x]) scA rfl cellA rfl rfl hf hc) (tel.same _ _ e1) (l1.ext fun u ys e => tel.same _ _ e) hb, fun c lc g1 g2 => ⟨fun _ _ => rfl, ?_⟩⟩
    · show [V.int ((xs.length : Int) - 1), V.ref f] = [V.int ((k.length - 1 : Nat) : Int), V.ref f]
      have := h2.len
      rw [show ((xs.length : Int) - 1) = ((k.length - 1 : Nat) : Int) by omega]
    · rw [tel.back]
      have lc2 : c < k.length := by omega
      have gd := getD_at (k := k) (i := c) lc2
      obtain ⟨u, u1, u2⟩ := l1.get gd
      have mm := List.mem_of_getElem? gd
      refine ⟨_, rfl, _, rfl, t, _, _, _, rfl, rfl, sqtOf e1, atI_nat (j := c) u1, _, rfl, ?_⟩
      refine ⟨u, _, _, x, rfl, u2, hb _ mm, ?_⟩
      refine q H1 (k.getD c (0, 0)) hT1 ⟨fun b o e n => k1 b o e fun z => n (List.mem_singleton.mpr z)⟩ n1 mm fun l ml => ?_
      obtain ⟨j, hj⟩ := List.mem_iff_getElem?.mp ml
      have lj := (List.getElem?_eq_some_iff.mp hj).1
      have := low_min lc g1 g2 j lj
      rw [getD_at lj] at hj
      rw [← Option.some.inj hj]
      exact this
end
end Ob

set_option Elab.async false
set_option linter.all false
set_option maxRecDepth 100000
set_option maxHeartbeats 1000000
namespace Ob
open PySem PySem.Spec PyProof.Rows L2
open LamX (Tabs TabB TabS ExtN)

set_option hygiene false in
local macro_rules
  | `(tactic| kp_flats) => `(tactic| first
    | assumption
    | exact upd_same
    | (apply atNew; assumption; kp_flats)
    | (apply atNe; (next => kbo_bools); kp_flats)
    | (apply atSame; assumption; kp_flats)
    | (apply atKp; assumption; (next => kaf_pre); kp_flats))
set_option hygiene false in
local macro_rules
  | `(tactic| kaf_pre) => `(tactic| first
    | assumption
    | exact not_nil
    | (apply not_cons; (next => kbo_bools); kaf_pre)
    | (apply not_app; (next => kaf_pre); kaf_pre))
set_option hygiene false in
local macro_rules
  | `(tactic| kbo_bools) => `(tactic| first
    | assumption
    | (apply Ne.symm; assumption)
    | (apply neN; assumption; kp_flats)
    | (apply neN'; assumption; kp_flats))
set_option hygiene false in
local macro_rules
  | `(tactic| o_reads) => `(tactic| first
    | with_reducible rfl
    | assumption
    | rfl
    | kp_flats
    | (show SqL _ _ _ _; first | assumption | (apply sqlOf; kp_flats) | (apply sqlSame; assumption; o_reads))
    | (show SqT _ _ _ _; first | assumption | (apply sqtOf; kp_flats) | (apply sqtAll; assumption) | (apply sqtSame; assumption; o_reads))
    | (show Cls _ _; first | skip)
    | (show NoAttr _ _ _; first | skip)
    | (apply Or.inl; o_reads)
    | (apply Or.inr; o_reads)
    | (apply And.intro; (next => o_reads); o_reads)
    | (apply Exists.intro; o_reads)
    | exact Nat.le_of_ble_eq_true rfl
    | exact Nat.succ_ne_zero _
    | (show Fr _ _; kba_ints)
    | (show Same _ _; kd_subs)
    | (show Kp _ _ _; kxs_still)
    | (show (_ : Nat) ≤ _; simp only [List.length_append, List.length_map, List.length_cons, List.length_nil, List.length_take, List.length_drop, List.length_replicate, List.length_range, sizeLine_eq]; omega)
    | (show _ = none; apply Fr.h; kba_ints)
    | (show Bag _ _; first | assumption | (apply bag_putF; assumption; o_reads) | (apply bag_neF; (next => kbo_bools); o_reads) | (apply bag_kpR; assumption; (next => kaf_pre); o_reads))
    | omega
    | decide)
local macro_rules
  | `(tactic| o_readsAll) => `(tactic| repeat (first
    | (refine fun (pNew : Addr) (nNew : _ = none) => ?_; replace nNew := Fr.mk nNew)
    | (refine fun (xNew dNew : Addr) (nNew : _ = none) (mNew : _ = none) (eNew : dNew ≠ xNew) => ?_; replace nNew := Fr.mk nNew; replace mNew := Fr.mk mNew)
    | (apply And.intro; next => o_reads)
    | apply Exists.intro (α := V)
    | apply Exists.intro (α := Addr)
    | apply Exists.intro (α := Int)
    | apply Exists.intro (α := Bool)
    | apply Exists.intro (α := List V)
    | apply Exists.intro (α := List Nat)
    | apply Exists.intro (α := List (Str × V))
    | apply Exists.intro (α := List _)
    | apply Exists.intro (α := Str)
    | apply Exists.intro (α := HO)
    | apply Exists.intro (α := Sp)
    | apply Exists.intro (α := VK)))
set_option hygiene false in
local macro_rules
  | `(tactic| kba_ints) => `(tactic| first
    | assumption
    | (apply frUp; (first | assumption | (apply Ne.symm; assumption)); kba_ints)
    | (apply noneOf; assumption; intro oF eF; apply Exists.intro; kp_flats)
    | (apply frUp; (next => kbo_bools); kba_ints))
set_option hygiene false in
local macro_rules
  | `(tactic| kxs_still) => `(tactic| first
    | assumption
    | exact kp_refl _ _
    | (apply kp_newF; assumption; kxs_still)
    | (apply kp_new; assumption; kxs_still)
    | (apply kp_up; (next => o_fieldsN); kxs_still)
    | (apply kp_new; (next => kba_ints); kxs_still)
    | (apply kp_sameR; assumption; kxs_still)
    | (apply kp_transR; assumption; kxs_still)
    | (apply kp_freshR; assumption; (next => kaf_suf); kxs_still))
set_option hygiene false in
local macro_rules
  | `(tactic| kaf_suf) => `(tactic| first
    | assumption
    | exact subNil
    | (apply subCons; (first | (apply Or.inl; o_fieldsN) | (apply Or.inr; kba_ints)); kaf_suf)
    | (apply subApp; (next => kaf_suf); kaf_suf))
set_option hygiene false in
local macro_rules
  | `(tactic| o_fieldsN) => `(tactic| first
    | assumption
    | exact memA
    | (apply memB; o_fieldsN)
    | (apply memL; o_fieldsN)
    | (apply memR; o_fieldsN))
set_option hygiene false in
local macro_rules
  | `(tactic| kd_subs) => `(tactic| first
    | assumption
    | exact Same.refl _
    | (apply same_putF; assumption; kd_subs)
    | (apply same_putG; assumption; kd_subs)
    | (apply same_putF; (next => kba_ints); kd_subs)
    | (apply same_transR; assumption; kd_subs))

set_option pp.maxSteps 900
open NdefX (TabsN)
theorem kp_but {p : Addr} {H H1 : Hp} (b : But p H H1) : Kp [p] H H1 := ⟨fun c o e n => b c o e fun z => n (List.mem_singleton.mpr z)⟩
def spTakeK : Sp := fun vs H Q _ => ∃ (p : Addr) (m : Int), vs = [.ref p, .int m] ∧ Bag H p ∧ 0 < m ∧ m.natAbs < 2 ^ 200 ∧ ∀ r H', 0 ≤ r → r < m → Bag H' p → Kp [p] H H' → Q (.int r) H'
theorem ok_takeK {P : Program} {w : World} {K : PySem.W.Frag} {mg : Str → Option Value} {base : Heap} (T : Txt K mg) : FnOk P w K mg base CX0 1 T.f_l_take T.d_l_take ["_law_bag_here", "_law_many"] spTakeK := by
  have F := ok_take (P := P) (w := w) (base := base) T
  refine ⟨fun vs H Q E h => ?_, fun A outer s H args us vs Q E hr e0 hb r h => F.run A outer s H args us vs Q E hr e0 hb r ?_⟩
  · obtain ⟨p, m, rfl, _⟩ := h
    rfl
  · obtain ⟨p, m, e, h1, h2, h3, q⟩ := h
    exact ⟨p, m, e, h1, h2, h3, fun r H' a b c d => q r H' a b c (kp_but d)⟩
theorem bag_neF {p q : Addr} {H : Hp} {o : HO} (n : p ≠ q) (b : Bag H p) : Bag (upd H q o) p := by
  obtain ⟨g, m, c, e, z⟩ := b
  exact ⟨g, m, c, (upd_ne n).trans e, z⟩
theorem tabsN_kp {T : List NdefX.NTab} {cs : List Addr} {H H1 : Hp} (t : NdefX.TabsN T H) (k : Kp cs H H1) (n : ∀ a ∈ cs, ∃ o, H a = some o ∧ (∀ ps, o ≠ .tbl ps) ∧ ∀ φ, o ≠ .ext φ) : NdefX.TabsN T H1 := fun p hp => by
  obtain ⟨ps, h1, h2, h3⟩ := t p hp
  refine ⟨ps, k.at_ _ _ h1 (fun m => ?_), h2, fun pos cv hc => ?_⟩
  · obtain ⟨o, e, n1, _⟩ := n _ m
    rw [h1] at e
    exact n1 ps (Option.some.inj e).symm
  · obtain ⟨c, e1, e2⟩ := h3 pos cv hc
    refine ⟨c, e1, k.at_ _ _ e2 fun m => ?_⟩
    obtain ⟨o, e, _, n2⟩ := n _ m
    rw [e2] at e
    exact n2 _ (Option.some.inj e).symm

section
variable {P : Program} {w : World} {K : PySem.W.Frag} {mg : Str → Option Value} {base : Heap}
def spInt : Sp := fun vs H Q _ => ∃ (p : Addr) (W : Int), vs = [.ref p, .int W] ∧ Bag H p ∧ 0 ≤ W ∧ W ≤ 10 ^ 21 ∧ ∀ r H', -W ≤ r → r ≤ W → Bag H' p → Kp [p] H H' → Q (.int r) H'
theorem ok_int (T : Txt K mg) : FnOk P w K mg base CX0 2 T.f_l_integer T.d_l_integer ["_law_bag_here", "_law_wide"] spInt := by
  have G_l_take := ok_takeK (P := P) (w := w) (base := base) T
  refine T.F_l_integer.ok sc_l_integer (fun vs H Q E h => ?_) (fun cdv A outer s H vs Q E hr h => ?_)
  · obtain ⟨p, W, rfl, _⟩ := h
    rfl
  · obtain ⟨p, W, rfl, hb, w0, w1, q⟩ := h
    refine ⟨_, (pss_one (ps_ret (pe_op op_sub (pe_call G_l_take (hr.mono (by omega)) rfl T.g_l_take T.F_l_take.kp T.b_l_take .nil pass0 (pa_cons (pv 0) (pa_cons (pe_op op_add (pe_op op_mul pe_int (pv 1)) pe_int) pa_nil))) (pv 1)))), ?_⟩
    refine ⟨_, rfl, _, rfl, _, _, rfl, rfl, .inl ⟨by decide, by decide⟩, _, _, rfl, rfl, p, _, rfl, hb, by omega, by omega, fun r H' r0 r1 b1 k1 => ?_⟩
    exact ⟨_, rfl, _, _, rfl, rfl, q _ _ (by omega) (by omega) b1 k1⟩
end
/-! ### a call by keywords alone -/
section
variable {X : Cx} {CX : CXT} {k n : Nat} {f : Addr} {fd : FuncData} {ps ks : List Str} {sp : Sp} {E : XK} {x : Str} {p pos : Pos} {kws : List Keyword} {tk : TA} {g : List Value → List Value → List Value} {gV : List V → List V → List V}
theorem pe_kw0 (F : FnOk X.prog X.w X.K X.mg X.base CX k f fd ps sp) (hr : Room k X.A) (hg : Gl X x) (hm : X.mg x = some (.ref f))
    (hk : PySem.W.keepIn X.K (.ref f) = true) (hb : KBn X.K fd ps 0 ks g gV) (hx : Passes CX X E) (hkw : PK X kws tk)
    (hall : (backToKw pos (keywordEach kws X.env)).all (·.1.isSome) = true := by rfl)
    (hks : (backToKw pos (keywordEach kws X.env)).filterMap (·.1) = ks := by rfl) (hdb : (x == ("__debug__" : Str)) = false := by decide)
    (hpl : ((backTo pos (starEach [] X.env)).any (·.1) || (backToKw pos (keywordEach kws X.env)).any (·.1.isNone)) = false := by rfl) :
    PE X (.Call (.Name x p) [] kws pos) (tCallN 0 ks.length sp gV E tNil tk) :=
  ⟨fun pins s σ H Q I h => wpAny_Call_Name_kw (ld_glob I hg hm (PySem.W.callWith_KW0 (h₀ := X.base) I.ok.mod.kin hk hall
    (thn (hkw.run pos pins s σ H _ I h) fun ws s2 ⟨zs, H2, I2, rz, l1, l2, q2⟩ => ⟨I2.kIn, by rw [hks]; exact run_fnN (us := []) (vs := []) F hr hb hx I2 .nil rz l1 l2 q2⟩) hpl) hdb)⟩
end
theorem kb_one {K : PySem.W.Frag} {x qual : Str} {st : Stmt} {f : Addr} {fd : FuncData} {n : Str} (F : Fun K x qual st f fd)
    (h : ∀ (kV doc pm : Value) (an : Option Addr) (cdv ct v : Value), bindArgs (PySem.W.fnOf x qual (defArgs st) (defBody st) (defScope st) .none kV doc pm an cdv ct) ⟨[], [(n, v)]⟩ = pure [(n, v)]) :
    KBn K fd [n] 0 [n] (fun _ ws => ws) (fun _ zs => zs) := by
  obtain ⟨oc, od, kV, doc, pm, an, cdv, ct, osl, rfl, lk, hcd⟩ := F.ex
  exact ⟨fun s us ws X l1 l2 => match us, ws, l1, l2 with | [], [v], _, _ => .of_eq (h kV doc pm an cdv ct v), fun _ r => r⟩
/-! ### lists of ints, compared -/
theorem dp_ints {K : PySem.W.Frag} {H : Hp} : ∀ l : List Int, DpAll K H (l.map V.int) (l.map PyData.int)
  | [] => .nil
  | x :: l => .cons (.int x) (dp_ints l)
theorem lay_ints : ∀ l : List Int, PyData.canLayAll0 (l.map PyData.int) = true ∧ PyData.depthAll (l.map PyData.int) ≤ 1
  | [] => ⟨rfl, by decide⟩
  | x :: l => by
    obtain ⟨a, b⟩ := lay_ints l
    refine ⟨?_, ?_⟩
    · show PyData.canLayAll0 (PyData.int x :: l.map PyData.int) = true
      simp only [PyData.canLayAll0, PyData.canLay0, a, Bool.and_self]
    · show PyData.depthAll (PyData.int x :: l.map PyData.int) ≤ 1
      simp only [PyData.depthAll, PyData.depth]
      omega
theorem sh_ints (l : List Int) : SeqAt.shaped (.list (l.map PyData.int)) = true := by
  obtain ⟨a, b⟩ := lay_ints l
  unfold SeqAt.shaped
  rw [Bool.and_eq_true]
  refine ⟨?_, decide_eq_true ?_⟩
  · simp only [PyData.canLay0, a]
  · simp only [PyData.depth]
    omega

/-- a call by names alone of a def that makes functions -/
theorem kb_ofT {K : PySem.W.Frag} {x qual : Str} {st : Stmt} {f c : Addr} {fd : FuncData} {ps ks : List Str} {n : Nat} {g : List Value → List Value → List Value} {gV : List V → List V → List V} (F : FunT K x qual st f fd c)
    (h : ∀ (kV doc pm : Value) (an : Option Addr) (cdv ct : Value) (us ws : List Value), us.length = n → ws.length = ks.length → bindArgs (PySem.W.fnOf x qual (defArgs st) (defBody st) (defScope st) .none kV doc pm an cdv ct) ⟨us, ks.zip ws⟩ = pure (ps.zip (g us ws)))
    (r : ∀ {vs : List V} {us : List Value} {zs : List V} {ws : List Value}, Vals vs us → Vals zs ws → Vals (gV vs zs) (g us ws)) : KBn K fd ps n ks g gV := by
  obtain ⟨oc, od, kV, doc, pm, an, ct, osl, rfl, lk, hcd⟩ := F.ex
  exact ⟨fun s us ws X l1 l2 => .of_eq (h kV doc pm an _ ct us ws l1 l2), r⟩
theorem kb_of {K : PySem.W.Frag} {x qual : Str} {st : Stmt} {f : Addr} {fd : FuncData} {ps ks : List Str} {n : Nat} {g : List Value → List Value → List Value} {gV : List V → List V → List V} (F : Fun K x qual st f fd)
    (h : ∀ (kV doc pm : Value) (an : Option Addr) (cdv ct : Value) (us ws : List Value), us.length = n → ws.length = ks.length → bindArgs (PySem.W.fnOf x qual (defArgs st) (defBody st) (defScope st) .none kV doc pm an cdv ct) ⟨us, ks.zip ws⟩ = pure (ps.zip (g us ws)))
    (r : ∀ {vs : List V} {us : List Value} {zs : List V} {ws : List Value}, Vals vs us → Vals zs ws → Vals (gV vs zs) (g us ws)) : KBn K fd ps n ks g gV := by
  obtain ⟨oc, od, kV, doc, pm, an, cdv, ct, osl, rfl, lk, hcd⟩ := F.ex
  exact ⟨fun s us ws X l1 l2 => .of_eq (h kV doc pm an cdv ct us ws l1 l2), r⟩

theorem swp_rel {vs zs : List V} {us ws : List Value} (_a : Vals vs us) (c : Vals zs ws) : Vals (zs.drop 1 ++ zs.take 1) (ws.drop 1 ++ ws.take 1) := (c.drop 1).append (c.take 1)
theorem tabs_upd {T : List NdefX.NTab} {H : Hp} {a : Addr} {o u : HO} (t : TabsN T H) (e : H a = some o) (n1 : ∀ ps, o ≠ .tbl ps) (n2 : ∀ φ, o ≠ .ext φ) : TabsN T (upd H a u) := tabsN_kp (cs := [a]) t ⟨fun b v e1 n => (upd_ne fun z => n (List.mem_singleton.mpr z)).trans e1⟩ fun b m => by
  rw [List.mem_singleton.mp m]
  exact ⟨o, e, n1, n2⟩
theorem tabs_lst {T : List NdefX.NTab} {H : Hp} {a : Addr} {xs : List V} {u : HO} (t : TabsN T H) (e : H a = some (.lst xs)) : TabsN T (upd H a u) := tabs_upd t e (fun _ z => nomatch z) (fun _ z => nomatch z)
theorem tabs_new {T : List NdefX.NTab} {H : Hp} {a : Addr} {u : HO} (t : TabsN T H) (f : Fr H a) : TabsN T (upd H a u) := tabsN_kp (cs := []) t ⟨fun b v e1 _ => atNew f e1⟩ fun _ m => nomatch m
theorem tabs_same {T : List NdefX.NTab} {H H1 : Hp} (t : TabsN T H) (s : Same H H1) : TabsN T H1 := tabsN_kp (cs := []) t ⟨fun b v e1 _ => s _ _ e1⟩ fun _ m => nomatch m
theorem tabs_bag {T : List NdefX.NTab} {H H1 : Hp} {p : Addr} (t : TabsN T H) (b : Bag H p) (k : Kp [p] H H1) : TabsN T H1 := tabsN_kp t k fun a m => by
  rw [List.mem_singleton.mp m]
  obtain ⟨g, n, c, e, _⟩ := b
  exact ⟨_, e, (fun _ z => nomatch z), (fun _ z => nomatch z)⟩
theorem bag_lst {H : Hp} {p : Addr} (b : Bag H p) : ∃ xs, H p = some (.lst xs) := by
  obtain ⟨g, n, c, e, _⟩ := b
  exact ⟨_, e⟩
theorem no_tab {T : List NdefX.NTab} {P : Addr} {nm : Nat → Nat → Str} {H : Hp} {a : Addr} {xs : List V} (t : TabsN T H) (m : (P, nm) ∈ T) (e : H a = some (.lst xs)) : a ≠ P := tab_ne t m e (fun _ z => nomatch z)
theorem neF {x y : V} (h : x = y) : (!decide (x = y)) = false := by
  rw [decide_eq_true h]
  rfl
section
variable {P : Program} {w : World} {K : PySem.W.Frag} {mg : Str → Option Value} {base : Heap}
def spCnt (T : Txt K mg) : Sp := fun vs H Q _ => ∃ (p : Addr) (W : Int), vs = [.ref p, .int W] ∧ Bag H p ∧ 0 ≤ W ∧ W ≤ 10 ^ 18 ∧ TabsN (TT T) H ∧ ∀ H', Bag H' p → Kp [p, T.p_count_below] H H' → TabsN (TT T) H' → Q (.bl true) H'
theorem ok_cnt (T : Txt K mg) (TB : LamX.TabB base mg T.c_count_below T.p_count_below) : FnOk P w K mg base CX0 6 T.f_l_counts_right T.d_l_counts_right ["_law_bag_here", "_law_wide"] (spCnt T) := by
  have G_l_take := ok_takeK (P := P) (w := w) (base := base) T
  have G_l_integer := ok_int (P := P) (w := w) (base := base) T
  have G_sorted_block := ok_sortedB (P := P) (w := w) (base := base) T
  have G_count_below := ok_below (P := P) (w := w) T TB
  have KB_sorted_block : KBn K T.d_sorted_block ["integers"] 0 ["integers"] (fun us ws => us ++ ws) (fun vs zs => vs ++ zs) := kb_of T.F_sorted_block (fun kV doc pm an cdv ct us ws l1 l2 => match us, ws, l1, l2 with | [], [_], _, _ => rfl) fun a b => a.append b
  have KB_count_below : KBn K T.d_count_below ["block", "bound"] 0 ["bound", "block"] (fun us ws => ws.drop 1 ++ ws.take 1) (fun vs zs => zs.drop 1 ++ zs.take 1) := kb_ofT T.F_count_below (fun kV doc pm an cdv ct us ws l1 l2 => match us, ws, l1, l2 with | [], [_, _], _, _ => rfl) fun a b => swp_rel a b
  refine T.F_l_counts_right.ok sc_l_counts_right (fun vs H Q E h => ?_) (fun cdv A outer s H vs Q E hr h => ?_)
  · obtain ⟨p, W, rfl, _⟩ := h
    rfl
  · obtain ⟨p, W, rfl, hb, w0, w1, hT, q⟩ := h
    refine ⟨_, (pss_cons (ps_setLc (i := 2) (own := [("_law_k", 9)]) (g := gName 9) (tt := tYes) rfl sc_l_counts_right.nd rfl rfl (sw_true rfl rfl rfl (by decide +kernel)) (pi_range1 (by rfl) T.z_range (pa_cons (pe_call G_l_take (hr.mono (by omega)) rfl T.g_l_take T.F_l_take.kp T.b_l_take .nil pass0 (pa_cons (pv 0) (pa_cons pe_int pa_nil))) pa_nil)) (blkOk_by (N := n_l_counts_right) (sc := defScope s_l_counts_right) (by decide +kernel)) (fun _ _ _ _ _ => (pg_name (i := 9) sc_l_counts_right.nd rfl (.inl rfl))) (fun _ _ _ _ _ => pts_nil) (fun _ _ _ _ _ => (pe_call G_l_integer (hr.mono (by omega)) rfl T.g_l_integer T.F_l_integer.kp T.b_l_integer .nil pass0 (pa_cons (pv 0) (pa_cons (pv 1) pa_nil)))))
      (pss_cons (ps_set (i := 3) sc_l_counts_right.nd rfl (.inl rfl) (pe_callTy call_list_of (by rfl) T.z_list (by decide +kernel) (pa_cons (pv 2) pa_nil)))
      (pss_cons (ps_set (i := 4) sc_l_counts_right.nd rfl (.inl rfl) (pe_callTy call_list_of (by rfl) T.z_list (by decide +kernel) (pa_cons (pv 2) pa_nil)))
      (pss_cons (ps_set (i := 5) sc_l_counts_right.nd rfl (.inl rfl) (pe_call G_sorted_block (hr.mono (by omega)) rfl T.g_sorted_block T.F_sorted_block.kp T.b_sorted_block .nil pass0 (pa_cons (pv 4) pa_nil)))
      (pss_cons (ps_expr (pe_bm PySem.F.plainAttrs_list PySem.F.slot_list_insert PySem.F.type_list_insert mt_insert (pv 4) (pa_cons pe_int (pa_cons (pe_op op_sub pe_int (pe_op op_pow pe_int pe_int)) pa_nil))))
      (pss_cons (ps_expr (pe_bm0 PySem.F.plainAttrs_list PySem.F.slot_list_reverse PySem.F.type_list_reverse mt_reverse (pv 4)))
      (pss_cons (ps_set (i := 6) sc_l_counts_right.nd rfl (.inl rfl) (pe_op op_cat (pe_op op_cat (pv 2) (pe_lc (own := [("_law_one", 10)]) (g := gName 10) (tt := tYes) rfl sc_l_counts_right.nd (pi_list (pv 2)) (blkOk_by (N := n_l_counts_right) (sc := defScope s_l_counts_right) (by decide +kernel)) (fun _ _ _ _ _ => (pg_name (i := 10) sc_l_counts_right.nd rfl (.inl rfl))) (fun _ _ _ _ _ => pts_nil) (fun _ _ _ _ _ => (pe_op op_add (pv 10) pe_int)))) (pe_lc (own := [("_law_k", 9)]) (g := gName 9) (tt := tYes) rfl sc_l_counts_right.nd (pi_range1 (by rfl) T.z_range (pa_cons pe_int pa_nil)) (blkOk_by (N := n_l_counts_right) (sc := defScope s_l_counts_right) (by decide +kernel)) (fun _ _ _ _ _ => (pg_name (i := 9) sc_l_counts_right.nd rfl (.inl rfl))) (fun _ _ _ _ _ => pts_nil) (fun _ _ _ _ _ => (pe_call G_l_integer (hr.mono (by omega)) rfl T.g_l_integer T.F_l_integer.kp T.b_l_integer .nil pass0 (pa_cons (pv 0) (pa_cons (pe_op op_mul pe_int (pv 1)) pa_nil)))))))
      (pss_cons (ps_for PassesOwn.never rfl (pi_list (pe_op op_cat (pv 6) (pe_lst (pa_cons (pe_op op_sub pe_int (pe_op op_pow pe_int pe_int)) pa_nil)))) (pg_name (i := 7) sc_l_counts_right.nd rfl (.inr rfl)) (pss_cons (ps_set (i := 8) sc_l_counts_right.nd rfl (.inl rfl) (pe_callB call_len_seq (by rfl) T.z_len (by decide +kernel) (pa_cons (pe_lc (own := [("_law_one", 10)]) (g := gName 10)  rfl sc_l_counts_right.nd (pi_list (pv 3)) (blkOk_by (N := n_l_counts_right) (sc := defScope s_l_counts_right) (by decide +kernel)) (fun _ _ _ _ _ => (pg_name (i := 10) sc_l_counts_right.nd rfl (.inl rfl))) (fun _ _ _ _ _ => (pts_one (pt_cmpR op_lt (pv 10) (pv 7) (nomark _)))) (fun _ _ _ _ _ => (pv 10))) pa_nil)))
        (pss_one (ps_if (PW.pt (pw_or (pt_cmpR op_ne (pe_call G_count_below (hr.mono (by omega)) rfl T.g_count_below T.F_count_below.kp T.b_count_below .nil pass0 (pa_cons (pv 5) (pa_cons (pv 7) pa_nil))) (pv 8) (nomark _)) (pw_or1 (pt_cmpR op_ne (pe_kw0 G_count_below (hr.mono (by omega)) rfl T.g_count_below T.F_count_below.kp KB_count_below pass0 (pk_cons (pv 7) (pk_cons (pv 5) pk_nil))) (pv 8) (nomark _))))) (pss_one (ps_ret pe_bl)) pss_nil))))
      (pss_one (ps_ret (pe_and (pe_cmpR (op_eqD hr.units) (pv 2) (pv 3) (nomark _)) (pe_one (pe_cmpR op_eq (pe_call G_count_below (hr.mono (by omega)) rfl T.g_count_below T.F_count_below.kp T.b_count_below .nil pass0 (pa_cons (pe_kw0 G_sorted_block (hr.mono (by omega)) rfl T.g_sorted_block T.F_sorted_block.kp KB_sorted_block pass0 (pk_cons (pv 3) pk_nil)) (pa_cons (pe_op op_pow pe_int pe_int) pa_nil))) (pe_callB call_len_seq (by rfl) T.z_len (by decide +kernel) (pa_cons (pv 3) pa_nil)) (nomark _)))))))))))))), ?_⟩
    refine ⟨_, rfl, p, 31, rfl, hb, by decide, by decide, fun r H1 r0 r1 b1 k1 => ?_⟩
    obtain ⟨m, rfl⟩ := Int.eq_ofNat_of_zero_le r0
    refine ⟨_, rfl, by omega, by omega, fun D nD => ?_⟩
    have fD := Fr.mk nD
    have npD := bag_ne b1 nD
    have t1 := tabs_bag hT hb k1
    refine lc_range (fun i H' => ∃ ns : List Int, H' D = some (.lst (ns.map V.int)) ∧ ns.length = i ∧ (∀ x ∈ ns, x.natAbs ≤ 10 ^ 18) ∧ Bag H' p ∧ TabsN (TT T) H' ∧ Kp [p, D] (upd H1 D (.lst [])) H') ⟨[], upd_same, rfl, (fun _ z => nomatch z), bag_putF fD b1, tabs_new t1 fD, kp_refl _ _⟩ ?_ ?_
    · rintro i H' hi ⟨ns, e1, e2, e3, b2, t2, k2⟩
      refine ⟨rfl, ?_⟩
      refine ⟨_, rfl, _, rfl, p, W, rfl, b2, w0, by omega, fun x H3 x0 x1 b3 k3 => ?_⟩
      have e4 : H3 D = some (.lst (ns.map V.int)) := by kp_flats
      have t3 := tabs_bag t2 b2 k3
      refine ⟨_, e4, by rw [List.length_map, sizeLine_eq]; omega, ns ++ [x], by rw [upd_same, List.map_append]; rfl, by rw [List.length_append, e2]; rfl, fun y my => ?_, bag_neF (Ne.symm npD) b3, tabs_lst t3 e4, kp_up (by o_fieldsN) (kp_trans k2 (kp_more k3 (subCons memA subNil)))⟩
      rcases List.mem_append.mp my with my | my
      · exact e3 y my
      · rw [List.mem_singleton.mp my]
        omega
    rintro H2 ⟨ns, e2, ln, bn, b2, t2, k2⟩
    have ln31 : ns.length ≤ 31 := by omega
    have kA : Kp [p] H H2 := by kxs_still
    have fDH : Fr H D := by kba_ints
    clear k1 k2
    have nD2 : D ≠ p := npD
    refine ⟨_, rfl, D, _, rfl, .inl (sqlOf e2), fun sh nsh => ?_⟩
    have fsh := Fr.mk nsh
    have nsD : D ≠ sh := neN fsh e2
    obtain ⟨bx, hbx⟩ := bag_lst b2
    have nsp : p ≠ sh := neN fsh hbx
    refine ⟨_, rfl, D, _, rfl, .inl (sqlOf (atNew fsh e2)), fun le nle => ?_⟩
    have fle := Fr.mk nle
    have nlD : D ≠ le := neN fle (atNew fsh e2)
    have nls : sh ≠ le := neN fle upd_same
    have nlp : p ≠ le := neN fle (atNew fsh hbx)
    have t3 := tabs_new (u := .lst (ns.map V.int)) (tabs_new (u := .lst (ns.map V.int)) t2 fsh) fle
    refine ⟨_, rfl, le, ns, rfl, sqlOf upd_same, fun ms md H3 pm pw fm s3 e3 => ?_⟩
    have t4 := tabs_same t3 s3
    have d3 : H3 D = some (.lst (ns.map V.int)) := by kp_flats
    have h3 : H3 sh = some (.lst (ns.map V.int)) := by kp_flats
    have l3 : H3 le = some (.lst (ns.map V.int)) := by kp_flats
    have p3 : H3 p = some (.lst bx) := by kp_flats
    have b3 : Bag H3 p := bag_same (bag_putF fle (bag_putF fsh b2)) s3
    have k3 : Kp [p] H H3 := by kxs_still
    have fsH : Fr H sh := by kba_ints
    have flH : Fr H le := by kba_ints
    have lsz : (ns.map V.int).length < sizeLine := by rw [List.length_map, sizeLine_eq]; omega
    clear t1 t2 t3 kA
    have nml : md ≠ le := neO e3 l3 (fun z => nomatch z)
    refine ⟨_, rfl, .inl ⟨rfl, _, sqlOf l3⟩, _, _, rfl, rfl, ⟨by decide, by decide, by decide⟩, _, _, rfl, rfl, le, _, 0, .int (0 - 10 ^ Int.toNat 28), rfl, rfl, l3, lsz, by decide, by decide, ?_⟩
    refine ⟨_, rfl, .inl ⟨rfl, _, sqlOf upd_same⟩, le, _, rfl, rfl, upd_same, ?_⟩
    generalize List.take (Int.toNat 0) (ns.map V.int) ++ [V.int (0 - 10 ^ Int.toNat 28)] ++ List.drop (Int.toNat 0) (ns.map V.int) = X
    have d4 : upd (upd H3 le (.lst X)) le (.lst X.reverse) D = some (.lst (ns.map V.int)) := by kp_flats
    have h4 : upd (upd H3 le (.lst X)) le (.lst X.reverse) sh = some (.lst (ns.map V.int)) := by kp_flats
    have e4 : upd (upd H3 le (.lst X)) le (.lst X.reverse) md = some (.tup (ms.map V.int)) := by kp_flats
    have b4 : Bag (upd (upd H3 le (.lst X)) le (.lst X.reverse)) p := bag_neF nlp (bag_neF nlp b3)
    have t5 : TabsN (TT T) (upd (upd H3 le (.lst X)) le (.lst X.reverse)) := tabs_lst (tabs_lst t4 l3) upd_same
    have k4 : Kp [p] H (upd (upd H3 le (.lst X)) le (.lst X.reverse)) := kp_newF flH (kp_newF flH k3)
    generalize upd (upd H3 le (.lst X)) le (.lst X.reverse) = H4 at d4 h4 e4 b4 t5 k4 ⊢
    refine ⟨_, rfl, _, rfl, D, rfl, ⟨_, sqlOf d4⟩, fun E nE => ?_⟩
    have fE := Fr.mk nE
    refine lc_list (K := K) (xs := ns.map V.int) (fun i H' => Same H4 H' ∧ H' E = some (.lst (((ns.take i).map (· + 1)).map V.int))) ⟨same_newF fE, upd_same⟩ (fun i H' _ h => sqlOf (h.1 _ _ d4)) ?_ ?_
    · rintro i x H' hx ⟨s5, e5⟩
      rw [List.getElem?_map] at hx
      obtain ⟨n, hn, rfl⟩ := Option.map_eq_some_iff.mp hx
      refine ⟨rfl, ?_⟩
      refine ⟨_, rfl, _, _, rfl, rfl, _, e5, ?_, same_put s5 nE, ?_⟩
      · rw [List.length_map, List.length_map, List.length_take, sizeLine_eq]
        omega
      · rw [upd_same, List.take_succ, hn, List.map_append, List.map_append]
        rfl
    rintro H5 ⟨s5, e5⟩
    rw [List.length_map, List.take_length] at e5
    refine ⟨D, E, _, _, rfl, rfl, s5 _ _ d4, e5, by rw [List.length_map, List.length_map, List.length_map, sizeLine_eq]; omega, fun L1 nL1 => ?_⟩
    have fL1 := Fr.mk nL1
    refine ⟨5, rfl, by decide, by decide, fun F nF => ?_⟩
    have fF := Fr.mk nF
    have d5 := s5 _ _ d4
    have h5 := s5 _ _ h4
    have m5 := s5 _ _ e4
    have b5 := bag_same b4 s5
    have t6 := tabs_new (u := .lst (ns.map V.int ++ (ns.map (· + 1)).map V.int)) (tabs_same t5 s5) fL1
    have b6 := bag_putF (o := .lst (ns.map V.int ++ (ns.map (· + 1)).map V.int)) fL1 b5
    have npF := bag_ne b6 nF
    have nLF : L1 ≠ F := neN fF upd_same
    obtain ⟨bx5, hbx5⟩ := bag_lst b5
    have npL : p ≠ L1 := neN fL1 hbx5
    have fFH5 : Fr H5 F := by kba_ints
    refine lc_range (fun i H' => ∃ fs : List Int, H' F = some (.lst (fs.map V.int)) ∧ fs.length = i ∧ Bag H' p ∧ TabsN (TT T) H' ∧ Kp [p, F] (upd (upd H5 L1 (.lst (ns.map V.int ++ (ns.map (· + 1)).map V.int))) F (.lst [])) H') ⟨[], upd_same, rfl, bag_putF fF b6, tabs_new t6 fF, kp_refl _ _⟩ ?_ ?_
    · rintro i H' hi ⟨fs, g1, g2, b7, t7, k7⟩
      refine ⟨rfl, ?_⟩
      refine ⟨_, rfl, _, rfl, _, _, rfl, rfl, .inl ⟨by decide, by decide⟩, p, 2 * W, rfl, b7, by omega, by omega, fun x H8 x0 x1 b8 k8 => ?_⟩
      have g3 : H8 F = some (.lst (fs.map V.int)) := by kp_flats
      have t8 := tabs_bag t7 b7 k8
      have hi5 : i < 5 := hi
      exact ⟨_, g3, by rw [List.length_map, sizeLine_eq]; omega, fs ++ [x], by rw [upd_same, List.map_append]; rfl, by rw [List.length_append, g2]; rfl, bag_neF (Ne.symm npF) b8, tabs_lst t8 g3, kp_up (by o_fieldsN) (kp_trans k7 (kp_more k8 (subCons memA subNil)))⟩
    rintro H6 ⟨fs, g1, g2, b7, t7, k7⟩
    have l6 : H6 L1 = some (.lst (ns.map V.int ++ (ns.map (· + 1)).map V.int)) := by kp_flats
    have k56 : Kp [p] H5 H6 := by kxs_still
    have k6 : Kp [p] H H6 := kp_trans (kp_trans k4 (kp_same s5)) k56
    obtain ⟨bx6, hbx6⟩ := bag_lst b4
    have np1 : D ≠ p := nD2
    have np2 : sh ≠ p := Ne.symm nsp
    have np3 : md ≠ p := neO e4 hbx6 (fun z => nomatch z)
    have d6 : H6 D = some (.lst (ns.map V.int)) := k56.at_ _ _ d5 (not_cons np1 not_nil)
    have h6 : H6 sh = some (.lst (ns.map V.int)) := k56.at_ _ _ h5 (not_cons np2 not_nil)
    have m6 : H6 md = some (.tup (ms.map V.int)) := k56.at_ _ _ m5 (not_cons np3 not_nil)
    have g25 : fs.length = 5 := g2
    refine ⟨L1, F, _, _, rfl, rfl, l6, g1, by rw [List.length_append, List.length_map, List.length_map, List.length_map, List.length_map, sizeLine_eq]; omega, fun LI nLI => ?_⟩
    have fLI := Fr.mk nLI
    refine ⟨_, rfl, _, _, rfl, rfl, ⟨by decide, by decide, by decide⟩, _, _, rfl, rfl, by decide, fun S nS => ?_⟩
    have fS := Fr.mk nS
    have nLS : LI ≠ S := neN fS upd_same
    have eLI : upd (upd H6 LI (.lst ((ns.map V.int ++ (ns.map (· + 1)).map V.int) ++ fs.map V.int))) S (.lst [V.int (0 - 10 ^ Int.toNat 29)]) LI = some (.lst ((ns.map V.int ++ (ns.map (· + 1)).map V.int) ++ fs.map V.int)) := atNe nLS upd_same
    refine ⟨LI, S, _, _, rfl, rfl, eLI, upd_same, by rw [List.length_append, List.length_append, List.length_map, List.length_map, List.length_map, List.length_map, List.length_singleton, sizeLine_eq]; omega, fun G nG => ?_⟩
    have fG := Fr.mk nG
    have eG : ((ns.map V.int ++ (ns.map (· + 1)).map V.int) ++ fs.map V.int) ++ [V.int (0 - 10 ^ Int.toNat 29)] = ((ns ++ ns.map (· + 1)) ++ fs ++ [0 - 10 ^ Int.toNat 29]).map V.int := by
      rw [List.map_append, List.map_append, List.map_append]
      rfl
    have d9 : upd (upd (upd H6 LI (.lst ((ns.map V.int ++ (ns.map (· + 1)).map V.int) ++ fs.map V.int))) S (.lst [V.int (0 - 10 ^ Int.toNat 29)])) G (.lst (((ns.map V.int ++ (ns.map (· + 1)).map V.int) ++ fs.map V.int) ++ [V.int (0 - 10 ^ Int.toNat 29)])) D = some (.lst (ns.map V.int)) := atNew fG (atNew fS (atNew fLI d6))
    have h9 : upd (upd (upd H6 LI (.lst ((ns.map V.int ++ (ns.map (· + 1)).map V.int) ++ fs.map V.int))) S (.lst [V.int (0 - 10 ^ Int.toNat 29)])) G (.lst (((ns.map V.int ++ (ns.map (· + 1)).map V.int) ++ fs.map V.int) ++ [V.int (0 - 10 ^ Int.toNat 29)])) sh = some (.lst (ns.map V.int)) := atNew fG (atNew fS (atNew fLI h6))
    have m9 : upd (upd (upd H6 LI (.lst ((ns.map V.int ++ (ns.map (· + 1)).map V.int) ++ fs.map V.int))) S (.lst [V.int (0 - 10 ^ Int.toNat 29)])) G (.lst (((ns.map V.int ++ (ns.map (· + 1)).map V.int) ++ fs.map V.int) ++ [V.int (0 - 10 ^ Int.toNat 29)])) md = some (.tup (ms.map V.int)) := atNew fG (atNew fS (atNew fLI m6))
    have t9 : TabsN (TT T) (upd (upd (upd H6 LI (.lst ((ns.map V.int ++ (ns.map (· + 1)).map V.int) ++ fs.map V.int))) S (.lst [V.int (0 - 10 ^ Int.toNat 29)])) G (.lst (((ns.map V.int ++ (ns.map (· + 1)).map V.int) ++ fs.map V.int) ++ [V.int (0 - 10 ^ Int.toNat 29)]))) := tabs_new (tabs_new (tabs_new t7 fLI) fS) fG
    have b9 : Bag (upd (upd (upd H6 LI (.lst ((ns.map V.int ++ (ns.map (· + 1)).map V.int) ++ fs.map V.int))) S (.lst [V.int (0 - 10 ^ Int.toNat 29)])) G (.lst (((ns.map V.int ++ (ns.map (· + 1)).map V.int) ++ fs.map V.int) ++ [V.int (0 - 10 ^ Int.toNat 29)]))) p := bag_putF fG (bag_putF fS (bag_putF fLI b7))
    have k9 : Kp [p] H (upd (upd (upd H6 LI (.lst ((ns.map V.int ++ (ns.map (· + 1)).map V.int) ++ fs.map V.int))) S (.lst [V.int (0 - 10 ^ Int.toNat 29)])) G (.lst (((ns.map V.int ++ (ns.map (· + 1)).map V.int) ++ fs.map V.int) ++ [V.int (0 - 10 ^ Int.toNat 29)]))) := kp_new fG (kp_new fS (kp_new fLI k6))
    have g9 : upd (upd (upd H6 LI (.lst ((ns.map V.int ++ (ns.map (· + 1)).map V.int) ++ fs.map V.int))) S (.lst [V.int (0 - 10 ^ Int.toNat 29)])) G (.lst (((ns.map V.int ++ (ns.map (· + 1)).map V.int) ++ fs.map V.int) ++ [V.int (0 - 10 ^ Int.toNat 29)])) G = some (.lst (((ns ++ ns.map (· + 1)) ++ fs ++ [0 - 10 ^ Int.toNat 29]).map V.int)) := by rw [upd_same, eG]
    generalize upd (upd (upd H6 LI (.lst ((ns.map V.int ++ (ns.map (· + 1)).map V.int) ++ fs.map V.int))) S (.lst [V.int (0 - 10 ^ Int.toNat 29)])) G (.lst (((ns.map V.int ++ (ns.map (· + 1)).map V.int) ++ fs.map V.int) ++ [V.int (0 - 10 ^ Int.toNat 29)])) = H9 at d9 h9 m9 t9 b9 k9 g9 ⊢
    generalize (ns ++ ns.map (· + 1)) ++ fs ++ [0 - 10 ^ Int.toNat 29] = zs at g9 ⊢
    have lms : ms.length = ns.length := pm.length_eq
    have hmB : (T.p_count_below, nm_count_below) ∈ TT T := hm_count_below T
    have cnt : ∀ z : Int, (ms.filter (· < z)).length = (ns.filter (· < z)).length := fun z => (pm.filter _).length_eq
    refine ⟨G, rfl, ⟨_, sqlOf g9⟩, ?_⟩
    refine for_list (xs := zs.map V.int) (fun i σ H' => ∃ y7 y8, σ = [some (.ref p), some (.int W), some (.ref D), some (.ref sh), some (.ref le), some (.ref md), some (.ref LI), y7, y8, none, none] ∧ TabsN (TT T) H' ∧ Kp [T.p_count_below] H9 H') ⟨_, _, rfl, t9, kp_refl _ _⟩ ?_ ?_ ?_
    · rintro i σ H' _ ⟨y7, y8, rfl, t10, k10⟩
      exact sqlOf (k10.at_ _ _ g9 (not_cons (no_tab t9 hmB g9) not_nil))
    · rintro i x σ H' hx ⟨y7, y8, rfl, t10, k10⟩
      rw [List.getElem?_map] at hx
      obtain ⟨z, hz, rfl⟩ := Option.map_eq_some_iff.mp hx
      have h10 := k10.at_ _ _ h9 (not_cons (no_tab t9 hmB h9) not_nil)
      have m10 := k10.at_ _ _ m9 (not_cons (tab_ne t9 hmB m9 (fun _ z => nomatch z)) not_nil)
      refine ⟨_, rfl, sh, rfl, ⟨_, sqlOf h10⟩, fun E2 nE2 => ?_⟩
      have fE2 := Fr.mk nE2
      refine lc_list (K := K) (xs := ns.map V.int) (fun j H'' => Same H' H'' ∧ H'' E2 = some (.lst (((ns.take j).filter (· < z)).map V.int))) ⟨same_newF fE2, upd_same⟩ (fun j H'' _ h => sqlOf (h.1 _ _ h10)) ?_ ?_
      · rintro j x2 H'' hx2 ⟨s11, e11⟩
        rw [List.getElem?_map] at hx2
        obtain ⟨n, hn, rfl⟩ := Option.map_eq_some_iff.mp hx2
        refine ⟨rfl, _, rfl, _, rfl, _, _, rfl, rfl, _, rfl, ite2 (fun e => ?_) (fun e => ?_)⟩
        · refine ⟨_, rfl, _, e11, ?_, same_put s11 nE2, ?_⟩
          · rw [List.length_map, sizeLine_eq]
            have := List.length_filter_le (fun x => decide (x < z)) (ns.take j)
            rw [List.length_take] at this
            omega
          · rw [upd_same, List.take_succ, hn, List.filter_append, List.map_append]
            show some (HO.lst (_ ++ [V.int n])) = some (HO.lst (_ ++ (List.filter (fun x => decide (x < z)) [n]).map V.int))
            rw [List.filter_cons, if_pos e]
            rfl
        · refine ⟨s11, ?_⟩
          rw [e11, List.take_succ, hn, List.filter_append]
          show some (HO.lst _) = some (HO.lst ((_ ++ (List.filter (fun x => decide (x < z)) [n])).map V.int))
          rw [List.filter_cons, if_neg e, List.filter_nil, List.append_nil]
      rintro H11 ⟨s11, e11⟩
      rw [List.length_map, List.take_length] at e11
      refine ⟨E2, _, rfl, .inl (sqlOf e11), ?_⟩
      have m11 := s11 _ _ m10
      have t11 := tabs_same t10 s11
      refine ⟨_, rfl, _, rfl, md, ms, z, rfl, sqtOf m11, pw, by omega, t11, fun H12 t12 k12 n12 => ?_⟩
      have m12 := k12.at_ _ _ m11 (not_cons (tab_ne t11 hmB m11 (fun _ z => nomatch z)) not_nil)
      have ev : V.int (((ms.filter (· < z)).length : Nat) : Int) = V.int (((((ns.filter (· < z)).map V.int).length : Nat)) : Int) := by rw [cnt z, List.length_map]
      refine ⟨_, rfl, rfl, _, rfl, ?_⟩
      refine ifF (neF ev) ?_
      refine ⟨_, rfl, _, rfl, rfl, rfl, md, ms, z, rfl, sqtOf m12, pw, by omega, t12, fun H13 t13 k13 n13 => ?_⟩
      refine ⟨_, rfl, rfl, _, rfl, ?_⟩
      refine ifF (neF ev) ?_
      exact ⟨_, _, rfl, t13, kp_trans (kp_trans (kp_trans k10 (kp_same s11)) k12) k13⟩
    · rintro σ H' ⟨y7, y8, rfl, t10, k10⟩
      have h10 := k10.at_ _ _ h9 (not_cons (no_tab t9 hmB h9) not_nil)
      have d10 := k10.at_ _ _ d9 (not_cons (no_tab t9 hmB d9) not_nil)
      obtain ⟨bx9, hbx9⟩ := bag_lst b9
      have npB := no_tab t9 hmB hbx9
      have b10 := bag_kpR k10 (not_cons npB not_nil) b9
      refine ⟨_, rfl, _, rfl, _, _, .lst (sqlOf d10) (dp_ints _), .lst (sqlOf h10) (dp_ints _), sh_ints _, sh_ints _, _, rfl, ?_⟩
      refine ifT (SeqAt.eqv_refl _ (SeqAt.canLay_of_shaped (sh_ints _))) ?_
      refine ⟨_, rfl, rfl, rfl, sh, ns, rfl, sqlOf h10, fun ms2 md2 H13 pm2 pw2 fm2 s13 e13 => ?_⟩
      have t13 := tabs_same t10 s13
      refine ⟨_, _, rfl, rfl, ⟨by decide, by decide, by decide⟩, md2, ms2, 10 ^ Int.toNat 29, rfl, sqtOf e13, pw2, by rw [pm2.length_eq]; omega, t13, fun H14 t14 k14 n14 => ?_⟩
      have h13 := s13 _ _ h10
      have h14 := k14.at_ _ _ h13 (not_cons (no_tab t13 hmB h13) not_nil)
      refine ⟨_, rfl, sh, _, rfl, .inl (sqlOf h14), rfl, ?_⟩
      have ef : ms2.filter (· < (10 : Int) ^ Int.toNat 29) = ms2 := List.filter_eq_self.mpr fun x mx => decide_eq_true (by
        have := bn x (pm2.mem_iff.mp mx)
        have e29 : (10 : Int) ^ Int.toNat 29 = 100000000000000000000000000000 := by decide
        rw [e29]
        omega)
      rw [ef, pm2.length_eq, List.length_map, decide_eq_true rfl]
      exact q H14 (bag_kpR k14 (not_cons npB not_nil) (bag_same b10 s13)) (kp_trans (kp_more k9 (subCons memA subNil)) (kp_more (kp_trans (kp_trans k10 (kp_same s13)) k14) (subCons (memB memA) subNil))) t14
end
end Ob

set_option Elab.async false
set_option linter.all false
set_option maxRecDepth 100000
set_option maxHeartbeats 1000000
namespace Ob
open PySem PySem.Spec PyProof.Rows L2
open LamX (Tabs TabB TabS ExtN)

set_option hygiene false in
local macro_rules
  | `(tactic| kp_flats) => `(tactic| first
    | assumption
    | exact upd_same
    | (apply atNew; assumption; kp_flats)
    | (apply atNe; (next => kbo_bools); kp_flats)
    | (apply atSame; assumption; kp_flats)
    | (apply atKp; assumption; (next => kaf_pre); kp_flats))
set_option hygiene false in
local macro_rules
  | `(tactic| kaf_pre) => `(tactic| first
    | assumption
    | exact not_nil
    | (apply not_cons; (next => kbo_bools); kaf_pre)
    | (apply not_app; (next => kaf_pre); kaf_pre))
set_option hygiene false in
local macro_rules
  | `(tactic| kbo_bools) => `(tactic| first
    | assumption
    | (apply Ne.symm; assumption)
    | (apply neN; assumption; kp_flats)
    | (apply neN'; assumption; kp_flats))
set_option hygiene false in
local macro_rules
  | `(tactic| o_reads) => `(tactic| first
    | with_reducible rfl
    | assumption
    | rfl
    | kp_flats
    | (show SqL _ _ _ _; first | assumption | (apply sqlOf; kp_flats) | (apply sqlSame; assumption; o_reads))
    | (show SqT _ _ _ _; first | assumption | (apply sqtOf; kp_flats) | (apply sqtAll; assumption) | (apply sqtSame; assumption; o_reads))
    | (show Cls _ _; first | skip)
    | (show NoAttr _ _ _; first | skip)
    | (apply Or.inl; o_reads)
    | (apply Or.inr; o_reads)
    | (apply And.intro; (next => o_reads); o_reads)
    | (apply Exists.intro; o_reads)
    | exact Nat.le_of_ble_eq_true rfl
    | exact Nat.succ_ne_zero _
    | (show Fr _ _; kba_ints)
    | (show Same _ _; kd_subs)
    | (show Kp _ _ _; kxs_still)
    | (show (_ : Nat) ≤ _; simp only [List.length_append, List.length_map, List.length_cons, List.length_nil, List.length_take, List.length_drop, List.length_replicate, List.length_range, sizeLine_eq]; omega)
    | (show _ = none; apply Fr.h; kba_ints)
    | (show Bag _ _; first | assumption | (apply bag_putF; assumption; o_reads) | (apply bag_neF; (next => kbo_bools); o_reads) | (apply bag_kpR; assumption; (next => kaf_pre); o_reads))
    | omega
    | decide)
local macro_rules
  | `(tactic| o_readsAll) => `(tactic| repeat (first
    | (refine fun (pNew : Addr) (nNew : _ = none) => ?_; replace nNew := Fr.mk nNew)
    | (refine fun (xNew dNew : Addr) (nNew : _ = none) (mNew : _ = none) (eNew : dNew ≠ xNew) => ?_; replace nNew := Fr.mk nNew; replace mNew := Fr.mk mNew)
    | (apply And.intro; next => o_reads)
    | apply Exists.intro (α := V)
    | apply Exists.intro (α := Addr)
    | apply Exists.intro (α := Int)
    | apply Exists.intro (α := Bool)
    | apply Exists.intro (α := List V)
    | apply Exists.intro (α := List Nat)
    | apply Exists.intro (α := List (Str × V))
    | apply Exists.intro (α := List _)
    | apply Exists.intro (α := Str)
    | apply Exists.intro (α := HO)
    | apply Exists.intro (α := Sp)
    | apply Exists.intro (α := VK)))
set_option hygiene false in
local macro_rules
  | `(tactic| kba_ints) => `(tactic| first
    | assumption
    | (apply frUp; (first | assumption | (apply Ne.symm; assumption)); kba_ints)
    | (apply noneOf; assumption; intro oF eF; apply Exists.intro; kp_flats)
    | (apply frUp; (next => kbo_bools); kba_ints))
set_option hygiene false in
local macro_rules
  | `(tactic| kxs_still) => `(tactic| first
    | assumption
    | exact kp_refl _ _
    | (apply kp_newF; assumption; kxs_still)
    | (apply kp_new; assumption; kxs_still)
    | (apply kp_up; (next => o_fieldsN); kxs_still)
    | (apply kp_new; (next => kba_ints); kxs_still)
    | (apply kp_sameR; assumption; kxs_still)
    | (apply kp_transR; assumption; kxs_still)
    | (apply kp_freshR; assumption; (next => kaf_suf); kxs_still))
set_option hygiene false in
local macro_rules
  | `(tactic| kaf_suf) => `(tactic| first
    | assumption
    | exact subNil
    | (apply subCons; (first | (apply Or.inl; o_fieldsN) | (apply Or.inr; kba_ints)); kaf_suf)
    | (apply subApp; (next => kaf_suf); kaf_suf))
set_option hygiene false in
local macro_rules
  | `(tactic| o_fieldsN) => `(tactic| first
    | assumption
    | exact memA
    | (apply memB; o_fieldsN)
    | (apply memL; o_fieldsN)
    | (apply memR; o_fieldsN))
set_option hygiene false in
local macro_rules
  | `(tactic| kd_subs) => `(tactic| first
    | assumption
    | exact Same.refl _
    | (apply same_putF; assumption; kd_subs)
    | (apply same_putG; assumption; kd_subs)
    | (apply same_putF; (next => kba_ints); kd_subs)
    | (apply same_transR; assumption; kd_subs))

set_option pp.maxSteps 900
open NdefX (TabsN)
theorem two_at {u v : Int} {r : Int} (r0 : 0 ≤ r) (r1 : r < 2) : ∃ x, atI [V.int u, V.int v] r = some (.int x) ∧ (x = u ∨ x = v) := by
  obtain ⟨k, rfl⟩ := Int.eq_ofNat_of_zero_le r0
  match k, r1 with
  | 0, _ => exact ⟨u, atI_nat (j := 0) rfl, .inl rfl⟩
  | 1, _ => exact ⟨v, atI_nat (j := 1) rfl, .inr rfl⟩
  | k + 2, h => exact absurd h (by omega)
def dLn (l : Ln) : PyData := .tuple [.int l.1, .int l.2]
theorem dp_lines {K : PySem.W.Frag} {H : Hp} : ∀ {xs : List V} {ls : List Ln}, LinesAt H xs ls → DpAll K H xs (ls.map dLn)
  | [], [], _ => .nil
  | [], _ :: _, h => nomatch h.len
  | _ :: _, [], h => nomatch h.len
  | x :: xs, l :: ls, h => by
    obtain ⟨t, e, f⟩ := h.at_ 0 x l rfl rfl
    rw [e]
    exact .cons (.tup (sqtOf f) (.cons (.int _) (.cons (.int _) .nil))) (dp_lines ⟨Nat.succ.inj h.len, fun i y m e1 e2 => h.at_ (i + 1) y m e1 e2⟩)
theorem lay_lines : ∀ ls : List Ln, PyData.canLayAll0 (ls.map dLn) = true ∧ PyData.depthAll (ls.map dLn) ≤ 3
  | [] => ⟨rfl, by decide⟩
  | l :: ls => by
    obtain ⟨a, b⟩ := lay_lines ls
    refine ⟨?_, ?_⟩
    · rw [List.map_cons]
      unfold dLn at a ⊢
      simp only [PyData.canLayAll0, PyData.canLay0, a, Bool.and_self]
    · rw [List.map_cons]
      unfold dLn at b ⊢
      simp only [PyData.depthAll, PyData.depth]
      omega
theorem sh_lines (ls : List Ln) : SeqAt.shaped (.list (ls.map dLn)) = true := by
  obtain ⟨a, b⟩ := lay_lines ls
  unfold SeqAt.shaped
  rw [Bool.and_eq_true]
  refine ⟨?_, decide_eq_true ?_⟩
  · simp only [PyData.canLay0, a]
  · simp only [PyData.depth]
    omega
theorem least_eq {ls k : List Ln} {z m : Int} {l : Ln} (hm : m ∈ ls.map (val · z)) (lm : ∀ y ∈ ls.map (val · z), m ≤ y) (hl : l ∈ k) (ll : ∀ j ∈ k, val l z ≤ val j z) (sub : ∀ l ∈ k, l ∈ ls) (dom : ∀ l ∈ ls, ∀ x, ∃ m ∈ k, val m x ≤ val l x) : val l z = m := by
  have a1 := lm _ (List.mem_map.mpr ⟨l, sub l hl, rfl⟩)
  obtain ⟨l0, m0, rfl⟩ := List.mem_map.mp hm
  obtain ⟨j, mj, lj⟩ := dom l0 m0 z
  have a2 := ll j mj
  have a1 : val l0 z ≤ val l z := a1
  have : val l0 z = val l0 z := rfl
  show val l z = val l0 z
  omega
section
variable {P : Program} {w : World} {K : PySem.W.Frag} {mg : Str → Option Value} {base : Heap}
def spLns : Sp := fun vs H Q _ => ∃ (p : Addr) (W : Int), vs = [.ref p, .int W] ∧ Bag H p ∧ 0 ≤ W ∧ W ≤ 10 ^ 18 ∧ ∀ (a : Addr) (xs : List V) (ls : List Ln) H', Fr H a → Kp [p] H H' → Bag H' p → H' a = some (.lst xs) → LinesAt H' xs ls → ls ≠ [] → ls.length ≤ 30 → (∀ l ∈ ls, l.1.natAbs ≤ 10 ^ 18) → Q (.ref a) H'
theorem ok_lns (T : Txt K mg) : FnOk P w K mg base CX0 3 T.f_l_lines T.d_l_lines ["_law_bag_here", "_law_wide"] spLns := by
  have G_l_take := ok_takeK (P := P) (w := w) (base := base) T
  have G_l_integer := ok_int (P := P) (w := w) (base := base) T
  refine T.F_l_lines.ok sc_l_lines (fun vs H Q E h => ?_) (fun cdv A outer s H vs Q E hr h => ?_)
  · obtain ⟨p, W, rfl, _⟩ := h
    rfl
  · obtain ⟨p, W, rfl, hb, w0, w1, q⟩ := h
    refine ⟨_, (pss_cons (ps_par3 (i := 2) (j := 3) (l := 4) (by rfl) sc_l_lines.nd rfl rfl rfl (by decide) (by decide) (by decide) rfl rfl rfl (pa_cons (pe_lst pa_nil) (pa_cons (pe_call G_l_integer (hr.mono (by omega)) rfl T.g_l_integer T.F_l_integer.kp T.b_l_integer .nil pass0 (pa_cons (pv 0) (pa_cons pe_int pa_nil))) (pa_cons (pe_call G_l_integer (hr.mono (by omega)) rfl T.g_l_integer T.F_l_integer.kp T.b_l_integer .nil pass0 (pa_cons (pv 0) (pa_cons (pv 1) pa_nil))) pa_nil))) (by rfl))
      (pss_cons (ps_for PassesOwn.never rfl (pi_range1 (by rfl) T.z_range (pa_cons (pe_op op_add pe_int (pe_call G_l_take (hr.mono (by omega)) rfl T.g_l_take T.F_l_take.kp T.b_l_take .nil pass0 (pa_cons (pv 0) (pa_cons pe_int pa_nil)))) pa_nil)) (pg_name (i := 5) sc_l_lines.nd rfl (.inl rfl)) (pss_cons (ps_set (i := 6) sc_l_lines.nd rfl (.inl rfl) (pe_call G_l_integer (hr.mono (by omega)) rfl T.g_l_integer T.F_l_integer.kp T.b_l_integer .nil pass0 (pa_cons (pv 0) (pa_cons (pe_ix (r := rIxL K) ix_list (pe_lst (pa_cons pe_int (pa_cons (pv 1) pa_nil))) (pe_call G_l_take (hr.mono (by omega)) rfl T.g_l_take T.F_l_take.kp T.b_l_take .nil pass0 (pa_cons (pv 0) (pa_cons pe_int pa_nil))) (fun _ _ => rfl)) pa_nil))))
        (pss_one (ps_expr (pe_bm PySem.F.plainAttrs_list PySem.F.slot_list_append PySem.F.type_list_append mt_append (pv 2) (pa_cons (pe_tup (pa_cons (pv 6) (pa_cons (pe_ix (r := rIxL K) ix_list (pe_lst (pa_cons (pe_op op_sub (pv 4) (pe_op op_mul (pv 6) (pv 3))) (pa_cons (pe_call G_l_integer (hr.mono (by omega)) rfl T.g_l_integer T.F_l_integer.kp T.b_l_integer .nil pass0 (pa_cons (pv 0) (pa_cons (pv 1) pa_nil))) pa_nil))) (pe_call G_l_take (hr.mono (by omega)) rfl T.g_l_take T.F_l_take.kp T.b_l_take .nil pass0 (pa_cons (pv 0) (pa_cons pe_int pa_nil))) (fun _ _ => rfl)) pa_nil))) pa_nil))))))
      (pss_one (ps_ret (pv 2))))), ?_⟩
    refine ⟨Nat.zero_le _, fun D nD => ?_⟩
    have fD := Fr.mk nD
    have npD := bag_ne hb nD
    refine ⟨_, rfl, p, 9, rfl, bag_putF fD hb, by decide, by decide, fun sp H1 sp0 sp1 b1 k1 => ?_⟩
    refine ⟨_, rfl, _, rfl, p, W, rfl, b1, w0, by omega, fun y H2 y0 y1 b2 k2 => ?_⟩
    have e2 : H2 D = some (.lst []) := k2.at_ _ _ (k1.at_ _ _ upd_same (not_cons npD not_nil)) (not_cons npD not_nil)
    have kH : Kp [p, D] (upd H D (.lst [])) H2 := kp_more (kp_trans k1 k2) (subCons memA subNil)
    refine ⟨_, _, _, rfl, ?_⟩
    refine ⟨_, rfl, p, 30, rfl, b2, by decide, by decide, fun r H3 r0 r1 b3 k3 => ?_⟩
    have e3 : H3 D = some (.lst []) := k3.at_ _ _ e2 (not_cons npD not_nil)
    refine ⟨_, _, rfl, rfl, _, rfl, by omega, by omega, ?_⟩
    refine for_range (n := (1 + r).toNat) (fun i σ H' => ∃ y5 y6, σ = [some (.ref p), some (.int W), some (.ref D), some (.int sp), some (.int y), y5, y6] ∧ ∃ (xs : List V) (ls : List Ln), H' D = some (.lst xs) ∧ LinesAt H' xs ls ∧ ls.length = i ∧ (∀ l ∈ ls, l.1.natAbs ≤ 10 ^ 18) ∧ Bag H' p ∧ Kp [p, D] (upd H D (.lst [])) H')
      ⟨_, _, rfl, [], [], e3, lines_nil, rfl, (fun _ m => nomatch m), b3, kp_trans kH (kp_more k3 (subCons memA subNil))⟩ ?_ ?_
    · rintro i σ H4 hi ⟨y5, y6, rfl, xs, ls, g1, g2, g3, g4, b4, k4⟩
      refine ⟨_, rfl, _, rfl, le2, fun c nc => ?_⟩
      have fc := Fr.mk nc
      have ncp := bag_ne b4 nc
      have ncD := neN fc g1
      refine ⟨_, rfl, p, 2, rfl, bag_putF fc b4, by decide, by decide, fun r2 H5 u0 u1 b5 k5 => ?_⟩
      obtain ⟨v, hv, ev⟩ := two_at (u := 3) (v := W) u0 u1
      have c5 : H5 c = some (.lst [V.int 3, V.int W]) := k5.at_ _ _ upd_same (not_cons ncp not_nil)
      have g5 : H5 D = some (.lst xs) := k5.at_ _ _ (atNew fc g1) (not_cons npD not_nil)
      have l5 : LinesAt H5 xs ls := g2.ext fun t ys e => k5.at_ _ _ (atNew fc e) (not_cons (fun z => by
        obtain ⟨bx, hbx⟩ := bag_lst b4
        rw [z, hbx] at e
        cases e) not_nil)
      have v1 : 0 ≤ v ∧ v ≤ 10 ^ 18 := by
        rcases ev with rfl | rfl
        · exact ⟨by decide, by decide⟩
        · exact ⟨w0, w1⟩
      refine ⟨c, _, _, _, rfl, rfl, sqlOf c5, hv, ?_⟩
      refine ⟨p, v, rfl, b5, v1.1, by omega, fun x H6 x0 x1 b6 k6 => ?_⟩
      have g6 : H6 D = some (.lst xs) := k6.at_ _ _ g5 (not_cons npD not_nil)
      have tup : ∀ {Ha Hb : Hp} {t : Addr} {ys : List V}, Bag Ha p → Kp [p] Ha Hb → Ha t = some (.tup ys) → Hb t = some (.tup ys) := fun {Ha Hb t ys} b k e => k.at_ _ _ e (not_cons (fun z => by
        obtain ⟨bx, hbx⟩ := bag_lst b
        rw [z, hbx] at e
        cases e) not_nil)
      have l6 : LinesAt H6 xs ls := l5.ext fun t ys e => tup b5 k6 e
      refine ⟨_, rfl, .inl ⟨rfl, _, sqlOf g6⟩, _, rfl, _, rfl, _, rfl, _, rfl, _, _, rfl, rfl, .inl ⟨by omega, by omega⟩, _, _, rfl, rfl, ?_⟩
      refine ⟨_, rfl, _, rfl, p, W, rfl, b6, w0, by omega, fun u H7 uu0 uu1 b7 k7 => ?_⟩
      refine ⟨le2, fun c2 nc2 => ?_⟩
      have fc2 := Fr.mk nc2
      have nc2p := bag_ne b7 nc2
      have g7 : H7 D = some (.lst xs) := k7.at_ _ _ g6 (not_cons npD not_nil)
      have l7 : LinesAt H7 xs ls := l6.ext fun t ys e => tup b6 k7 e
      refine ⟨_, rfl, p, 2, rfl, bag_putF fc2 b7, by decide, by decide, fun r3 H8 s0 s1 b8 k8 => ?_⟩
      obtain ⟨v2, hv2, _⟩ := two_at (u := y - x * sp) (v := u) s0 s1
      have c8 : H8 c2 = some (.lst [V.int (y - x * sp), V.int u]) := k8.at_ _ _ upd_same (not_cons nc2p not_nil)
      have g8 : H8 D = some (.lst xs) := k8.at_ _ _ (atNew fc2 g7) (not_cons npD not_nil)
      have l8 : LinesAt H8 xs ls := l7.ext fun t ys e => tup (bag_putF fc2 b7) k8 (atNew fc2 e)
      refine ⟨c2, _, _, _, rfl, rfl, sqlOf c8, hv2, le2, fun t nt => ?_⟩
      have ft := Fr.mk nt
      have g9 : upd H8 t (.tup [.int x, .int v2]) D = some (.lst xs) := atNew ft g8
      have ntD : D ≠ t := neN ft g8
      refine ⟨D, xs, .ref t, rfl, rfl, g9, by rw [g2.len, g3, sizeLine_eq]; omega, ?_⟩
      refine ⟨_, _, rfl, xs ++ [.ref t], ls ++ [(x, v2)], upd_same, ?_, by rw [List.length_append, g3]; rfl, fun l ml => ?_, bag_neF (Ne.symm npD) (bag_putF ft b8), ?_⟩
      · exact ((l8.ext fun a ys e => atNew ft e).add (l := (x, v2)) upd_same).ext fun a ys e => (upd_ne fun z => by rw [z, g9] at e; cases e).trans e
      · rcases List.mem_append.mp ml with ml | ml
        · exact g4 l ml
        · rw [List.mem_singleton.mp ml]
          show x.natAbs ≤ _
          omega
      · have q5 : Kp [p, D] (upd H D (.lst [])) H5 := kp_trans (kp_new fc k4) (kp_more k5 (subCons memA subNil))
        have q7 : Kp [p, D] (upd H D (.lst [])) H7 := kp_trans (kp_trans q5 (kp_more k6 (subCons memA subNil))) (kp_more k7 (subCons memA subNil))
        have q8 : Kp [p, D] (upd H D (.lst [])) H8 := kp_trans (kp_new fc2 q7) (kp_more k8 (subCons memA subNil))
        exact kp_up (memB memA) (kp_new ft q8)
    · rintro σ H4 ⟨y5, y6, rfl, xs, ls, g1, g2, g3, g4, b4, k4⟩
      refine ⟨_, rfl, q D xs ls H4 fD (kp_fresh (kp_newF (o := .lst []) fD (kp_refl [p] H)) k4 (subCons (.inl memA) (subCons (.inr fD) subNil))) b4 g1 g2 (fun z => ?_) (by omega) g4⟩
      rw [z] at g3
      have : (0 : Nat) = (1 + r).toNat := g3
      omega
def spLR (T : Txt K mg) : Sp := fun vs H Q _ => ∃ (p : Addr) (W : Int), vs = [.ref p, .int W] ∧ Bag H p ∧ 0 ≤ W ∧ W ≤ 10 ^ 18 ∧ TabsN (TT T) H ∧ ∀ H', Bag H' p → Kp [p, T.p_least_at] H H' → TabsN (TT T) H' → Q (.bl true) H'
theorem ok_lr (T : Txt K mg) (TB : LamX.TabB base mg T.c_least_at T.p_least_at) : FnOk P w K mg base CX0 8 T.f_l_lines_right T.d_l_lines_right ["_law_bag_here", "_law_wide"] (spLR T) := by
  have G_l_integer := ok_int (P := P) (w := w) (base := base) T
  have G_l_lines := ok_lns (P := P) (w := w) (base := base) T
  have G_lines_block := ok_linesB (P := P) (w := w) (base := base) T
  have G_least_at := ok_least (P := P) (w := w) T TB
  have KB_lines_block : KBn K T.d_lines_block ["lines"] 0 ["lines"] (fun us ws => us ++ ws) (fun vs zs => vs ++ zs) := kb_of T.F_lines_block (fun kV doc pm an cdv ct us ws l1 l2 => match us, ws, l1, l2 with | [], [_], _, _ => rfl) fun a b => a.append b
  have KB_least_at : KBn K T.d_least_at ["block", "x"] 0 ["block", "x"] (fun us ws => us ++ ws) (fun vs zs => vs ++ zs) := kb_ofT T.F_least_at (fun kV doc pm an cdv ct us ws l1 l2 => match us, ws, l1, l2 with | [], [_, _], _, _ => rfl) fun a b => a.append b
  refine T.F_l_lines_right.ok sc_l_lines_right (fun vs H Q E h => ?_) (fun cdv A outer s H vs Q E hr h => ?_)
  · obtain ⟨p, W, rfl, _⟩ := h
    rfl
  · obtain ⟨p, W, rfl, hb, w0, w1, hT, q⟩ := h
    refine ⟨_, (pss_cons (ps_set (i := 2) sc_l_lines_right.nd rfl (.inl rfl) (pe_call G_l_lines (hr.mono (by omega)) rfl T.g_l_lines T.F_l_lines.kp T.b_l_lines .nil pass0 (pa_cons (pv 0) (pa_cons (pv 1) pa_nil))))
      (pss_cons (ps_set (i := 3) sc_l_lines_right.nd rfl (.inl rfl) (pe_callTy call_list_of (by rfl) T.z_list (by decide +kernel) (pa_cons (pv 2) pa_nil)))
      (pss_cons (ps_set (i := 4) sc_l_lines_right.nd rfl (.inl rfl) (pe_callTy call_list_of (by rfl) T.z_list (by decide +kernel) (pa_cons (pv 2) pa_nil)))
      (pss_cons (ps_set (i := 5) sc_l_lines_right.nd rfl (.inl rfl) (pe_call G_lines_block (hr.mono (by omega)) rfl T.g_lines_block T.F_lines_block.kp T.b_lines_block .nil pass0 (pa_cons (pv 4) pa_nil)))
      (pss_cons (ps_expr (pe_bm PySem.F.plainAttrs_list PySem.F.slot_list_append PySem.F.type_list_append mt_append (pv 4) (pa_cons (pe_tup (pa_cons pe_int (pa_cons (pe_op op_sub pe_int (pe_op op_pow pe_int pe_int)) pa_nil))) pa_nil)))
      (pss_cons (ps_expr (pe_bm0 PySem.F.plainAttrs_list PySem.F.slot_list_reverse PySem.F.type_list_reverse mt_reverse (pv 4)))
      (pss_cons (ps_for PassesOwn.never rfl (pi_list (pe_op op_cat (pe_op op_cat (pe_listRg rfl (by rfl) T.z_list (prg_2 (by rfl) T.z_range (pe_un un_neg pe_int) pe_int)) (pe_lc (own := [("_law_k", 9)]) (g := gName 9) (tt := tYes) rfl sc_l_lines_right.nd (pi_range1 (by rfl) T.z_range (pa_cons pe_int pa_nil)) (blkOk_by (N := n_l_lines_right) (sc := defScope s_l_lines_right) (by decide +kernel)) (fun _ _ _ _ _ => (pg_name (i := 9) sc_l_lines_right.nd rfl (.inl rfl))) (fun _ _ _ _ _ => pts_nil) (fun _ _ _ _ _ => (pe_call G_l_integer (hr.mono (by omega)) rfl T.g_l_integer T.F_l_integer.kp T.b_l_integer .nil pass0 (pa_cons (pv 0) (pa_cons (pe_op op_pow pe_int pe_int) pa_nil)))))) (pe_lst (pa_cons (pe_op op_pow pe_int pe_int) (pa_cons (pe_op op_sub pe_int (pe_op op_pow pe_int pe_int)) pa_nil))))) (pg_name (i := 6) sc_l_lines_right.nd rfl (.inr rfl)) (pss_cons (ps_set (i := 7) sc_l_lines_right.nd rfl (.inl rfl) (pe_callB (cr_min rfl) (by rfl) T.z_min (by decide +kernel) (pa_cons (pe_lc (own := [("_law_slope", 10), ("_law_height", 8)]) (g := gTup K 2 (gCons (gName 10) (gCons (gName 8) gNil))) (tt := tYes) rfl sc_l_lines_right.nd (pi_list (pv 3)) (blkOk_by (N := n_l_lines_right) (sc := defScope s_l_lines_right) (by decide +kernel)) (fun _ _ _ _ _ => (pg_tup (by rfl) (pgs_cons (pg_name (i := 10) sc_l_lines_right.nd rfl (.inl rfl)) (pgs_cons (pg_name (i := 8) sc_l_lines_right.nd rfl (.inl rfl)) pgs_nil)))) (fun _ _ _ _ _ => pts_nil) (fun _ _ _ _ _ => (pe_op op_add (pe_op op_mul (pv 10) (pv 6)) (pv 8)))) pa_nil)))
        (pss_one (ps_if (PW.pt (pw_or (pt_cmpR op_ne (pe_call G_least_at (hr.mono (by omega)) rfl T.g_least_at T.F_least_at.kp T.b_least_at .nil pass0 (pa_cons (pv 5) (pa_cons (pv 6) pa_nil))) (pv 7) (nomark _)) (pw_or1 (pt_cmpR op_ne (pe_kw0 G_least_at (hr.mono (by omega)) rfl T.g_least_at T.F_least_at.kp KB_least_at pass0 (pk_cons (pe_kw0 G_lines_block (hr.mono (by omega)) rfl T.g_lines_block T.F_lines_block.kp KB_lines_block pass0 (pk_cons (pv 3) pk_nil)) (pk_cons (pv 6) pk_nil))) (pv 7) (nomark _))))) (pss_one (ps_ret pe_bl)) pss_nil))))
      (pss_one (ps_ret (pe_cmpR (op_eqD hr.units) (pv 2) (pv 3) (nomark _))))))))))), ?_⟩
    refine ⟨_, rfl, _, rfl, p, W, rfl, hb, w0, w1, fun D xs ls H2 fD k2 b2 e2 l2 lne l30 lb => ?_⟩
    have t2 := tabs_bag hT hb k2
    refine ⟨_, rfl, D, _, rfl, .inl (sqlOf e2), fun sh nsh => ?_⟩
    have fsh := Fr.mk nsh
    have nsD : D ≠ sh := neN fsh e2
    obtain ⟨bx, hbx⟩ := bag_lst b2
    have nsp : p ≠ sh := neN fsh hbx
    refine ⟨_, rfl, D, _, rfl, .inl (sqlOf (atNew fsh e2)), fun le nle => ?_⟩
    have fle := Fr.mk nle
    have nlD : D ≠ le := neN fle (atNew fsh e2)
    have nls : sh ≠ le := neN fle upd_same
    have nlp : p ≠ le := neN fle (atNew fsh hbx)
    have t3 := tabs_new (u := .lst xs) (tabs_new (u := .lst xs) t2 fsh) fle
    have l3 : LinesAt (upd (upd H2 sh (.lst xs)) le (.lst xs)) xs ls := l2.ext fun t ys e => atNew fle (atNew fsh e)
    have lb2 : ∀ l ∈ ls, l.1.natAbs < 2 ^ 62 := fun l m => by
      have := lb l m
      omega
    refine ⟨_, rfl, le, xs, ls, rfl, sqlOf upd_same, l3, lb2, by omega, fun md k H3 fm s3 B3 => ?_⟩
    have t4 := tabs_same t3 s3
    have d3 : H3 D = some (.lst xs) := by kp_flats
    have h3 : H3 sh = some (.lst xs) := by kp_flats
    have e3 : H3 le = some (.lst xs) := by kp_flats
    have l4 : LinesAt H3 xs ls := l3.ext fun t ys e => s3 _ _ e
    have b3 : Bag H3 p := bag_same (bag_putF fle (bag_putF fsh b2)) s3
    have k3 : Kp [p] H H3 := by kxs_still
    have flH : Fr H le := by kba_ints
    have lsz : xs.length < sizeLine := by rw [l2.len, sizeLine_eq]; omega
    refine ⟨_, rfl, .inl ⟨rfl, _, sqlOf e3⟩, _, _, rfl, rfl, ⟨by decide, by decide, by decide⟩, _, _, rfl, rfl, le2, fun tt ntt => ?_⟩
    have ftt := Fr.mk ntt
    refine ⟨le, xs, .ref tt, rfl, rfl, atNew ftt e3, lsz, ?_⟩
    have nlt : le ≠ tt := neN ftt e3
    refine ⟨_, rfl, .inl ⟨rfl, _, sqlOf upd_same⟩, le, _, rfl, rfl, upd_same, ?_⟩
    generalize hH4 : upd (upd (upd H3 tt (.tup [V.int 0, V.int (0 - 10 ^ Int.toNat 28)])) le (.lst (xs ++ [V.ref tt]))) le (.lst (xs ++ [V.ref tt]).reverse) = H4
    have up4 : ∀ {a : Addr} {o : HO}, H3 a = some o → a ≠ le → H4 a = some o := fun {a o} e n => by
      rw [← hH4, upd_ne n, upd_ne n]
      exact atNew ftt e
    have tup4 : ∀ {a : Addr} {ys : List V}, H3 a = some (.tup ys) → H4 a = some (.tup ys) := fun {a ys} e => up4 e (neO e e3 (fun z => nomatch z))
    have d4 := up4 d3 nlD
    have h4 := up4 h3 nls
    have B4 : LBlk H4 md ls k := ⟨B3.at_.imp fun ys ⟨y1, y2⟩ => ⟨tup4 y1, y2.ext fun t zs e => tup4 e⟩, B3.sub, B3.hull, B3.dom, B3.len⟩
    have l5 : LinesAt H4 xs ls := l4.ext fun t ys e => tup4 e
    have b4 : Bag H4 p := by
      rw [← hH4]
      exact bag_neF nlp (bag_neF nlp (bag_putF ftt b3))
    have t5 : TabsN (TT T) H4 := by
      rw [← hH4]
      exact tabs_lst (tabs_lst (tabs_new t4 ftt) (atNew ftt e3)) upd_same
    have k4 : Kp [p] H H4 := by
      rw [← hH4]
      exact kp_newF flH (kp_newF flH (kp_new ftt k3))
    clear hH4 t2 t3 t4 k3 s3 l3 l4
    refine ⟨_, rfl, _, _, rfl, rfl, ⟨by decide, by decide, by decide, by decide, by decide⟩, fun R nR => ?_⟩
    have fR := Fr.mk nR
    refine ⟨4, rfl, by decide, by decide, fun F nF => ?_⟩
    have fF := Fr.mk nF
    have hmA : (T.p_least_at, nm_least_at) ∈ TT T := hm_least_at T
    have b6 := bag_putF (o := .lst (rgV (-12) 13)) fR b4
    have t6 := tabs_new (u := .lst (rgV (-12) 13)) t5 fR
    have npF := bag_ne b6 nF
    obtain ⟨bx4, hbx4⟩ := bag_lst b4
    have npR : p ≠ R := neN fR hbx4
    have nRF : R ≠ F := neN fF upd_same
    have fF4 : Fr H4 F := by kba_ints
    refine lc_range (fun i H' => ∃ fs : List Int, H' F = some (.lst (fs.map V.int)) ∧ fs.length = i ∧ Bag H' p ∧ TabsN (TT T) H' ∧ Kp [p, F] (upd (upd H4 R (.lst (rgV (-12) 13))) F (.lst [])) H') ⟨[], upd_same, rfl, bag_putF fF b6, tabs_new t6 fF, kp_refl _ _⟩ ?_ ?_
    · rintro i H' hi ⟨fs, g1, g2, b7, t7, k7⟩
      refine ⟨rfl, ?_⟩
      refine ⟨_, rfl, _, _, rfl, rfl, ⟨by decide, by decide, by decide⟩, p, 10 ^ Int.toNat 20, rfl, b7, by decide, by decide, fun x H8 x0 x1 b8 k8 => ?_⟩
      have g3 : H8 F = some (.lst (fs.map V.int)) := k8.at_ _ _ g1 (not_cons npF not_nil)
      have t8 := tabs_bag t7 b7 k8
      have hi4 : i < 4 := hi
      exact ⟨_, g3, by rw [List.length_map, sizeLine_eq]; omega, fs ++ [x], by rw [upd_same, List.map_append]; rfl, by rw [List.length_append, g2]; rfl, bag_neF (Ne.symm npF) b8, tabs_lst t8 g3, kp_up (by o_fieldsN) (kp_trans k7 (kp_more k8 (subCons memA subNil)))⟩
    rintro H6 ⟨fs, g1, g2, b7, t7, k7⟩
    have g24 : fs.length = 4 := g2
    have r6 : H6 R = some (.lst (rgV (-12) 13)) := k7.at_ _ _ (atNew fF upd_same) (not_cons (Ne.symm npR) (not_cons nRF not_nil))
    have k46 : Kp [p] H4 H6 := kp_fresh (kp_newF (o := .lst []) fF4 (kp_newF (o := .lst (rgV (-12) 13)) fR (kp_refl [p] H4))) k7 (subCons (.inl memA) (subCons (.inr fF4) subNil))
    have k6 := kp_trans k4 k46
    have np : ∀ {a : Addr} {o : HO}, H4 a = some o → (∀ xs, o ≠ .lst xs) → H6 a = some o := fun {a o} e n => k46.at_ _ _ e (not_cons (fun z => by
      rw [z, hbx4] at e
      exact n _ (Option.some.inj e).symm) not_nil)
    have tup6 : ∀ {a : Addr} {ys : List V}, H4 a = some (.tup ys) → H6 a = some (.tup ys) := fun {a ys} e => np e (fun _ z => nomatch z)
    have nDp : D ≠ p := fun z => by
      rw [z] at fD
      obtain ⟨bx0, hbx0⟩ := bag_lst hb
      rw [fD.h] at hbx0
      cases hbx0
    have d6 := k46.at_ _ _ d4 (not_cons nDp not_nil)
    have h6 := k46.at_ _ _ h4 (not_cons (Ne.symm nsp) not_nil)
    have B6 : LBlk H6 md ls k := ⟨B4.at_.imp fun ys ⟨y1, y2⟩ => ⟨tup6 y1, y2.ext fun t zs e => tup6 e⟩, B4.sub, B4.hull, B4.dom, B4.len⟩
    have l6 : LinesAt H6 xs ls := l5.ext fun t ys e => tup6 e
    refine ⟨R, F, _, _, rfl, rfl, r6, g1, by rw [rgV_length, List.length_map, sizeLine_eq]; omega, fun M1 nM1 => ?_⟩
    have fM1 := Fr.mk nM1
    refine ⟨_, _, rfl, rfl, ⟨by decide, by decide, by decide⟩, _, _, rfl, rfl, ⟨by decide, by decide, by decide⟩, _, _, rfl, rfl, le2, fun M2 nM2 => ?_⟩
    have fM2 := Fr.mk nM2
    have nM12 : M1 ≠ M2 := neN fM2 upd_same
    have eM1 : upd (upd H6 M1 (.lst (rgV (-12) 13 ++ fs.map V.int))) M2 (.lst [V.int (10 ^ Int.toNat 25), V.int (0 - 10 ^ Int.toNat 25)]) M1 = some (.lst (rgV (-12) 13 ++ fs.map V.int)) := atNe nM12 upd_same
    refine ⟨M1, M2, _, _, rfl, rfl, eM1, upd_same, by rw [List.length_append, rgV_length, List.length_map, sizeLine_eq]; show (13 - -12 : Int).toNat + fs.length + 2 ≤ _; omega, fun G nG => ?_⟩
    have fG := Fr.mk nG
    have eG : (rgV (-12) 13 ++ fs.map V.int) ++ [V.int (10 ^ Int.toNat 25), V.int (0 - 10 ^ Int.toNat 25)] = ((((List.range (13 - -12 : Int).toNat).map fun i : Nat => (-12 : Int) + (i : Int)) ++ fs) ++ [10 ^ Int.toNat 25, 0 - 10 ^ Int.toNat 25]).map V.int := by
      rw [List.map_append, List.map_append, List.map_map]
      rfl
    generalize hH9 : upd (upd (upd H6 M1 (.lst (rgV (-12) 13 ++ fs.map V.int))) M2 (.lst [V.int (10 ^ Int.toNat 25), V.int (0 - 10 ^ Int.toNat 25)])) G (.lst ((rgV (-12) 13 ++ fs.map V.int) ++ [V.int (10 ^ Int.toNat 25), V.int (0 - 10 ^ Int.toNat 25)])) = H9
    have up9 : ∀ {a : Addr} {o : HO}, H6 a = some o → H9 a = some o := fun {a o} e => by
      rw [← hH9]
      exact atNew fG (atNew fM2 (atNew fM1 e))
    have s9 : Same H6 H9 := fun a o e => up9 e
    have g9 : H9 G = some (.lst (((((List.range (13 - -12 : Int).toNat).map fun i : Nat => (-12 : Int) + (i : Int)) ++ fs) ++ [10 ^ Int.toNat 25, 0 - 10 ^ Int.toNat 25]).map V.int)) := by rw [← hH9, upd_same, eG]
    generalize (((List.range (13 - -12 : Int).toNat).map fun i : Nat => (-12 : Int) + (i : Int)) ++ fs) ++ [10 ^ Int.toNat 25, 0 - 10 ^ Int.toNat 25] = zs at g9
    have t9 := tabs_same t7 s9
    have b9 := bag_same b7 s9
    have k9 : Kp [p] H H9 := kp_trans k6 (kp_same s9)
    have d9 := s9 _ _ d6
    have h9 := s9 _ _ h6
    have l9 : LinesAt H9 xs ls := l6.ext fun t ys e => s9 _ _ e
    have B9 : LBlk H9 md ls k := ⟨B6.at_.imp fun ys ⟨y1, y2⟩ => ⟨s9 _ _ y1, y2.ext fun t zs e => s9 _ _ e⟩, B6.sub, B6.hull, B6.dom, B6.len⟩
    clear hH9
    have tupA : ∀ {Ha Hb : Hp} {a : Addr} {ys : List V}, TabsN (TT T) Ha → Kp [T.p_least_at] Ha Hb → Ha a = some (.tup ys) → Hb a = some (.tup ys) := fun {Ha Hb a ys} t k e => k.at_ _ _ e (not_cons (tab_ne t hmA e (fun _ z => nomatch z)) not_nil)
    have blkA : ∀ {Ha Hb : Hp} {a : Addr} {k : List Ln}, (∀ t ys, Ha t = some (.tup ys) → Hb t = some (.tup ys)) → LBlk Ha a ls k → LBlk Hb a ls k := fun {Ha Hb a k} s B => ⟨B.at_.imp fun ys ⟨y1, y2⟩ => ⟨s _ _ y1, y2.ext s⟩, B.sub, B.hull, B.dom, B.len⟩
    have ask : ∀ {Ha : Hp} {a : Addr} {k : List Ln} (_ : LBlk Ha a ls k), k ≠ [] ∧ (∀ l ∈ k, l.1.natAbs < 2 ^ 62) ∧ k.length ≤ 1000 := fun {Ha a k} B => by
      refine ⟨fun z => ?_, fun l m => lb2 l (B.sub l m), by have := B.len; omega⟩
      rcases ls with _ | ⟨l0, ls'⟩
      · exact lne rfl
      · obtain ⟨m, mm, _⟩ := B.dom l0 (List.mem_cons_self ..) 0
        rw [z] at mm
        cases mm
    refine ⟨G, rfl, ⟨_, sqlOf g9⟩, ?_⟩
    refine for_list (xs := zs.map V.int) (fun i σ H' => ∃ y6 y7, σ = [some (.ref p), some (.int W), some (.ref D), some (.ref sh), some (.ref le), some (.ref md), y6, y7, none, none, none] ∧ TabsN (TT T) H' ∧ Kp [T.p_least_at] H9 H') ⟨_, _, rfl, t9, kp_refl _ _⟩ ?_ ?_ ?_
    · rintro i σ H' _ ⟨y6, y7, rfl, t10, k10⟩
      exact sqlOf (k10.at_ _ _ g9 (not_cons (no_tab t9 hmA g9) not_nil))
    · rintro i x σ H' hx ⟨y6, y7, rfl, t10, k10⟩
      rw [List.getElem?_map] at hx
      obtain ⟨z, hz, rfl⟩ := Option.map_eq_some_iff.mp hx
      have h10 := k10.at_ _ _ h9 (not_cons (no_tab t9 hmA h9) not_nil)
      have l10 : LinesAt H' xs ls := l9.ext fun t ys e => tupA t9 k10 e
      have B10 := blkA (fun t ys e => tupA t9 k10 e) B9
      refine ⟨_, rfl, sh, rfl, ⟨_, sqlOf h10⟩, fun E2 nE2 => ?_⟩
      have fE2 := Fr.mk nE2
      refine lc_list (K := K) (xs := xs) (fun j H'' => Same H' H'' ∧ H'' E2 = some (.lst (((ls.take j).map (val · z)).map V.int))) ⟨same_newF fE2, upd_same⟩ (fun j H'' _ h => sqlOf (h.1 _ _ h10)) ?_ ?_
      · rintro j x2 H'' hx2 ⟨s11, e11⟩
        have lj : j < ls.length := by
          rw [← l10.len]
          exact (List.getElem?_eq_some_iff.mp hx2).1
        have hlj : ls[j]? = some ls[j] := List.getElem?_eq_getElem lj
        generalize ls[j] = l at hlj
        obtain ⟨t, rfl, ht⟩ := l10.at_ j x2 l hx2 hlj
        have la := lb l (List.mem_of_getElem? hlj)
        refine ⟨t, _, rfl, sqtOf (s11 _ _ ht), rfl, _, _, rfl, _, _, rfl, rfl, rfl, ?_⟩
        refine ⟨_, rfl, _, rfl, _, _, rfl, rfl, .inl ⟨by omega, by omega⟩, _, rfl, _, _, rfl, rfl, _, e11, ?_, same_put s11 nE2, ?_⟩
        · rw [List.length_map, List.length_map, List.length_take, sizeLine_eq]
          omega
        · rw [upd_same, List.take_succ, hlj, List.map_append, List.map_append]
          rfl
      rintro H11 ⟨s11, e11⟩
      rw [l10.len, List.take_length] at e11
      refine ⟨E2, _, rfl, sqlOf e11, by rw [List.length_map]; exact List.length_pos_iff.mpr lne, fun m mm lm => ?_⟩
      have t11 := tabs_same t10 s11
      have B11 := blkA (fun t ys e => s11 _ _ e) B10
      have l11 : LinesAt H11 xs ls := l10.ext fun t ys e => s11 _ _ e
      have h11 := s11 _ _ h10
      obtain ⟨kne, kb, kl⟩ := ask B11
      obtain ⟨ys, y1, y2⟩ := B11.at_
      obtain ⟨S, hu⟩ := B11.hull
      refine ⟨_, rfl, _, rfl, md, ys, S, k, z, rfl, y1, y2, hu, kne, kb, kl, t11, fun H12 u t12 k12 n12 mu lu => ?_⟩
      have ev : V.int (val u z) = V.int m := by rw [least_eq mm lm mu lu B11.sub B11.dom]
      refine ⟨_, rfl, rfl, _, rfl, ?_⟩
      refine ifF (neF ev) ?_
      have h12 := k12.at_ _ _ h11 (not_cons (no_tab t11 hmA h11) not_nil)
      have l12 : LinesAt H12 xs ls := l11.ext fun t ys e => tupA t11 k12 e
      refine ⟨_, rfl, rfl, rfl, sh, xs, ls, rfl, sqlOf h12, l12, lb2, by omega, fun md2 k2' H13 fm2 s13 B13 => ?_⟩
      have t13 := tabs_same t12 s13
      obtain ⟨kne2, kb2, kl2⟩ := ask B13
      obtain ⟨ys2, z1, z2⟩ := B13.at_
      obtain ⟨S2, hu2⟩ := B13.hull
      refine ⟨_, rfl, rfl, rfl, md2, ys2, S2, k2', z, rfl, z1, z2, hu2, kne2, kb2, kl2, t13, fun H14 u2 t14 k14 n14 mu2 lu2 => ?_⟩
      have ev2 : V.int (val u2 z) = V.int m := by rw [least_eq mm lm mu2 lu2 B13.sub B13.dom]
      refine ⟨_, rfl, rfl, _, rfl, ?_⟩
      refine ifF (neF ev2) ?_
      exact ⟨_, _, rfl, t14, kp_trans (kp_trans (kp_trans (kp_trans k10 (kp_same s11)) k12) (kp_same s13)) k14⟩
    · rintro σ H' ⟨y6, y7, rfl, t10, k10⟩
      have h10 := k10.at_ _ _ h9 (not_cons (no_tab t9 hmA h9) not_nil)
      have d10 := k10.at_ _ _ d9 (not_cons (no_tab t9 hmA d9) not_nil)
      have l10 : LinesAt H' xs ls := l9.ext fun t ys e => tupA t9 k10 e
      obtain ⟨bx9, hbx9⟩ := bag_lst b9
      have npA := no_tab t9 hmA hbx9
      refine ⟨_, rfl, _, rfl, _, _, .lst (sqlOf d10) (dp_lines l10), .lst (sqlOf h10) (dp_lines l10), sh_lines _, sh_lines _, ?_⟩
      rw [SeqAt.eqv_refl _ (SeqAt.canLay_of_shaped (sh_lines _))]
      exact q H' (bag_kpR k10 (not_cons npA not_nil) b9) (kp_trans (kp_more k9 (subCons memA subNil)) (kp_more k10 (subCons (memB memA) subNil))) t10
end
end Ob

set_option Elab.async false
set_option linter.all false
set_option maxRecDepth 100000
set_option maxHeartbeats 1000000
namespace Ob
open PySem PySem.Spec PyProof.Rows L2
open LamX (Tabs TabB TabS ExtN)

set_option hygiene false in
local macro_rules
  | `(tactic| kp_flats) => `(tactic| first
    | assumption
    | exact upd_same
    | (apply atNew; assumption; kp_flats)
    | (apply atNe; (next => kbo_bools); kp_flats)
    | (apply atSame; assumption; kp_flats)
    | (apply atKp; assumption; (next => kaf_pre); kp_flats))
set_option hygiene false in
local macro_rules
  | `(tactic| kaf_pre) => `(tactic| first
    | assumption
    | exact not_nil
    | (apply not_cons; (next => kbo_bools); kaf_pre)
    | (apply not_app; (next => kaf_pre); kaf_pre))
set_option hygiene false in
local macro_rules
  | `(tactic| kbo_bools) => `(tactic| first
    | assumption
    | (apply Ne.symm; assumption)
    | (apply neN; assumption; kp_flats)
    | (apply neN'; assumption; kp_flats))
set_option hygiene false in
local macro_rules
  | `(tactic| o_reads) => `(tactic| first
    | with_reducible rfl
    | assumption
    | rfl
    | kp_flats
    | (show SqL _ _ _ _; first | assumption | (apply sqlOf; kp_flats) | (apply sqlSame; assumption; o_reads))
    | (show SqT _ _ _ _; first | assumption | (apply sqtOf; kp_flats) | (apply sqtAll; assumption) | (apply sqtSame; assumption; o_reads))
    | (show Cls _ _; first | skip)
    | (show NoAttr _ _ _; first | skip)
    | (apply Or.inl; o_reads)
    | (apply Or.inr; o_reads)
    | (apply And.intro; (next => o_reads); o_reads)
    | (apply Exists.intro; o_reads)
    | exact Nat.le_of_ble_eq_true rfl
    | exact Nat.succ_ne_zero _
    | (show Fr _ _; kba_ints)
    | (show Same _ _; kd_subs)
    | (show Kp _ _ _; kxs_still)
    | (show (_ : Nat) ≤ _; simp only [List.length_append, List.length_map, List.length_cons, List.length_nil, List.length_take, List.length_drop, List.length_replicate, List.length_range, sizeLine_eq]; omega)
    | (show _ = none; apply Fr.h; kba_ints)
    | (show Bag _ _; first | assumption | (apply bag_putF; assumption; o_reads) | (apply bag_neF; (next => kbo_bools); o_reads) | (apply bag_kpR; assumption; (next => kaf_pre); o_reads))
    | omega
    | decide)
local macro_rules
  | `(tactic| o_readsAll) => `(tactic| repeat (first
    | (refine fun (pNew : Addr) (nNew : _ = none) => ?_; replace nNew := Fr.mk nNew)
    | (refine fun (xNew dNew : Addr) (nNew : _ = none) (mNew : _ = none) (eNew : dNew ≠ xNew) => ?_; replace nNew := Fr.mk nNew; replace mNew := Fr.mk mNew)
    | (apply And.intro; next => o_reads)
    | apply Exists.intro (α := V)
    | apply Exists.intro (α := Addr)
    | apply Exists.intro (α := Int)
    | apply Exists.intro (α := Bool)
    | apply Exists.intro (α := List V)
    | apply Exists.intro (α := List Nat)
    | apply Exists.intro (α := List (Str × V))
    | apply Exists.intro (α := List _)
    | apply Exists.intro (α := Str)
    | apply Exists.intro (α := HO)
    | apply Exists.intro (α := Sp)
    | apply Exists.intro (α := VK)))
set_option hygiene false in
local macro_rules
  | `(tactic| kba_ints) => `(tactic| first
    | assumption
    | (apply frUp; (first | assumption | (apply Ne.symm; assumption)); kba_ints)
    | (apply noneOf; assumption; intro oF eF; apply Exists.intro; kp_flats)
    | (apply frUp; (next => kbo_bools); kba_ints))
set_option hygiene false in
local macro_rules
  | `(tactic| kxs_still) => `(tactic| first
    | assumption
    | exact kp_refl _ _
    | (apply kp_newF; assumption; kxs_still)
    | (apply kp_new; assumption; kxs_still)
    | (apply kp_up; (next => o_fieldsN); kxs_still)
    | (apply kp_new; (next => kba_ints); kxs_still)
    | (apply kp_sameR; assumption; kxs_still)
    | (apply kp_transR; assumption; kxs_still)
    | (apply kp_freshR; assumption; (next => kaf_suf); kxs_still))
set_option hygiene false in
local macro_rules
  | `(tactic| kaf_suf) => `(tactic| first
    | assumption
    | exact subNil
    | (apply subCons; (first | (apply Or.inl; o_fieldsN) | (apply Or.inr; kba_ints)); kaf_suf)
    | (apply subApp; (next => kaf_suf); kaf_suf))
set_option hygiene false in
local macro_rules
  | `(tactic| o_fieldsN) => `(tactic| first
    | assumption
    | exact memA
    | (apply memB; o_fieldsN)
    | (apply memL; o_fieldsN)
    | (apply memR; o_fieldsN))
set_option hygiene false in
local macro_rules
  | `(tactic| kd_subs) => `(tactic| first
    | assumption
    | exact Same.refl _
    | (apply same_putF; assumption; kd_subs)
    | (apply same_putG; assumption; kd_subs)
    | (apply same_putF; (next => kba_ints); kd_subs)
    | (apply same_transR; assumption; kd_subs))

set_option pp.maxSteps 900
open NdefX (TabsN)
theorem sql_kp {K : PySem.W.Frag} {cs : List Addr} {H H1 : Hp} {a : Addr} {xs : List V} (h : SqL K H a xs) (k : Kp cs H H1) (n : ∀ o, H a = some o → (∀ ps, o ≠ .tbl ps) → a ∉ cs) : SqL K H1 a xs := by
  rcases h with (h | ⟨o, h⟩) | h
  · exact .inl (.inl (k.at_ _ _ h (n _ h (fun _ z => nomatch z))))
  · exact .inl (.inr ⟨o, k.at_ _ _ h (n _ h (fun _ z => nomatch z))⟩)
  · exact .inr h
section
variable {P : Program} {w : World} {K : PySem.W.Frag} {mg : Str → Option Value} {base : Heap}
def spLaw (T : Txt K mg) : Sp := fun vs H Q _ => ∃ (a : Addr) (ns : List Int), vs = [.ref a] ∧ SqL K H a (ns.map V.int) ∧ ns.length ≤ 63 ∧ H T.p_count_below = some (.tbl #[]) ∧ H T.p_least_at = some (.tbl #[]) ∧ ∀ H', Q (.bl true) H'
theorem ok_law (T : Txt K mg) (TB : LamX.TabB base mg T.c_count_below T.p_count_below) (TB2 : LamX.TabB base mg T.c_least_at T.p_least_at) {f : Addr} {d : FuncData} (F : Fun K "law" "law" s_law f d) : FnOk P w K mg base CX0 30 f d ["_law_script"] (spLaw T) := by
  have G_l_bag := ok_bag (P := P) (w := w) (base := base) T
  have G_l_take := ok_takeK (P := P) (w := w) (base := base) T
  have G_sorted_block := ok_sortedB (P := P) (w := w) (base := base) T
  have G_count_below := ok_below (P := P) (w := w) T TB
  have G_l_counts_right := ok_cnt (P := P) (w := w) T TB
  have G_l_lines_right := ok_lr (P := P) (w := w) T TB2
  refine F.ok sc_law (fun vs H Q E h => ?_) (fun cdv A outer s H vs Q E hr h => ?_)
  · obtain ⟨a, ns, rfl, _⟩ := h
    rfl
  · obtain ⟨a0, ns0, rfl, hS, hlen, hp1, hp2, q⟩ := h
    have t0 : TabsN (TT T) H := fun p hp => by
      rcases List.mem_cons.mp hp with rfl | hp
      · exact NdefX.TabN.nil hp1
      · rcases List.mem_cons.mp hp with rfl | hp
        · exact NdefX.TabN.nil hp2
        · cases hp
    refine ⟨_, (pss_cons (ps_for PassesOwn.never rfl (pi_range1 (by rfl) T.z_range (pa_cons (pe_callB (call_max2 rfl) (by rfl) T.z_max (by decide +kernel) (pa_cons pe_int (pa_cons (pe_callB (call_min2 rfl) (by rfl) T.z_min (by decide +kernel) (pa_cons pe_int (pa_cons (pe_callB call_len_seq (by rfl) T.z_len (by decide +kernel) (pa_cons (pv 0) pa_nil)) pa_nil))) pa_nil))) pa_nil)) (pg_name (i := 1) sc_law.nd rfl (.inl rfl)) (pss_cons (ps_set (i := 2) sc_law.nd rfl (.inl rfl) (pe_call G_l_bag (hr.mono (by omega)) rfl T.g_l_bag T.F_l_bag.kp T.b_l_bag .nil pass0 (pa_cons (pv 0) (pa_cons (pv 1) pa_nil))))
        (pss_cons (ps_set (i := 3) sc_law.nd rfl (.inl rfl) (pe_ix (r := rIxL K) ix_list (pe_lst (pa_cons pe_int (pa_cons pe_int (pa_cons (pe_op op_pow pe_int pe_int) pa_nil)))) (pe_call G_l_take (hr.mono (by omega)) rfl T.g_l_take T.F_l_take.kp T.b_l_take .nil pass0 (pa_cons (pv 2) (pa_cons pe_int pa_nil))) (fun _ _ => rfl)))
        (pss_one (ps_if (PW.pt (pw_or (pt_not (pt_val (pe_call G_l_counts_right (hr.mono (by omega)) rfl T.g_l_counts_right T.F_l_counts_right.kp T.b_l_counts_right .nil pass0 (pa_cons (pv 2) (pa_cons (pv 3) pa_nil))))) (pw_or1 (pt_not (pt_val (pe_call G_l_lines_right (hr.mono (by omega)) rfl T.g_l_lines_right T.F_l_lines_right.kp T.b_l_lines_right .nil pass0 (pa_cons (pv 2) (pa_cons (pv 3) pa_nil)))))))) (pss_one (ps_ret pe_bl)) pss_nil)))))
      (pss_one (ps_ret (pe_cmpR op_eq (pe_call G_count_below (hr.mono (by omega)) rfl T.g_count_below T.F_count_below.kp T.b_count_below .nil pass0 (pa_cons (pe_call G_sorted_block (hr.mono (by omega)) rfl T.g_sorted_block T.F_sorted_block.kp T.b_sorted_block .nil pass0 (pa_cons (pe_lst pa_nil) pa_nil)) (pa_cons pe_int pa_nil))) pe_int (nomark _))))), ?_⟩
    refine ⟨_, rfl, a0, _, rfl, .inl hS, 4, _, rfl, 1, _, rfl, _, rfl, ?_, ?_, ?_⟩
    · split <;> split <;> omega
    · split <;> split <;> omega
    generalize hN : ((if (if (((ns0.map V.int).length : Nat) : Int) < 4 then (((ns0.map V.int).length : Nat) : Int) else 4) > 1 then (if (((ns0.map V.int).length : Nat) : Int) < 4 then (((ns0.map V.int).length : Nat) : Int) else 4) else 1) : Int).toNat = N
    have hN2 : N ≤ 4 := by
      rw [← hN]
      split <;> split <;> omega
    refine for_range (n := N) (fun i σ H' => ∃ y1 y2 y3, σ = [some (.ref a0), y1, y2, y3] ∧ TabsN (TT T) H' ∧ SqL K H' a0 (ns0.map V.int)) ⟨_, _, _, rfl, t0, hS⟩ ?_ ?_
    · rintro i σ H' hi ⟨y1, y2, y3, rfl, t1, s1⟩
      refine ⟨_, rfl, _, rfl, a0, ns0, i, by rw [Int.zero_add]; rfl, s1, by omega, fun p H1 np sa b1 => ?_⟩
      have fp := Fr.mk np
      have t2 := tabs_same t1 sa
      have s2 := sa.seq s1
      refine ⟨_, _, rfl, rfl, ⟨by decide, by decide, by decide⟩, le3, fun c nc => ?_⟩
      have fc := Fr.mk nc
      have ncp := bag_ne b1 nc
      refine ⟨_, rfl, p, 3, rfl, bag_putF fc b1, by decide, by decide, fun r H2 r0 r1 b2 k2 => ?_⟩
      have t3 := tabs_bag (tabs_new t2 fc) (bag_putF fc b1) k2
      have c2 : H2 c = some (.lst [V.int 5, V.int 60, V.int (10 ^ Int.toNat 18)]) := k2.at_ _ _ upd_same (not_cons ncp not_nil)
      obtain ⟨W, hW, W0, W1⟩ : ∃ W : Int, atI [V.int 5, V.int 60, V.int (10 ^ Int.toNat 18)] r = some (.int W) ∧ 0 ≤ W ∧ W ≤ 10 ^ 18 := by
        obtain ⟨k, rfl⟩ := Int.eq_ofNat_of_zero_le r0
        match k, r1 with
        | 0, _ => exact ⟨5, atI_nat (j := 0) rfl, by decide, by decide⟩
        | 1, _ => exact ⟨60, atI_nat (j := 1) rfl, by decide, by decide⟩
        | 2, _ => exact ⟨10 ^ Int.toNat 18, atI_nat (j := 2) rfl, by decide, by decide⟩
        | k + 3, h => exact absurd h (by omega)
      refine ⟨c, _, _, _, rfl, rfl, sqlOf c2, hW, ?_⟩
      refine ⟨_, rfl, _, rfl, p, W, rfl, b2, W0, W1, t3, fun H3 b3 k3 t4 => ⟨true, rfl, ?_⟩⟩
      refine ifF rfl ?_
      refine ⟨_, rfl, _, rfl, p, W, rfl, b3, W0, W1, t4, fun H4 b4 k4 t5 => ⟨true, rfl, ?_⟩⟩
      refine ifF rfl ?_
      have hmB : (T.p_count_below, nm_count_below) ∈ TT T := hm_count_below T
      have hmA : (T.p_least_at, nm_least_at) ∈ TT T := hm_least_at T
      have s5 : SqL K H4 a0 (ns0.map V.int) := by
        rcases s1 with h | h
        · have na : a0 ≠ p := by
            rcases h with h | ⟨o, h⟩
            · exact neN fp h
            · exact neN fp h
          have s3 : SqL K (upd H1 c (.lst [V.int 5, V.int 60, V.int (10 ^ Int.toNat 18)])) a0 (ns0.map V.int) := (same_newF fc).seq (sa.seq (.inl h))
          have s4 := sql_kp s3 k2 fun o e hn => not_cons na not_nil
          have s6 := sql_kp s4 k3 fun o e hn => not_cons na (not_cons (tab_ne t3 hmB e hn) not_nil)
          exact sql_kp s6 k4 fun o e hn => not_cons na (not_cons (tab_ne t4 hmA e hn) not_nil)
        · exact .inr h
      exact ⟨_, _, _, rfl, t5, s5⟩
    · rintro σ H' ⟨y1, y2, y3, rfl, t1, s1⟩
      refine ⟨Nat.zero_le _, fun e ne => ?_⟩
      have fe := Fr.mk ne
      refine ⟨e, [], rfl, sqlOf upd_same, fun ms md H2 pm pw fm s2 e2 => ?_⟩
      have t2 := tabs_same (tabs_new (u := .lst []) t1 fe) s2
      refine ⟨md, ms, 0, rfl, sqtOf e2, pw, by rw [pm.length_eq]; decide, t2, fun H3 t3 k3 n3 => ⟨rfl, ?_⟩⟩
      have em : ms = [] := List.length_eq_zero_iff.mp pm.length_eq
      rw [em]
      exact q _
end
end Ob

set_option Elab.async false
set_option linter.all false
set_option maxRecDepth 100000
set_option maxHeartbeats 1000000
namespace Ob
open PySem PySem.Spec PyProof.Rows L2
open LamX (Tabs TabB TabS ExtN)

set_option hygiene false in
local macro_rules
  | `(tactic| kp_flats) => `(tactic| first
    | assumption
    | exact upd_same
    | (apply atNew; assumption; kp_flats)
    | (apply atNe; (next => kbo_bools); kp_flats)
    | (apply atSame; assumption; kp_flats)
    | (apply atKp; assumption; (next => kaf_pre); kp_flats))
set_option hygiene false in
local macro_rules
  | `(tactic| kaf_pre) => `(tactic| first
    | assumption
    | exact not_nil
    | (apply not_cons; (next => kbo_bools); kaf_pre)
    | (apply not_app; (next => kaf_pre); kaf_pre))
set_option hygiene false in
local macro_rules
  | `(tactic| kbo_bools) => `(tactic| first
    | assumption
    | (apply Ne.symm; assumption)
    | (apply neN; assumption; kp_flats)
    | (apply neN'; assumption; kp_flats))
set_option hygiene false in
local macro_rules
  | `(tactic| o_reads) => `(tactic| first
    | with_reducible rfl
    | assumption
    | rfl
    | kp_flats
    | (show SqL _ _ _ _; first | assumption | (apply sqlOf; kp_flats) | (apply sqlSame; assumption; o_reads))
    | (show SqT _ _ _ _; first | assumption | (apply sqtOf; kp_flats) | (apply sqtAll; assumption) | (apply sqtSame; assumption; o_reads))
    | (show Cls _ _; first | skip)
    | (show NoAttr _ _ _; first | skip)
    | (apply Or.inl; o_reads)
    | (apply Or.inr; o_reads)
    | (apply And.intro; (next => o_reads); o_reads)
    | (apply Exists.intro; o_reads)
    | exact Nat.le_of_ble_eq_true rfl
    | exact Nat.succ_ne_zero _
    | (show Fr _ _; kba_ints)
    | (show Same _ _; kd_subs)
    | (show Kp _ _ _; kxs_still)
    | (show (_ : Nat) ≤ _; simp only [List.length_append, List.length_map, List.length_cons, List.length_nil, List.length_take, List.length_drop, List.length_replicate, List.length_range, sizeLine_eq]; omega)
    | (show _ = none; apply Fr.h; kba_ints)
    | (show Bag _ _; first | assumption | (apply bag_putF; assumption; o_reads) | (apply bag_neF; (next => kbo_bools); o_reads) | (apply bag_kpR; assumption; (next => kaf_pre); o_reads))
    | omega
    | decide)
local macro_rules
  | `(tactic| o_readsAll) => `(tactic| repeat (first
    | (refine fun (pNew : Addr) (nNew : _ = none) => ?_; replace nNew := Fr.mk nNew)
    | (refine fun (xNew dNew : Addr) (nNew : _ = none) (mNew : _ = none) (eNew : dNew ≠ xNew) => ?_; replace nNew := Fr.mk nNew; replace mNew := Fr.mk mNew)
    | (apply And.intro; next => o_reads)
    | apply Exists.intro (α := V)
    | apply Exists.intro (α := Addr)
    | apply Exists.intro (α := Int)
    | apply Exists.intro (α := Bool)
    | apply Exists.intro (α := List V)
    | apply Exists.intro (α := List Nat)
    | apply Exists.intro (α := List (Str × V))
    | apply Exists.intro (α := List _)
    | apply Exists.intro (α := Str)
    | apply Exists.intro (α := HO)
    | apply Exists.intro (α := Sp)
    | apply Exists.intro (α := VK)))
set_option hygiene false in
local macro_rules
  | `(tactic| kba_ints) => `(tactic| first
    | assumption
    | (apply frUp; (first | assumption | (apply Ne.symm; assumption)); kba_ints)
    | (apply noneOf; assumption; intro oF eF; apply Exists.intro; kp_flats)
    | (apply frUp; (next => kbo_bools); kba_ints))
set_option hygiene false in
local macro_rules
  | `(tactic| kxs_still) => `(tactic| first
    | assumption
    | exact kp_refl _ _
    | (apply kp_newF; assumption; kxs_still)
    | (apply kp_new; assumption; kxs_still)
    | (apply kp_up; (next => o_fieldsN); kxs_still)
    | (apply kp_new; (next => kba_ints); kxs_still)
    | (apply kp_sameR; assumption; kxs_still)
    | (apply kp_transR; assumption; kxs_still)
    | (apply kp_freshR; assumption; (next => kaf_suf); kxs_still))
set_option hygiene false in
local macro_rules
  | `(tactic| kaf_suf) => `(tactic| first
    | assumption
    | exact subNil
    | (apply subCons; (first | (apply Or.inl; o_fieldsN) | (apply Or.inr; kba_ints)); kaf_suf)
    | (apply subApp; (next => kaf_suf); kaf_suf))
set_option hygiene false in
local macro_rules
  | `(tactic| o_fieldsN) => `(tactic| first
    | assumption
    | exact memA
    | (apply memB; o_fieldsN)
    | (apply memL; o_fieldsN)
    | (apply memR; o_fieldsN))
set_option hygiene false in
local macro_rules
  | `(tactic| kd_subs) => `(tactic| first
    | assumption
    | exact Same.refl _
    | (apply same_putF; assumption; kd_subs)
    | (apply same_putG; assumption; kd_subs)
    | (apply same_putF; (next => kba_ints); kd_subs)
    | (apply same_transR; assumption; kd_subs))

open NdefX (TabsN)
set_option pp.maxSteps 700
theorem all_mk {QQ : Program} {l : PySem.W.OpenLaw} {w : World} {K : PySem.W.Frag} {h : Heap} {mg : Str → Option Value} {fa : Addr} (X : K.In h) (G : h.Ns mainGlobals mg) (hfa : mg "law" = some (.ref fa)) (tt : Inf.TopTabs QQ K mg h)
    {a0 : Addr} {oc0 kV0 dc0 pm0 ct0 : Value} {od0 an0 : Option Addr} {sl0 : Array (Option Value)} {cd0 : Value} {a1 : Addr} {oc1 kV1 dc1 pm1 ct1 : Value} {od1 an1 : Option Addr} {sl1 : Array (Option Value)} {cc1 pp1 : Addr} {lv1 : Array Value} {lo1 : Value} {ld1 : Option Addr} {ls1 : Array (Option Value)} {a2 : Addr} {oc2 kV2 dc2 pm2 ct2 : Value} {od2 an2 : Option Addr} {sl2 : Array (Option Value)} {cd2 : Value} {a3 : Addr} {oc3 kV3 dc3 pm3 ct3 : Value} {od3 an3 : Option Addr} {sl3 : Array (Option Value)} {cc3 pp3 : Addr} {lv3 : Array Value} {lo3 : Value} {ld3 : Option Addr} {ls3 : Array (Option Value)} {a4 : Addr} {oc4 kV4 dc4 pm4 ct4 : Value} {od4 an4 : Option Addr} {sl4 : Array (Option Value)} {cd4 : Value} {a5 : Addr} {oc5 kV5 dc5 pm5 ct5 : Value} {od5 an5 : Option Addr} {sl5 : Array (Option Value)} {cd5 : Value} {a6 : Addr} {oc6 kV6 dc6 pm6 ct6 : Value} {od6 an6 : Option Addr} {sl6 : Array (Option Value)} {cd6 : Value} {a7 : Addr} {oc7 kV7 dc7 pm7 ct7 : Value} {od7 an7 : Option Addr} {sl7 : Array (Option Value)} {cd7 : Value} {a8 : Addr} {oc8 kV8 dc8 pm8 ct8 : Value} {od8 an8 : Option Addr} {sl8 : Array (Option Value)} {cd8 : Value} {a9 : Addr} {oc9 kV9 dc9 pm9 ct9 : Value} {od9 an9 : Option Addr} {sl9 : Array (Option Value)} {cd9 : Value} {a10 : Addr} {oc10 kV10 dc10 pm10 ct10 : Value} {od10 an10 : Option Addr} {sl10 : Array (Option Value)} {cd10 : Value} {a11 : Addr} {oc11 kV11 dc11 pm11 ct11 : Value} {od11 an11 : Option Addr} {sl11 : Array (Option Value)} {cd11 : Value} {a12 : Addr} {oc12 kV12 dc12 pm12 ct12 : Value} {od12 an12 : Option Addr} {sl12 : Array (Option Value)} {cd12 : Value} {a13 : Addr} {oc13 kV13 dc13 pm13 ct13 : Value} {od13 an13 : Option Addr} {sl13 : Array (Option Value)} {cd13 : Value}
    (ga0 : PySem.W.nsIn K mainGlobals "sorted_block" = some (some (.ref a0)))
    (l0 : K.lookup a0 = some ⟨oc0, od0, .func (PySem.W.fnOf "sorted_block" "sorted_block" (defArgs s_sorted_block) (defBody s_sorted_block) (defScope s_sorted_block) .none kV0 dc0 pm0 an0 cd0 ct0), sl0⟩) (c0 : PySem.W.codeIn K cd0 "sorted_block" = true) (k0 : PySem.W.keepIn K (.ref a0) = true)
    (ga1 : PySem.W.nsIn K mainGlobals "count_below" = some (some (.ref a1)))
    (l1 : K.lookup a1 = some ⟨oc1, od1, .func (PySem.W.fnOf "count_below" "count_below" (defArgs s_count_below) (defBody s_count_below) (defScope s_count_below) .none kV1 dc1 pm1 an1 (.ref cc1) ct1), sl1⟩) (c1 : PySem.W.codeIn K (.ref cc1) "count_below" = true) (k1 : PySem.W.keepIn K (.ref a1) = true)
    (tl1 : K.lookup cc1 = some ⟨lo1, ld1, .fields lv1, ls1⟩) (tp1 : lv1[11]? = some (.ref pp1)) (tn1 : K.lookup pp1 = none) (tr1 : (PyProof.Rows.recsOf QQ).any (fun d => d.name == "count_below") = true)
    (ga2 : PySem.W.nsIn K mainGlobals "lines_block" = some (some (.ref a2)))
    (l2 : K.lookup a2 = some ⟨oc2, od2, .func (PySem.W.fnOf "lines_block" "lines_block" (defArgs s_lines_block) (defBody s_lines_block) (defScope s_lines_block) .none kV2 dc2 pm2 an2 cd2 ct2), sl2⟩) (c2 : PySem.W.codeIn K cd2 "lines_block" = true) (k2 : PySem.W.keepIn K (.ref a2) = true)
    (ga3 : PySem.W.nsIn K mainGlobals "least_at" = some (some (.ref a3)))
    (l3 : K.lookup a3 = some ⟨oc3, od3, .func (PySem.W.fnOf "least_at" "least_at" (defArgs s_least_at) (defBody s_least_at) (defScope s_least_at) .none kV3 dc3 pm3 an3 (.ref cc3) ct3), sl3⟩) (c3 : PySem.W.codeIn K (.ref cc3) "least_at" = true) (k3 : PySem.W.keepIn K (.ref a3) = true)
    (tl3 : K.lookup cc3 = some ⟨lo3, ld3, .fields lv3, ls3⟩) (tp3 : lv3[11]? = some (.ref pp3)) (tn3 : K.lookup pp3 = none) (tr3 : (PyProof.Rows.recsOf QQ).any (fun d => d.name == "least_at") = true)
    (ga4 : PySem.W.nsIn K mainGlobals "count_leading" = some (some (.ref a4)))
    (l4 : K.lookup a4 = some ⟨oc4, od4, .func (PySem.W.fnOf "count_leading" "count_leading" (defArgs s_count_leading) (defBody s_count_leading) (defScope s_count_leading) .none kV4 dc4 pm4 an4 cd4 ct4), sl4⟩) (c4 : PySem.W.codeIn K cd4 "count_leading" = true) (k4 : PySem.W.keepIn K (.ref a4) = true)
    (ga5 : PySem.W.nsIn K mainGlobals "value_at" = some (some (.ref a5)))
    (l5 : K.lookup a5 = some ⟨oc5, od5, .func (PySem.W.fnOf "value_at" "value_at" (defArgs s_value_at) (defBody s_value_at) (defScope s_value_at) .none kV5 dc5 pm5 an5 cd5 ct5), sl5⟩) (c5 : PySem.W.codeIn K cd5 "value_at" = true) (k5 : PySem.W.keepIn K (.ref a5) = true)
    (ga6 : PySem.W.nsIn K mainGlobals "is_hidden" = some (some (.ref a6)))
    (l6 : K.lookup a6 = some ⟨oc6, od6, .func (PySem.W.fnOf "is_hidden" "is_hidden" (defArgs s_is_hidden) (defBody s_is_hidden) (defScope s_is_hidden) .none kV6 dc6 pm6 an6 cd6 ct6), sl6⟩) (c6 : PySem.W.codeIn K cd6 "is_hidden" = true) (k6 : PySem.W.keepIn K (.ref a6) = true)
    (ga7 : PySem.W.nsIn K mainGlobals "_law_bag" = some (some (.ref a7)))
    (l7 : K.lookup a7 = some ⟨oc7, od7, .func (PySem.W.fnOf "_law_bag" "_law_bag" (defArgs s_l_bag) (defBody s_l_bag) (defScope s_l_bag) .none kV7 dc7 pm7 an7 cd7 ct7), sl7⟩) (c7 : PySem.W.codeIn K cd7 "_law_bag" = true) (k7 : PySem.W.keepIn K (.ref a7) = true)
    (ga8 : PySem.W.nsIn K mainGlobals "_law_take" = some (some (.ref a8)))
    (l8 : K.lookup a8 = some ⟨oc8, od8, .func (PySem.W.fnOf "_law_take" "_law_take" (defArgs s_l_take) (defBody s_l_take) (defScope s_l_take) .none kV8 dc8 pm8 an8 cd8 ct8), sl8⟩) (c8 : PySem.W.codeIn K cd8 "_law_take" = true) (k8 : PySem.W.keepIn K (.ref a8) = true)
    (ga9 : PySem.W.nsIn K mainGlobals "_law_integer" = some (some (.ref a9)))
    (l9 : K.lookup a9 = some ⟨oc9, od9, .func (PySem.W.fnOf "_law_integer" "_law_integer" (defArgs s_l_integer) (defBody s_l_integer) (defScope s_l_integer) .none kV9 dc9 pm9 an9 cd9 ct9), sl9⟩) (c9 : PySem.W.codeIn K cd9 "_law_integer" = true) (k9 : PySem.W.keepIn K (.ref a9) = true)
    (ga10 : PySem.W.nsIn K mainGlobals "_law_counts_right" = some (some (.ref a10)))
    (l10 : K.lookup a10 = some ⟨oc10, od10, .func (PySem.W.fnOf "_law_counts_right" "_law_counts_right" (defArgs s_l_counts_right) (defBody s_l_counts_right) (defScope s_l_counts_right) .none kV10 dc10 pm10 an10 cd10 ct10), sl10⟩) (c10 : PySem.W.codeIn K cd10 "_law_counts_right" = true) (k10 : PySem.W.keepIn K (.ref a10) = true)
    (ga11 : PySem.W.nsIn K mainGlobals "_law_lines" = some (some (.ref a11)))
    (l11 : K.lookup a11 = some ⟨oc11, od11, .func (PySem.W.fnOf "_law_lines" "_law_lines" (defArgs s_l_lines) (defBody s_l_lines) (defScope s_l_lines) .none kV11 dc11 pm11 an11 cd11 ct11), sl11⟩) (c11 : PySem.W.codeIn K cd11 "_law_lines" = true) (k11 : PySem.W.keepIn K (.ref a11) = true)
    (ga12 : PySem.W.nsIn K mainGlobals "_law_lines_right" = some (some (.ref a12)))
    (l12 : K.lookup a12 = some ⟨oc12, od12, .func (PySem.W.fnOf "_law_lines_right" "_law_lines_right" (defArgs s_l_lines_right) (defBody s_l_lines_right) (defScope s_l_lines_right) .none kV12 dc12 pm12 an12 cd12 ct12), sl12⟩) (c12 : PySem.W.codeIn K cd12 "_law_lines_right" = true) (k12 : PySem.W.keepIn K (.ref a12) = true)
    (ga13 : PySem.W.nsIn K mainGlobals "law" = some (some (.ref a13)))
    (l13 : K.lookup a13 = some ⟨oc13, od13, .func (PySem.W.fnOf "law" "law" (defArgs s_law) (defBody s_law) (defScope s_law) .none kV13 dc13 pm13 an13 cd13 ct13), sl13⟩) (c13 : PySem.W.codeIn K cd13 "law" = true) (k13 : PySem.W.keepIn K (.ref a13) = true)
    (pne1_3 : pp1 ≠ pp3)
    (z_abs : PySem.W.nsIn K mainGlobals "abs" = some none)
    (z_len : PySem.W.nsIn K mainGlobals "len" = some none)
    (z_list : PySem.W.nsIn K mainGlobals "list" = some none)
    (z_max : PySem.W.nsIn K mainGlobals "max" = some none)
    (z_min : PySem.W.nsIn K mainGlobals "min" = some none)
    (z_range : PySem.W.nsIn K mainGlobals "range" = some none)
    (z_sorted : PySem.W.nsIn K mainGlobals "sorted" = some none)
    (z_tuple : PySem.W.nsIn K mainGlobals "tuple" = some none) : Inf.LawAtG l w K CX0 30 63 "_law_script" mg fa h := by
  have e := hfa.symm.trans (PySem.W.mg_of X G ga13)
  cases e
  have F0 := fun_mk (st := s_sorted_block) l0 c0 k0
  have F1 : FunT K "count_below" "count_below" s_count_below a1 _ cc1 := ⟨⟨_, _, _, _, _, _, _, _, rfl, l1, c1⟩, k1⟩
  have B1 : Binds K _ ["block", "bound"] [] := .all (fd := PySem.W.fnOf "count_below" "count_below" (defArgs s_count_below) (defBody s_count_below) (defScope s_count_below) .none kV1 dc1 pm1 an1 (.ref cc1) ct1) fun us hl => match us, hl with | [_, _], _ => rfl
  have F2 := fun_mk (st := s_lines_block) l2 c2 k2
  have F3 : FunT K "least_at" "least_at" s_least_at a3 _ cc3 := ⟨⟨_, _, _, _, _, _, _, _, rfl, l3, c3⟩, k3⟩
  have B3 : Binds K _ ["block", "x"] [] := .all (fd := PySem.W.fnOf "least_at" "least_at" (defArgs s_least_at) (defBody s_least_at) (defScope s_least_at) .none kV3 dc3 pm3 an3 (.ref cc3) ct3) fun us hl => match us, hl with | [_, _], _ => rfl
  have F4 := fun_mk (st := s_count_leading) l4 c4 k4
  have F5 := fun_mk (st := s_value_at) l5 c5 k5
  have F6 := fun_mk (st := s_is_hidden) l6 c6 k6
  have F7 := fun_mk (st := s_l_bag) l7 c7 k7
  have F8 := fun_mk (st := s_l_take) l8 c8 k8
  have F9 := fun_mk (st := s_l_integer) l9 c9 k9
  have F10 := fun_mk (st := s_l_counts_right) l10 c10 k10
  have F11 := fun_mk (st := s_l_lines) l11 c11 k11
  have F12 := fun_mk (st := s_l_lines_right) l12 c12 k12
  have F13 := fun_mk (st := s_law) l13 c13 k13
  have T1 := tt "count_below" a1 cc1 pp1 _ _ _ _ _ _ tr1 (PySem.W.mg_of X G ga1) l1 rfl rfl tl1 tp1
  have T3 := tt "least_at" a3 cc3 pp3 _ _ _ _ _ _ tr3 (PySem.W.mg_of X G ga3) l3 rfl rfl tl3 tp3
  let T : Txt K mg := {
    f_sorted_block := a0,
    d_sorted_block := _,
    F_sorted_block := F0,
    b_sorted_block := (F0.binds (ps := ["integers"]) fun _ _ _ _ _ _ us hl => match us, hl with | [_], _ => rfl),
    g_sorted_block := PySem.W.mg_of X G ga0,
    f_count_below := a1,
    d_count_below := _,
    c_count_below := cc1,
    p_count_below := pp1,
    F_count_below := F1,
    b_count_below := B1,
    g_count_below := PySem.W.mg_of X G ga1,
    f_lines_block := a2,
    d_lines_block := _,
    F_lines_block := F2,
    b_lines_block := (F2.binds (ps := ["lines"]) fun _ _ _ _ _ _ us hl => match us, hl with | [_], _ => rfl),
    g_lines_block := PySem.W.mg_of X G ga2,
    f_least_at := a3,
    d_least_at := _,
    c_least_at := cc3,
    p_least_at := pp3,
    F_least_at := F3,
    b_least_at := B3,
    g_least_at := PySem.W.mg_of X G ga3,
    f_count_leading := a4,
    d_count_leading := _,
    F_count_leading := F4,
    b_count_leading := (F4.binds (ps := ["many", "holds"]) fun _ _ _ _ _ _ us hl => match us, hl with | [_, _], _ => rfl),
    g_count_leading := PySem.W.mg_of X G ga4,
    f_value_at := a5,
    d_value_at := _,
    F_value_at := F5,
    b_value_at := (F5.binds (ps := ["line", "x"]) fun _ _ _ _ _ _ us hl => match us, hl with | [_, _], _ => rfl),
    g_value_at := PySem.W.mg_of X G ga5,
    f_is_hidden := a6,
    d_is_hidden := _,
    F_is_hidden := F6,
    b_is_hidden := (F6.binds (ps := ["left", "middle", "right"]) fun _ _ _ _ _ _ us hl => match us, hl with | [_, _, _], _ => rfl),
    g_is_hidden := PySem.W.mg_of X G ga6,
    f_l_bag := a7,
    d_l_bag := _,
    F_l_bag := F7,
    b_l_bag := (F7.binds (ps := ["_law_script", "_law_at"]) fun _ _ _ _ _ _ us hl => match us, hl with | [_, _], _ => rfl),
    g_l_bag := PySem.W.mg_of X G ga7,
    f_l_take := a8,
    d_l_take := _,
    F_l_take := F8,
    b_l_take := (F8.binds (ps := ["_law_bag_here", "_law_many"]) fun _ _ _ _ _ _ us hl => match us, hl with | [_, _], _ => rfl),
    g_l_take := PySem.W.mg_of X G ga8,
    f_l_integer := a9,
    d_l_integer := _,
    F_l_integer := F9,
    b_l_integer := (F9.binds (ps := ["_law_bag_here", "_law_wide"]) fun _ _ _ _ _ _ us hl => match us, hl with | [_, _], _ => rfl),
    g_l_integer := PySem.W.mg_of X G ga9,
    f_l_counts_right := a10,
    d_l_counts_right := _,
    F_l_counts_right := F10,
    b_l_counts_right := (F10.binds (ps := ["_law_bag_here", "_law_wide"]) fun _ _ _ _ _ _ us hl => match us, hl with | [_, _], _ => rfl),
    g_l_counts_right := PySem.W.mg_of X G ga10,
    f_l_lines := a11,
    d_l_lines := _,
    F_l_lines := F11,
    b_l_lines := (F11.binds (ps := ["_law_bag_here", "_law_wide"]) fun _ _ _ _ _ _ us hl => match us, hl with | [_, _], _ => rfl),
    g_l_lines := PySem.W.mg_of X G ga11,
    f_l_lines_right := a12,
    d_l_lines_right := _,
    F_l_lines_right := F12,
    b_l_lines_right := (F12.binds (ps := ["_law_bag_here", "_law_wide"]) fun _ _ _ _ _ _ us hl => match us, hl with | [_, _], _ => rfl),
    g_l_lines_right := PySem.W.mg_of X G ga12,
    pne_count_below_least_at := pne1_3,
    z_abs := PySem.W.mg_none_of X G z_abs,
    z_len := PySem.W.mg_none_of X G z_len,
    z_list := PySem.W.mg_none_of X G z_list,
    z_max := PySem.W.mg_none_of X G z_max,
    z_min := PySem.W.mg_none_of X G z_min,
    z_range := PySem.W.mg_none_of X G z_range,
    z_sorted := PySem.W.mg_none_of X G z_sorted,
    z_tuple := PySem.W.mg_none_of X G z_tuple }
  refine ⟨PySem.W.fnOf "law" "law" (defArgs s_law) (defBody s_law) (defScope s_law) .none kV13 dc13 pm13 an13 cd13 ct13, [(cc1, pp1), (cc3, pp3)], spLaw T, (all_cons T1.2 (all_cons T3.2 (fun _ z => nomatch z))), (all_cons tn1 (all_cons tn3 (fun _ z => nomatch z))), (all_cons T1.1 (all_cons T3.1 (fun _ z => nomatch z))), fun s v => .of_eq rfl, fun H a ns hl ht hS => ⟨a, ns, rfl, hS, hl, ht _ (List.mem_cons_self ..), ht _ (List.mem_cons_of_mem _ (List.mem_cons_self ..)), fun _ => rfl⟩, fun base _ _ tb => Inf.FnOkG.of (ok_law T (tb _ (List.mem_cons_self ..)) (tb _ (List.mem_cons_of_mem _ (List.mem_cons_self ..))) F13)⟩
end Ob
open PySem PySem.W PyProof.Rows
set_option maxHeartbeats 0 in
theorem PySem.Challenge.cw_oncebuilt_k80_sorted_blocks_and_lines_holds : PySem.Challenge.rw_oncebuilt_k80_sorted_blocks_and_lines.Holds := by
  w_on; o_law; k_head; (case hw => w_witness2)
  k_fill
  refine Inf.walk_topG (l := PySem.Challenge.rw_oncebuilt_k80_sorted_blocks_and_lines) (n := 63) (k := 30) (x := "_law_script") (YP := _) (CX := fun _ => L2.CX0) rfl (by decide) rfl ⟨rfl, by decide, by decide⟩ (fun w h Y => by first | exact PySem.W.kIn_of Y | exact PySem.W.km_in_of Y) ?F (fun _ _ _ _ _ h => h)
  case F =>
    intro w mg fa h Y KX G hmg tt
    refine' Ob.all_mk KX G hmg tt ?ga0 ?l0 ?c0 ?k0 ?ga1 ?l1 ?c1 ?k1 ?tl1 ?tp1 ?tn1 ?tr1 ?ga2 ?l2 ?c2 ?k2 ?ga3 ?l3 ?c3 ?k3 ?tl3 ?tp3 ?tn3 ?tr3 ?ga4 ?l4 ?c4 ?k4 ?ga5 ?l5 ?c5 ?k5 ?ga6 ?l6 ?c6 ?k6 ?ga7 ?l7 ?c7 ?k7 ?ga8 ?l8 ?c8 ?k8 ?ga9 ?l9 ?c9 ?k9 ?ga10 ?l10 ?c10 ?k10 ?ga11 ?l11 ?c11 ?k11 ?ga12 ?l12 ?c12 ?k12 ?ga13 ?l13 ?c13 ?k13 ?pne1_3 ?z_abs ?z_len ?z_list ?z_max ?z_min ?z_range ?z_sorted ?z_tuple
    (case ga0 => k_is); (case l0 => k_is); (case c0 => k_is); (case k0 => k_is); (case ga1 => k_is); (case l1 => k_is); (case c1 => k_is); (case k1 => k_is); (case tl1 => k_is); (case tp1 => rfl); (case tn1 => kernel_rfl); (case tr1 => rfl); (case ga2 => k_is); (case l2 => k_is); (case c2 => k_is); (case k2 => k_is); (case ga3 => k_is); (case l3 => k_is); (case c3 => k_is); (case k3 => k_is); (case tl3 => k_is); (case tp3 => rfl); (case tn3 => kernel_rfl); (case tr3 => rfl); (case ga4 => k_is); (case l4 => k_is); (case c4 => k_is); (case k4 => k_is); (case ga5 => k_is); (case l5 => k_is); (case c5 => k_is); (case k5 => k_is); (case ga6 => k_is); (case l6 => k_is); (case c6 => k_is); (case k6 => k_is); (case ga7 => k_is); (case l7 => k_is); (case c7 => k_is); (case k7 => k_is); (case ga8 => k_is); (case l8 => k_is); (case c8 => k_is); (case k8 => k_is); (case ga9 => k_is); (case l9 => k_is); (case c9 => k_is); (case k9 => k_is); (case ga10 => k_is); (case l10 => k_is); (case c10 => k_is); (case k10 => k_is); (case ga11 => k_is); (case l11 => k_is); (case c11 => k_is); (case k11 => k_is); (case ga12 => k_is); (case l12 => k_is); (case c12 => k_is); (case k12 => k_is); (case ga13 => k_is); (case l13 => k_is); (case c13 => k_is); (case k13 => k_is); (case pne1_3 => decide); (case z_abs => k_is); (case z_len => k_is); (case z_list => k_is); (case z_max => k_is); (case z_min => k_is); (case z_range => k_is); (case z_sorted => k_is); (case z_tuple => k_is)


import PyProof.Rows.All
import Wide.All
import OpenK.AllK
import Wide.FinOn
import HandS.ForMost
import HandS.ForExc
import HandS.Nested
import HandS.Star
import HandS.Finally
import HandS.EndTab
import HandS.Replace
import HandS.Defaults
import HandS.ClsMeth
import HandS.MakeKwOnly
import KE.KMinKey
import HandS.SortKw
import KE.KDictCopyH
import KE.KDictIter
import HandS.IterVal
import HandS.DictTup
import KE.SortUse
import HandS.Wide
import HandS.WideBits
import HandS.IsInst
import HandS.Codes
import HandS.Comp
import HandS.Conv
import HandS.SortInts
import HandS.MethStar
import PySem.Challenge.RW_oncebuilt_k52_whole_bounds_of_timed
import HandS.Walk
import HandS.Rev
import HandS.Style
import HandS.TryOnly
import HandS.DictComp
import PyProof.DictValues
import KE.KDictList
import HandS.Small
set_option Elab.async false
set_option linter.all false
set_option maxRecDepth 100000
set_option maxHeartbeats 4000000
namespace Inf
open PySem PySem.Spec PyProof.Rows L2 NdefX LamX
/-! ### a cell that is told -/
def CellO (c : Addr) (v : V) : HO := .ext fun h => ∃ u, L2.RelV v u ∧ h.IsCell c (some u)
theorem cellO_at {P : Program} {w : World} {H : Hp} {h : Heap} {c : Addr} {v : V} (hok : HOk P w H h) (e : H c = some (CellO c v)) : ∃ u, L2.RelV v u ∧ h.IsCell c (some u) := by
  obtain ⟨z, _, _⟩ := hok c _ e
  exact z
theorem cellO_ok {P : Program} {w : World} {H : Hp} {h : Heap} {c : Addr} {v : V} (x : ∃ u, L2.RelV v u ∧ h.IsCell c (some u)) : ObjOk P w H h c (CellO c v) := by
  refine ⟨x, ?_, fun h1 h2 ⟨u, r, o, e, d⟩ k => ⟨u, r, o, k o e, d⟩⟩
  obtain ⟨u, _, o, e, _⟩ := x
  exact ⟨o, e⟩
/-! ### cells left out, and put back -/
def cut (cs : List Addr) (H : Hp) : Hp := fun b => if b ∈ cs then Option.none else H b
def mend (cs : List Addr) (H H1 : Hp) : Hp := fun b => if b ∈ cs then H b else H1 b
theorem cut_in {cs : List Addr} {H : Hp} {b : Addr} (h : b ∈ cs) : cut cs H b = Option.none := if_pos h
theorem cut_out {cs : List Addr} {H : Hp} {b : Addr} (h : b ∉ cs) : cut cs H b = H b := if_neg h
theorem mend_in {cs : List Addr} {H H1 : Hp} {b : Addr} (h : b ∈ cs) : mend cs H H1 b = H b := if_pos h
theorem mend_out {cs : List Addr} {H H1 : Hp} {b : Addr} (h : b ∉ cs) : mend cs H H1 b = H1 b := if_neg h
def cellsOf (F : NF) (fr : List Str) : List Addr := fr.filterMap fun y => F.cl.lookup y
theorem mem_cells {F : NF} {fr : List Str} {c : Addr} : c ∈ cellsOf F fr ↔ ∃ y ∈ fr, F.cl.lookup y = some c := List.mem_filterMap
/-- the function F stands at f, and its captured cells hold ws -/
structure Clo (H : Hp) (f : Addr) (F : NF) (fr : List Str) (ws : List V) : Prop where
  fn : H f = some (FnO f F)
  code : H F.c = some (CodeO F.c F.qual)
  len : ws.length = fr.length
  dom : ∀ y c, F.cl.lookup y = some c → y ∈ fr
  inj : ∀ x y c, F.cl.lookup x = some c → F.cl.lookup y = some c → x = y
  at_ : ∀ (i : Nat) (y : Str), fr[i]? = some y → ∃ c v, F.cl.lookup y = some c ∧ ws[i]? = some v ∧ H c = some (CellO c v)
theorem Clo.same {H H1 : Hp} {f : Addr} {F : NF} {fr : List Str} {ws : List V} (h : Clo H f F fr ws) (s : Same H H1) : Clo H1 f F fr ws :=
  ⟨s _ _ h.fn, s _ _ h.code, h.len, h.dom, h.inj, fun i y e => by
    obtain ⟨c, v, a, b, d⟩ := h.at_ i y e
    exact ⟨c, v, a, b, s _ _ d⟩⟩
theorem Clo.cell {H : Hp} {f : Addr} {F : NF} {fr : List Str} {ws : List V} (h : Clo H f F fr ws) {b : Addr} (hb : b ∈ cellsOf F fr) : ∃ v, H b = some (CellO b v) := by
  obtain ⟨y, hy, e⟩ := mem_cells.mp hb
  obtain ⟨i, hi⟩ := List.mem_iff_getElem?.mp hy
  obtain ⟨c, v, a, _, d⟩ := h.at_ i y hi
  rw [e] at a
  cases a
  exact ⟨v, d⟩
/-- what is no thing by a word of its own is no cell -/
theorem Clo.out {H : Hp} {f : Addr} {F : NF} {fr : List Str} {ws : List V} (h : Clo H f F fr ws) {b : Addr} {o : HO} (e : H b = some o) (n : ∀ φ, o ≠ .ext φ) : b ∉ cellsOf F fr := fun hb => by
  obtain ⟨v, d⟩ := h.cell hb
  rw [e] at d
  exact n _ (Option.some.inj d)
section
variable {P : Program} {w : World} {K : PySem.W.Frag} {mg : Str → Option Value} {base : Heap} {k : Nat} {f : Addr} {F : NF} {ps fr : List Str} {sp : List (Option V) → Sp}
/-- A FUNCTION THAT WAS MADE IN A DEF, called from anywhere: its cells are told; while it runs they are left out, behind it they are put back -/
theorem clo_fnR (N : NOk P w K mg base CX0 k f F ps fr sp) :
    FnR P w K mg base CX0 k f (fun vs H Q E => ∃ ws, Clo H f F fr ws ∧ sp (ws.map some) vs (cut (cellsOf F fr) H) (fun v H1 => (∀ b, b ∈ cellsOf F fr → H1 b = Option.none) → Q v (mend (cellsOf F fr) H H1)) E) := by
  intro A outer s H us vs Q E hr e0 r hsp
  obtain ⟨ws, hc, hsp⟩ := hsp
  have cellAt : ∀ b, b ∈ cellsOf F fr → ∃ v, H b = some (CellO b v) := fun b hb => hc.cell hb
  have fnout : f ∉ cellsOf F fr := fun hb => by
    obtain ⟨v, e⟩ := cellAt f hb
    obtain ⟨u, _, o, e1, e2⟩ := cellO_at e0.hok e
    obtain ⟨od, sl, doc, pm, ctv, e3⟩ := fnO_at e0.hok hc.fn
    rw [e1] at e3
    cases e3
    cases e2
  have cout : F.c ∉ cellsOf F fr := fun hb => by
    obtain ⟨v, e⟩ := cellAt F.c hb
    obtain ⟨u, _, o, e1, e2⟩ := cellO_at e0.hok e
    obtain ⟨⟨oc, vs', t, h1, h2, h3⟩, _, _⟩ := e0.hok F.c _ hc.code
    rw [e1] at h1
    cases h1
    rw [e2] at h2
    cases h2
  have hokc : HOk P w (cut (cellsOf F fr) H) s.heap := fun b o e => by
    by_cases hb : b ∈ cellsOf F fr
    · rw [cut_in hb] at e
      cases e
    · rw [cut_out hb] at e
      refine (e0.hok b o e).stay (fun c u _ q => q) (fun c q => ?_) fun c xs q => ?_
      · rw [cut_out (hc.out q (fun φ z => nomatch z))]
        exact q
      · rw [cut_out (hc.out q (fun φ z => nomatch z))]
        exact q
  have noneC : ∀ b, H b = Option.none → cut (cellsOf F fr) H b = Option.none := fun b e => by
    by_cases hb : b ∈ cellsOf F fr
    · exact cut_in hb
    · rw [cut_out hb]
      exact e
  have e1 : Env0 P w K mg base A outer s (cut (cellsOf F fr) H) := ⟨e0.frames, e0.mod, fun b o q => ⟨(e0.bs b o q).1, noneC b (e0.bs b o q).2⟩, e0.bsz, e0.funs, fun b hb => noneC b (e0.frf b hb), hokc, e0.bare⟩
  have C : CellsAt F.cl fr (ws.map some) s.heap (cut (cellsOf F fr) H) := by
    refine ⟨by rw [List.length_map]; exact hc.len, fun y c e => ?_, hc.inj, fun i y e => ?_⟩
    · have hb : c ∈ cellsOf F fr := mem_cells.mpr ⟨y, hc.dom y c e, e⟩
      obtain ⟨v, d⟩ := cellAt c hb
      obtain ⟨u, _, z⟩ := cellO_at e0.hok d
      exact ⟨cut_in hb, _, z⟩
    · obtain ⟨c, v, a, b, d⟩ := hc.at_ i y e
      refine ⟨c, a, fun v' e' => ?_⟩
      rw [List.getElem?_map, b] at e'
      cases e'
      obtain ⟨u, r', z⟩ := cellO_at e0.hok d
      exact ⟨u, r', z⟩
  refine codeAny_mono (N.run A outer s (cut (cellsOf F fr) H) us vs (ws.map some) _ E hr e1 (by rw [cut_out fnout]; exact hc.fn) (by rw [cut_out cout]; exact hc.code) C r hsp) fun res s' hq => ?_
  cases res with
  | error e => exact hq
  | ok fl =>
    cases fl with
    | next => exact hq
    | brk => exact hq
    | cont => exact hq
    | ret u =>
      obtain ⟨v, H1, os, bare, un, hok1, rv, q⟩ := hq
      have gone : ∀ b, b ∈ cellsOf F fr → H1 b = Option.none := fun b hb => by
        obtain ⟨v, d⟩ := cellAt b hb
        obtain ⟨u, _, o, z1, z2⟩ := cellO_at e0.hok d
        exact un.free b o z1 (cut_in hb) (by simp)
      have notfr : ∀ b, b ∈ cellsOf F fr → b ∉ frs outer := fun b hb z => by
        obtain ⟨v, d⟩ := cellAt b hb
        rw [e0.frf b z] at d
        cases d
      refine ⟨v, mend (cellsOf F fr) H H1, os, bare, ⟨fun b o a n h1 h2 => un.keep b o a (noneC b n) h1 h2, fun b o a n h1 h2 => un.slot b o a (noneC b n) h1 h2, fun b o a n h2 => ?_, un.there, fun b xs e => ?_, fun b o u e => ?_, fun b ps e => ?_⟩, fun b o e => ?_, rv, q gone⟩
      · by_cases hb : b ∈ cellsOf F fr
        · rw [mend_in hb]
          exact n
        · rw [mend_out hb]
          exact un.free b o a (noneC b n) h2
      · have hb := hc.out e (fun φ z => nomatch z)
        rw [mend_out hb]
        exact un.tups b xs (by rw [cut_out hb]; exact e)
      · have hb := hc.out e (fun φ z => nomatch z)
        rw [mend_out hb]
        exact un.frzs b o u (by rw [cut_out hb]; exact e)
      · have hb := hc.out e (fun φ z => nomatch z)
        rw [mend_out hb]
        exact un.tbls b ps (by rw [cut_out hb]; exact e)
      · by_cases hb : b ∈ cellsOf F fr
        · rw [mend_in hb] at e
          obtain ⟨v', d⟩ := cellAt b hb
          rw [d] at e
          cases e
          obtain ⟨u', r', o', z1, z2⟩ := cellO_at e0.hok d
          exact cellO_ok ⟨u', r', o', un.keep b o' z1 (cut_in hb) (notfr b hb) (by simp), z2⟩
        · rw [mend_out hb] at e
          refine (hok1 b o e).stay (fun c u _ q => q) (fun c q => ?_) fun c xs q => ?_
          · have hb' : c ∉ cellsOf F fr := fun z => by
              rw [gone c z] at q
              cases q
            rw [mend_out hb']
            exact q
          · have hb' : c ∉ cellsOf F fr := fun z => by
              rw [gone c z] at q
              cases q
            rw [mend_out hb']
            exact q
end
theorem mend_at {cs : List Addr} {H H1 : Hp} {a : Addr} {o : HO} (g : ∀ b, b ∈ cs → H1 b = Option.none) (e : H1 a = some o) : mend cs H H1 a = some o := by
  rw [mend_out fun z => by rw [g a z] at e; cases e]
  exact e
theorem cut_at {cs : List Addr} {H : Hp} {a : Addr} {o : HO} (n : a ∉ cs) (e : H a = some o) : cut cs H a = some o := (cut_out n).trans e
end Inf

set_option Elab.async false
set_option linter.all false
set_option maxRecDepth 100000
set_option maxHeartbeats 4000000
namespace Inf
open PySem PySem.Spec PyProof.Rows L2 NdefX LamX
/-! ### a body that ends in a return: what its names hold there is told -/
abbrev TSR := (L2.St → V → Hp → Prop) → L2.St → Hp → Prop
structure PSsR (X : Cx) (ss : List Stmt) (t : TSR) : Prop where
  run : ∀ (pins : List (Addr × Obj)) (s : Shared) (σ : L2.St) (H : Hp) (R : L2.St → V → Hp → Prop), Inv X pins σ H s → t R σ H →
    wpAny (model X.prog X.w) X.A (execs ss X.env) (fun fl s' => ∃ u v σ' H', fl = .ret u ∧ Inv X pins σ' H' s' ∧ L2.RelV v u ∧ R σ' v H') X.xe s
theorem psr_cons {X : Cx} {st : Stmt} {rest : List Stmt} {t : TS} {u : TSR} (h1 : PS X st t) (h2 : PSsR X rest u) : PSsR X (st :: rest) (fun R σ H => t { nx := fun σ' H' => u R σ' H', rt := fun _ _ => False } σ H) := by
  refine ⟨fun pins s σ H R I h => ?_⟩
  refine wpAny_execs_cons (thn (h1.run pins s σ H { nx := fun σ' H' => u R σ' H', rt := fun _ _ => False } I h) fun fl s1 q => ?_)
  cases fl with
  | next =>
    obtain ⟨σ1, H1, I1, q1⟩ := q
    exact h2.run pins s1 σ1 H1 R I1 q1
  | brk =>
    obtain ⟨_, _, _, q1⟩ := q
    exact False.elim q1
  | cont =>
    obtain ⟨_, _, _, q1⟩ := q
    exact False.elim q1
  | ret v =>
    obtain ⟨_, _, _, _, _, q1⟩ := q
    exact False.elim q1
theorem psr_ret {X : Cx} {e : Expr} {pos : Pos} {te : TE} (he : PE X e te) : PSsR X [.Return (some e) pos] (fun R σ H => te σ H (R σ)) := by
  refine ⟨fun pins s σ H R I h => ?_⟩
  refine wpAny_execs_cons (wpAny_Return_some (thn (he.run pins s σ H _ I h) fun v s1 ⟨x, H1, I1, r1, q1⟩ => ?_))
  exact ⟨v, x, σ, H1, rfl, I1, r1, q1⟩
/-! ### a def that returns things that hold its names -/
/-- the heap behind the return: the def's cells are told -/
structure Fin (cells : List (Str × Addr)) (names : List (Str × NameKind)) (N : List Str) (σ : L2.St) (H H' : Hp) : Prop where
  same : Same H H'
  gone : ∀ b, H' b = Option.none → H b = Option.none
  inj : ∀ x y c, cells.lookup x = some c → cells.lookup y = some c → x = y
  at_ : ∀ (i : Nat) (y : Str) (c : Addr) (v : V), N[i]? = some y → names.lookup y = some .cell → cells.lookup y = some c → σ[i]? = some (some v) → H' c = some (CellO c v)
theorem cells_big : ∀ (names : List (Str × NameKind)) (n lo : Nat) (acc : List (Str × Addr)), (∀ p ∈ acc, lo ≤ p.2) → lo ≤ n → ∀ p ∈ cellsFrom n names acc, lo ≤ p.2
  | [], n, lo, acc, h, _ => h
  | (x, kd) :: r, n, lo, acc, h, hn => by
    unfold cellsFrom
    split
    · exact cells_big r (n + 1) lo _ (fun p hp => by
        rcases List.mem_cons.mp hp with rfl | hp
        · exact hn
        · exact h p hp) (by omega)
    · exact cells_big r n lo acc h hn
section
variable {CX : CXT} {P : Program} {w : World} {K : PySem.W.Frag} {mg : Str → Option Value} {base : Heap} {N ps : List Str} {qual : Str} {scope : Scope} {f : Addr} {cdv : Value} {A : Around} {outer : List Env} {s s' : Shared} {H H' : Hp} {E : XK} {σ : L2.St} {Q : VK}
open Classical in
theorem fin_make (nd : N.Nodup) (J : Inv (cxOf CX P w K mg base N qual scope f cdv A outer s H E) [] σ H' s') :
    ∃ H'', Fin (envOfC qual scope s.heap.objs.size f cdv).cells scope.names N σ H' H'' ∧ Un (frs outer) [] H H'' s.heap s'.heap ∧ HOk P w H'' s'.heap := by
  have ge : ∀ (y : Str) (c : Addr), (envOfC qual scope s.heap.objs.size f cdv).cells.lookup y = some c → s.heap.objs.size ≤ c := fun y c e =>
    cells_big scope.names (s.heap.objs.size + 1) s.heap.objs.size [] (fun p hp => by cases hp) (Nat.le_succ _) (y, c) (PySem.mem_of_lookup e)
  have J0 : Un (frs outer) [] H H' s.heap s'.heap := J.base
  have inj := J.ok.inj
  let Pr : Addr → V → Prop := fun b v => ∃ (i : Nat) (y : Str), N[i]? = some y ∧ scope.names.lookup y = some .cell ∧ (envOfC qual scope s.heap.objs.size f cdv).cells.lookup y = some b ∧ σ[i]? = some (some v)
  have gone : ∀ b v, Pr b v → H' b = Option.none := fun b v ⟨i, y, _, _, e, _⟩ => J.freeC y b e
  have uniq : ∀ b v u, Pr b v → Pr b u → v = u := fun b v u ⟨i, y, a1, a2, a3, a4⟩ ⟨j, z, b1, b2, b3, b4⟩ => by
    have e1 : y = z := inj y z b a3 b3
    subst e1
    have e2 : i = j := by
      obtain ⟨h1, g1⟩ := List.getElem?_eq_some_iff.mp a1
      obtain ⟨h2, g2⟩ := List.getElem?_eq_some_iff.mp b1
      exact (List.getElem_inj nd).mp (g1.trans g2.symm)
    subst e2
    rw [a4] at b4
    exact Option.some.inj (Option.some.inj b4)
  let H'' : Hp := fun b => if h : ∃ v, Pr b v then some (CellO b (Classical.choose h)) else H' b
  have inC : ∀ b v, Pr b v → H'' b = some (CellO b v) := fun b v h => by
    have hx : ∃ v, Pr b v := ⟨v, h⟩
    show (if h : ∃ v, Pr b v then some (CellO b (Classical.choose h)) else H' b) = _
    rw [dif_pos hx, uniq b _ v (Classical.choose_spec hx) h]
  have outC : ∀ b, (¬ ∃ v, Pr b v) → H'' b = H' b := fun b h => dif_neg h
  have known : ∀ b o, H' b = some o → H'' b = some o := fun b o e => by
    rw [outC b fun ⟨v, h⟩ => by rw [gone b v h] at e; cases e]
    exact e
  refine ⟨H'', ⟨known, fun b e => ?_, inj, fun i y c v h1 h2 h3 h4 => inC c v ⟨i, y, h1, h2, h3, h4⟩⟩, ⟨J0.keep, J0.slot, fun b o a n h2 => ?_, J0.there, fun b xs e => known _ _ (J0.tups b xs e), fun b o u e => known _ _ (J0.frzs b o u e), fun b ps' e => ?_⟩, fun b o e => ?_⟩
  · by_cases hb : ∃ v, Pr b v
    · obtain ⟨v, h⟩ := hb
      rw [inC b v h] at e
      cases e
    · rw [outC b hb] at e
      exact e
  · rw [outC b fun ⟨v, i, y, _, _, e, _⟩ => by
      exact absurd (Heap.lt_size a) (Nat.not_lt.mpr (ge y b e))]
    exact J0.free b o a n h2
  · obtain ⟨more, e2⟩ := J0.tbls b ps' e
    exact ⟨more, known _ _ e2⟩
  · by_cases hb : ∃ v, Pr b v
    · obtain ⟨v, h⟩ := hb
      rw [inC b v h] at e
      cases e
      obtain ⟨i, y, a1, a2, a3, a4⟩ := h
      obtain ⟨m, hn, hl⟩ := J.loc
      obtain ⟨u, ru, lk⟩ := hl i y v a1 a4 (.inr (.inl a2))
      refine cellO_ok ⟨u, ru, ?_⟩
      rcases lk with ⟨z, _⟩ | ⟨_, c', hc', hcell⟩
      · have z' : scope.names.lookup y = some .local := z
        rw [a2] at z'
        cases z'
      · have hc2 : (envOfC qual scope s.heap.objs.size f cdv).cells.lookup y = some c' := hc'
        rw [a3] at hc2
        cases hc2
        exact hcell
    · rw [outC b hb] at e
      exact (J.hok b o e).stay (fun c u _ q => q) (fun c q => known _ _ q) fun c xs q => known _ _ q
end
/-- THE RULE for such a def -/
theorem Fun.okC {P : Program} {w : World} {K : PySem.W.Frag} {mg : Str → Option Value} {base : Heap} {x qual : Str} {st : Stmt} {f : Addr} {fd : FuncData} {N ps : List Str} {k : Nat} {sp : Sp} (F : L2.Fun K x qual st f fd) (S : FnScope N ps (defScope st)) (len : ∀ vs H Q E, sp vs H Q E → vs.length = ps.length)
    (hbody : ∀ (cdv : Value) (A : Around) (outer : List Env) (s : Shared) (H : Hp) (vs : List V) (Q : VK) (E : XK), Room k (A.deeper (envOfC qual (defScope st) s.heap.objs.size f cdv)) → PySem.W.codeIn K cdv qual = true → sp vs H Q E →
      ∃ t, PSsR (cxOf CX0 P w K mg base N qual (defScope st) f cdv A outer s H E).nox (defBody st) t ∧
        t (fun σ v H' => ∀ H'', Fin (envOfC qual (defScope st) s.heap.objs.size f cdv).cells (defScope st).names N σ H' H'' → Q v H'') (start N vs) H) : FnOk P w K mg base CX0 (k + 1) f fd ps sp := by
  obtain ⟨oc, od, kV, doc, pm, an, cdv, ct, osl, rfl, lk, hcd⟩ := F.ex
  refine ⟨len, fun A outer s H args us vs Q E hr e0 hb r hsp => ?_⟩
  have hl := len _ _ _ _ hsp
  have KX : K.In s.heap := e0.mod.kin.keeps fun b o e => (e0.bs b o e).1
  have lim : s.heap.NoLimit := e0.mod.nolimit.keeps fun b o e => (e0.bs b o e).1
  have hkind : ∀ y ∈ ps.zip us, (defScope st).names.lookup y.1 = some .local ∨ ((defScope st).names.lookup y.1 = some .cell ∧ ((cellsFrom (s.heap.objs.size + 1) (defScope st).names []).lookup y.1).isSome = true) := fun ⟨n, v⟩ hy => by
    rcases S.par n (List.of_mem_zip hy).1 with q | q
    · exact .inl q
    · exact .inr ⟨q, PySem.W.cellsFrom_some _ _ _ (.inl q)⟩
  refine codeAny_call_function hr.depth (KX _ _ lk) rfl S.co S.gen rfl (PySem.W.codeRec_of KX hcd) (hb _ _ _ _ ?_)
  refine wpAny_newFunctionEnv_cells S.kind hkind fun env he s1 xx => ?_
  subst he
  refine ⟨lim.keeps xx.toInCall.keep, codeAny_func ?_⟩
  obtain ⟨t, ht, hq⟩ := hbody cdv A outer s H vs Q E (hr.deeper _) hcd hsp
  have I : Inv (cxOf CX0 P w K mg base N qual (defScope st) f cdv A outer s H E) [] (start N vs) H s1 := inv_start S hr.hd e0 hl r xx
  refine wpAny_mono (ht.run [] s1 (start N vs) H _ (I.wish _) hq) (fun fl s' hs => ?_) fun e s' hs => False.elim hs
  obtain ⟨u, v, σ', H', rfl, J', rv, q⟩ := hs
  have J : Inv (cxOf CX0 P w K mg base N qual (defScope st) f cdv A outer s H E) [] σ' H' s' := J'.unwish
  obtain ⟨H'', hF, hU, hO⟩ := fin_make S.nd J
  exact ⟨v, H'', J.os, J.bare, hU, hO, rv, q H'' hF⟩
end Inf

set_option Elab.async false
set_option linter.all false
set_option maxRecDepth 100000
set_option maxHeartbeats 4000000
namespace Inf
open PySem PySem.Spec PyProof.Rows L2 NdefX LamX
/-! ### f( *values), f a name that holds a function that was made in a def -/
/-- such a thing is a function object -/
def FnHO (f : Addr) (o : HO) : Prop := ∀ (P : Program) (w : World) (H : Hp) (h : Heap), HOk P w H h → H f = some o → PySem.W.FnAt f h
theorem fnHO_of {f : Addr} {F : NF} : FnHO f (FnO f F) := fun P w H h hok e => by
  obtain ⟨od, sl, doc, pm, ctv, z⟩ := fnO_at hok e
  exact ⟨_, od, _, sl, z⟩
def tAct (P : Program) (w : World) (K : PySem.W.Frag) (mg : Str → Option Value) (base : Heap) (CX : CXT) (k i : Nat) (E : L2.St → XK) (te : TE) : TE := fun σ H Q => ∃ f, σ[i]? = some (some (.ref f)) ∧ te σ H fun y H1 => ∃ a xs o sp, y = V.ref a ∧ (SqT K H1 a xs ∨ SqL K H1 a xs) ∧ H1 f = some o ∧ FnHO f o ∧
  FnR P w K mg base CX k f sp ∧ sp xs H1 Q (E σ)
section
variable {X : Cx} {CX : CXT} {k i : Nat} {E : L2.St → XK} {x : Str} {e : Expr} {te : TE} {p sp_ pos : Pos}
theorem run_fnE {pins : List (Addr × Obj)} {σ : L2.St} {H : Hp} {s : Shared} {f : Addr} {sp : Sp} {Q : VK} {us : List Value} {vs : List V} (F : FnR X.prog X.w X.K X.mg X.base CX k f sp) (hr : Room k X.A) (hx : PassesAt CX X σ (E σ)) (I : Inv X pins σ H s) (r : Vals vs us) (h : sp vs H Q (E σ)) :
    wpAny (model X.prog X.w) X.A (call (.ref f) us) (EP X pins σ Q) X.xe s := by
  refine wpAny_call (codeAny_mono (F X.A X.stack s H us vs Q (E σ) hr I.env0 r h) fun r s' hq => ?_)
  match r, hq with
  | .error e, hq => exact hx pins H s e s' I hq
  | .ok (.ret u), hq => exact I.after hq
  | .ok .next, hq => exact False.elim hq
  | .ok .brk, hq => exact False.elim hq
  | .ok .cont, hq => exact False.elim hq
theorem pe_act (hN : X.N[i]? = some x) (hv : Vis X.env.scope x) (hr : Room k X.A) (hx : ∀ σ, PassesAt CX X σ (E σ)) (he : PE X e te) (hd : (x == ("__debug__" : Str)) = false := by decide) (hcd : (x == ("__classdict__" : Str)) = false := by decide)
    (hst : starEach [.Starred e sp_] X.env = [(true, eval e X.env)] := by rfl) : PE X (.Call (.Name x p) [.Starred e sp_] [] pos) (tAct X.prog X.w X.K X.mg X.base CX k i E te) := by
  refine ⟨fun pins s σ H Q I h => ?_⟩
  obtain ⟨f, hs, h⟩ := h
  refine wpAny_Call_Name_kw (thn ((pe_var (pos := p) hN hv hd hcd).run pins s σ H (fun v H1 => v = .ref f ∧ H1 = H) I ⟨.ref f, hs, rfl, rfl⟩) fun u s1 ⟨v, H1, I1, r1, ev, eH⟩ => ?_)
  subst ev
  rw [eH] at I1
  obtain rfl : u = Value.ref f := r1
  rw [show backTo pos (starEach [.Starred e sp_] X.env) = [(true, (do let v ← eval e X.env; standAt pos; pure v))] by rw [hst]; rfl]
  refine PySem.W.ks_call (P := PySem.W.FnAt f) rfl PySem.W.keeps_F (PySem.W.ks_lone ?_)
  refine thn (he.run pins s1 σ H _ I1 h) fun v s2 ⟨y, H2, I2, ry, a, xs, o, sp, ey, hxs, hf, ho, hF, q⟩ => ?_
  subst ey
  obtain rfl : v = Value.ref a := ry
  exact StX.star_any I2 hxs fun us s3 I3 rv => ⟨ho _ _ _ _ I3.hok hf, run_fnE hF hr (hx σ) I3 rv q⟩
end
/-! ### try: body finally: suite, where nothing is raised -/
section
variable {X : Cx} {body : List Stmt} {f₀ : Stmt} {fs : List Stmt} {pos : Pos} {tb tf : TS}
def tFin0 (tb tf : TS) : TS := fun D σ H => tb { nx := fun σ1 H1 => tf D σ1 H1, rt := fun _ _ => False } σ H
theorem ps_fin0 (hb : PSs X.nox body tb) (hf : PSs X.nox (f₀ :: fs) tf) : PS X (.Try body [] [] (f₀ :: fs) pos) (tFin0 tb tf) := by
  refine ⟨fun pins s σ H D I h => wpAny_Try_finally (wpAny_mono (hb.run pins s σ H _ (I.wish _) h) (fun g s1 z => ?_) fun _ _ z => False.elim z)⟩
  match g, z with
  | .ret u, z => exact (z.elim fun _ z => z.elim fun _ z => z.elim fun _ z => z.2.2).elim
  | .brk, z => exact (z.elim fun _ z => z.elim fun _ z => z.2).elim
  | .cont, z => exact (z.elim fun _ z => z.elim fun _ z => z.2).elim
  | .next, z =>
    obtain ⟨σ1, H1, J1, q1⟩ := z
    refine wpAny_execs_nil (wpAny_mono (hf.run pins s1 σ1 H1 D (J1.unwish.wish _) q1) (fun g2 s2 q2 => ?_) fun _ _ e => False.elim e)
    have q3 : SP X pins D g2 s2 := q2.unwish
    cases g2 <;> exact q3
end
end Inf

set_option Elab.async false
set_option linter.all false
set_option maxRecDepth 100000
set_option maxHeartbeats 4000000
namespace Inf
open PySem PySem.Spec PyProof.Rows L2 NdefX LamX
/-- the tables of the code objects of the top's defs, as the written part and the head tell them -/
def TopTabs (q : Program) (K : PySem.W.Frag) (mg : Str → Option Value) (h : Heap) : Prop := ∀ (x : Str) (f c P : Addr) (o1 : Obj) (fd1 : FuncData) (e : Value) (dd : Option Addr) (vs1 : Array Value) (sl : Array (Option Value)),
  (recsOf q).any (fun d => d.name == x) = true → mg x = some (.ref f) → K.lookup f = some o1 → o1.data = .func fd1 → fd1.code = .ref c → K.lookup c = some ⟨e, dd, .fields vs1, sl⟩ → vs1[11]? = some (.ref P) →
    PySem.W.CodeHd h c P ∧ h.get? P = some { cls := .none, data := .fields #[] }
theorem walk_top {l : PySem.W.OpenLaw} {n k : Nat} {q : Program} {loose : List Str} {XP : (Str → Option Value) → Heap → Prop} {YP : World → Heap → Prop} {d : DefRec} {K : Params → PySem.W.Frag} {CX : World → CXT} {x : Str}
    (hn : l.most = some n) (hn2 : n ≤ sizeLine) (hdf : d.params.defaults = []) (hr : Room k callerA) (hY : ∀ (w : World) (h : Heap), YP w h → (K w.params).In h)
    (F : ∀ (w : World) (mg : Str → Option Value) (fa : Addr) (h : Heap), YP w h → (K w.params).In h → h.Ns mainGlobals mg → mg d.name = some (.ref fa) → TopTabs q (K w.params) mg h → LawAtS l w (K w.params) (CX w) k n x mg fa h)
    (hCX : ∀ (w : World) (H : Hp) (s : Shared) (e : Value) (s' : Shared), CX w [] H s (fun _ _ _ => False) e s' → False) :
    PySem.W.WalkO q loose XP YP l.row.toRowW d [] (fun f vs => PySem.call f vs) :=
  Att.attach_callB hn hdf fun w s₀ s₁ mg mb fa o pm cd doc a vs ns G Y ho hd hcd hmg hobj hints hlen hbits hg => by
    have KX := hY w _ Y
    have tabs : TopTabs q (K w.params) mg s₁.heap := fun x f c P o1 fd1 e dd vs1 sl hrec hx k1 k2 k3 k4 k5 => by
      obtain ⟨dL, hm, hn1⟩ := List.any_eq_true.mp hrec
      have hn2 : dL.name = x := beq_iff_eq.mp hn1
      obtain ⟨a', o', fd', c', P', h1, h2, h3, h4, h5, h6⟩ := G.T.tab dL hm
      rw [hn2, hx] at h1
      cases h1
      have g1 := KX _ _ k1
      rw [g1] at h2
      cases h2
      rw [k2] at h3
      cases h3
      rw [k3] at h4
      cases h4
      have hC := PySem.W.CodeHd.of h5 h6
      obtain ⟨⟨oc, vc, e1, _, e3, e4⟩, hP⟩ := h6
      have g2 := KX _ _ k4
      rw [g2] at e1
      cases e1
      cases e3
      rw [k5] at e4
      cases e4
      exact ⟨hC, hP⟩
    obtain ⟨fd, cs, sp, hT, nT, C, hb, hsp, hF⟩ := F w mg fa _ Y KX G.T.g hmg tabs
    exact law_callTs KX G.T.g G.T.b G.T.builtins G.T.nolimit hg hT nT C G.T.bmain hobj hints (Nat.le_trans hlen hn2) hr hF hb (fun H hH hS => hsp H a ns hlen hbits hH hS) fun H e s' => hCX w H s₁ e s'
end Inf

set_option Elab.async false
set_option linter.all false
set_option maxRecDepth 100000
set_option maxHeartbeats 4000000
namespace Inf
open PySem PySem.Spec PyProof.Rows L2 NdefX LamX
/-! ### promises of defs that are called where no repr is under way -/
structure FnOkG (P : Program) (w : World) (K : PySem.W.Frag) (mg : Str → Option Value) (base : Heap) (CX : CXT) (k : Nat) (f : Addr) (fd : FuncData) (ps : List Str) (sp : Sp) : Prop where
  len : ∀ vs H Q E, sp vs H Q E → vs.length = ps.length
  run : ∀ (A : Around) (outer : List Env) (s : Shared) (H : Hp) (args : Args) (us : List Value) (vs : List V) (Q : VK) (E : XK), A.guards = some [] → Room k A → Env0 P w K mg base A outer s H → BindsTo s fd args (ps.zip us) → Vals vs us → sp vs H Q E →
    codeAny (model P w) A (.call (.ref f) args) (CR CX outer P w H s Q E) s
theorem FnOkG.of {P : Program} {w : World} {K : PySem.W.Frag} {mg : Str → Option Value} {base : Heap} {CX : CXT} {k : Nat} {f : Addr} {fd : FuncData} {ps : List Str} {sp : Sp} (F : FnOk P w K mg base CX k f fd ps sp) : FnOkG P w K mg base CX k f fd ps sp :=
  ⟨F.len, fun A outer s H args us vs Q E _ => F.run A outer s H args us vs Q E⟩
section
variable {P : Program} {w : World} {K : PySem.W.Frag} {mg mb : Str → Option Value} {CX : CXT} {k : Nat} {fa a : Addr} {cs : List (Addr × Addr)} {fd : FuncData} {x : Str} {sp : Sp} {s₁ : Shared} {vs : List Value} {ns : List Int}
/-- the law's call, from such a promise -/
theorem call_lawG (KX : K.In s₁.heap) (hns : s₁.heap.Ns mainGlobals mg) (hb : s₁.heap.Ns builtinsNs mb) (hbb : ∀ x : Str, x ≠ "__name__" → mb x = bootBuiltins x) (hlim : s₁.heap.NoLimit) (hg : s₁.gens = #[])
    (hT : ∀ p ∈ cs, s₁.heap.get? p.2 = some { cls := .none, data := .fields #[] }) (nT : ∀ p ∈ cs, K.lookup p.2 = none) (C : ∀ p ∈ cs, PySem.W.CodeHd s₁.heap p.1 p.2)
    (hbm : ∃ (bm : Addr) (ob : Obj), mg "__builtins__" = some (.ref bm) ∧ bm ≠ builtinsNs ∧ s₁.heap.get? bm = some ob ∧ ob.cls = .type "module" ∧ ob.dict = some builtinsNs ∧ ob.data = .plain)
    (ha : s₁.heap.get? a = some { cls := .type "list", data := .seq vs.toArray }) (hi : IntsAre vs ns) (hl : ns.length ≤ sizeLine) (hr : Room k callerA)
    (F : ∀ base : Heap, K.In base → base.Ns mainGlobals mg → (∀ p ∈ cs, TabB base mg p.1 p.2) → FnOkG P w K mg base CX k fa fd [x] sp) (hbind : ∀ (s : Shared) (u : Value), BindsTo s fd ⟨[u], []⟩ [(x, u)])
    (hsp : ∀ H : Hp, (∀ p ∈ cs, H p.2 = some (.tbl #[])) → SqL K H a (ns.map V.int) → sp [.ref a] H (fun v _ => v = .bl true) fun _ _ _ => False)
    (hCX : ∀ H e s', CX [] H s₁ (fun _ _ _ => False) e s' → False) :
    codeAny (model P w) callerA (.call (.ref fa) ⟨[.ref a], []⟩) (fun r s' => r = .ok (.ret (.bool true)) ∧ OldK s₁.heap s'.heap ∧ s'.os = s₁.os ∧ AllBare s'.gens) s₁ := by
  have tabAt : ∀ b, b ∈ cs.map (·.2) → s₁.heap.get? b = some { cls := .none, data := .fields #[] } := fun b hb => (List.mem_map.mp hb).elim fun p hp => hp.2 ▸ hT p hp.1
  have tabK : ∀ b, b ∈ cs.map (·.2) → K.lookup b = none := fun b hb => (List.mem_map.mp hb).elim fun p hp => hp.2 ▸ nT p hp.1
  -- the abstract heap: the tables, and the script where the written part doesn't hold it
  let H : Hp := fun b => if b ∈ cs.map (·.2) then some (.tbl #[]) else if b = a ∧ K.lookup a = none then some (.frz { cls := .type "list", data := .seq vs.toArray } (.lst (ns.map V.int))) else none
  have aNot : a ∉ cs.map (·.2) := fun z => by
    have := tabAt a z
    rw [ha] at this
    cases this
  have Htab : ∀ b, b ∈ cs.map (·.2) → H b = some (.tbl #[]) := fun b hb => if_pos hb
  have Hcase : ∀ b u, H b = some u → (b ∈ cs.map (·.2) ∧ u = .tbl #[]) ∨ (b = a ∧ K.lookup a = none ∧ u = .frz { cls := .type "list", data := .seq vs.toArray } (.lst (ns.map V.int))) := fun b u e => by
    by_cases h1 : b ∈ cs.map (·.2)
    · exact .inl ⟨h1, Option.some.inj (e.symm.trans (Htab b h1))⟩
    · by_cases h2 : b = a ∧ K.lookup a = none
      · exact .inr ⟨h2.1, h2.2, Option.some.inj (e.symm.trans ((if_neg h1).trans (if_pos h2)))⟩
      · exact absurd (e.symm.trans ((if_neg h1).trans (if_neg h2))) (fun z => nomatch z)
  have other : ∀ b o, s₁.heap.get? b = some o → (∀ its n, o.data ≠ .seq its n) → o.data ≠ .fields #[] → H b = none := fun b o e n1 n2 => by
    match q : H b with
    | none => rfl
    | some u =>
      rcases Hcase b u q with ⟨z, _⟩ | ⟨z, _, _⟩
      · rw [tabAt b z] at e
        exact absurd (by cases e; rfl) n2
      · rw [z, ha] at e
        exact absurd (by cases e; rfl) (n1 vs.toArray 0)
  have hok : HOk P w H s₁.heap := fun b u e => by
    rcases Hcase b u e with ⟨z, rfl⟩ | ⟨rfl, _, rfl⟩
    · exact tabAt b z
    · exact ⟨ha, by rw [List.length_map]; exact hl, vs, _, vals_ints hi, ha⟩
  have hS : SqL K H a (ns.map V.int) := by
    match hk : K.lookup a with
    | none => exact .inl (.inr ⟨_, (if_neg aNot).trans (if_pos ⟨rfl, hk⟩)⟩)
    | some o =>
      have e := KX a o hk
      rw [ha] at e
      cases e
      have lenV := hi.length
      exact .inr ⟨_, vs.toArray, _, hk, rfl, rfl, rfl, by rw [List.size_toArray, lenV]; exact hl, by simpa using vals_ints hi⟩
  have low : ∀ b o, s₁.heap.get? b = some o → H b = none → (hidT s₁.heap H).get? b = some o := fun b o e n => hidT_get e n
  have lowNs : ∀ {b : Addr} {m : Str → Option Value}, s₁.heap.Ns b m → (hidT s₁.heap H).Ns b m := fun {b m} h => by
    obtain ⟨o, es, ep, e, d, r⟩ := h
    exact ⟨o, es, ep, low b o e (other b o e (fun its n z => by rw [d] at z; cases z) fun z => by rw [d] at z; cases z), d, r⟩
  have lowK : K.In (hidT s₁.heap H) := fun b o e => low b o (KX b o e) (by
    match q : H b with
    | none => rfl
    | some u =>
      rcases Hcase b u q with ⟨z, _⟩ | ⟨rfl, z, _⟩
      · rw [tabK b z] at e
        cases e
      · rw [z] at e
        cases e)
  have notG : ∀ b o, s₁.heap.get? b = some o → (∀ es ep, o.data ≠ .dict es ep) → b ≠ mainGlobals := fun b o e n z => by
    obtain ⟨o', es, ep, e', d, _⟩ := hns
    rw [z, e'] at e
    cases e
    exact n es ep d
  have lowT : ∀ p ∈ cs, TabB (hidT s₁.heap H) mg p.1 p.2 := fun p hp => by
    refine ⟨?_, ?_, Ne.symm (notG p.2 _ (hT p hp) (fun es ep z => nomatch z))⟩
    · obtain ⟨o, us, file, tf, flags, tg, inF, text, tt, e1, r1, r2, r3, rest⟩ := C p hp
      refine ⟨o, us, file, tf, flags, tg, inF, text, tt, low _ o e1 (other _ o e1 (fun its n z => by rw [r2] at z; cases z) fun z => ?_), r1, r2, r3, rest⟩
      rw [r2] at z
      cases z
      simp at r3
    · obtain ⟨bm, ob, b1, b2, b3, b4, b5, b6⟩ := hbm
      refine ⟨bm, ob, b1, b2, notG bm ob b3 (fun es ep z => by rw [b6] at z; cases z), fun z => ?_, low bm ob b3 (other bm ob b3 (fun its n z => by rw [b6] at z; cases z) fun z => by rw [b6] at z; cases z), b4, b5, b6⟩
      rw [z, hT p hp] at b3
      cases b3
      cases b6
  have lowM : L2.Mod K mg (hidT s₁.heap H) := ⟨lowK, lowNs hns, ⟨mb, lowNs hb, hbb⟩, hlim.elim fun mc h => ⟨mc, lowNs h.1, h.2⟩⟩
  have e0 : Env0 P w K mg (hidT s₁.heap H) callerA [] s₁ H := ⟨rfl, lowM, fun b o e => of_hidT e, Nat.le_of_eq (hidT_size _ _), trivial, fun b hb => absurd (show b ∈ ([] : List Addr) from hb) (List.not_mem_nil), hok, .of_eq hg⟩
  refine codeAny_mono ((F _ lowK (lowNs hns) lowT).run callerA [] s₁ H ⟨[.ref a], []⟩ [.ref a] [.ref a] _ _ rfl hr e0 (hbind s₁ (.ref a)) (.cons rfl .nil) (hsp H (fun p hp => Htab _ (List.mem_map.mpr ⟨p, hp, rfl⟩)) hS)) fun r s' h => ?_
  match r, h with
  | .error e, h => exact (hCX H e s' h).elim
  | .ok .next, h => exact False.elim h
  | .ok .brk, h => exact False.elim h
  | .ok .cont, h => exact False.elim h
  | .ok (.ret u), h =>
    obtain ⟨v, H', os, bare, un, hok', r', q⟩ := h
    have q2 : v = .bl true := q
    subst q2
    obtain rfl : u = Value.bool true := r'
    have stays : ∀ b o, b ∉ cs.map (·.2) → s₁.heap.get? b = some o → s'.heap.get? b = some o := fun b o nb e => by
      match z : H b with
      | none => exact un.keep b o e z (fun z => nomatch z) (fun z => nomatch z)
      | some u =>
        rcases Hcase b u z with ⟨y, _⟩ | ⟨rfl, _, rfl⟩
        · exact absurd y nb
        · obtain ⟨e1, _⟩ := hok' b _ (un.frzs b _ _ z)
          rw [ha] at e
          cases e
          exact e1
    have tabs : ∀ p ∈ cs, ∃ more : Array Value, s'.heap.get? p.2 = some { cls := .none, data := .fields more } := fun p hp =>
      (un.tbls p.2 #[] (Htab _ (List.mem_map.mpr ⟨p, hp, rfl⟩))).elim fun more z => ⟨_, hok' p.2 _ z⟩
    refine ⟨rfl, ⟨fun b o e => ?_, fun b o e => ?_⟩, os, bare⟩
    · by_cases nb : b ∈ cs.map (·.2)
      · obtain ⟨p, hp, rfl⟩ := List.mem_map.mp nb
        rw [hT p hp] at e
        cases e
        exact (tabs p hp).elim fun more hm => .inr (.inl ⟨((C p hp).tab (hT p hp)).isCodeTable, rfl, #[], more, rfl, hm.trans (by rw [Array.empty_append])⟩)
      · exact .inl (stays b o nb e)
    · by_cases nb : b ∈ cs.map (·.2)
      · obtain ⟨p, hp, rfl⟩ := List.mem_map.mp nb
        exact (tabs p hp).elim fun more hm => ⟨_, hm⟩
      · exact ⟨o, stays b o nb e⟩
end
/-- what is known of the law's promise at the head's heap, where no repr is under way -/
def LawAtG (l : PySem.W.OpenLaw) (w : World) (K : PySem.W.Frag) (CX : CXT) (k n : Nat) (x : Str) (mg : Str → Option Value) (fa : Addr) (h : Heap) : Prop :=
  ∃ (fd : FuncData) (cs : List (Addr × Addr)) (sp : Sp), (∀ p ∈ cs, h.get? p.2 = some { cls := .none, data := .fields #[] }) ∧ (∀ p ∈ cs, K.lookup p.2 = none) ∧ (∀ p ∈ cs, PySem.W.CodeHd h p.1 p.2) ∧ (∀ (s : Shared) (u : Value), BindsTo s fd ⟨[u], []⟩ [(x, u)]) ∧
    (∀ (H : Hp) (a : Addr) (ns : List Int), ns.length ≤ n → (∀ p ∈ cs, H p.2 = some (.tbl #[])) → SqL K H a (ns.map V.int) → sp [.ref a] H (fun v _ => v = .bl true) fun _ _ _ => False) ∧
    ∀ base : Heap, K.In base → base.Ns mainGlobals mg → (∀ p ∈ cs, TabB base mg p.1 p.2) → FnOkG l.prog w K mg base CX k fa fd [x] sp
theorem walk_topG {l : PySem.W.OpenLaw} {n k : Nat} {q : Program} {loose : List Str} {XP : (Str → Option Value) → Heap → Prop} {YP : World → Heap → Prop} {d : DefRec} {K : Params → PySem.W.Frag} {CX : World → CXT} {x : Str}
    (hn : l.most = some n) (hn2 : n ≤ sizeLine) (hdf : d.params.defaults = []) (hr : Room k callerA) (hY : ∀ (w : World) (h : Heap), YP w h → (K w.params).In h)
    (F : ∀ (w : World) (mg : Str → Option Value) (fa : Addr) (h : Heap), YP w h → (K w.params).In h → h.Ns mainGlobals mg → mg d.name = some (.ref fa) → TopTabs q (K w.params) mg h → LawAtG l w (K w.params) (CX w) k n x mg fa h)
    (hCX : ∀ (w : World) (H : Hp) (s : Shared) (e : Value) (s' : Shared), CX w [] H s (fun _ _ _ => False) e s' → False) :
    PySem.W.WalkO q loose XP YP l.row.toRowW d [] (fun f vs => PySem.call f vs) :=
  Att.attach_callB hn hdf fun w s₀ s₁ mg mb fa o pm cd doc a vs ns G Y ho hd hcd hmg hobj hints hlen hbits hg => by
    have KX := hY w _ Y
    have tabs : TopTabs q (K w.params) mg s₁.heap := fun x f c P o1 fd1 e dd vs1 sl hrec hx k1 k2 k3 k4 k5 => by
      obtain ⟨dL, hm, hn1⟩ := List.any_eq_true.mp hrec
      have hn2 : dL.name = x := beq_iff_eq.mp hn1
      obtain ⟨a', o', fd', c', P', h1, h2, h3, h4, h5, h6⟩ := G.T.tab dL hm
      rw [hn2, hx] at h1
      cases h1
      have g1 := KX _ _ k1
      rw [g1] at h2
      cases h2
      rw [k2] at h3
      cases h3
      rw [k3] at h4
      cases h4
      have hC := PySem.W.CodeHd.of h5 h6
      obtain ⟨⟨oc, vc, e1, _, e3, e4⟩, hP⟩ := h6
      have g2 := KX _ _ k4
      rw [g2] at e1
      cases e1
      cases e3
      rw [k5] at e4
      cases e4
      exact ⟨hC, hP⟩
    obtain ⟨fd, cs, sp, hT, nT, C, hb, hsp, hF⟩ := F w mg fa _ Y KX G.T.g hmg tabs
    exact call_lawG KX G.T.g G.T.b G.T.builtins G.T.nolimit hg hT nT C G.T.bmain hobj hints (Nat.le_trans hlen hn2) hr hF hb (fun H hH hS => hsp H a ns hlen hH hS) fun H e s' => hCX w H s₁ e s'
/-! ### bodies and calls of such defs -/
theorem okG {P : Program} {w : World} {K : PySem.W.Frag} {mg : Str → Option Value} {base : Heap} {x qual : Str} {st : Stmt} {f : Addr} {fd : FuncData} {N ps : List Str} {k : Nat} {sp : Sp} (F : L2.Fun K x qual st f fd) (S : FnScope N ps (defScope st)) (len : ∀ vs H Q E, sp vs H Q E → vs.length = ps.length)
    (hbody : ∀ (cdv : Value) (A : Around) (outer : List Env) (s : Shared) (H : Hp) (vs : List V) (Q : VK) (E : XK), (A.deeper (envOfC qual (defScope st) s.heap.objs.size f cdv)).guards = some [] → Room k (A.deeper (envOfC qual (defScope st) s.heap.objs.size f cdv)) → sp vs H Q E →
      ∃ t, PSs (cxOf CX0 P w K mg base N qual (defScope st) f cdv A outer s H E).nox (defBody st) t ∧ t { nx := fun _ H' => Q .non H', rt := Q } (start N vs) H) : FnOkG P w K mg base CX0 (k + 1) f fd ps sp := by
  obtain ⟨oc, od, kV, doc, pm, an, cdv, ct, osl, rfl, lk, hcd⟩ := F.ex
  refine ⟨len, fun A outer s H args us vs Q E hga hr e0 hb r hsp => ?_⟩
  have KX : K.In s.heap := e0.mod.kin.keeps fun b o e => (e0.bs b o e).1
  have lim : s.heap.NoLimit := e0.mod.nolimit.keeps fun b o e => (e0.bs b o e).1
  have hl := len _ _ _ _ hsp
  have hkind : ∀ y ∈ ps.zip us, (defScope st).names.lookup y.1 = some .local ∨ ((defScope st).names.lookup y.1 = some .cell ∧ ((cellsFrom (s.heap.objs.size + 1) (defScope st).names []).lookup y.1).isSome = true) := fun ⟨n, v⟩ hy =>
    (S.par n (List.of_mem_zip hy).1).elim .inl fun q => .inr ⟨q, PySem.W.cellsFrom_some _ _ _ (.inl q)⟩
  refine codeAny_call_function hr.depth (KX _ _ lk) rfl S.co S.gen rfl (PySem.W.codeRec_of KX hcd) (hb _ _ _ _ (wpAny_newFunctionEnv_cells S.kind hkind fun env he s1 xx => ?_))
  subst he
  obtain ⟨t, ht, hq⟩ := hbody cdv A outer s H vs Q E hga (hr.deeper _) hsp
  have I : Inv (cxOf CX0 P w K mg base N qual (defScope st) f cdv A outer s H E) [] (start N vs) H s1 := inv_start S hr.hd e0 hl r xx
  refine ⟨lim.keeps xx.toInCall.keep, codeAny_func (wpAny_mono (ht.run [] s1 (start N vs) H _ (I.wish _) hq) (fun fl s' hs => ?_) fun e s' hs => False.elim hs)⟩
  have fin : ∀ {σ' : L2.St} {H' : Hp} {v : V} {u : Value}, Inv (cxOf CX0 P w K mg base N qual (defScope st) f cdv A outer s H E).nox [] σ' H' s' → L2.RelV v u → Q v H' → CE outer P w H s Q u s' :=
    fun {σ' H' v u} J rv q => ⟨v, H', J.os, J.bare, J.base, J.hok, rv, q⟩
  match fl, hs with
  | .ret u, hs => exact hs.elim fun v z => z.elim fun σ' z => z.elim fun H' z => fin z.1 z.2.1 z.2.2
  | .next, hs => exact hs.elim fun σ' z => z.elim fun H' z => fin (v := V.non) (u := Value.none) z.1 rfl z.2
  | .brk, hs => exact hs.elim fun _ z => z.elim fun _ z => False.elim z.2
  | .cont, hs => exact hs.elim fun _ z => z.elim fun _ z => False.elim z.2
section
variable {X : Cx} {CX : CXT} {k : Nat} {f : Addr} {fd : FuncData} {ps : List Str} {sp : Sp} {E : XK} {x : Str} {p pos : Pos} {e : Expr} {es : List Expr} {t : TA}
/-- f(e, ..), f such a def -/
theorem pe_callG (F : FnOkG X.prog X.w X.K X.mg X.base CX k f fd ps sp) (hG : X.A.guards = some []) (hr : Room k X.A) (hg : Gl X x) (hm : X.mg x = some (.ref f)) (hk : PySem.W.keepIn X.K (.ref f) = true) (hb : L2.Binds X.K fd ps []) (hx : Passes CX X E)
    (ha : PA X (e :: es) t) (hdb : (x == ("__debug__" : Str)) = false := by decide) (he : starEach (e :: es) X.env = (false, eval e X.env) :: starEach es X.env := by rfl) (hpl : (backTo pos (starEach es X.env)).any (·.1) = false := by rfl) :
    PE X (.Call (.Name x p) (e :: es) [] pos) (fun σ H Q => t σ H fun vs H1 => sp vs H1 Q E) := by
  refine ⟨fun pins s σ H Q I h => wpAny_Call_Name_kw (ld_glob I hg hm (PySem.W.callWith_K (h₀ := X.base) I.ok.mod.kin hk (thn (ha.run pos pins s σ H _ I h) fun us s1 ⟨vs, H1, I1, r, q⟩ => ⟨I1.kIn, ?_⟩) he hpl) hdb)⟩
  have hl : us.length = ps.length := r.length.symm.trans (F.len _ _ _ _ q)
  have hb2 : BindsTo s1 fd ⟨us, []⟩ (ps.zip us) := by
    have := hb s1 us I1.kIn (by rw [List.append_nil]; exact hl)
    rwa [List.append_nil] at this
  refine wpAny_call (codeAny_mono (F.run X.A X.stack s1 H1 ⟨us, []⟩ us vs Q E hG hr I1.env0 hb2 r q) fun res s' hq => ?_)
  match res, hq with
  | .error er, hq => exact hx pins σ H1 s1 er s' I1 hq
  | .ok (.ret u), hq => exact I1.after hq
  | .ok .next, hq => exact False.elim hq
  | .ok .brk, hq => exact False.elim hq
  | .ok .cont, hq => exact False.elim hq
/-- repr of data: what PyData.shown says -/
theorem call_reprD (hG : X.A.guards = some []) (hu : X.A.units + 64 + 16 < cLine) : CallR X (.builtin "repr") (fun xs H Q => ∃ (v : V) (d : PyData), xs = [v] ∧ Dp X.K H v d ∧ d.showable = true ∧ d.hasDict = false ∧ d.depth ≤ 64 ∧ d.shown.length ≤ sizeLine ∧ (∀ i, v = .int i → i.natAbs.log2 < 1920) ∧ Q (.str d.shown) H) := by
  intro pins s σ H xs us Q I r h
  obtain ⟨v, d, rfl, hd, hs, hnd, hdp, hsz, hi, q⟩ := h
  obtain ⟨u, rfl, ru⟩ := vals1 r
  have txt : ∀ tk, ∃ (y : V) (H1 : Hp), Inv X pins σ H1 { s with toks := tk } ∧ L2.RelV y (.str d.shown s.toks) ∧ Q y H1 := fun tk => ⟨.str d.shown, H, I.kept (t' := tk) fun _ _ z => z, ⟨_, rfl⟩, q⟩
  have obj : ∀ (a : Addr), u = .ref a → wpAny (model X.prog X.w) X.A (call (.builtin "repr") [u]) (EP X pins σ Q) X.xe s := fun a e => by
    subst e
    obtain ⟨as, rd⟩ := Dp.reads I _ _ _ hd ru
    exact repr_of_reads' rd hs (fun z => by rw [hnd] at z; cases z) hG (by omega) (fun _ _ z => z) (fun h' u tk hk => ⟨.str d.shown, H, I.kept (h' := h') (t' := tk) hk, ⟨_, rfl⟩, q⟩) hsz
  cases hd with
  | non =>
    obtain rfl : u = Value.none := ru
    exact P.repr_of_none (txt _)
  | bl b =>
    obtain rfl : u = Value.bool b := ru
    exact P.repr_of_bool (by cases b <;> exact txt _)
  | int i =>
    obtain ⟨t, rfl⟩ := ru
    exact P.repr_of_int (hi i rfl) (txt _)
  | str y =>
    obtain ⟨t, rfl⟩ := ru
    exact P.repr_of_str (txt _) hsz
  | lst h1 h2 => exact obj _ ru
  | tup h1 h2 => exact obj _ ru
end
end Inf

set_option Elab.async false
set_option linter.all false
set_option maxRecDepth 100000
set_option maxHeartbeats 4000000
namespace Inf
open PySem PySem.Spec PyProof.Rows L2 NdefX LamX
/-! ### a lambda as a value: a function that stands where it was made -/
/-- its words, the cells that it captured, its code object -/
structure LF where
  qual : Str
  params : Arguments
  body : Expr
  scope : Scope
  cl : List (Str × Addr)
  c : Addr
def LamO (f : Addr) (F : LF) : HO := .ext fun h => ∃ (pm ctv : Value), h.get? f = some (PySem.W.kla_obj "<lambda>" F.qual F.params F.body F.scope F.cl pm F.c ctv)
theorem lamO_at {P : Program} {w : World} {H : Hp} {h : Heap} {f : Addr} {F : LF} (hok : HOk P w H h) (e : H f = some (LamO f F)) : ∃ (pm ctv : Value), h.get? f = some (PySem.W.kla_obj "<lambda>" F.qual F.params F.body F.scope F.cl pm F.c ctv) := by
  obtain ⟨z, _, _⟩ := hok f _ e
  exact z
theorem lamO_ok {P : Program} {w : World} {H : Hp} {h : Heap} {f : Addr} {F : LF} (e : ∃ (pm ctv : Value), h.get? f = some (PySem.W.kla_obj "<lambda>" F.qual F.params F.body F.scope F.cl pm F.c ctv)) : ObjOk P w H h f (LamO f F) := by
  refine ⟨e, ?_, fun h1 h2 ⟨pm, ctv, z⟩ k => ⟨pm, ctv, k _ z⟩⟩
  obtain ⟨pm, ctv, z⟩ := e
  exact ⟨_, z⟩
theorem lamHO {f : Addr} {F : LF} : FnHO f (LamO f F) := fun P w H h hok e => by
  obtain ⟨pm, ctv, z⟩ := lamO_at hok e
  exact ⟨_, _, _, _, z⟩
section
variable {X : Cx} {pins : List (Addr × Obj)} {σ : L2.St} {H : Hp} {s : Shared}
/-- the lambda is made and told where it stands; its code object is new, or found in the table -/
theorem lam_told {T : List (Addr × Str)} {c P : Addr} {params : Arguments} {body : Expr} {scope : Scope} {pos : Pos} {E : Value → Shared → Prop} {Q : Value → Shared → Prop} (I : Inv X pins σ H s) (TB : TabB X.base X.mg c P) (hcode : X.env.code = .ref c)
    (hm : (P, X.env.qual ++ "<lambda>") ∈ T) (hu : ∀ p ∈ T, p.1 = P → p.2 = X.env.qual ++ "<lambda>") (hT : Tabs T H) (hdef : defaultsOf params X.env = ([], [])) (hfree : ∀ y ∈ scope.names, y.2 = .free → ∃ c, X.env.cells.lookup y.1 = some c)
    (h : ∀ (f c' : Addr) (H1 : Hp) (s' : Shared), Inv X pins σ (upd H1 f (LamO f ⟨X.env.qual ++ "<lambda>", params, body, scope, cloFrom X.env.cells scope.names [], c'⟩)) s' → (∀ b o, H b = some o → b ≠ P → H1 b = some o) → (∀ b, H1 b = none → H b = none) → Tabs T H1 → H1 f = none → H1 c' = some (CodeO c' (X.env.qual ++ "<lambda>")) → Q (.ref f) s') :
    wpAny (model X.prog X.w) X.A (eval (.Lambda params body scope pos) X.env) Q E s := by
  obtain ⟨ps, tP, tO, tA⟩ := hT _ hm
  have bP := TB.bm.keeps (h' := s.heap) I.bk
  have gP : s.heap.get? P = some { cls := .none, data := .fields ps } := I.hok P _ tP
  refine PySem.W.kla_eval hdef ?_
  cases cd : codeAmong pos ps.toList with
  | none =>
    refine PySem.W.kla_makeFunction (mg := X.mg) (c := c) (P := P) (ps := ps) (closure_ok hfree) I.ok.glob (I.mod.glob.keeps I.bk) hcode (TB.code.keeps I.bk) gP tO cd TB.gP bP fun c' ctv h' tk hx hge hlt hrec htb => ?_
    obtain ⟨c2, oc, vs, t, e2, hoc, hd, hv⟩ := hrec
    cases e2
    have nC : H c' = none := I.hok.fresh hge
    have I0 := inv_table (q := X.env.qual ++ "<lambda>") (t' := tk) (more := #[rawInt pos.line, rawInt pos.col, .ref c']) (h' := h') I tP hx htb hge ⟨oc, vs, t, hoc, hd, hv⟩
    have I1 := I0.laid (a := h'.objs.size) (o := LamO h'.objs.size ⟨X.env.qual ++ "<lambda>", params, body, scope, cloFrom X.env.cells scope.names [], c'⟩) (h' := h'.push (PySem.W.kla_obj "<lambda>" (X.env.qual ++ "<lambda>") params body scope (cloFrom X.env.cells scope.names []) ((X.mg "__name__").getD .none) c' ctv)) (t' := tk)
      (fun b u z => Heap.get?_push_of_some _ z) (Nat.le_refl _) (lamO_ok ⟨_, _, Heap.get?_push_size _ rfl⟩)
    have stays : ∀ b o, H b = some o → b ≠ P → (upd (upd H P (.tbl (ps ++ #[rawInt pos.line, rawInt pos.col, .ref c']))) c' (CodeO c' (X.env.qual ++ "<lambda>"))) b = some o := fun b o e n => by
      rw [upd_ne (ne_of_none e nC), upd_ne n]
      exact e
    have neP : ∀ {b : Addr} {c2 : Addr} {q : Str}, H b = some (CodeO c2 q) → b ≠ P := fun e z => by
      rw [z, tP] at e
      exact codeO_ne _ (Option.some.inj e).symm
    refine h _ c' _ _ I1 stays (fun b z => ?_) (fun p hp => ?_) (I0.hok.fresh (Nat.le_refl _)) upd_same
    · by_cases b1 : b = c'
      · rw [b1]
        exact nC
      · rw [upd_ne b1] at z
        by_cases b2 : b = P
        · rw [b2, upd_same] at z
          cases z
        · rw [upd_ne b2] at z
          exact z
    · obtain ⟨qs, a1, a2, a3⟩ := hT p hp
      by_cases hb : p.1 = P
      · have eL : (ps ++ #[rawInt pos.line, rawInt pos.col, .ref c']).toList = ps.toList ++ [rawInt pos.line, rawInt pos.col, .ref c'] := by simp
        refine ⟨_, by rw [hb, upd_ne (ne_of_none tP nC), upd_same], ?_, fun p' cv y => ?_⟩
        · rw [eL]
          exact PySem.TriplesOk_snoc _ _ _ _ tO
        · rw [eL] at y
          rw [hu p hp hb]
          rcases among_app _ tO y with z | z
          · obtain ⟨c0, k1, k2⟩ := tA p' cv z
            exact ⟨c0, k1, stays _ _ k2 (neP k2)⟩
          · exact ⟨c', z, upd_same⟩
      · refine ⟨qs, ?_, a2, fun p' cv y => ?_⟩
        · rw [upd_ne (ne_of_none a1 nC), upd_ne hb]
          exact a1
        · obtain ⟨c0, k1, k2⟩ := a3 p' cv y
          exact ⟨c0, k1, stays _ _ k2 (neP k2)⟩
  | some cv =>
    obtain ⟨c', e, hco⟩ := tA pos cv cd
    subst e
    refine PySem.W.kla_makeFunctionHit (mg := X.mg) (c := c) (P := P) (ps := ps) (closure_ok hfree) I.ok.glob (I.mod.glob.keeps I.bk) hcode (TB.code.keeps I.bk) gP tO cd bP fun ctv h' tk hx hsz => ?_
    have I0 : Inv X pins σ H { s with heap := h', toks := tk } := I.kept hx
    have I1 := I0.laid (a := h'.objs.size) (o := LamO h'.objs.size ⟨X.env.qual ++ "<lambda>", params, body, scope, cloFrom X.env.cells scope.names [], c'⟩) (h' := h'.push (PySem.W.kla_obj "<lambda>" (X.env.qual ++ "<lambda>") params body scope (cloFrom X.env.cells scope.names []) ((X.mg "__name__").getD .none) c' ctv)) (t' := tk)
      (fun b u z => Heap.get?_push_of_some _ z) (Nat.le_refl _) (lamO_ok ⟨_, _, Heap.get?_push_size _ rfl⟩)
    exact h _ c' H _ I1 (fun _ _ e _ => e) (fun _ z => z) hT (I0.hok.fresh (Nat.le_refl _)) hco
end
def tLamO (T : List (Addr × Str)) (P : Addr) (F : Addr → LF) : TE := fun σ H Q => Tabs T H ∧ ∀ (f c' : Addr) (H1 : Hp), (∀ b o, H b = some o → b ≠ P → H1 b = some o) → (∀ b, H1 b = none → H b = none) → Tabs T H1 → H1 f = none → H1 c' = some (CodeO c' (F c').qual) → Q (.ref f) (upd H1 f (LamO f (F c')))
theorem pe_lamO {X : Cx} {T : List (Addr × Str)} {c P : Addr} {params : Arguments} {body : Expr} {scope : Scope} {pos : Pos} (TB : TabB X.base X.mg c P) (hcode : X.env.code = .ref c) (hm : (P, X.env.qual ++ "<lambda>") ∈ T) (hu : ∀ p ∈ T, p.1 = P → p.2 = X.env.qual ++ "<lambda>")
    (hdef : defaultsOf params X.env = ([], [])) (hfree : ∀ y ∈ scope.names, y.2 = .free → X.env.scope.names.lookup y.1 = some .cell ∨ X.env.scope.names.lookup y.1 = some .free) :
    PE X (.Lambda params body scope pos) (tLamO T P fun c' => ⟨X.env.qual ++ "<lambda>", params, body, scope, cloFrom X.env.cells scope.names [], c'⟩) := by
  refine ⟨fun pins s σ H Q I h => ?_⟩
  obtain ⟨hT, q⟩ := h
  exact lam_told I TB hcode hm hu hT hdef (fun y hy e => (hfree y hy e).elim (fun z => I.ok.has _ (.inl z)) fun z => I.ok.has _ (.inr z)) fun f c' H1 s' I1 e1 n1 t1 nf hc => ⟨.ref f, _, I1, rfl, q f c' H1 e1 n1 t1 nf hc⟩
end Inf

set_option Elab.async false
set_option linter.all false
set_option maxRecDepth 100000
set_option maxHeartbeats 4000000
namespace Inf
open PySem PySem.Spec PyProof.Rows L2 NdefX LamX
/-- its words as those of a function: for the frame alone -/
def LF.nf (F : LF) : NF := ⟨"<lambda>", F.qual, F.params, [], F.scope, F.cl, F.c⟩
section
variable {P : Program} {w : World} {K : PySem.W.Frag} {mg : Str → Option Value} {base : Heap} {k : Nat} {f : Addr} {F : LF} {N ps : List Str} {sp : Sp}
/-- a lambda that captures nothing, called from anywhere -/
theorem lam_fnR (S : NScope N ps [] F.scope) (hcl : F.cl = []) (hb : ∀ (pm ctv : Value) (us : List Value), us.length = ps.length → bindArgs (PySem.W.kla_fn "<lambda>" F.qual F.params F.body F.scope F.cl pm (.ref F.c) ctv) ⟨us, []⟩ = pure (ps.zip us))
    (len : ∀ vs H Q E, sp vs H Q E → vs.length = ps.length)
    (hbody : ∀ (A : Around) (outer : List Env) (s : Shared) (H : Hp) (vs : List V) (Q : VK) (E : XK), Room k (A.deeper (envF F.nf f s.heap.objs.size)) → sp vs H Q E → ∃ te, PE (ncx CX0 P w K mg base N F.nf f A outer s H E) F.body te ∧ te (startF N vs []) H Q) :
    FnR P w K mg base CX0 (k + 1) f (fun vs H Q E => H f = some (LamO f F) ∧ H F.c = some (CodeO F.c F.qual) ∧ sp vs H Q E) := by
  intro A outer s H us vs Q E hr e0 r hsp
  obtain ⟨hf, hc, hsp⟩ := hsp
  have hl := len _ _ _ _ hsp
  have lim : s.heap.NoLimit := e0.mod.nolimit.keeps fun b o e => (e0.bs b o e).1
  obtain ⟨pm, ctv, ho⟩ := lamO_at e0.hok hf
  have C : CellsAt F.nf.cl [] [] s.heap H := by
    show CellsAt F.cl [] [] s.heap H
    rw [hcl]
    exact ⟨rfl, (fun y c e => nomatch e), (fun x y c e => nomatch e), (fun i y e => nomatch e)⟩
  refine PySem.W.kla_callFunE hr.depth ho rfl S.co S.gen rfl (codeO_at e0.hok hc) ?_
  rw [hb pm ctv us (by rw [← r.length]; exact hl)]
  refine wpAny_pure (wpAny_newFunctionEnv S.nocell (fun ⟨n, _⟩ hy => S.par n (List.of_mem_zip hy).1) (fun h₁ hns hsb => ⟨lim.fresh _ hsb, ?_⟩) S.kind)
  obtain ⟨te, ht, hq⟩ := hbody A outer s H vs Q E (hr.deeper _) hsp
  have kp : ∀ b o, s.heap.get? b = some o → h₁.get? b = some o := fun b o e => hsb.extBut b o (Nat.ne_of_lt (Heap.lt_size e)) (Heap.get?_push_of_some _ e)
  have I := inv_startN (CX := CX0) (P := P) (w := w) (K := K) (mg := mg) (base := base) (F := F.nf) (f := f) (A := A) (outer := outer) (E := E) (tk := s.toks + (ps.zip us).length) S hr.hd e0 hl r C hns kp
  refine PySem.W.kla_codeExpr (wpAny_mono (ht.run [] _ (startF N vs []) H Q I hq) (fun u s' hs => ?_) fun e s' hs => hs)
  obtain ⟨v, H', J, rv, q⟩ := hs
  exact ⟨v, H', J.os, J.bare, J.base, J.hok, rv, q⟩
end
end Inf

set_option Elab.async false
set_option linter.all false
set_option maxRecDepth 100000
set_option maxHeartbeats 4000000
namespace Inf
open PySem PySem.Spec PyProof.Rows L2 NdefX LamX
/-- a def that returns things that hold its names, by what K knows of it -/
theorem okC_of {P : Program} {w : World} {K : PySem.W.Frag} {mg : Str → Option Value} {base : Heap} {x qual : Str} {st : Stmt} {f : Addr} {N ps : List Str} {k : Nat} {sp : Sp} {oc : Value} {od : Option Addr} {kV doc pm cdv ct : Value} {an : Option Addr} {osl : Array (Option Value)}
    (lk : K.lookup f = some ⟨oc, od, .func (PySem.W.fnOf x qual (defArgs st) (defBody st) (defScope st) .none kV doc pm an cdv ct), osl⟩) (hcd : PySem.W.codeIn K cdv qual = true) (S : FnScope N ps (defScope st)) (len : ∀ vs H Q E, sp vs H Q E → vs.length = ps.length)
    (hbody : ∀ (A : Around) (outer : List Env) (s : Shared) (H : Hp) (vs : List V) (Q : VK) (E : XK), Room k (A.deeper (envOfC qual (defScope st) s.heap.objs.size f cdv)) → sp vs H Q E →
      ∃ t, PSsR (cxOf CX0 P w K mg base N qual (defScope st) f cdv A outer s H E).nox (defBody st) t ∧
        t (fun σ v H' => ∀ H'', Fin (envOfC qual (defScope st) s.heap.objs.size f cdv).cells (defScope st).names N σ H' H'' → Q v H'') (start N vs) H) :
    FnOk P w K mg base CX0 (k + 1) f (PySem.W.fnOf x qual (defArgs st) (defBody st) (defScope st) .none kV doc pm an cdv ct) ps sp := by
  refine ⟨len, fun A outer s H args us vs Q E hr e0 hb r hsp => ?_⟩
  have hl := len _ _ _ _ hsp
  have KX : K.In s.heap := e0.mod.kin.keeps fun b o e => (e0.bs b o e).1
  have lim : s.heap.NoLimit := e0.mod.nolimit.keeps fun b o e => (e0.bs b o e).1
  have hkind : ∀ y ∈ ps.zip us, (defScope st).names.lookup y.1 = some .local ∨ ((defScope st).names.lookup y.1 = some .cell ∧ ((cellsFrom (s.heap.objs.size + 1) (defScope st).names []).lookup y.1).isSome = true) := fun ⟨n, v⟩ hy => by
    rcases S.par n (List.of_mem_zip hy).1 with q | q
    · exact .inl q
    · exact .inr ⟨q, PySem.W.cellsFrom_some _ _ _ (.inl q)⟩
  refine codeAny_call_function hr.depth (KX _ _ lk) rfl S.co S.gen rfl (PySem.W.codeRec_of KX hcd) (hb _ _ _ _ ?_)
  refine wpAny_newFunctionEnv_cells S.kind hkind fun env he s1 xx => ?_
  subst he
  refine ⟨lim.keeps xx.toInCall.keep, codeAny_func ?_⟩
  obtain ⟨t, ht, hq⟩ := hbody A outer s H vs Q E (hr.deeper _) hsp
  have I : Inv (cxOf CX0 P w K mg base N qual (defScope st) f cdv A outer s H E) [] (start N vs) H s1 := inv_start S hr.hd e0 hl r xx
  refine wpAny_mono (ht.run [] s1 (start N vs) H _ (I.wish _) hq) (fun fl s' hs => ?_) fun e s' hs => False.elim hs
  obtain ⟨u, v, σ', H', rfl, J', rv, q⟩ := hs
  have J : Inv (cxOf CX0 P w K mg base N qual (defScope st) f cdv A outer s H E) [] σ' H' s' := J'.unwish
  obtain ⟨H'', hF, hU, hO⟩ := fin_make S.nd J
  exact ⟨v, H'', J.os, J.bare, hU, hO, rv, q H'' hF⟩
/-- a function that the def made, behind its return: its captured cells are told -/
theorem clo_fin {cells : List (Str × Addr)} {names nn : List (Str × NameKind)} {N fr : List Str} {σ : L2.St} {H H' : Hp} {f : Addr} {F : NF} {ws : List V} (X : Fin cells names N σ H H') (hc : ∀ y, names.lookup y = some .cell → (cells.lookup y).isSome = true) (hcl : F.cl = cloFrom cells nn []) (hcel : ∀ y ∈ nn, y.2 = .free → names.lookup y.1 = some .cell)
    (hfr : ∀ y ∈ fr, (y, NameKind.free) ∈ nn) (hrf : ∀ y ∈ nn, y.2 = .free → y.1 ∈ fr) (hf : H f = some (FnO f F)) (hco : H F.c = some (CodeO F.c F.qual)) (len : ws.length = fr.length) (at_ : ∀ (i : Nat) (y : Str), fr[i]? = some y → ∃ (j : Nat) (v : V), N[j]? = some y ∧ ws[i]? = some v ∧ σ[j]? = some (some v)) : Clo H' f F fr ws := by
  have hfree : ∀ y ∈ nn, y.2 = .free → ∃ c, cells.lookup y.1 = some c := fun y hy e => Option.isSome_iff_exists.mp (hc _ (hcel y hy e))
  refine ⟨X.same _ _ hf, X.same _ _ hco, len, fun y c e => ?_, fun x y c e1 e2 => ?_, fun i y e => ?_⟩
  · rw [hcl] at e
    have m := PySem.mem_of_lookup e
    rcases cloFrom_mem m with q | ⟨q, _⟩
    · cases q
    · exact hrf _ q rfl
  · rw [hcl] at e1 e2
    exact X.inj x y c (clo_cm hfree e1) (clo_cm hfree e2)
  · have hy : y ∈ fr := List.mem_of_getElem? e
    have hm := hfr y hy
    have hn := hcel _ hm rfl
    obtain ⟨c, hcc⟩ := Option.isSome_iff_exists.mp (hc y hn)
    obtain ⟨j, v, h1, h2, h3⟩ := at_ i y e
    refine ⟨c, v, ?_, h2, X.at_ j y c v h1 hn hcc h3⟩
    rw [hcl]
    exact clo_has hfree hm hcc
end Inf

set_option Elab.async false
set_option linter.all false
set_option maxRecDepth 100000
set_option maxHeartbeats 4000000
namespace Inf
open PySem PySem.Spec PyProof.Rows L2
section
variable {X : Cx}
/-- o.replace(str(e), "c"), a token out: what is struck is not c -/
def tStrike (to tt : TE) (c : Str) : TE := fun σ H Q => to σ H fun x H1 => ∃ a, x = V.str a ∧ tt σ H1 fun y H2 => ∃ i : Int, y = .int i ∧ i.natAbs.log2 < 1920 ∧ (Str.ofString (toString i) == c) = false ∧ a.length + (a.length + 1) * c.length ≤ 16777216 ∧ Q (.str (Txt.replace a (Str.ofString (toString i)) c)) H2
theorem pet_strike {o e : Expr} {to tt : TE} {c : Str} {ck : Nat} {apos np cp ccp pos : Pos} (ho : PE X o to) (he : PE X e tt) (hg : Gl X "str") (hm : X.mg "str" = none)
    (hbase : attributeBase o "replace" X.env (eval o X.env) = eval o X.env := by rfl)
    (hfew : ((backTo pos (starEach [.Call (.Name "str" np) [e] [] cp, .Constant (.str c) ck ccp] X.env)).all (fun x => !x.1) && (backToKw pos (keywordEach [] X.env)).all (fun x => x.1.isSome)
      && decide (([.Call (.Name "str" np) [e] [] cp, .Constant (.str c) ck ccp] : List Expr).length + ([] : List Keyword).length + (if ([] : List Keyword).isEmpty then 0 else 1) < 30)) = true := by rfl)
    (hline : (apos.endLine == pos.line) = true := by rfl) (hs : starEach [e] X.env = [(false, eval e X.env)] := by rfl) (hpl : (backTo cp (starEach [] X.env)).any (·.1) = false := by rfl) :
    PET X (.Call (.Attribute o "replace" apos) [.Call (.Name "str" np) [e] [] cp, .Constant (.str c) ck ccp] [] pos) (tStrike to tt c) := by
  intro pins s σ H Q h0 I h
  refine wpAny_Call_method_late hbase hfew hline rfl (wpAny_mono (PySem.wpAny_toks (ho.run pins s σ H _ I h)) (fun v s1 q => ?_) fun _ _ z => z.2)
  obtain ⟨hk1, x, H1, I1, r1, a, rfl, q⟩ := q
  obtain ⟨t, rfl⟩ := _root_.id r1
  refine ⟨"str", _, F.plainAttrs_str, F.slot_str_replace, F.type_str_replace, typeIs_str _ _ _, (fun _ e => nomatch e), ?_⟩
  refine Calls.callWith_builtin rfl (Calls.evalArgs_plain ?_)
  show wpAny _ _ (spliced ((false, eval (.Call (.Name "str" np) [e] [] cp) X.env) :: backTo pos (starEach [.Constant (.str c) ck ccp] X.env))) _ _ s1
  refine Calls.spliced_cons ?_
  refine wpAny_Call_Name_kw (ld_blt I1 hg hm (show bootBuiltins "str" = some (.type "str") by decide +kernel) ?_ (by decide) (by decide))
  refine PyProof.Rows.callWith_type1 (wpAny_mono (PySem.wpAny_toks ((pa_cons he pa_nil hs).run cp pins s1 σ H1 (fun vs H2 => match vs with
    | [y] => ∃ i : Int, y = V.int i ∧ i.natAbs.log2 < 1920 ∧ (Str.ofString (toString i) == c) = false ∧ a.length + (a.length + 1) * c.length ≤ 16777216 ∧ Q (.str (Txt.replace a (Str.ofString (toString i)) c)) H2
    | _ => False) I1 q)) (fun us s2 q2 => ?_) fun _ _ z => z.2) hs hpl
  obtain ⟨hk2, vs, H2, I2, r2, q2⟩ := q2
  match vs, r2, q2 with
  | [y], r2, ⟨i, ey, hz, hne, hb, q3⟩ =>
    subst ey
    obtain ⟨u, rfl, t2, rfl⟩ := vals1 r2
    have h2 : 1 ≤ s2.toks := Nat.le_trans h0 (Nat.le_trans hk1 hk2)
    refine PySem.P.str_of_int hz ?_
    refine Calls.spliced_cons (Calls.Constant_str (k := ck) (pos := ccp) (Calls.spliced_nil ?_))
    refine SC.replace (u := s2.toks) (v := s2.toks + 1) (Nat.ne_of_gt h2) (Nat.succ_ne_zero _) (Nat.ne_of_lt (Nat.lt_succ_self _)) hne hb fun t' k => ?_
    exact ⟨.str _, H2, I2.tok _, ⟨_, rfl⟩, q3⟩
/-- one token out: a return -/
theorem pst_ret {e : Expr} {te : TE} {pos : Pos} (he : PET X e te) : PST X (.Return (some e) pos) (tRet te) := fun pins s σ H D h0 I h =>
  wpAny_Return_some (thn (he pins s σ H _ h0 I h) fun v s1 ⟨x, H1, I1, r1, q1⟩ => ⟨x, σ, H1, I1, r1, q1⟩)
theorem psst_one {st : Stmt} {t : TS} (h1 : PST X st t) : PSsT X [st] t := by
  intro pins s σ H D h0 I h
  refine wpAny_execs_cons (thn (h1 pins s σ H D h0 I h) fun f s1 q => ?_)
  cases f with
  | next => exact wpAny_execs_nil q
  | ret v => exact q
  | brk => exact q
  | cont => exact q
/-- if x op 3: behind the test a token is out -/
theorem ps_ifC {a : Expr} {op : CmpOp} {r : R2} {ta : TE} {j : Int} {k : Nat} {cpos cp pos : Pos} {A B : List Stmt} {t u : TS} (ho : OpR X (compareOp op) r) (ha : PE X a ta) (hm : behindInMarks op (.Constant (.int j) k cpos) = false) (hA : PSsT X A t) (hB : PSs X B u) :
    PS X (.If (.Compare a [op] [.Constant (.int j) k cpos] cp) A B pos) (tIfS (tTest (tOp r ta (tC (.int j)))) t u) := by
  refine ⟨fun pins s σ H D I h => ?_⟩
  refine wpAny_If (wpAny_mono (Q := fun d s' => 1 ≤ s'.toks ∧ TP X pins σ (fun b H1 => if b = true then t D σ H1 else u D σ H1) d s') (E := X.xe) ?_ (fun d s1 q => ?_) fun _ _ z => z)
  · refine wpAny_isTrue_Compare1 (thn (ha.run pins s σ H _ I h) fun v s1 ⟨x, H1, I1, r1, q1⟩ => ?_) hm
    refine wpAny_Constant_int ?_
    refine wpAny_mono (PySem.wpAny_toks (ho pins _ σ H1 x (.int j) v (.int j s1.toks) _ (I1.tok _) r1 ⟨_, rfl⟩ q1)) (fun c s3 q3 => ?_) fun _ _ z => z.2
    obtain ⟨hk, z, H3, I3, r3, b, e, q3⟩ := q3
    subst e
    cases r3
    exact wpAny_truthy_bool ⟨Nat.le_trans (Nat.le_add_left 1 _) hk, H3, I3, q3⟩
  · obtain ⟨hk, H1, I1, q1⟩ := q
    cases d with
    | true => exact hA pins s1 σ H1 D hk I1 q1
    | false => exact hB.run pins s1 σ H1 D I1 q1
end
end Inf

set_option Elab.async false
set_option linter.all false
set_option maxRecDepth 100000
set_option maxHeartbeats 4000000
namespace Inf
open PySem PySem.Spec PyProof.Rows L2
section
variable {X : Cx} {CX : CXT} {k n : Nat} {f C : Addr} {fd : FuncData} {ps ks : List Str} {sp : Sp} {E : XK} {m : Str} {pos apos : Pos} {e o : Expr} {es : List Expr} {kws : List Keyword} {ta : TE} {t tk : TA} {g : List Value → List Value → List Value} {gV : List V → List V → List V}
/-- a method called with keywords: n values are written, then j keywords -/
def tMethN (C : Addr) (m : Str) (n j : Nat) (sp : Sp) (gV : List V → List V → List V) (E : XK) (ta : TE) (t tk : TA) : TE := fun σ H Q => ta σ H fun x H1 => ∃ a dx fs, x = V.ref a ∧ H1 a = some (.ins C dx fs) ∧ fs.lookup m = none ∧ t σ H1 fun vs H2 => tk σ H2 fun zs H3 => vs.length = n ∧ zs.length = j ∧ sp (gV (.ref a :: vs) zs) H3 Q E
theorem pe_methK0 {pl : Sem Bool} (he : PE X o ta) (c : Cls X.K C) (hm : Meth X.K C m f) (F : FnOk X.prog X.w X.K X.mg X.base CX k f fd ps sp) (hr : Room k X.A) (hb : KBn X.K fd ps 1 ks g gV) (hx : Passes CX X E) (hkw : PK X kws tk)
    (hall : (backToKw pos (keywordEach kws X.env)).all (·.1.isSome) = true := by rfl) (hks : (backToKw pos (keywordEach kws X.env)).filterMap (·.1) = ks := by rfl)
    (hpl : ((backTo pos (starEach [] X.env)).any (·.1) || (backToKw pos (keywordEach kws X.env)).any (·.1.isNone)) = false := by rfl)
    (ht : eval (.Call (.Attribute o m apos) [] kws pos) X.env = (do
      let ov ← eval o X.env
      standAt apos.atName
      let (f, first) ← holding [ov] (getMethod ov m pl)
      callWith pos f first (backTo pos (starEach [] X.env)) (backToKw pos (keywordEach kws X.env))) := by rfl) :
    PE X (.Call (.Attribute o m apos) [] kws pos) (tMethN C m 0 ks.length sp gV E ta tNil tk) := by
  refine ⟨fun pins s σ H Q I h => ?_⟩
  refine PySem.W.methodCall_KW (pl := pl) (thn (he.run pins s σ H _ I h) fun u s1 ⟨x, H1, I1, rx, a, dx, fs, ex, ea, l, q⟩ => ?_) ht
  subst ex
  obtain rfl : u = Value.ref a := rx
  refine getmeth_ok I1 ea c hm l ?_
  refine PySem.W.callWith_KW0 (first := [.ref a]) (h₀ := X.base) I.ok.mod.kin hm.kp hall (thn (hkw.run pos pins s1 σ H1 _ I1 q) fun ws s2 ⟨zs, H2, I2, rz, l1, l2, q2⟩ => ⟨I2.kIn, ?_⟩) hpl
  rw [hks]
  exact run_fnN (us := [.ref a]) (vs := [.ref a]) F hr hb hx I2 (.cons rfl .nil) rz rfl l2 q2
theorem pe_methK {pl : Sem Bool} (he : PE X o ta) (c : Cls X.K C) (hm : Meth X.K C m f) (F : FnOk X.prog X.w X.K X.mg X.base CX k f fd ps sp) (hr : Room k X.A) (hb : KBn X.K fd ps (n + 1) ks g gV) (hx : Passes CX X E) (ha : PA X (e :: es) t) (hkw : PK X kws tk)
    (hall : (backToKw pos (keywordEach kws X.env)).all (·.1.isSome) = true := by rfl) (hks : (backToKw pos (keywordEach kws X.env)).filterMap (·.1) = ks := by rfl)
    (hst : starEach (e :: es) X.env = (false, eval e X.env) :: starEach es X.env := by rfl)
    (hpl : ((backTo pos (starEach (e :: es) X.env)).any (·.1) || (backToKw pos (keywordEach kws X.env)).any (·.1.isNone)) = false := by rfl)
    (ht : eval (.Call (.Attribute o m apos) (e :: es) kws pos) X.env = (do
      let ov ← eval o X.env
      standAt apos.atName
      let (f, first) ← holding [ov] (getMethod ov m pl)
      callWith pos f first (backTo pos (starEach (e :: es) X.env)) (backToKw pos (keywordEach kws X.env))) := by rfl) :
    PE X (.Call (.Attribute o m apos) (e :: es) kws pos) (tMethN C m n ks.length sp gV E ta t tk) := by
  refine ⟨fun pins s σ H Q I h => ?_⟩
  refine PySem.W.methodCall_KW (pl := pl) (thn (he.run pins s σ H _ I h) fun u s1 ⟨x, H1, I1, rx, a, dx, fs, ex, ea, l, q⟩ => ?_) ht
  subst ex
  obtain rfl : u = Value.ref a := rx
  refine getmeth_ok I1 ea c hm l ?_
  refine PySem.W.callWith_KW (first := [.ref a]) (h₀ := X.base) I.ok.mod.kin hm.kp hall (thn (ha.run pos pins s1 σ H1 _ I1 q) fun us s2 ⟨vs, H2, I2, r, q2⟩ => ?_) hpl hst
  refine thn (hkw.run pos pins s2 σ H2 _ I2 q2) fun ws s3 ⟨zs, H3, I3, rz, l1, l2, q3⟩ => ⟨I3.kIn, ?_⟩
  rw [hks]
  exact run_fnN (us := .ref a :: us) (vs := .ref a :: vs) F hr hb hx I3 (.cons rfl r) rz (congrArg Nat.succ l1) l2 q3
end
end Inf

set_option Elab.async false
set_option linter.all false
set_option maxRecDepth 100000
set_option maxHeartbeats 4000000
namespace Inf
open PySem PySem.Spec PyProof.Rows L2 NdefX LamX
section
variable {X : Cx} {pins : List (Addr × Obj)} {σ : L2.St} {H : Hp} {s : Shared}
/-- a lambda in a def that makes functions by name, too: the table knows the names by their places -/
theorem lam_toldN {T : List NTab} {nm : Nat → Nat → Str} {c P : Addr} {params : Arguments} {body : Expr} {scope : Scope} {pos : Pos} {E : Value → Shared → Prop} {Q : Value → Shared → Prop} (I : Inv X pins σ H s) (TB : TabB X.base X.mg c P) (hcode : X.env.code = .ref c)
    (hm : (P, nm) ∈ T) (hn : nm pos.line pos.col = X.env.qual ++ "<lambda>") (hu : ∀ p ∈ T, p.1 = P → p.2 = nm) (hT : TabsN T H) (hdef : defaultsOf params X.env = ([], [])) (hfree : ∀ y ∈ scope.names, y.2 = .free → ∃ c, X.env.cells.lookup y.1 = some c)
    (h : ∀ (f c' : Addr) (H1 : Hp) (s' : Shared), Inv X pins σ H1 s' → ExtN H H1 → (∀ b, H1 b = Option.none → H b = Option.none) → TabsN T H1 → H f = none → H1 f = some (LamO f ⟨X.env.qual ++ "<lambda>", params, body, scope, cloFrom X.env.cells scope.names [], c'⟩) → H1 c' = some (CodeO c' (X.env.qual ++ "<lambda>")) → Q (.ref f) s') :
    wpAny (model X.prog X.w) X.A (eval (.Lambda params body scope pos) X.env) Q E s := by
  obtain ⟨ps, hP, ht, ha⟩ := (show TabN H P nm from hT _ hm)
  have bP := TB.bm.keeps (h' := s.heap) I.bk
  have gP : s.heap.get? P = some { cls := .none, data := .fields ps } := I.hok P _ hP
  refine PySem.W.kla_eval hdef ?_
  cases cd : codeAmong pos ps.toList with
  | none =>
    refine PySem.W.kla_makeFunction (mg := X.mg) (c := c) (P := P) (ps := ps) (closure_ok hfree) I.ok.glob (I.mod.glob.keeps I.bk) hcode (TB.code.keeps I.bk) gP ht cd TB.gP bP fun c' ctv h' tk hx hge hlt hrec htb => ?_
    obtain ⟨c2, oc, vs, t, e2, hoc, hd, hv⟩ := hrec
    cases e2
    have nC : H c' = none := I.hok.fresh hge
    have I1 := inv_table (q := X.env.qual ++ "<lambda>") (t' := tk) (more := #[rawInt pos.line, rawInt pos.col, .ref c']) (h' := h') I hP hx htb hge ⟨oc, vs, t, hoc, hd, hv⟩
    have hE : ExtN H (upd (upd H P (.tbl (ps ++ #[rawInt pos.line, rawInt pos.col, .ref c']))) c' (CodeO c' (X.env.qual ++ "<lambda>"))) := fun b o e n => by
      rw [upd_ne (ne_of_none e nC), upd_ne (fun z => n ps (Option.some.inj (e.symm.trans (by rw [z]; exact hP))))]
      exact e
    have eL : (ps ++ #[rawInt pos.line, rawInt pos.col, .ref c']).toList = ps.toList ++ [rawInt pos.line, rawInt pos.col, .ref c'] := by simp
    have T1 : TabsN T (upd (upd H P (.tbl (ps ++ #[rawInt pos.line, rawInt pos.col, .ref c']))) c' (CodeO c' (X.env.qual ++ "<lambda>"))) := fun p hp => by
      by_cases hb : p.1 = P
      · rw [hu p hp hb, hb]
        refine ⟨_, by rw [upd_ne (ne_of_none hP nC), upd_same], by rw [eL]; exact PySem.TriplesOk_snoc _ _ _ _ ht, fun p' cv hcv => ?_⟩
        rw [eL] at hcv
        rcases among_app2 _ ht hcv with z | ⟨z, z1, z2⟩
        · obtain ⟨c0, e1, e2⟩ := ha p' cv z
          exact ⟨c0, e1, hE _ _ e2 codeO_ne⟩
        · refine ⟨c', z, ?_⟩
          rw [← z1, ← z2, hn]
          exact upd_same
      · obtain ⟨ps', a1, a2, a3⟩ := hT p hp
        refine ⟨ps', by rw [upd_ne (ne_of_none a1 nC), upd_ne hb]; exact a1, a2, fun p' cv hcv => ?_⟩
        obtain ⟨c0, e1, e2⟩ := a3 p' cv hcv
        exact ⟨c0, e1, hE _ _ e2 codeO_ne⟩
    have nF := I1.hok.fresh (Nat.le_refl h'.objs.size)
    have I2 := I1.laid (a := h'.objs.size) (o := LamO h'.objs.size ⟨X.env.qual ++ "<lambda>", params, body, scope, cloFrom X.env.cells scope.names [], c'⟩) (h' := h'.push (PySem.W.kla_obj "<lambda>" (X.env.qual ++ "<lambda>") params body scope (cloFrom X.env.cells scope.names []) ((X.mg "__name__").getD .none) c' ctv)) (t' := tk)
      (fun b u z => Heap.get?_push_of_some _ z) (Nat.le_refl _) (lamO_ok ⟨_, _, Heap.get?_push_size _ rfl⟩)
    refine h h'.objs.size c' _ _ I2 (fun b o e n => ?_) (fun b e => NdefX.upd_none (NdefX.upd_none (NdefX.upd_none e))) (T1.ext fun b o e => ?_) (I.hok.fresh (Nat.le_trans hge (Nat.le_of_lt hlt))) upd_same ?_
    · have e1 := hE b o e n
      exact (upd_ne (ne_of_none e1 nF)).trans e1
    · exact (upd_ne (ne_of_none e nF)).trans e
    · exact (upd_ne (Nat.ne_of_lt hlt)).trans upd_same
  | some cv =>
    obtain ⟨c', e, hco⟩ := ha pos cv cd
    subst e
    rw [hn] at hco
    refine PySem.W.kla_makeFunctionHit (mg := X.mg) (c := c) (P := P) (ps := ps) (closure_ok hfree) I.ok.glob (I.mod.glob.keeps I.bk) hcode (TB.code.keeps I.bk) gP ht cd bP fun ctv h' tk hx hsz => ?_
    have I0 : Inv X pins σ H { s with heap := h', toks := tk } := I.kept hx
    have nF : H h'.objs.size = none := I0.hok.fresh (Nat.le_refl _)
    have I2 := I0.laid (a := h'.objs.size) (o := LamO h'.objs.size ⟨X.env.qual ++ "<lambda>", params, body, scope, cloFrom X.env.cells scope.names [], c'⟩) (h' := h'.push (PySem.W.kla_obj "<lambda>" (X.env.qual ++ "<lambda>") params body scope (cloFrom X.env.cells scope.names []) ((X.mg "__name__").getD .none) c' ctv)) (t' := tk)
      (fun b u z => Heap.get?_push_of_some _ z) (Nat.le_refl _) (lamO_ok ⟨_, _, Heap.get?_push_size _ rfl⟩)
    refine h h'.objs.size c' _ _ I2 (fun b o e n => ?_) (fun b e => NdefX.upd_none e) (hT.ext fun b o e => ?_) nF upd_same ?_
    · exact (upd_ne (ne_of_none e nF)).trans e
    · exact (upd_ne (ne_of_none e nF)).trans e
    · exact (upd_ne (ne_of_none hco nF)).trans hco
end
def tLamN (T : List NTab) (F : Addr → LF) : TE := fun σ H Q => TabsN T H ∧ ∀ (f c' : Addr) (H1 : Hp), ExtN H H1 → (∀ b, H1 b = Option.none → H b = Option.none) → TabsN T H1 → H f = none → H1 f = some (LamO f (F c')) → H1 c' = some (CodeO c' (F c').qual) → Q (.ref f) H1
theorem pe_lamN {X : Cx} {T : List NTab} {nm : Nat → Nat → Str} {c P : Addr} {params : Arguments} {body : Expr} {scope : Scope} {pos : Pos} (TB : TabB X.base X.mg c P) (hcode : X.env.code = .ref c) (hm : (P, nm) ∈ T) (hn : nm pos.line pos.col = X.env.qual ++ "<lambda>") (hu : ∀ p ∈ T, p.1 = P → p.2 = nm)
    (hdef : defaultsOf params X.env = ([], [])) (hfree : ∀ y ∈ scope.names, y.2 = .free → X.env.scope.names.lookup y.1 = some .cell ∨ X.env.scope.names.lookup y.1 = some .free) :
    PE X (.Lambda params body scope pos) (tLamN T fun c' => ⟨X.env.qual ++ "<lambda>", params, body, scope, cloFrom X.env.cells scope.names [], c'⟩) := by
  refine ⟨fun pins s σ H Q I h => ?_⟩
  obtain ⟨hT, q⟩ := h
  exact lam_toldN I TB hcode hm hn hu hT hdef (fun y hy e => (hfree y hy e).elim (fun z => I.ok.has _ (.inl z)) fun z => I.ok.has _ (.inr z)) fun f c' H1 s' I1 e1 n1 t1 nf hf hc => ⟨.ref f, H1, I1, rfl, q f c' H1 e1 n1 t1 nf hf hc⟩
end Inf

set_option Elab.async false
set_option linter.all false
set_option maxRecDepth 100000
set_option maxHeartbeats 4000000
namespace Inf
open PySem PySem.Spec PyProof.Rows L2 ClX
section
variable {M : Model} {A : Around} {E : Value → Shared → Prop} {s : Shared} {K : PySem.W.Frag} {env : Env} {pos : Pos} {first : List Value} {Q : Value → Shared → Prop} {kws : List Keyword} {q g : Addr} {self : Value}
/-- a bound method, called by names alone -/
theorem callWith_MK0 (hf : PySem.W.fnIn K g = true) (hall : (backToKw pos (keywordEach kws env)).all (·.1.isSome) = true)
    (h : wpAny M A (evalAll ((backToKw pos (keywordEach kws env)).map (·.2))) (fun ks s₂ => PySem.W.MethP K q g self s₂.heap ∧ wpAny M A (call (.ref q) (first ++ []) (((backToKw pos (keywordEach kws env)).filterMap (·.1)).zip ks)) Q E s₂) E s)
    (hplain : ((backTo pos (starEach [] env)).any (·.1) || (backToKw pos (keywordEach kws env)).any (·.1.isNone)) = false := by rfl) :
    wpAny M A (callWith pos (.ref q) first (backTo pos (starEach [] env)) (backToKw pos (keywordEach kws env))) Q E s :=
  PySem.W.callWith_of hplain (PySem.W.keeps_M hf) (evalArgs_kw2_nil hall h)
theorem callWith_MK {e : Expr} {rest : List Expr} (hf : PySem.W.fnIn K g = true) (hall : (backToKw pos (keywordEach kws env)).all (·.1.isSome) = true)
    (h : wpAny M A (spliced (backTo pos (starEach (e :: rest) env))) (fun vs s₁ => wpAny M A (evalAll ((backToKw pos (keywordEach kws env)).map (·.2)))
      (fun ks s₂ => PySem.W.MethP K q g self s₂.heap ∧ wpAny M A (call (.ref q) (first ++ vs) (((backToKw pos (keywordEach kws env)).filterMap (·.1)).zip ks)) Q E s₂) E s₁) E s)
    (hplain : ((backTo pos (starEach (e :: rest) env)).any (·.1) || (backToKw pos (keywordEach kws env)).any (·.1.isNone)) = false := by rfl) (he : starEach (e :: rest) env = (false, eval e env) :: starEach rest env := by rfl) :
    wpAny M A (callWith pos (.ref q) first (backTo pos (starEach (e :: rest) env)) (backToKw pos (keywordEach kws env))) Q E s :=
  PySem.W.callWith_of hplain (PySem.W.keeps_M hf) (evalArgs_kw2 hall h he)
end
section
variable {X : Cx} {CX : CXT} {k n : Nat} {f C p : Addr} {mc : Value} {fd : FuncData} {ps ks : List Str} {sp : Sp} {E : XK} {m x : Str} {pos apos : Pos} {e o : Expr} {es : List Expr} {kws : List Keyword} {ta : TE} {t tk : TA} {g : List Value → List Value → List Value} {gV : List V → List V → List V}
/-- the call of a bound classmethod by values and names -/
theorem run_cmN {pins : List (Addr × Obj)} {σ : L2.St} {H : Hp} {s : Shared} {Q : VK} {q : Addr} {us ws : List Value} {vs zs : List V} (F : FnOk X.prog X.w X.K X.mg X.base CX k f fd ps sp) (hr : Room k X.A) (hb : KBn X.K fd ps (n + 1) ks g gV) (hx : Passes CX X E)
    (I : Inv X ((q, PySem.W.methodObj (.ref f) (.ref C)) :: pins) σ H s) (r : Vals vs us) (rz : Vals zs ws) (l1 : vs.length = n) (l2 : zs.length = ks.length) (h : sp (gV (.ref C :: vs) zs) H Q E) :
    wpAny (model X.prog X.w) X.A (call (.ref q) us (ks.zip ws)) (EP X pins σ Q) X.xe s := by
  have r1 : Vals (V.ref C :: vs) (Value.ref C :: us) := .cons rfl r
  have r2 := hb.rel r1 rz
  have n1 : (Value.ref C :: us).length = n + 1 := by
    rw [List.length_cons, ← r.length, l1]
  have z : wpAny (model X.prog X.w) X.A (call (.ref q) us (ks.zip ws)) (EP X ((q, PySem.W.methodObj (.ref f) (.ref C)) :: pins) σ Q) X.xe s := by
    refine wpAny_call (PySem.W.method_call (pin_at I) (codeAny_mono (F.run X.A X.stack s H ⟨Value.ref C :: us, ks.zip ws⟩ (g (Value.ref C :: us) ws) _ Q E hr I.env0 (hb.to s _ ws I.kIn n1 (rz.length.symm.trans l2)) r2 h) fun r s' hq => ?_))
    cases r with
    | error e => exact hx _ σ H s e s' I hq
    | ok fl =>
      cases fl with
      | ret u => exact I.after hq
      | next => exact False.elim hq
      | brk => exact False.elim hq
      | cont => exact False.elim hq
  exact thn z fun _ _ y => unpinE y
/-- C.m(k = v, ..), m a classmethod: n values are written, then j names -/
def tCMethN (C : Addr) (n j : Nat) (sp : Sp) (gV : List V → List V → List V) (E : XK) (ta : TE) (t tk : TA) : TE := fun σ H Q => ta σ H fun x H1 => x = .ref C ∧ t σ H1 fun vs H2 => tk σ H2 fun zs H3 => vs.length = n ∧ zs.length = j ∧ sp (gV (.ref C :: vs) zs) H3 Q E
theorem pe_cmethK0 {pl : Sem Bool} (he : PE X o ta) (r : CRead X.K C mc) (c : CMet X.K C mc m p f) (F : FnOk X.prog X.w X.K X.mg X.base CX k f fd ps sp) (hr : Room k X.A) (hb : KBn X.K fd ps 1 ks g gV) (hx : Passes CX X E) (hkw : PK X kws tk)
    (hall : (backToKw pos (keywordEach kws X.env)).all (·.1.isSome) = true := by rfl) (hks : (backToKw pos (keywordEach kws X.env)).filterMap (·.1) = ks := by rfl)
    (hpl : ((backTo pos (starEach [] X.env)).any (·.1) || (backToKw pos (keywordEach kws X.env)).any (·.1.isNone)) = false := by rfl)
    (ht : eval (.Call (.Attribute o m apos) [] kws pos) X.env = (do
      let ov ← eval o X.env
      standAt apos.atName
      let (f, first) ← holding [ov] (getMethod ov m pl)
      callWith pos f first (backTo pos (starEach [] X.env)) (backToKw pos (keywordEach kws X.env))) := by rfl) :
    PE X (.Call (.Attribute o m apos) [] kws pos) (tCMethN C 0 ks.length sp gV E ta tNil tk) := by
  refine ⟨fun pins s σ H Q I h => ?_⟩
  refine PySem.W.methodCall_KW (pl := pl) (thn (he.run pins s σ H _ I h) fun u s1 ⟨x, H1, I1, rx, ex, q⟩ => ?_) ht
  subst ex
  obtain rfl : u = Value.ref C := rx
  refine getmethcm_ok I1 r c fun s2 I2 => ?_
  refine callWith_MK0 (first := []) c.fi hall (thn (hkw.run pos _ s2 σ H1 _ I2 q) fun ws s3 ⟨zs, H2, I3, rz, l1, l2, q2⟩ => ⟨⟨pin_at I3, I3.kIn⟩, ?_⟩) hpl
  rw [hks]
  exact run_cmN (us := []) (vs := []) F hr hb hx I3 .nil rz rfl l2 q2
theorem pe_cmethK {pl : Sem Bool} (he : PE X o ta) (r : CRead X.K C mc) (c : CMet X.K C mc m p f) (F : FnOk X.prog X.w X.K X.mg X.base CX k f fd ps sp) (hr : Room k X.A) (hb : KBn X.K fd ps (n + 1) ks g gV) (hx : Passes CX X E) (ha : PA X (e :: es) t) (hkw : PK X kws tk)
    (hall : (backToKw pos (keywordEach kws X.env)).all (·.1.isSome) = true := by rfl) (hks : (backToKw pos (keywordEach kws X.env)).filterMap (·.1) = ks := by rfl)
    (hst : starEach (e :: es) X.env = (false, eval e X.env) :: starEach es X.env := by rfl)
    (hpl : ((backTo pos (starEach (e :: es) X.env)).any (·.1) || (backToKw pos (keywordEach kws X.env)).any (·.1.isNone)) = false := by rfl)
    (ht : eval (.Call (.Attribute o m apos) (e :: es) kws pos) X.env = (do
      let ov ← eval o X.env
      standAt apos.atName
      let (f, first) ← holding [ov] (getMethod ov m pl)
      callWith pos f first (backTo pos (starEach (e :: es) X.env)) (backToKw pos (keywordEach kws X.env))) := by rfl) :
    PE X (.Call (.Attribute o m apos) (e :: es) kws pos) (tCMethN C n ks.length sp gV E ta t tk) := by
  refine ⟨fun pins s σ H Q I h => ?_⟩
  refine PySem.W.methodCall_KW (pl := pl) (thn (he.run pins s σ H _ I h) fun u s1 ⟨x, H1, I1, rx, ex, q⟩ => ?_) ht
  subst ex
  obtain rfl : u = Value.ref C := rx
  refine getmethcm_ok I1 r c fun s2 I2 => ?_
  refine callWith_MK (self := .ref C) (first := []) c.fi hall (thn (ha.run pos _ s2 σ H1 _ I2 q) fun us s3 ⟨vs, H2, I3, rv, q2⟩ => ?_) hpl hst
  refine thn (hkw.run pos _ s3 σ H2 _ I3 q2) fun ws s4 ⟨zs, H3, I4, rz, l1, l2, q3⟩ => ⟨⟨pin_at I4, I4.kIn⟩, ?_⟩
  rw [hks]
  exact run_cmN F hr hb hx I4 rv rz l1 l2 q3
/-- c(e, .., k = v, ..), c a local name that holds the class at C -/
def tMakeL (C : Addr) (n j : Nat) (sp : Sp) (gV : List V → List V → List V) (E : XK) (ta : TE) (t tk : TA) : TE := fun σ H Q => ta σ H fun x H0 => x = .ref C ∧ tMakeK C n j sp gV E t tk σ H0 Q
theorem pe_makeL (hc : PE X (.Name x pos) ta) (M : Mk X.K C f) (F : FnOk X.prog X.w X.K X.mg X.base CX k f fd ps sp) (hr : Room (k + 1) X.A) (hb : KBn X.K fd ps (n + 1) ks g gV) (hx : Passes CX X E) (ha : PA X (e :: es) t) (hkw : PK X kws tk)
    (hall : (backToKw apos (keywordEach kws X.env)).all (·.1.isSome) = true := by rfl) (hks : (backToKw apos (keywordEach kws X.env)).filterMap (·.1) = ks := by rfl)
    (he : starEach (e :: es) X.env = (false, eval e X.env) :: starEach es X.env := by rfl) (hpl : ((backTo apos (starEach (e :: es) X.env)).any (·.1) || (backToKw apos (keywordEach kws X.env)).any (·.1.isNone)) = false := by rfl) :
    PE X (.Call (.Name x pos) (e :: es) kws apos) (tMakeL C n ks.length sp gV E ta t tk) := by
  refine ⟨fun pins s σ H Q I h => ?_⟩
  refine wpAny_Call_Name_kw (thn (hc.run pins s σ H _ I h) fun u s0 ⟨y, H0, I0, ry, ey, h0⟩ => ?_)
  subst ey
  obtain rfl : u = Value.ref C := ry
  refine PySem.W.callWith_KW (h₀ := X.base) I0.ok.mod.kin M.kp hall (thn (ha.run apos pins s0 σ H0 _ I0 h0) fun us s1 ⟨vs, H1, I1, r, q⟩ => ?_) hpl he
  refine thn (hkw.run apos pins s1 σ H1 _ I1 q) fun ws s2 ⟨zs, H2, I2, rz, l1, l2, q2⟩ => ⟨I2.kIn, ?_⟩
  rw [hks]
  exact run_makeK M F hr hb hx I2 r rz l1 l2 q2
end
end Inf

set_option Elab.async false
set_option linter.all false
set_option maxRecDepth 100000
set_option maxHeartbeats 4000000
namespace Inf
open PySem PySem.Spec PyProof.Rows L2 NdefX LamX
/-! ### a lambda that captures cells -/
/-- a cell at c that holds v -/
def CellAt (H : Hp) (c : Addr) (v : V) : Prop := ∃ φ, H c = some (.ext φ) ∧ ∀ h : Heap, φ h → ∃ u, L2.RelV v u ∧ h.IsCell c (some u)
theorem CellAt.of {H : Hp} {c : Addr} {v : V} (h : H c = some (CellO c v)) : CellAt H c v := ⟨_, h, fun _ z => z⟩
theorem CellAt.at_ {P : Program} {w : World} {H : Hp} {h : Heap} {c : Addr} {v : V} (hok : HOk P w H h) (e : CellAt H c v) : ∃ u, L2.RelV v u ∧ h.IsCell c (some u) := by
  obtain ⟨φ, e1, e2⟩ := e
  obtain ⟨z, _, _⟩ := hok c _ e1
  exact e2 _ z
theorem CellAt.same {H H1 : Hp} {c : Addr} {v : V} (h : CellAt H c v) (s : Same H H1) : CellAt H1 c v := by
  obtain ⟨φ, e1, e2⟩ := h
  exact ⟨φ, s _ _ e1, e2⟩
/-- the lambda F stands at f, and its captured cells hold ws -/
structure LClo (H : Hp) (f : Addr) (F : LF) (fr : List Str) (ws : List V) : Prop where
  fn : H f = some (LamO f F)
  code : H F.c = some (CodeO F.c F.qual)
  len : ws.length = fr.length
  dom : ∀ y c, F.cl.lookup y = some c → y ∈ fr
  inj : ∀ x y c, F.cl.lookup x = some c → F.cl.lookup y = some c → x = y
  at_ : ∀ (i : Nat) (y : Str), fr[i]? = some y → ∃ c v, F.cl.lookup y = some c ∧ ws[i]? = some v ∧ CellAt H c v
theorem LClo.same {H H1 : Hp} {f : Addr} {F : LF} {fr : List Str} {ws : List V} (h : LClo H f F fr ws) (s : Same H H1) : LClo H1 f F fr ws :=
  ⟨s _ _ h.fn, s _ _ h.code, h.len, h.dom, h.inj, fun i y e => by
    obtain ⟨c, v, a, b, d⟩ := h.at_ i y e
    exact ⟨c, v, a, b, d.same s⟩⟩
theorem LClo.cell {H : Hp} {f : Addr} {F : LF} {fr : List Str} {ws : List V} (h : LClo H f F fr ws) {b : Addr} (hb : b ∈ cellsOf F.nf fr) : ∃ v, CellAt H b v := by
  obtain ⟨y, hy, e⟩ := mem_cells.mp hb
  obtain ⟨i, hi⟩ := List.mem_iff_getElem?.mp hy
  obtain ⟨c, v, a, _, d⟩ := h.at_ i y hi
  have e' : F.cl.lookup y = some b := e
  rw [e'] at a
  cases a
  exact ⟨v, d⟩
theorem LClo.out {H : Hp} {f : Addr} {F : LF} {fr : List Str} {ws : List V} (h : LClo H f F fr ws) {b : Addr} {o : HO} (e : H b = some o) (n : ∀ φ, o ≠ .ext φ) : b ∉ cellsOf F.nf fr := fun hb => by
  obtain ⟨v, φ, d, _⟩ := h.cell hb
  rw [e] at d
  exact n _ (Option.some.inj d)
section
variable {P : Program} {w : World} {K : PySem.W.Frag} {mg : Str → Option Value} {base : Heap} {k : Nat} {f : Addr} {F : LF} {N ps fr : List Str} {sp : List (Option V) → Sp}
theorem lam_run (S : NScope N ps fr F.scope) (hb : ∀ (pm ctv : Value) (us : List Value), us.length = ps.length → bindArgs (PySem.W.kla_fn "<lambda>" F.qual F.params F.body F.scope F.cl pm (.ref F.c) ctv) ⟨us, []⟩ = pure (ps.zip us))
    (len : ∀ ws vs H Q E, sp ws vs H Q E → vs.length = ps.length)
    (hbody : ∀ (A : Around) (outer : List Env) (s : Shared) (H : Hp) (vs : List V) (ws : List (Option V)) (Q : VK) (E : XK), Room k (A.deeper (envF F.nf f s.heap.objs.size)) → ws.length = fr.length → sp ws vs H Q E → ∃ te, PE (ncx CX0 P w K mg base N F.nf f A outer s H E) F.body te ∧ te (startF N vs ws) H Q)
    (A : Around) (outer : List Env) (s : Shared) (H : Hp) (us : List Value) (vs : List V) (ws : List (Option V)) (Q : VK) (E : XK) (hr : Room (k + 1) A) (e0 : Env0 P w K mg base A outer s H) (hf : H f = some (LamO f F)) (hc : H F.c = some (CodeO F.c F.qual)) (C : CellsAt F.cl fr ws s.heap H) (r : Vals vs us) (hsp : sp ws vs H Q E) :
    codeAny (model P w) A (.call (.ref f) ⟨us, []⟩) (CR CX0 outer P w H s Q E) s := by
  have hl := len _ _ _ _ _ hsp
  have lim : s.heap.NoLimit := e0.mod.nolimit.keeps fun b o e => (e0.bs b o e).1
  obtain ⟨pm, ctv, ho⟩ := lamO_at e0.hok hf
  refine PySem.W.kla_callFunE hr.depth ho rfl S.co S.gen rfl (codeO_at e0.hok hc) ?_
  rw [hb pm ctv us (by rw [← r.length]; exact hl)]
  refine wpAny_pure (wpAny_newFunctionEnv S.nocell (fun ⟨n, _⟩ hy => S.par n (List.of_mem_zip hy).1) (fun h₁ hns hsb => ⟨lim.fresh _ hsb, ?_⟩) S.kind)
  obtain ⟨te, ht, hq⟩ := hbody A outer s H vs ws Q E (hr.deeper _) C.len hsp
  have kp : ∀ b o, s.heap.get? b = some o → h₁.get? b = some o := fun b o e => hsb.extBut b o (Nat.ne_of_lt (Heap.lt_size e)) (Heap.get?_push_of_some _ e)
  have I := inv_startN (CX := CX0) (P := P) (w := w) (K := K) (mg := mg) (base := base) (F := F.nf) (f := f) (A := A) (outer := outer) (E := E) (tk := s.toks + (ps.zip us).length) S hr.hd e0 hl r C hns kp
  refine PySem.W.kla_codeExpr (wpAny_mono (ht.run [] _ (startF N vs ws) H Q I hq) (fun u s' hs => ?_) fun e s' hs => hs)
  obtain ⟨v, H', J, rv, q⟩ := hs
  exact ⟨v, H', J.os, J.bare, J.base, J.hok, rv, q⟩
/-- A LAMBDA THAT CAPTURES CELLS, called from anywhere: its cells are told; while it runs they are left out, behind it they are put back -/
theorem lam_cloR (S : NScope N ps fr F.scope) (hb : ∀ (pm ctv : Value) (us : List Value), us.length = ps.length → bindArgs (PySem.W.kla_fn "<lambda>" F.qual F.params F.body F.scope F.cl pm (.ref F.c) ctv) ⟨us, []⟩ = pure (ps.zip us))
    (len : ∀ ws vs H Q E, sp ws vs H Q E → vs.length = ps.length)
    (hbody : ∀ (A : Around) (outer : List Env) (s : Shared) (H : Hp) (vs : List V) (ws : List (Option V)) (Q : VK) (E : XK), Room k (A.deeper (envF F.nf f s.heap.objs.size)) → ws.length = fr.length → sp ws vs H Q E → ∃ te, PE (ncx CX0 P w K mg base N F.nf f A outer s H E) F.body te ∧ te (startF N vs ws) H Q) :
    FnR P w K mg base CX0 (k + 1) f (fun vs H Q E => ∃ ws, LClo H f F fr ws ∧ sp (ws.map some) vs (cut (cellsOf F.nf fr) H) (fun v H1 => (∀ b, b ∈ cellsOf F.nf fr → H1 b = Option.none) → Q v (mend (cellsOf F.nf fr) H H1)) E) := by
  intro A outer s H us vs Q E hr e0 r hsp
  obtain ⟨ws, hc, hsp⟩ := hsp
  have cellAt : ∀ b, b ∈ cellsOf F.nf fr → ∃ v, CellAt H b v := fun b hb => hc.cell hb
  have isC : ∀ b, b ∈ cellsOf F.nf fr → ∃ u, s.heap.IsCell b (some u) := fun b hb => by
    obtain ⟨v, e⟩ := cellAt b hb
    obtain ⟨u, _, z⟩ := e.at_ e0.hok
    exact ⟨u, z⟩
  have fnout : f ∉ cellsOf F.nf fr := fun hb => by
    obtain ⟨u, o, e1, e2⟩ := isC f hb
    obtain ⟨pm, ctv, e3⟩ := lamO_at e0.hok hc.fn
    rw [e1] at e3
    cases e3
    cases e2
  have cout : F.c ∉ cellsOf F.nf fr := fun hb => by
    obtain ⟨u, o, e1, e2⟩ := isC F.c hb
    obtain ⟨⟨oc, vs', t, h1, h2, h3⟩, _, _⟩ := e0.hok F.c _ hc.code
    rw [e1] at h1
    cases h1
    rw [e2] at h2
    cases h2
  have hokc : HOk P w (cut (cellsOf F.nf fr) H) s.heap := fun b o e => by
    by_cases hb : b ∈ cellsOf F.nf fr
    · rw [cut_in hb] at e
      cases e
    · rw [cut_out hb] at e
      refine (e0.hok b o e).stay (fun c u _ q => q) (fun c q => ?_) fun c xs q => ?_
      · rw [cut_out (hc.out q (fun φ z => nomatch z))]
        exact q
      · rw [cut_out (hc.out q (fun φ z => nomatch z))]
        exact q
  have noneC : ∀ b, H b = Option.none → cut (cellsOf F.nf fr) H b = Option.none := fun b e => by
    by_cases hb : b ∈ cellsOf F.nf fr
    · exact cut_in hb
    · rw [cut_out hb]
      exact e
  have e1 : Env0 P w K mg base A outer s (cut (cellsOf F.nf fr) H) := ⟨e0.frames, e0.mod, fun b o q => ⟨(e0.bs b o q).1, noneC b (e0.bs b o q).2⟩, e0.bsz, e0.funs, fun b hb => noneC b (e0.frf b hb), hokc, e0.bare⟩
  have C : CellsAt F.cl fr (ws.map some) s.heap (cut (cellsOf F.nf fr) H) := by
    refine ⟨by rw [List.length_map]; exact hc.len, fun y c e => ?_, hc.inj, fun i y e => ?_⟩
    · have hb : c ∈ cellsOf F.nf fr := mem_cells.mpr ⟨y, hc.dom y c e, e⟩
      obtain ⟨u, z⟩ := isC c hb
      exact ⟨cut_in hb, _, z⟩
    · obtain ⟨c, v, a, b, d⟩ := hc.at_ i y e
      refine ⟨c, a, fun v' e' => ?_⟩
      rw [List.getElem?_map, b] at e'
      cases e'
      obtain ⟨u, r', z⟩ := d.at_ e0.hok
      exact ⟨u, r', z⟩
  refine codeAny_mono (lam_run S hb len hbody A outer s (cut (cellsOf F.nf fr) H) us vs (ws.map some) _ E hr e1 (by rw [cut_out fnout]; exact hc.fn) (by rw [cut_out cout]; exact hc.code) C r hsp) fun res s' hq => ?_
  cases res with
  | error e => exact hq
  | ok fl =>
    cases fl with
    | next => exact hq
    | brk => exact hq
    | cont => exact hq
    | ret u =>
      obtain ⟨v, H1, os, bare, un, hok1, rv, q⟩ := hq
      have gone : ∀ b, b ∈ cellsOf F.nf fr → H1 b = Option.none := fun b hb => by
        obtain ⟨u, o, z1, z2⟩ := isC b hb
        exact un.free b o z1 (cut_in hb) (by simp)
      have notfr : ∀ b, b ∈ cellsOf F.nf fr → b ∉ frs outer := fun b hb z => by
        obtain ⟨v, φ, d, _⟩ := cellAt b hb
        rw [e0.frf b z] at d
        cases d
      refine ⟨v, mend (cellsOf F.nf fr) H H1, os, bare, ⟨fun b o a n h1 h2 => un.keep b o a (noneC b n) h1 h2, fun b o a n h1 h2 => un.slot b o a (noneC b n) h1 h2, fun b o a n h2 => ?_, un.there, fun b xs e => ?_, fun b o u e => ?_, fun b ps e => ?_⟩, fun b o e => ?_, rv, q gone⟩
      · by_cases hb : b ∈ cellsOf F.nf fr
        · rw [mend_in hb]
          exact n
        · rw [mend_out hb]
          exact un.free b o a (noneC b n) h2
      · have hb := hc.out e (fun φ z => nomatch z)
        rw [mend_out hb]
        exact un.tups b xs (by rw [cut_out hb]; exact e)
      · have hb := hc.out e (fun φ z => nomatch z)
        rw [mend_out hb]
        exact un.frzs b o u (by rw [cut_out hb]; exact e)
      · have hb := hc.out e (fun φ z => nomatch z)
        rw [mend_out hb]
        exact un.tbls b ps (by rw [cut_out hb]; exact e)
      · by_cases hb : b ∈ cellsOf F.nf fr
        · rw [mend_in hb] at e
          obtain ⟨v', φ, d, _⟩ := cellAt b hb
          rw [d] at e
          cases e
          obtain ⟨z, ⟨o', z1⟩, st⟩ := e0.hok b _ d
          have z2 := un.keep b o' z1 (cut_in hb) (notfr b hb) (by simp)
          refine ⟨st _ _ z (fun x hx => ?_), ⟨o', z2⟩, st⟩
          rw [z1] at hx
          cases hx
          exact z2
        · rw [mend_out hb] at e
          refine (hok1 b o e).stay (fun c u _ q => q) (fun c q => ?_) fun c xs q => ?_
          · have hb' : c ∉ cellsOf F.nf fr := fun z => by
              rw [gone c z] at q
              cases q
            rw [mend_out hb']
            exact q
          · have hb' : c ∉ cellsOf F.nf fr := fun z => by
              rw [gone c z] at q
              cases q
            rw [mend_out hb']
            exact q
end
/-! ### a call while the def's cells are told -/
/-- HT is H with the def's cells cs told -/
structure Tel (cells : List (Str × Addr)) (names : List (Str × NameKind)) (N : List Str) (σ : L2.St) (H : Hp) (cs : List Addr) (HT : Hp) : Prop where
  no : ∀ b, b ∈ cs → H b = Option.none
  ext : ∀ b, b ∈ cs → ∃ φ, HT b = some (.ext φ)
  out : ∀ b, b ∉ cs → HT b = H b
  inj : ∀ x y c, cells.lookup x = some c → cells.lookup y = some c → x = y
  has : ∀ y, names.lookup y = some .cell → ∃ c, cells.lookup y = some c
  at_ : ∀ (i : Nat) (y : Str) (c : Addr) (v : V), N[i]? = some y → names.lookup y = some .cell → cells.lookup y = some c → σ[i]? = some (some v) → CellAt HT c v
  nc : ∀ b, b ∈ cs → ∀ q, HT b ≠ some (CodeO b q)
theorem Tel.same {cells : List (Str × Addr)} {names : List (Str × NameKind)} {N : List Str} {σ : L2.St} {H HT : Hp} {cs : List Addr} (t : Tel cells names N σ H cs HT) : Same H HT := fun b o e => by
  rw [t.out b fun z => by rw [t.no b z] at e; cases e]
  exact e
theorem Tel.cut_at {cells : List (Str × Addr)} {names : List (Str × NameKind)} {N : List Str} {σ : L2.St} {H HT H1 : Hp} {cs : List Addr} (t : Tel cells names N σ H cs HT) (g : ∀ b, b ∈ cs → H1 b = HT b) {b : Addr} {o : HO} (e : H1 b = some o) (n : ∀ φ, o ≠ .ext φ) : cut cs H1 b = some o := by
  rw [cut_out fun z => ?_]
  · exact e
  · obtain ⟨φ, f⟩ := t.ext b z
    rw [g b z, f] at e
    exact n _ (Option.some.inj e).symm
theorem Tel.cut_same {cells : List (Str × Addr)} {names : List (Str × NameKind)} {N : List Str} {σ : L2.St} {H HT H1 : Hp} {cs : List Addr} (t : Tel cells names N σ H cs HT) (s : Same HT H1) : Same H (cut cs H1) := fun b o e => by
  rw [cut_out fun z => by rw [t.no b z] at e; cases e]
  exact s _ _ (t.same _ _ e)
theorem Tel.back {cells : List (Str × Addr)} {names : List (Str × NameKind)} {N : List Str} {σ : L2.St} {H HT : Hp} {cs : List Addr} (t : Tel cells names N σ H cs HT) : cut cs HT = H := funext fun b => by
  by_cases hb : b ∈ cs
  · rw [cut_in hb, t.no b hb]
  · rw [cut_out hb, t.out b hb]
theorem mend_cut {cs : List Addr} {H : Hp} : mend cs H (cut cs H) = H := funext fun b => by
  by_cases hb : b ∈ cs
  · rw [mend_in hb]
  · rw [mend_out hb, cut_out hb]
/-- a lambda that was made in the def, while the def's cells are told -/
theorem Tel.lclo {cells : List (Str × Addr)} {names : List (Str × NameKind)} {N : List Str} {σ : L2.St} {H HT : Hp} {cs : List Addr} (t : Tel cells names N σ H cs HT) {NL psL fr : List Str} {F : LF} {f : Addr} {js : List Nat} {ws : List V}
    (S : NScope NL psL fr F.scope) (hcl : F.cl = cloFrom cells F.scope.names []) (hfree : ∀ y ∈ fr, names.lookup y = some .cell)
    (hN : js.map (fun j => N[j]?) = fr.map some) (hσ : js.map (fun j => σ[j]?) = ws.map fun v => some (some v))
    (hf : H f = some (LamO f F)) (hc : H F.c = some (CodeO F.c F.qual)) : LClo HT f F fr ws := by
  have hfr : ∀ y ∈ F.scope.names, y.2 = .free → ∃ c, cells.lookup y.1 = some c := fun y hy e => t.has _ (hfree _ (S.free y hy e))
  have l1 := congrArg List.length hN
  have l2 := congrArg List.length hσ
  rw [List.length_map, List.length_map] at l1 l2
  refine ⟨t.same _ _ hf, t.same _ _ hc, by omega, fun y c e => ?_, fun x y c e1 e2 => ?_, fun i y e => ?_⟩
  · rw [hcl] at e
    rcases cloFrom_mem (PySem.mem_of_lookup e) with h | ⟨h, _⟩
    · cases h
    · exact S.free _ h rfl
  · rw [hcl] at e1 e2
    exact t.inj x y c (clo_cm hfr e1) (clo_cm hfr e2)
  · have my : y ∈ fr := List.mem_of_getElem? e
    obtain ⟨c, hc⟩ := t.has y (hfree y my)
    have li : i < fr.length := (List.getElem?_eq_some_iff.mp e).1
    obtain ⟨j, hj⟩ : ∃ j, js[i]? = some j := ⟨_, List.getElem?_eq_getElem (by omega)⟩
    obtain ⟨v, hv⟩ : ∃ v, ws[i]? = some v := ⟨_, List.getElem?_eq_getElem (by omega)⟩
    have n1 : (js.map fun j => N[j]?)[i]? = some (some y) := by
      rw [hN, List.getElem?_map, e]
      rfl
    have n2 : (js.map fun j => σ[j]?)[i]? = some (some (some v)) := by
      rw [hσ, List.getElem?_map, hv]
      rfl
    rw [List.getElem?_map, hj] at n1 n2
    exact ⟨c, v, by rw [hcl]; exact clo_has hfr (PySem.mem_of_lookup (S.frk y my)) hc, hv, t.at_ j y c v (Option.some.inj n1) (hfree y my) hc (Option.some.inj n2)⟩
section
variable {X : Cx} {pins : List (Addr × Obj)} {σ : L2.St} {H : Hp} {s : Shared}
def frCells (l : List (Str × Addr)) : List Addr := l.filterMap fun p => l.lookup p.1
theorem mem_frCells {l : List (Str × Addr)} {b : Addr} (h : b ∈ frCells l) : ∃ x, l.lookup x = some b := by
  obtain ⟨p, _, e⟩ := List.mem_filterMap.mp h
  exact ⟨p.1, e⟩
theorem frCells_mem {l : List (Str × Addr)} {x : Str} {b : Addr} (h : l.lookup x = some b) : b ∈ frCells l := List.mem_filterMap.mpr ⟨(x, b), PySem.mem_of_lookup h, h⟩
theorem tel_run {k : Nat} {f : Addr} {fd : FuncData} {ps : List Str} {ds : List Value} {dvs : List V} {sp : Sp} {Q : VK} {us : List Value} {vs : List V} (F : FnOk X.prog X.w X.K X.mg X.base CX0 k f fd ps sp) (hr : Room k X.A) (hb : Binds X.K fd ps ds) (hd : Vals dvs ds) (hfn : ∀ x, X.fn x = true)
    (I : Inv X pins σ H s) (r : Vals vs us) (h : ∀ cs HT, Tel X.env.cells X.env.scope.names X.N σ H cs HT → sp (vs ++ dvs) HT (fun v H1 => (∀ b, b ∈ cs → H1 b = HT b) ∧ Q v (cut cs H1)) E0) : wpAny (model X.prog X.w) X.A (call (.ref f) us) (EP X pins σ Q) X.xe s := by
  let cs := frCells X.env.cells
  let HT : Hp := fun b => if b ∈ cs then (match s.heap.get? b with | some o => some (.ext fun h => h.get? b = some o) | Option.none => Option.none) else H b
  have big : ∀ b, b ∈ cs → X.s_0.heap.objs.size ≤ b := fun b hb => by
    obtain ⟨x, e⟩ := mem_frCells hb
    exact I.ok.cab x b (hfn x) e
  have no : ∀ b, b ∈ cs → H b = Option.none := fun b hb => by
    obtain ⟨x, e⟩ := mem_frCells hb
    exact I.freeC x b e
  have inT : ∀ b, b ∈ cs → ∃ v o, s.heap.get? b = some o ∧ o.data = .cell v ∧ HT b = some (.ext fun h => h.get? b = some o) := fun b hb => by
    obtain ⟨x, e⟩ := mem_frCells hb
    obtain ⟨v, o, e1, e2⟩ := I.cell x b e
    refine ⟨v, o, e1, e2, ?_⟩
    show (if b ∈ cs then _ else _) = _
    rw [if_pos hb, e1]
  have outT : ∀ b, b ∉ cs → HT b = H b := fun b hb => if_neg hb
  have nonT : ∀ b, b ∉ cs → H b = Option.none → HT b = Option.none := fun b hb e => (outT b hb).trans e
  have T : Tel X.env.cells X.env.scope.names X.N σ H cs HT := by
    refine ⟨no, fun b hb => ?_, outT, I.ok.inj, fun y h => I.ok.has _ (.inl h), fun i y c v h1 h2 h3 h4 => ?_, fun b hb q hq => ?_⟩
    · obtain ⟨v, o, _, _, e⟩ := inT b hb
      exact ⟨_, e⟩
    · obtain ⟨v', o, e1, e2, e3⟩ := inT c (frCells_mem h3)
      obtain ⟨m, hn, hl⟩ := I.loc
      obtain ⟨u, ru, lk⟩ := hl i y v h1 h4 (.inr (.inl h2))
      refine ⟨_, e3, fun h hh => ⟨u, ru, o, hh, ?_⟩⟩
      rcases lk with ⟨z, _⟩ | ⟨_, c', hc', hcell⟩
      · have z' : X.env.scope.names.lookup y = some .local := z
        rw [h2] at z'
        cases z'
      · rw [h3] at hc'
        cases hc'
        obtain ⟨o', g1, g2⟩ := hcell
        rw [e1] at g1
        cases g1
        exact g2
    · obtain ⟨v, o, e1, e2, e3⟩ := inT b hb
      rw [e3] at hq
      have hq := HO.ext.inj (Option.some.inj hq)
      have hq := (congrFun hq s.heap).mp e1
      obtain ⟨oc, vs, t, g1, g2, _⟩ := hq
      rw [e1] at g1
      cases g1
      rw [e2] at g2
      cases g2
  have ncs : ∀ b, b < X.s_0.heap.objs.size → b ∉ cs := fun b l m => Nat.not_lt.mpr (big b m) l
  have e0 := I.env0
  have notfr : ∀ b, b ∈ frs X.stack → b ∉ cs := fun b hb m => by
    rcases List.mem_cons.mp (I.stkSub b hb) with e | hb'
    · obtain ⟨x, ex⟩ := mem_frCells m
      exact I.cne x b ex e
    · obtain ⟨_, o, ho, _⟩ := I.ok.funs.mem hb'
      exact ncs b (Heap.lt_size ho) m
  have nonext : ∀ {b : Addr} {o : HO}, H b = some o → b ∉ cs := fun e m => by
    rw [no _ m] at e
    cases e
  have e1 : Env0 X.prog X.w X.K X.mg X.base X.A X.stack s HT := by
    refine ⟨e0.frames, e0.mod, fun b o q => ⟨(e0.bs b o q).1, nonT b (ncs b (Nat.lt_of_lt_of_le (Heap.lt_size q) I.ok.bsz)) (e0.bs b o q).2⟩, e0.bsz, e0.funs, fun b hb => nonT b (notfr b hb) (e0.frf b hb), fun b o e => ?_, e0.bare⟩
    by_cases hb : b ∈ cs
    · obtain ⟨v, o', g1, g2, g3⟩ := inT b hb
      rw [g3] at e
      cases e
      exact ⟨g1, ⟨o', g1⟩, fun h1 h2 z k => k _ z⟩
    · rw [outT b hb] at e
      refine (e0.hok b o e).stay (fun c u _ q => q) (fun c q => ?_) fun c xs q => ?_
      · rw [outT c (nonext q)]
        exact q
      · rw [outT c (nonext q)]
        exact q
  have hq0 := h cs HT T
  have r2 : Vals (vs ++ dvs) (us ++ ds) := r.append hd
  have hl : (us ++ ds).length = ps.length := by rw [← r2.length]; exact F.len _ _ _ _ hq0
  refine wpAny_call (codeAny_mono (F.run X.A X.stack s HT ⟨us, []⟩ (us ++ ds) (vs ++ dvs) _ E0 hr e1 (hb s us I.kIn hl) r2 hq0) fun r s' hq => ?_)
  cases r with
  | error e => exact False.elim hq
  | ok fl =>
    cases fl with
    | next => exact False.elim hq
    | brk => exact False.elim hq
    | cont => exact False.elim hq
    | ret u =>
      obtain ⟨v, H1, os, bare, un, hok1, rv, kc, q⟩ := hq
      have notin : ∀ {b : Addr} {o : HO}, H1 b = some o → (∀ φ, o ≠ .ext φ) → b ∉ cs := fun {b o} e n m => by
        obtain ⟨v, o', _, _, g3⟩ := inT b m
        rw [kc b m, g3] at e
        exact n _ (Option.some.inj e).symm
      have keepC : ∀ b o, b ∈ cs → s.heap.get? b = some o → s'.heap.get? b = some o := fun b o m e => by
        obtain ⟨v, o', g1, _, g3⟩ := inT b m
        rw [g1] at e
        cases e
        have := hok1 b _ ((kc b m).trans g3)
        exact this.1
      refine I.after ⟨v, cut cs H1, os, bare, ⟨fun b o a n h1 h2 => ?_, fun b o a n h1 h2 => ?_, fun b o a n h2 => ?_, un.there, fun b xs e => ?_, fun b o u e => ?_, fun b ps e => ?_⟩, fun b o e => ?_, rv, q⟩
      · by_cases m : b ∈ cs
        · exact keepC b o m a
        · exact un.keep b o a (nonT b m n) h1 h2
      · exact un.slot b o a (nonT b (notfr b h1) n) h1 h2
      · by_cases m : b ∈ cs
        · exact cut_in m
        · rw [cut_out m]
          exact un.free b o a (nonT b m n) h2
      · have m := nonext e
        rw [cut_out m]
        exact un.tups b xs ((outT b m).trans e)
      · have m := nonext e
        rw [cut_out m]
        exact un.frzs b o u ((outT b m).trans e)
      · have m := nonext e
        rw [cut_out m]
        exact un.tbls b ps ((outT b m).trans e)
      · by_cases m : b ∈ cs
        · rw [cut_in m] at e
          cases e
        · rw [cut_out m] at e
          refine (hok1 b o e).stay (fun c u _ q => q) (fun c q => ?_) fun c xs q => ?_
          · rw [cut_out (notin q (fun φ z => nomatch z))]
            exact q
          · rw [cut_out (notin q (fun φ z => nomatch z))]
            exact q
end
/-- f(..) while the cells are told -/
def tCallT (X : Cx) (sp : Sp) (dvs : List V) (t : TA) : TE := fun σ H Q => t σ H fun vs H1 => ∀ cs HT, Tel X.env.cells X.env.scope.names X.N σ H1 cs HT → sp (vs ++ dvs) HT (fun v H2 => (∀ b, b ∈ cs → H2 b = HT b) ∧ Q v (cut cs H2)) E0
theorem pe_callT {X : Cx} {k : Nat} {f : Addr} {fd : FuncData} {ps : List Str} {ds : List Value} {dvs : List V} {sp : Sp} {x : Str} {p pos : Pos} {e : Expr} {es : List Expr} {t : TA} (hfn : ∀ x, X.fn x = true) (F : FnOk X.prog X.w X.K X.mg X.base CX0 k f fd ps sp) (hr : Room k X.A) (hg : Gl X x) (hm : X.mg x = some (.ref f)) (hk : PySem.W.keepIn X.K (.ref f) = true) (hb : Binds X.K fd ps ds) (hd : Vals dvs ds)
    (ha : PA X (e :: es) t) (hdb : (x == ("__debug__" : Str)) = false := by decide) (he : starEach (e :: es) X.env = (false, eval e X.env) :: starEach es X.env := by rfl) (hpl : (backTo pos (starEach es X.env)).any (·.1) = false := by rfl) :
    PE X (.Call (.Name x p) (e :: es) [] pos) (tCallT X sp dvs t) := by
  refine ⟨fun pins s σ H Q I h => ?_⟩
  refine wpAny_Call_Name_kw (ld_glob I hg hm ?_ hdb)
  refine PySem.W.callWith_K (h₀ := X.base) I.ok.mod.kin hk (thn (ha.run pos pins s σ H _ I h) fun us s1 ⟨vs, H1, I1, r, q⟩ => ⟨I1.kIn, ?_⟩) he hpl
  exact tel_run F hr hb hd hfn I1 r q
section
variable {X : Cx} {pins : List (Addr × Obj)} {σ : L2.St} {H : Hp} {s : Shared}
/-- a lambda in a def that makes functions by name, too: the table knows the names by their places -/
theorem lam_toldP {T : List NTab} {nm : Nat → Nat → Str} {c P : Addr} {params : Arguments} {body : Expr} {scope : Scope} {pos : Pos} {E : Value → Shared → Prop} {Q : Value → Shared → Prop} (I : Inv X pins σ H s) (TB : TabB X.base X.mg c P) (hcode : X.env.code = .ref c)
    (hm : (P, nm) ∈ T) (hn : nm pos.line pos.col = X.env.qual ++ "<lambda>") (hu : ∀ p ∈ T, p.1 = P → p.2 = nm) (hT : TabsN T H) (hdef : defaultsOf params X.env = ([], [])) (hfree : ∀ y ∈ scope.names, y.2 = .free → ∃ c, X.env.cells.lookup y.1 = some c)
    (h : ∀ (f c' : Addr) (H1 : Hp) (s' : Shared), Inv X pins σ H1 s' → (∀ b o, H b = some o → b ≠ P → H1 b = some o) → (∀ b, H1 b = Option.none → H b = Option.none) → TabsN T H1 → H f = none → H1 f = some (LamO f ⟨X.env.qual ++ "<lambda>", params, body, scope, cloFrom X.env.cells scope.names [], c'⟩) → H1 c' = some (CodeO c' (X.env.qual ++ "<lambda>")) → Q (.ref f) s') :
    wpAny (model X.prog X.w) X.A (eval (.Lambda params body scope pos) X.env) Q E s := by
  obtain ⟨ps, hP, ht, ha⟩ := (show TabN H P nm from hT _ hm)
  have bP := TB.bm.keeps (h' := s.heap) I.bk
  have gP : s.heap.get? P = some { cls := .none, data := .fields ps } := I.hok P _ hP
  refine PySem.W.kla_eval hdef ?_
  cases cd : codeAmong pos ps.toList with
  | none =>
    refine PySem.W.kla_makeFunction (mg := X.mg) (c := c) (P := P) (ps := ps) (closure_ok hfree) I.ok.glob (I.mod.glob.keeps I.bk) hcode (TB.code.keeps I.bk) gP ht cd TB.gP bP fun c' ctv h' tk hx hge hlt hrec htb => ?_
    obtain ⟨c2, oc, vs, t, e2, hoc, hd, hv⟩ := hrec
    cases e2
    have nC : H c' = none := I.hok.fresh hge
    have I1 := inv_table (q := X.env.qual ++ "<lambda>") (t' := tk) (more := #[rawInt pos.line, rawInt pos.col, .ref c']) (h' := h') I hP hx htb hge ⟨oc, vs, t, hoc, hd, hv⟩
    have hE : ExtN H (upd (upd H P (.tbl (ps ++ #[rawInt pos.line, rawInt pos.col, .ref c']))) c' (CodeO c' (X.env.qual ++ "<lambda>"))) := fun b o e n => by
      rw [upd_ne (ne_of_none e nC), upd_ne (fun z => n ps (Option.some.inj (e.symm.trans (by rw [z]; exact hP))))]
      exact e
    have eL : (ps ++ #[rawInt pos.line, rawInt pos.col, .ref c']).toList = ps.toList ++ [rawInt pos.line, rawInt pos.col, .ref c'] := by simp
    have T1 : TabsN T (upd (upd H P (.tbl (ps ++ #[rawInt pos.line, rawInt pos.col, .ref c']))) c' (CodeO c' (X.env.qual ++ "<lambda>"))) := fun p hp => by
      by_cases hb : p.1 = P
      · rw [hu p hp hb, hb]
        refine ⟨_, by rw [upd_ne (ne_of_none hP nC), upd_same], by rw [eL]; exact PySem.TriplesOk_snoc _ _ _ _ ht, fun p' cv hcv => ?_⟩
        rw [eL] at hcv
        rcases among_app2 _ ht hcv with z | ⟨z, z1, z2⟩
        · obtain ⟨c0, e1, e2⟩ := ha p' cv z
          exact ⟨c0, e1, hE _ _ e2 codeO_ne⟩
        · refine ⟨c', z, ?_⟩
          rw [← z1, ← z2, hn]
          exact upd_same
      · obtain ⟨ps', a1, a2, a3⟩ := hT p hp
        refine ⟨ps', by rw [upd_ne (ne_of_none a1 nC), upd_ne hb]; exact a1, a2, fun p' cv hcv => ?_⟩
        obtain ⟨c0, e1, e2⟩ := a3 p' cv hcv
        exact ⟨c0, e1, hE _ _ e2 codeO_ne⟩
    have nF := I1.hok.fresh (Nat.le_refl h'.objs.size)
    have I2 := I1.laid (a := h'.objs.size) (o := LamO h'.objs.size ⟨X.env.qual ++ "<lambda>", params, body, scope, cloFrom X.env.cells scope.names [], c'⟩) (h' := h'.push (PySem.W.kla_obj "<lambda>" (X.env.qual ++ "<lambda>") params body scope (cloFrom X.env.cells scope.names []) ((X.mg "__name__").getD .none) c' ctv)) (t' := tk)
      (fun b u z => Heap.get?_push_of_some _ z) (Nat.le_refl _) (lamO_ok ⟨_, _, Heap.get?_push_size _ rfl⟩)
    have hX : ∀ b o, H b = some o → b ≠ P → (upd (upd H P (.tbl (ps ++ #[rawInt pos.line, rawInt pos.col, .ref c']))) c' (CodeO c' (X.env.qual ++ "<lambda>"))) b = some o := fun b o e n => by
      rw [upd_ne (ne_of_none e nC), upd_ne n]
      exact e
    refine h h'.objs.size c' _ _ I2 (fun b o e n => ?_) (fun b e => NdefX.upd_none (NdefX.upd_none (NdefX.upd_none e))) (T1.ext fun b o e => ?_) (I.hok.fresh (Nat.le_trans hge (Nat.le_of_lt hlt))) upd_same ?_
    · have e1 := hX b o e n
      exact (upd_ne (ne_of_none e1 nF)).trans e1
    · exact (upd_ne (ne_of_none e nF)).trans e
    · exact (upd_ne (Nat.ne_of_lt hlt)).trans upd_same
  | some cv =>
    obtain ⟨c', e, hco⟩ := ha pos cv cd
    subst e
    rw [hn] at hco
    refine PySem.W.kla_makeFunctionHit (mg := X.mg) (c := c) (P := P) (ps := ps) (closure_ok hfree) I.ok.glob (I.mod.glob.keeps I.bk) hcode (TB.code.keeps I.bk) gP ht cd bP fun ctv h' tk hx hsz => ?_
    have I0 : Inv X pins σ H { s with heap := h', toks := tk } := I.kept hx
    have nF : H h'.objs.size = none := I0.hok.fresh (Nat.le_refl _)
    have I2 := I0.laid (a := h'.objs.size) (o := LamO h'.objs.size ⟨X.env.qual ++ "<lambda>", params, body, scope, cloFrom X.env.cells scope.names [], c'⟩) (h' := h'.push (PySem.W.kla_obj "<lambda>" (X.env.qual ++ "<lambda>") params body scope (cloFrom X.env.cells scope.names []) ((X.mg "__name__").getD .none) c' ctv)) (t' := tk)
      (fun b u z => Heap.get?_push_of_some _ z) (Nat.le_refl _) (lamO_ok ⟨_, _, Heap.get?_push_size _ rfl⟩)
    refine h h'.objs.size c' _ _ I2 (fun b o e n => ?_) (fun b e => NdefX.upd_none e) (hT.ext fun b o e => ?_) nF upd_same ?_
    · exact (upd_ne (ne_of_none e nF)).trans e
    · exact (upd_ne (ne_of_none e nF)).trans e
    · exact (upd_ne (ne_of_none hco nF)).trans hco
end
def tLamP (T : List NTab) (P : Addr) (F : Addr → LF) : TE := fun σ H Q => TabsN T H ∧ ∀ (f c' : Addr) (H1 : Hp), (∀ b o, H b = some o → b ≠ P → H1 b = some o) → (∀ b, H1 b = Option.none → H b = Option.none) → TabsN T H1 → H f = none → H1 f = some (LamO f (F c')) → H1 c' = some (CodeO c' (F c').qual) → Q (.ref f) H1
theorem pe_lamP {X : Cx} {T : List NTab} {nm : Nat → Nat → Str} {c P : Addr} {params : Arguments} {body : Expr} {scope : Scope} {pos : Pos} (TB : TabB X.base X.mg c P) (hcode : X.env.code = .ref c) (hm : (P, nm) ∈ T) (hn : nm pos.line pos.col = X.env.qual ++ "<lambda>") (hu : ∀ p ∈ T, p.1 = P → p.2 = nm)
    (hdef : defaultsOf params X.env = ([], [])) (hfree : ∀ y ∈ scope.names, y.2 = .free → X.env.scope.names.lookup y.1 = some .cell ∨ X.env.scope.names.lookup y.1 = some .free) :
    PE X (.Lambda params body scope pos) (tLamP T P fun c' => ⟨X.env.qual ++ "<lambda>", params, body, scope, cloFrom X.env.cells scope.names [], c'⟩) := by
  refine ⟨fun pins s σ H Q I h => ?_⟩
  obtain ⟨hT, q⟩ := h
  exact lam_toldP I TB hcode hm hn hu hT hdef (fun y hy e => (hfree y hy e).elim (fun z => I.ok.has _ (.inl z)) fun z => I.ok.has _ (.inr z)) fun f c' H1 s' I1 e1 n1 t1 nf hf hc => ⟨.ref f, H1, I1, rfl, q f c' H1 e1 n1 t1 nf hf hc⟩
/-! ### f(e, ..), f a name that holds a function that was made in a def -/
def tActP (P : Program) (w : World) (K : PySem.W.Frag) (mg : Str → Option Value) (base : Heap) (CX : CXT) (k i : Nat) (E : L2.St → XK) (t : TA) : TE := fun σ H Q => ∃ f, σ[i]? = some (some (.ref f)) ∧ t σ H fun vs H1 => ∃ o sp, H1 f = some o ∧ FnHO f o ∧ FnR P w K mg base CX k f sp ∧ sp vs H1 Q (E σ)
theorem lamHO2 {f : Addr} {F : LF} : FnHO f (LamO f F) := lamHO
theorem pe_actP {X : Cx} {CX : CXT} {k i : Nat} {E : L2.St → XK} {x : Str} {e : Expr} {es : List Expr} {t : TA} {p pos : Pos} (hN : X.N[i]? = some x) (hv : Vis X.env.scope x) (hr : Room k X.A) (hx : ∀ σ, PassesAt CX X σ (E σ)) (ha : PA X (e :: es) t) (hd : (x == ("__debug__" : Str)) = false := by decide) (hcd : (x == ("__classdict__" : Str)) = false := by decide)
    (he : starEach (e :: es) X.env = (false, eval e X.env) :: starEach es X.env := by rfl) (hpl : (backTo pos (starEach es X.env)).any (·.1) = false := by rfl) : PE X (.Call (.Name x p) (e :: es) [] pos) (tActP X.prog X.w X.K X.mg X.base CX k i E t) := by
  refine ⟨fun pins s σ H Q I h => ?_⟩
  obtain ⟨f, hs, h⟩ := h
  refine wpAny_Call_Name_kw (thn ((pe_var (pos := p) hN hv hd hcd).run pins s σ H (fun v H1 => v = .ref f ∧ H1 = H) I ⟨.ref f, hs, rfl, rfl⟩) fun u s1 ⟨v, H1, I1, r1, ev, eH⟩ => ?_)
  subst ev
  rw [eH] at I1
  obtain rfl : u = Value.ref f := r1
  rw [he]
  refine PySem.W.callWith_of (P := PySem.W.FnAt f) (by show ((false || (backTo pos (starEach es X.env)).any (·.1)) || false) = false; rw [hpl]; rfl) PySem.W.keeps_F (PySem.Calls.evalArgs_plain (?_ : wpAny _ _ (spliced (backTo pos ((false, eval e X.env) :: starEach es X.env))) _ _ _))
  rw [← he]
  exact thn (ha.run pos pins s1 σ H _ I1 h) fun us s2 ⟨vs, H2, I2, r, o, sp, hf, ho, hF, q⟩ => ⟨ho _ _ _ _ I2.hok hf, run_fnE hF hr (hx σ) I2 r q⟩
/-! ### f( *values), f a name that holds a function: one of a def, or one of the module -/
def FnIs (K : PySem.W.Frag) (H : Hp) (f : Addr) : Prop := (∃ o, H f = some o ∧ FnHO f o) ∨ ∃ (oc : Value) (od : Option Addr) (fd : FuncData) (sl : Array (Option Value)), K.lookup f = some ⟨oc, od, .func fd, sl⟩
theorem FnIs.at_ {K : PySem.W.Frag} {P : Program} {w : World} {H : Hp} {h : Heap} {f : Addr} (g : FnIs K H f) (hok : HOk P w H h) (k : K.In h) : PySem.W.FnAt f h := by
  rcases g with ⟨o, e, z⟩ | ⟨oc, od, fd, sl, e⟩
  · exact z _ _ _ _ hok e
  · exact ⟨_, _, _, _, k _ _ e⟩
def tActG (P : Program) (w : World) (K : PySem.W.Frag) (mg : Str → Option Value) (base : Heap) (CX : CXT) (k i : Nat) (E : L2.St → XK) (te : TE) : TE := fun σ H Q => ∃ f, σ[i]? = some (some (.ref f)) ∧ te σ H fun y H1 => ∃ a xs sp, y = V.ref a ∧ (SqT K H1 a xs ∨ SqL K H1 a xs) ∧ FnIs K H1 f ∧
  FnR P w K mg base CX k f sp ∧ sp xs H1 Q (E σ)
theorem pe_actG {X : Cx} {CX : CXT} {k i : Nat} {E : L2.St → XK} {x : Str} {e : Expr} {te : TE} {p sp_ pos : Pos} (hN : X.N[i]? = some x) (hv : Vis X.env.scope x) (hr : Room k X.A) (hx : ∀ σ, PassesAt CX X σ (E σ)) (he : PE X e te) (hd : (x == ("__debug__" : Str)) = false := by decide) (hcd : (x == ("__classdict__" : Str)) = false := by decide)
    (hst : starEach [.Starred e sp_] X.env = [(true, eval e X.env)] := by rfl) : PE X (.Call (.Name x p) [.Starred e sp_] [] pos) (tActG X.prog X.w X.K X.mg X.base CX k i E te) := by
  refine ⟨fun pins s σ H Q I h => ?_⟩
  obtain ⟨f, hs, h⟩ := h
  refine wpAny_Call_Name_kw (thn ((pe_var (pos := p) hN hv hd hcd).run pins s σ H (fun v H1 => v = .ref f ∧ H1 = H) I ⟨.ref f, hs, rfl, rfl⟩) fun u s1 ⟨v, H1, I1, r1, ev, eH⟩ => ?_)
  subst ev
  rw [eH] at I1
  obtain rfl : u = Value.ref f := r1
  rw [show backTo pos (starEach [.Starred e sp_] X.env) = [(true, (do let v ← eval e X.env; standAt pos; pure v))] by rw [hst]; rfl]
  refine PySem.W.ks_call (P := PySem.W.FnAt f) rfl PySem.W.keeps_F (PySem.W.ks_lone ?_)
  refine thn (he.run pins s1 σ H _ I1 h) fun v s2 ⟨y, H2, I2, ry, a, xs, sp, ey, hxs, hf, hF, q⟩ => ?_
  subst ey
  obtain rfl : v = Value.ref a := ry
  exact StX.star_any I2 hxs fun us s3 I3 rv => ⟨hf.at_ I3.hok I3.kIn, run_fnE hF hr (hx σ) I3 rv q⟩
end Inf

set_option Elab.async false
set_option linter.all false
set_option maxRecDepth 100000
set_option maxHeartbeats 4000000
namespace Inf
open PySem PySem.Spec PyProof.Rows L2 NdefX LamX
/-! ### min(xs, default=d) -/
/-- what the walk has kept behind j items -/
def OldAt (P : Nat → Value → Prop) (bt : Nat → Nat → Bool) : Nat → Array Value → Prop
  | 0, old => old = #[]
  | j + 1, old => ∃ v, old = #[v, v] ∧ P (argBest bt j) v
/-- what it ends with -/
def EndAt (P : Nat → Value → Prop) (bt : Nat → Nat → Bool) (n : Nat) (d v : Value) : Prop := (n = 0 ∧ v = d) ∨ (0 < n ∧ P (argBest bt (n - 1)) v)
def kwD (d : Value) : List (Str × Value) := [(Str.ofString "default", d)]
theorem nameD : (toString "min" ++ toString ".loop" : String) = "min.loop" := by decide
theorem minD_loop {prog : Program} {w : World} {A : Around} {R : Result → Shared → Prop} {I : Addr} {fp wr : List Addr} {n : Nat} {P : Nat → Value → Prop} {St : Nat → Heap → Prop} (W : Walks prog w A.in1 I fp wr n P St) {bt : Nat → Nat → Bool} (hc : CmpOf prog w A.in1 .Lt P bt) {S : Addr} (hSf : S ∉ fp) (d : Value) :
    ∀ (k j : Nat) (s : Shared) (old : Array Value) (c : Nat), n = j + k → St j s.heap → OldAt P bt j old → s.heap.get? S = some { cls := .type "list", dict := none, data := .seq old c, slots := #[] } →
      (∀ v h' tk, EndAt P bt n d v → (∀ b o, b ∉ wr → b ≠ S → s.heap.get? b = some o → h'.get? b = some o) → R (.ok (.ret v)) { s with heap := h', toks := tk }) → codeAny (model prog w) A (.builtin "min.loop" ⟨[.ref I, .none, .ref S], kwD d⟩) R s := by
  have hSw : S ∉ wr := fun h => hSf (W.sub _ h)
  intro k
  induction k with
  | zero =>
    intro j s old c hk hst ho hS hR
    obtain rfl : n = j := hk
    refine codeAny_builtin F.entry_min_loop (?_ : wpAny _ _ _ _ _ _)
    rw [Around.under_plainId F.plain_min_loop _]
    refine wpAny_bind (wpAny_seqItems hS rfl (?_ : wpAny _ _ (tryCatch (pyNext (.ref I)) _ >>= _) _ _ _))
    refine wpAny_bind (wpAny_tryCatch (W.done s _ _ hst fun h' tk hk' => ?_))
    cases n with
    | zero =>
      obtain rfl : old = #[] := ho
      refine wpAny_bind (wpAny_rule (wpAny_pure (hR d h' tk (.inl ⟨rfl, rfl⟩) fun b o hb _ e => hk' b o hb e)))
    | succ j =>
      obtain ⟨v, rfl, hv⟩ := ho
      have hS' := hk' S _ hSw hS
      refine wpAny_bind (?_ : wpAny _ _ (updateSeq S fun _ => #[]) _ _ _)
      refine wpAny_updateSeq hS' rfl (wpAny_bind (wpAny_letGo (wpAny_pure (hR v _ tk (.inr ⟨Nat.succ_pos j, hv⟩) fun b o hb n e => ?_))))
      exact (Heap.get?_update_other _ _ (Ne.symm n)).trans (hk' b o hb e)
  | succ k ih =>
    intro j s old c hk hst ho hS hR
    refine codeAny_builtin F.entry_min_loop (?_ : wpAny _ _ _ _ _ _)
    rw [Around.under_plainId F.plain_min_loop _]
    refine wpAny_bind (wpAny_seqItems hS rfl (?_ : wpAny _ _ (tryCatch (pyNext (.ref I)) _ >>= _) _ _ _))
    refine wpAny_bind (wpAny_tryCatch (W.item j s _ _ (by omega) hst fun v h' tk hP hst' hk' => ?_))
    have hS' := hk' S _ hSw hS
    have off : ∀ (g : Array Value → Array Value) (b : Addr) (o : Obj), b ≠ S → h'.get? b = some o → (h'.update S (Obj.mapSeq g)).get? b = some o := fun g b o n e => (Heap.get?_update_other _ _ (Ne.symm n)).trans e
    cases j with
    | zero =>
      obtain rfl : old = #[] := ho
      refine wpAny_bind (wpAny_pure ?_)
      refine wpAny_bind (?_ : wpAny _ _ (updateSeq S fun _ => #[v, v]) _ _ _)
      refine wpAny_updateSeq hS' rfl ?_
      rw [nameD]
      refine wpAny_pure ⟨plainId_quiet F.plain_min_loop _, ih 1 _ #[v, v] _ (by omega) (W.frame _ _ _ hst' fun b hb o e => off _ b o (fun z => hSf (by rw [← z]; exact hb)) e) ⟨v, rfl, hP⟩ (Heap.get?_update_self _ hS' rfl) fun v' h'' tk'' he hk'' => ?_⟩
      exact hR v' h'' tk'' he fun b o hb n e => hk'' b o hb n (off _ b o n (hk' b o hb e))
    | succ j =>
      obtain ⟨vb, rfl, hPb⟩ := ho
      refine wpAny_bind (wpAny_pure ?_)
      refine wpAny_bind (wpAny_tryCatch (wpAny_holding (wpAny_bind (hc (j + 1) (argBest bt j) v vb _ _ _ hP hPb ?_))))
      refine wpAny_bind (wpAny_holding (wpAny_truthy_bool (wpAny_bind (wpAny_letGo (wpAny_pure ?_)))))
      cases hb : bt (j + 1) (argBest bt j) with
      | true =>
        rw [if_pos rfl]
        refine wpAny_bind (?_ : wpAny _ _ (updateSeq S fun _ => #[v, v]) _ _ _)
        refine wpAny_updateSeq hS' rfl (wpAny_bind (wpAny_letGo ?_))
        rw [nameD]
        refine wpAny_pure ⟨plainId_quiet F.plain_min_loop _, ih (j + 2) _ #[v, v] _ (by omega) (W.frame _ _ _ hst' fun b hb o e => off _ b o (fun z => hSf (by rw [← z]; exact hb)) e) ⟨v, rfl, by rw [argBest, hb]; exact hP⟩ (Heap.get?_update_self _ hS' rfl) fun v' h'' tk'' he hk'' => ?_⟩
        exact hR v' h'' tk'' he fun b o hb n e => hk'' b o hb n (off _ b o n (hk' b o hb e))
      | false =>
        rw [if_neg Bool.false_ne_true]
        refine wpAny_bind (wpAny_letGo ?_)
        rw [nameD]
        refine wpAny_pure ⟨plainId_quiet F.plain_min_loop _, ih (j + 2) _ #[vb, vb] c (by omega) hst' ⟨vb, rfl, by rw [argBest, hb]; exact hPb⟩ hS' fun v' h'' tk'' he hk'' => ?_⟩
        exact hR v' h'' tk'' he fun b o hb n e => hk'' b o hb n (hk' b o hb e)
theorem args_minD (a d : Value) : argsOk "min" ⟨[a], kwD d⟩ := by unfold argsOk; kernel_rfl
theorem call_minD {prog : Program} {w : World} {A : Around} {E : Value → Shared → Prop} {s : Shared} {l : Addr} {d : Value} {xs : Array (Int × Tok)} {Q : Value → Shared → Prop} (hh : A.handled = none) (hl : s.heap.IsList l (intItems xs))
    (h : ∀ v h' tk, EndAt (fun i v => (intItems xs)[i]? = some v) (fun i j => decide (numAt xs i < numAt xs j)) xs.size d v → (∀ b o, s.heap.get? b = some o → h'.get? b = some o) → Q v { s with heap := h', toks := tk }) :
    wpAny (model prog w) A (call (.builtin "min") [.ref l] (kwD d)) Q E s := by
  refine PyProof.Rows.kmk_tree PySem.F.kind_min PySem.F.plain_min PySem.F.entry_min (args_minD _ _) ?_
  refine wpAny_bind (m := Builtin.Builtins.bindParams "min" ["key", "default"] 0 ⟨[], kwD d⟩) (wpAny_of_eq (show Builtin.Builtins.bindParams "min" ["key", "default"] 0 ⟨[], kwD d⟩ = pure [none, some d] from rfl) (wpAny_bind (wpAny_pure ?_)))
  refine wpAny_bind (iter_intList hl fun s₂ e st hfp hne => ?_)
  subst e
  refine wpAny_bind (wpAny_newObj_type ?_)
  rw [nameD]
  have hlt : l < s.heap.objs.size := by
    obtain ⟨_, e, _⟩ := hl
    exact Heap.lt_size e
  refine wpAny_pure ⟨plainId_quiet F.plain_min_loop _, minD_loop (Walks.list (A := A.in1) hh _ l hne (intItems xs)) (CmpOf.ints_lt (numAt xs) (fun _ _ => intItems_at)) (fun hm => Nat.lt_irrefl _ (hfp _ hm)) d (intItems xs).size 0 _ #[] _ (Nat.zero_add _).symm ?_ rfl (Heap.get?_push_size _ rfl) fun v h' tk he hk => ?_⟩
  · exact (Walks.list (prog := prog) (w := w) (A := A.in1) hh _ l hne (intItems xs)).frame _ _ _ st fun b _ o e => Heap.get?_push_of_some _ e
  · refine h v h' tk (by simpa [intItems] using he) fun b o e => ?_
    have lb := Heap.lt_size e
    have sz : (s.heap.push { cls := .type "list_iterator", data := .fields #[.ref l, .int 0 0] }).objs.size = s.heap.objs.size + 1 := Heap.size_push ..
    refine hk b o (fun m => ?_) (fun z => ?_) (Heap.get?_push_of_some _ (Heap.get?_push_of_some _ e))
    · rw [List.mem_singleton.mp m] at lb
      exact Nat.lt_irrefl _ lb
    · have z : b = (s.heap.push { cls := .type "list_iterator", data := .fields #[.ref l, .int 0 0] }).objs.size := z
      rw [z, sz] at lb
      exact absurd lb (Nat.not_lt.mpr (Nat.le_succ _))
/-- min(xs, default=d) of a list of ints, any number of them -/
def rMinD (K : PySem.W.Frag) : List V → List V → Hp → VK → Prop := fun vs zs H Q => ∃ (a : Addr) (ns : List Int) (d : V), vs = [V.ref a] ∧ zs = [d] ∧ SqL K H a (ns.map V.int) ∧ (ns = [] → Q d H) ∧ ∀ m ∈ ns, (∀ y ∈ ns, m ≤ y) → Q (.int m) H
theorem cr_minD {X : Cx} (hc : X.calm = true) : CallRK X (.builtin "min") [Str.ofString "default"] (rMinD X.K) := by
  intro pins s σ H vs zs us ws Q I r rz h
  obtain ⟨a, ns, d, rfl, rfl, hs, q0, q1⟩ := h
  obtain rfl := Vals.ref1 r
  obtain ⟨wd, rfl, ed⟩ := vals1 rz
  obtain ⟨its, rv, hl, hz⟩ := I.list hs
  have hi := rv.ints
  obtain ⟨xs, e⟩ := hi.allInts.items
  have hn : numsOf (intItems xs).toList = ns := by rw [← e]; exact hi.numsOf
  rw [nums_intItems] at hn
  subst hn
  have hl2 := hl.isList
  rw [e] at hl2
  refine call_minD (d := wd) (I.ok.hd hc) hl2 fun v h' tk he hk => ?_
  have lx : (xs.toList.map (·.1)).length = xs.size := by rw [List.length_map, Array.length_toList]
  rcases he with ⟨h0, rfl⟩ | ⟨h0, he⟩
  · exact ⟨d, H, I.kept hk, ed, q0 (List.length_eq_zero_iff.mp (lx.trans h0))⟩
  · obtain ⟨t, rfl⟩ := intItems_at he
    obtain ⟨h1, h2⟩ := argBest_lt (numAt xs) (xs.size - 1)
    refine ⟨.int _, H, I.kept hk, ⟨t, rfl⟩, q1 _ ?_ fun y my => ?_⟩
    · rw [numAt_eq]
      exact PySem.getD_mem (by rw [lx]; omega)
    · obtain ⟨j, hj, rfl⟩ := mem_getD my
      rw [lx] at hj
      rw [← numAt_eq]
      exact h2 j (by omega)
end Inf

set_option Elab.async false
set_option linter.all false
set_option maxRecDepth 100000
set_option maxHeartbeats 4000000
namespace Inf
open PySem PySem.Spec PyProof.Rows
/-! ### {**d, k: v} -/
section
variable {prog : Program} {w : World} {K : Type} [DecidableEq K] {knd : KeyKind prog w K} {A : Around} {E : Value → Shared → Prop} {s : Shared}
theorem idx_list {es : Array DictEntry} {p : DictEntry → Bool} : es.findIdx? p = es.toList.findIdx? p := by
  obtain ⟨l⟩ := es
  simp
/-- what a stored pair makes of a dict, on either way -/
theorem put_hit {h : Heap} {d : Addr} {o : Obj} {es : Array DictEntry} {ep i : Nat} {kvs : List (K × Value)} {k : K} {v : Value} (ho : h.get? d = some o) (hc : o.ExactDict) (hd : o.data = .dict es ep) (hk : KeysOf knd es) (hp : Pairs knd es.toList kvs) (hn : (kvs.map (·.1)).Nodup) (hi : es.findIdx? (fun e => knd.is k e.key) = some i) :
    (h.update d (Obj.mapDict fun es => es.modify i fun e => { e with val := v })).DictOf knd d (stored kvs k v) := by
  have hl : es.toList.findIdx? (fun e => knd.is k e.key) = some i := idx_list.symm.trans hi
  have hx : kvs.findIdx? (fun kv => decide (kv.1 = k)) = some i := (hp.findIdx k).symm.trans hl
  have e : stored kvs k v = kvs.map fun kv => if kv.1 = k then (kv.1, v) else kv := by
    unfold stored
    exact if_pos (any_of_findIdx_some hx)
  have h1 := hp.modify hn hl v
  refine ⟨_, _, ep, Heap.get?_update_self _ ho (Obj.isFreed_of_dict (Obj.data_mapDict hd _)), hc.mapDict _, Obj.data_mapDict hd _, hk.modify _ _, ?_, ?_⟩
  · rw [e]
    obtain ⟨l⟩ := es
    simpa using h1
  · rw [e, keys_map_store]
    exact hn
theorem put_new {h : Heap} {d : Addr} {o : Obj} {es : Array DictEntry} {ep : Nat} {kvs : List (K × Value)} {k : K} {key v : Value} (hkey : knd.is k key = true) (ho : h.get? d = some o) (hc : o.ExactDict) (hd : o.data = .dict es ep) (hk : KeysOf knd es) (hp : Pairs knd es.toList kvs) (hn : (kvs.map (·.1)).Nodup) (hi : es.findIdx? (fun e => knd.is k e.key) = none) :
    (h.update d (Obj.mapDictKeys (·.push ⟨knd.hash k, key, v⟩))).DictOf knd d (stored kvs k v) := by
  have hx : kvs.findIdx? (fun kv => decide (kv.1 = k)) = none := (hp.findIdx k).symm.trans (idx_list.symm.trans hi)
  have hm : k ∉ kvs.map (·.1) := not_mem_of_findIdx_none hx
  have e : stored kvs k v = kvs ++ [(k, v)] := by
    unfold stored
    refine if_neg fun z => ?_
    obtain ⟨kv, m, q⟩ := List.any_eq_true.mp z
    exact hm (List.mem_map.mpr ⟨kv, m, of_decide_eq_true q⟩)
  have h1 := hp.append hkey (knd.hash k) v
  refine ⟨_, _, ep + 1, Heap.get?_update_self _ ho (Obj.isFreed_of_dict (Obj.data_mapDictKeys hd _)), hc.mapDictKeys _, Obj.data_mapDictKeys hd _, hk.push hkey _, ?_, ?_⟩
  · rw [e]
    obtain ⟨l⟩ := es
    simpa using h1
  · rw [e, List.map_append]
    refine List.nodup_append.mpr ⟨hn, List.nodup_cons.mpr ⟨(fun z => nomatch z), List.nodup_nil⟩, fun a ha b hb z => ?_⟩
    rw [z, List.mem_singleton.mp hb] at ha
    exact hm ha
theorem put_ok {d : Addr} {kvs : List (K × Value)} {k : K} {key v : Value} {Q : Unit → Shared → Prop} (hkey : knd.is k key = true) (hm : s.heap.DictOf knd d kvs) (hsz : kvs.length ≤ sizeLine)
    (hQ : ∀ h', h'.DictOf knd d (stored kvs k v) → Heap.SameBut d s.heap h' → Q () { s with heap := h' }) : wpAny (model prog w) A (dictPut d (knd.hash k) key v) Q E s := by
  obtain ⟨o, es, ep, ho, hc, hd, hk, hp, hn⟩ := hm
  have hes : es.size ≤ sizeLine := by
    have := hp.length
    rw [Array.length_toList] at this
    omega
  unfold dictPut
  refine wpAny_bind (wpAny_dictFind_of hkey ho hd hk ?_)
  cases hi : es.findIdx? fun e => knd.is k e.key with
  | some i => exact wpAny_updateDict ho hd (hQ _ (put_hit ho hc hd hk hp hn hi) (Heap.SameBut.update ..))
  | none => exact wpAny_updateDictKeys (hz := hes) ho hd (hQ _ (put_new hkey ho hc hd hk hp hn hi) (Heap.SameBut.update ..))
theorem ite_same {M : Model} {c : Prop} [Decidable c] {a b : Sem Unit} {Q : Unit → Shared → Prop} (hb : wpAny M A b Q E s) (ha : wpAny M A b Q E s → wpAny M A a Q E s) : wpAny M A (if c then a else b) Q E s := by
  by_cases z : c
  · rw [if_pos z]
    exact ha hb
  · rw [if_neg z]
    exact hb
theorem merge_ok {d o : Addr} {kvs more : List (K × Value)} {Q : Unit → Shared → Prop} (hdo : d ≠ o) (hoS : (o == sysModules) = false) (hd : s.heap.DictOf knd d kvs) (ho : s.heap.DictOf knd o more) (hsz : kvs.length + more.length ≤ sizeLine)
    (hQ : ∀ h', h'.DictOf knd d (merged kvs more) → Heap.SameBut d s.heap h' → Q () { s with heap := h' }) : wpAny (model prog w) A (mergeMapping d (.ref o) false) Q E s := by
  obtain ⟨od, esd, epd, hod, hcd, hdd, hkd, hpd, hnd⟩ := id hd
  obtain ⟨oo, eso, epo, hoo, hco, hdo', hko, hpo, hno⟩ := id ho
  have hlen : more.length = eso.size := by
    rw [← hpo.length, Array.length_toList]
  unfold mergeMapping
  refine wpAny_bind (wpAny_isInstance ho.typeIs isSubtype_dict_dict ?_)
  dsimp only
  rw [if_pos rfl]
  refine wpAny_bind (wpAny_specialOf ho.typeIs F.slot_dict_iter.lookup ?_)
  refine wpAny_bind (wpAny_pure ?_)
  rw [show (some (Value.builtin "dict.__iter__") == some (Value.builtin "dict.__iter__")) = true from beq_self_eq_true _]
  dsimp only
  rw [if_neg (by rw [hoS]; exact Bool.false_ne_true)]
  refine wpAny_bind (wpAny_dictEntries hod hdd ?_)
  refine ite_same ?_ fun loop => ?_
  · refine wpAny_bind (wpAny_dictEntries hoo hdo' (wpAny_bind (wpAny_dictEpoch hoo hdo' (wpAny_bind ?_))))
    refine wpAny_forIn_list _ (fun rest _ s' => ∃ h' i, s' = { s with heap := h' } ∧ rest = (List.range eso.size).drop i ∧ i ≤ eso.size ∧ h'.DictOf knd d (merged kvs (more.take i)) ∧ h'.get? o = some oo ∧ Heap.SameBut d s.heap h')
      _ ?_ ?_ _ _ ⟨s.heap, 0, rfl, rfl, Nat.zero_le _, hd, hoo, Heap.SameBut.refl _ _⟩
    · rintro x rest b s' ⟨h', i, rfl, hr, hi, hd', hoo', hs'⟩
      have hlt : i < eso.size := by
        refine Nat.lt_of_not_le fun z => ?_
        rw [List.drop_eq_nil_of_le (by rw [List.length_range]; exact z)] at hr
        cases hr
      rw [List.drop_eq_getElem_cons (by rw [List.length_range]; exact hlt)] at hr
      obtain ⟨hx, hrest⟩ := List.cons.inj hr
      rw [List.getElem_range] at hx
      subst hx
      have hml : x < more.length := by omega
      obtain ⟨hkey, hval⟩ := hpo.get? (e := eso[x]) (k := more[x].1) (v := more[x].2) (by rw [Array.getElem?_toList, Array.getElem?_eq_getElem hlt]) (List.getElem?_eq_getElem hml)
      obtain ⟨k', hkey', hhash⟩ := hko eso[x] (Array.getElem_mem hlt)
      have ek : k' = more[x].1 := knd.inj _ _ _ hkey' hkey
      refine wpAny_bind (wpAny_dictEntries hoo' hdo' ?_)
      rw [Array.getElem?_eq_getElem hlt]
      dsimp only
      rw [if_neg Bool.false_ne_true, hhash, ek]
      have hz : (merged kvs (more.take x)).length ≤ sizeLine := by
        have h1 := merged_length_le kvs (more.take x)
        rw [List.length_take] at h1
        omega
      refine wpAny_bind (wpAny_holding (put_ok hkey hd' hz fun h'' hd'' hs'' => ?_))
      have hoo'' : h''.get? o = some oo := (hs''.2 o (Ne.symm hdo)).trans hoo'
      refine wpAny_bind (wpAny_dictEpoch hoo'' hdo' ?_)
      rw [if_neg (by simp)]
      refine wpAny_pure ⟨h'', x + 1, rfl, hrest, hlt, ?_, hoo'', hs'.trans hs''⟩
      rw [merged_take_succ kvs more x more[x] (List.getElem?_eq_getElem hml), ← hval]
      exact hd''
    · rintro b s' ⟨h', i, rfl, hr, hi, hd', hoo', hs'⟩
      have hin : i = eso.size := by
        refine Nat.le_antisymm hi (Nat.le_of_not_lt fun z => ?_)
        rw [List.drop_eq_getElem_cons (by rw [List.length_range]; exact z)] at hr
        cases hr
      rw [hin, ← hlen, List.take_length] at hd'
      exact wpAny_pure (hQ h' hd' hs')
  · refine wpAny_bind (wpAny_dictEntries hoo hdo' (wpAny_bind (wpAny_of_eq (a := PUnit.unit) ?_ loop)))
    rw [← Array.forIn_toList]
    refine forIn_yield_id _ fun e he c => ?_
    obtain ⟨k, hkey, _⟩ := hko e (Array.mem_toList_iff.mp he)
    have := knd.byValue k _ hkey
    cases hek : e.key with
    | ref a =>
      rw [hek] at this
      cases this
    | _ => rfl
/-- {**m, k: v} -/
theorem star_ok {m tk tv : Sem Value} {Q : Value → Shared → Prop}
    (h : wpAny (model prog w) A m (fun mv s1 => ∃ o more, mv = .ref o ∧ s.heap.objs.size ≠ o ∧ (o == sysModules) = false ∧ more.length < sizeLine ∧ s1.heap.DictOf knd s.heap.objs.size [] ∧ s1.heap.DictOf knd o more ∧
      ∀ h', h'.DictOf knd s.heap.objs.size more → Heap.SameBut s.heap.objs.size s1.heap h' →
        wpAny (model prog w) A (subDict [(tk, tv)]) (fun b s2 => ∃ more2 k v, s.heap.objs.size ≠ b ∧ (b == sysModules) = false ∧ more2.length < sizeLine ∧ s2.heap.DictOf knd s.heap.objs.size more2 ∧ s2.heap.DictOf knd b [(k, v)] ∧
          ∀ h'', h''.DictOf knd s.heap.objs.size (stored more2 k v) → Heap.SameBut s.heap.objs.size s2.heap h'' → Q (.ref s.heap.objs.size) { s2 with heap := h'' }) E { s1 with heap := h' }) E
      { s with heap := s.heap.push { cls := .type "dict", data := .dict #[] } }) :
    wpAny (model prog w) A (dictDisplay [(none, m), (some tk, tv)]) Q E s := by
  unfold dictDisplay
  dsimp only
  refine wpAny_bind ?_
  rw [List.forIn_cons]
  dsimp only
  refine wpAny_bind (wpAny_bind ?_)
  rw [if_pos (show ([] : List (Sem Value × Sem Value)).isEmpty = true from rfl)]
  refine wpAny_pure ?_
  dsimp only
  refine wpAny_bind (wpAny_alloc ?_)
  refine wpAny_bind (wpAny_holding (wpAny_mono h (fun mv s1 h1 => ?_) fun _ _ e => e))
  obtain ⟨o, more, rfl, hdo, hoS, hz, hd, ho, q⟩ := h1
  have hn : (more.map (·.1)).Nodup := let ⟨_, _, _, _, _, _, _, _, hn⟩ := ho; hn
  refine wpAny_bind (wpAny_onRaise (wpAny_tryCatch (wpAny_onRaise (wpAny_holding (merge_ok hdo hoS hd ho (by rw [List.length_nil]; omega) fun h' hd' hs' => ?_)))))
  rw [merged_nil_of_nodup more hn] at hd'
  refine wpAny_pure ?_
  dsimp only
  rw [List.forIn_cons]
  dsimp only
  rw [if_neg (by simp)]
  refine wpAny_bind (wpAny_pure ?_)
  dsimp only
  rw [List.forIn_nil]
  refine wpAny_pure ?_
  dsimp only
  refine wpAny_bind ?_
  rw [if_neg (by simp)]
  refine wpAny_bind (wpAny_holding (wpAny_mono (q h' hd' hs') (fun b s2 h2 => ?_) fun _ _ e => e))
  obtain ⟨more2, k, v, hdb, hbS, hz2, hd2, hb2, q2⟩ := h2
  refine wpAny_bind (wpAny_onRaise (wpAny_holding (merge_ok hdb hbS hd2 hb2 (by rw [List.length_singleton]; omega) fun h'' hd'' hs'' => ?_)))
  refine wpAny_pure ?_
  dsimp only
  exact wpAny_pure (q2 h'' hd'' hs'')
end
section
open L2
variable {X : Cx} {pos : Pos}
/-- {**e, k: v}: a new dict, and one more for the pair -/
def tStar (te tk tv : TE) : TE := fun σ H Q => ∀ p, H p = none → te σ (upd H p (.dK [])) fun x H1 => ∃ (a : Addr) (kvs : List (Key × V)), x = .ref a ∧ a ≠ p ∧ H1 p = some (.dK []) ∧ Rd H1 a (.dK kvs) ∧ kvs.length < sizeLine ∧
  ∀ b, upd H1 p (.dK kvs) b = none → tk σ (upd (upd H1 p (.dK kvs)) b (.dK [])) fun y H2 => tv σ H2 fun z H3 => ∃ k z', [(y, z)] = [(kV k, z')] ∧ p ≠ b ∧ H3 p = some (.dK kvs) ∧ H3 b = some (.dK []) ∧ Q (.ref p) (upd (upd H3 b (.dK [(k, z')])) p (.dK (putK kvs k z')))
theorem pe_dstar {e k v : Expr} {te tk tv : TE} (he : PE X e te) (hk : PE X k tk) (hv : PE X v tv) : PE X (.Dict [none, some k] [e, v] pos) (tStar te tk tv) := by
  refine ⟨fun pins s σ H Q I q => ?_⟩
  rw [arm_eval_Dict]
  show wpAny _ _ (do standAt pos; dictDisplay [(none, do let x ← eval e X.env; standAt pos; pure x), (some (eval k X.env), do let x ← eval v X.env; standAt pos; pure x)]) _ _ _
  refine wpAny_bind (wpAny_standAt (star_ok (knd := mixKind X.prog X.w) ?_))
  have hn := I.hok.fresh (Nat.le_refl s.heap.objs.size)
  have I1 := I.laid (a := s.heap.objs.size) (o := .dK []) (h' := s.heap.push { cls := .type "dict", data := .dict #[] }) (t' := s.toks) (fun _ _ q => Heap.get?_push_of_some _ q) (Nat.le_refl _) (dk_empty s.heap I.big)
  refine wpAny_bind (thn (he.run pins _ σ _ _ I1 (q _ hn)) fun u s1 ⟨x, H1, I2, rx, a, kvs, ex, na, hp, hr, hz, q2⟩ => ?_)
  subst ex
  obtain rfl : u = .ref a := rx
  obtain ⟨z, lo, vs, rel, dd⟩ := dk_rd I2.hok hr
  obtain ⟨z0, lo0, vs0, r0, dd0⟩ := dk_of I2.hok hp
  cases r0
  have hl : vs.length < sizeLine := by rw [← rel.length]; exact hz
  refine wpAny_bind (wpAny_standAt (wpAny_pure ⟨a, vs, rfl, Ne.symm na, lo, hl, dd0, dd, fun h' d' hs => ?_⟩))
  have he0 : ∃ q, h'.get? s.heap.objs.size = some q := let ⟨q, _, _, hq, _⟩ := d'; ⟨q, hq⟩
  have I3 := d_write (t' := s1.toks) I2 (by rw [hp]; exact True.intro) hs he0 (dk_new z lo0 rel d')
  have I4 := I3.laid (a := h'.objs.size) (o := .dK []) (h' := h'.push { cls := .type "dict", data := .dict #[] }) (t' := s1.toks) (fun _ _ q => Heap.get?_push_of_some _ q) (Nat.le_refl _) (dk_empty h' I3.big)
  refine wpAny_subDict (knd := mixKind X.prog X.w) (Nat.le_of_ble_eq_true rfl) ?_
  refine thn ((pps_cons hk hv pps_nil).run pins _ σ _ (fun ps H3 => ∃ k z', ps = [(kV k, z')] ∧ s.heap.objs.size ≠ h'.objs.size ∧ H3 s.heap.objs.size = some (.dK kvs) ∧ H3 h'.objs.size = some (.dK []) ∧ Q (.ref s.heap.objs.size) (upd (upd H3 h'.objs.size (.dK [(k, z')])) s.heap.objs.size (.dK (putK kvs k z')))) I4 (q2 _ (I3.hok.fresh (Nat.le_refl _)))) fun ws s2 ⟨ps, H3, I5, rel2, k, z', eps, npb, hp3, hb3, q3⟩ => ?_
  subst eps
  obtain ⟨rs, c, rk⟩ := carries_of (P := X.prog) (w := X.w) (kvs := [(k, z')]) rel2
  obtain ⟨zb, hdb, vsb, rb, ddb⟩ := dk_of I5.hok hb3
  cases rb
  refine ⟨rs, c, ddb, fun h2 d2 hs2 => ?_⟩
  obtain ⟨zp, hdp, vsp, rp, ddp⟩ := dk_of I5.hok hp3
  cases rk with
  | @cons p1 q1 ps1 qs1 hpq t1 =>
    cases t1
    obtain ⟨kq, wq⟩ := q1
    obtain ⟨ek, rw'⟩ := hpq
    have ek : k = kq := ek
    subst ek
    have ddp2 : h2.DictOf (mixKind X.prog X.w) s.heap.objs.size vsp := ddp.sameBut hs2 npb
    have he2 : ∃ q, h2.get? h'.objs.size = some q := let ⟨q, _, _, hq, _⟩ := d2; ⟨q, hq⟩
    have I6 := d_write (t' := s2.toks + ws.length) I5 (by rw [hb3]; exact True.intro) hs2 he2 (dk_new (kvs := [(k, z')]) (vs := [(k, wq)]) (by rw [sizeLine_eq, List.length_singleton]; omega) hdb (.cons ⟨rfl, rw'⟩ .nil) d2)
    have hp6 : upd H3 h'.objs.size (.dK [(k, z')]) s.heap.objs.size = some (.dK kvs) := by
      rw [upd_ne npb]
      exact hp3
    refine ⟨vsp, k, wq, npb, hdb, by rw [← rp.length]; exact hz, ddp2, d2, fun h3 d3 hs3 => ⟨.ref s.heap.objs.size, _, ?_, rfl, q3⟩⟩
    have he3 : ∃ q, h3.get? s.heap.objs.size = some q := let ⟨q, _, _, hq, _⟩ := d3; ⟨q, hq⟩
    have hz3 : (putK kvs k z').length ≤ sizeLine := Nat.le_trans (length_putK _ _ _) hz
    exact d_write (t' := s2.toks + ws.length) I6 (by rw [hp6]; exact True.intro) hs3 he3 (dk_new hz3 hdp (rp.put k rw') d3)
end
end Inf

set_option Elab.async false
set_option linter.all false
set_option maxRecDepth 100000
set_option maxHeartbeats 4000000
namespace Inf
open PySem PySem.Spec PyProof.Rows L2
/-! ### next(iter(d), None) -/
section
variable {prog : Program} {w : World} {K : Type} [DecidableEq K] {knd : PySem.KeyKind prog w K} {A : Around} {E : Value → Shared → Prop} {s : Shared} {d it : Addr} {kvs : List (K × Value)} {ep : Nat} {v : Value}
theorem itr_ok {Q : Value → Shared → Prop} (lo : (d == sysModules) = false) (hm : s.heap.DictAt knd d kvs ep)
    (h : ∀ o, (s.heap.push o).IsKeyIter s.heap.objs.size d 0 kvs.length ep → Q (.ref s.heap.objs.size) { s with heap := s.heap.push o }) : wpAny (model prog w) A (call (.builtin "iter") [.ref d]) Q E s := by
  refine Calls.call_function_entry (by decide +kernel) (by decide +kernel) PySem.W.kdk_entry_iter (PySem.W.kdk_args_iter _) ?_
  unfold Builtin.«iter»
  refine wpAny_bind (m := someArgs "iter" 1 2 _) (wpAny_of_eq (a := [Value.ref d]) (by first | rfl | kernel_rfl!) ?_)
  show wpAny _ _ (pyIter (.ref d) >>= _) _ _ _
  refine wpAny_bind (wpAny_pyIter_dict lo hm ?_)
  exact wpAny_pure ⟨_, rfl, h _ ⟨_, Heap.get?_push_size _ rfl, rfl, rfl⟩⟩
theorem nxt_ok {Q : Value → Shared → Prop} (hh : A.handled = none) (hit : s.heap.IsKeyIter it d 0 kvs.length ep) (hm : s.heap.DictAt knd d kvs ep)
    (h : ∀ u h', (match kvs with | [] => u = v | kv :: _ => knd.is kv.1 u = true) → Heap.ExtBut it s.heap h' → Q u { s with heap := h' }) : wpAny (model prog w) A (call (.builtin "next") [.ref it, v]) Q E s := by
  refine Calls.call_function_entry (by decide +kernel) (by decide +kernel) PySem.W.kdk_entry_next (PySem.W.kdk_args_next2 _ _) ?_
  unfold Builtin.«next»
  refine wpAny_bind (m := someArgs "next" 1 2 _) (wpAny_of_eq (a := [Value.ref it, v]) (by first | rfl | kernel_rfl!) ?_)
  dsimp only
  refine wpAny_bind (wpAny_specialOf (name := Str.ofString "__next__") hit.typeIs PySem.F.slot_dict_keyiterator_next.lookup ?_)
  refine wpAny_ite_split (fun hab => absurd hab (by decide)) (fun _ => ?_)
  match kvs, hit, hm, h with
  | [], hit, hm, h => exact wpAny_bind (wpAny_pyNext_dict_end (A := A.in1) hh hit hm rfl fun h' k => wpAny_pure ⟨_, rfl, h _ _ rfl k⟩)
  | kv :: r, hit, hm, h => exact wpAny_bind (wpAny_pyNext_dict_item (k := kv.1) (v := kv.2) hit hm rfl fun key h' hk _ sb => wpAny_pure ⟨_, rfl, h _ _ hk sb.extBut⟩)
end
section
variable {X : Cx} {e : Expr} {te : TE}
def fstV (kvs : List (Key × V)) : V := match kvs with
  | [] => .non
  | kv :: _ => kV kv.1
/-- the first key of a dict, None without one -/
def tFirst (te : TE) : TE := fun σ H Q => te σ H fun x H1 => ∃ (a : Addr) (kvs : List (Key × V)), x = .ref a ∧ Rd H1 a (.dK kvs) ∧ Q (fstV kvs) H1
theorem key_rel {k : Key} {u : Value} (h : keyIs k u = true) : RelV (kV k) u := by
  rcases keyIs_shape h with ⟨i, t, ek, ev⟩ | ⟨z, t, ek, ev⟩
  · subst ek
    exact ⟨t, ev⟩
  · subst ek
    exact ⟨t, ev⟩
theorem pe_first {p p2 p3 pos pos2 : Pos} {j : Nat} (hc : X.calm = true) (hgi : Gl X "iter") (hmi : X.mg "iter" = none) (hgn : Gl X "next") (hmn : X.mg "next" = none) (he : PE X e te)
    (hs : starEach [e] X.env = (false, eval e X.env) :: starEach [] X.env := by rfl)
    (hs2 : ∀ a b : Expr, starEach [.Call a [e] [] pos2, b] X.env = (false, eval (.Call a [e] [] pos2) X.env) :: starEach [b] X.env := by intros; rfl) :
    PE X (.Call (.Name "next" p) [.Call (.Name "iter" p2) [e] [] pos2, .Constant .none j p3] [] pos) (tFirst te) := by
  refine ⟨fun pins s σ H Q I h => ?_⟩
  refine wpAny_Call_Name_kw (ld_blt (u := .builtin "next") I hgn hmn (by first | rfl | decide +kernel) ?_ (by decide) (by decide))
  refine PyProof.Rows.callWith_builtin1 ?_ (hs2 _ _) rfl
  rw [hs2]
  show wpAny _ _ (spliced ((false, eval (.Call (.Name "iter" p2) [e] [] pos2) X.env) :: [(false, eval (.Constant .none j p3) X.env)])) _ _ s
  refine Calls.spliced_cons ?_
  refine wpAny_Call_Name_kw (ld_blt (u := .builtin "iter") I hgi hmi (by first | rfl | decide +kernel) ?_ (by decide) (by decide))
  refine PyProof.Rows.callWith_builtin1 ?_ hs rfl
  rw [hs]
  show wpAny _ _ (spliced [(false, eval e X.env)]) _ _ s
  refine Calls.spliced_cons (thn (he.run pins s σ H _ I h) fun u s1 ⟨x, H1, I1, r1, a, kvs, ex, hr, q⟩ => Calls.spliced_nil ?_)
  subst ex
  obtain rfl : u = .ref a := r1
  obtain ⟨z, lo, vs, rel, dd⟩ := dk_rd I1.hok hr
  obtain ⟨ep, hat⟩ := dd.dictAt
  refine itr_ok lo hat fun o hit => ?_
  have hat2 : (s1.heap.push o).DictAt (mixKind X.prog X.w) a vs ep := let ⟨o', es, ho, r⟩ := hat; ⟨o', es, Heap.get?_push_of_some _ ho, r⟩
  refine Calls.spliced_cons (Constant_none (Calls.spliced_nil ?_))
  refine nxt_ok (I1.ok.hd hc) hit hat2 fun u h' hu k => ?_
  have I2 : L2.Inv X pins σ H1 { s1 with heap := h' } := I1.kept (t' := s1.toks) fun b w' e => k b w' (fun z => by
    rw [z] at e
    exact absurd (Heap.lt_size e) (Nat.lt_irrefl _)) (Heap.get?_push_of_some _ e)
  refine ⟨fstV kvs, H1, I2, ?_, q⟩
  cases rel with
  | nil => exact hu
  | @cons a1 b1 _ _ hh t =>
    show L2.RelV (kV a1.1) u
    rw [hh.1]
    exact key_rel hu
end
end Inf

set_option Elab.async false
set_option linter.all false
set_option maxRecDepth 100000
set_option maxHeartbeats 4000000
namespace Inf
open PySem PySem.Spec PyProof.Rows L2 NdefX LamX
/-! ### o.m(..) while the def's cells are told -/
def tMethT (X : Cx) (C : Addr) (m : Str) (sp : Sp) (dvs : List V) (ta : TE) (t : TA) : TE := fun σ H Q => ta σ H fun x H1 => ∃ a dx fs, x = .ref a ∧ H1 a = some (.ins C dx fs) ∧ fs.lookup m = none ∧
  t σ H1 fun vs H2 => ∀ cs HT, Tel X.env.cells X.env.scope.names X.N σ H2 cs HT → sp (x :: (vs ++ dvs)) HT (fun v H3 => (∀ b, b ∈ cs → H3 b = HT b) ∧ Q v (cut cs H3)) E0
section
variable {X : Cx} {k : Nat} {C f : Addr} {m : Str} {fd : FuncData} {ps : List Str} {ds : List Value} {dvs : List V} {sp : Sp} {o e : Expr} {es : List Expr} {ta : TE} {t : TA} {apos pos : Pos} {pl : Sem Bool}
theorem pe_methT (hfn : ∀ x, X.fn x = true) (he : PE X o ta) (c : Cls X.K C) (hm : Meth X.K C m f) (F : FnOk X.prog X.w X.K X.mg X.base CX0 k f fd ps sp) (hr : Room k X.A) (hb : Binds X.K fd ps ds) (hd : Vals dvs ds) (ha : PA X (e :: es) t)
    (hst : starEach (e :: es) X.env = (false, eval e X.env) :: starEach es X.env := by rfl) (hpl : (backTo pos (starEach es X.env)).any (·.1) = false := by rfl)
    (ht : eval (.Call (.Attribute o m apos) (e :: es) [] pos) X.env = (do
      let ov ← eval o X.env
      standAt apos.atName
      let (f, first) ← holding [ov] (getMethod ov m pl)
      callWith pos f first (backTo pos (starEach (e :: es) X.env)) (backToKw pos (keywordEach [] X.env))) := by rfl) :
    PE X (.Call (.Attribute o m apos) (e :: es) [] pos) (tMethT X C m sp dvs ta t) := by
  refine ⟨fun pins s σ H Q I h => ?_⟩
  refine PySem.W.methodCall_KW (pl := pl) (thn (he.run pins s σ H _ I h) fun u s1 ⟨x, H1, I1, rx, a, dx, fs, ex, ea, l, q⟩ => ?_) ht
  subst ex
  obtain rfl : u = Value.ref a := rx
  refine getmeth_ok I1 ea c hm l ?_
  refine PySem.W.callWith_K (first := [.ref a]) (h₀ := X.base) I.ok.mod.kin hm.kp (thn (ha.run pos pins s1 σ H1 _ I1 q) fun us s2 ⟨vs, H2, I2, r, q2⟩ => ⟨I2.kIn, ?_⟩) hst hpl
  exact tel_run (us := .ref a :: us) (vs := .ref a :: vs) F hr hb hd hfn I2 (.cons rfl r) q2
theorem pe_methT0 (hfn : ∀ x, X.fn x = true) (he : PE X o ta) (c : Cls X.K C) (hm : Meth X.K C m f) (F : FnOk X.prog X.w X.K X.mg X.base CX0 k f fd ps sp) (hr : Room k X.A) (hb : Binds X.K fd ps ds) (hd : Vals dvs ds)
    (ht : eval (.Call (.Attribute o m apos) [] [] pos) X.env = (do
      let ov ← eval o X.env
      standAt apos.atName
      let (f, first) ← holding [ov] (getMethod ov m pl)
      callWith pos f first (backTo pos (starEach [] X.env)) (backToKw pos (keywordEach [] X.env))) := by rfl) :
    PE X (.Call (.Attribute o m apos) [] [] pos) (tMethT X C m sp dvs ta tNil) := by
  refine ⟨fun pins s σ H Q I h => ?_⟩
  refine PySem.W.methodCall_KW (pl := pl) (thn (he.run pins s σ H _ I h) fun u s1 ⟨x, H1, I1, rx, a, dx, fs, ex, ea, l, q⟩ => ?_) ht
  subst ex
  obtain rfl : u = Value.ref a := rx
  refine getmeth_ok I1 ea c hm l ?_
  exact PySem.W.callWith_K0 (first := [.ref a]) I1.kIn hm.kp (tel_run (us := [.ref a]) (vs := [.ref a]) F hr hb hd hfn I1 (.cons rfl .nil) q)
end
end Inf

set_option Elab.async false
set_option linter.all false
set_option maxRecDepth 100000
set_option maxHeartbeats 4000000
namespace Inf
open PySem PySem.Spec PyProof.Rows L2
/-! ### d.setdefault(t, x), t a tuple of ints and texts -/
def rSetT : V → List V → Hp → VK → Prop := fun x xs H Q => ∃ (a : Addr) (kvs : List (List L2.Key × V)) (k : List L2.Key) (b : Addr) (d : V), x = .ref a ∧ xs = [.ref b, d] ∧ H a = some (.dT kvs) ∧ H b = some (.tup (k.map kV)) ∧ kvs.length < sizeLine ∧
  (∀ v, valV kvs k = some v → Q v H) ∧ (valV kvs k = none → Q d (upd H a (.dT (putK kvs k d))))
theorem relO_some {o : Option V} {u : Value} (r : RelO o (some u)) : ∃ v, o = some v ∧ RelV v u := by
  cases o with
  | none => exact (show False from r).elim
  | some v => exact ⟨v, rfl, r⟩
theorem relO_none {o : Option V} (r : RelO o none) : o = none := by
  cases o with
  | none => rfl
  | some v => exact (show False from r).elim
theorem mt_setT {X : Cx} (hu : X.A.units + 1 < cLine) : MtR X "dict.setdefault" rSetT := by
  intro pins s σ H x xs v us Q I rx rxs h
  obtain ⟨a, kvs, k, b, d, rfl, rfl, ha, hb, hl, q1, q2⟩ := h
  cases rx
  obtain ⟨u1, u2, rfl, r1, r2⟩ := vals2 rxs
  cases r1
  obtain ⟨z, hd, xs', rel, dd⟩ := dt_of I.hok ha
  have hz : xs'.length ≤ sizeLine := by rw [← Paired.length rel]; exact z
  have hl2 : (putK kvs k d).length ≤ sizeLine := by
    have := length_putK kvs k d
    omega
  have rv := rel.val k
  refine call_setdefault_heap (hsz := hz) (tupleKind_room_in1 hu) (key_of I.hok hb) hd dd (fun p hp => ?_) fun hn h' dd' hs => ?_
  · rw [hp] at rv
    obtain ⟨v0, ev, r0⟩ := relO_some rv
    show EP X pins σ Q p.2 _
    exact ⟨v0, H, I.tok _, r0, q1 v0 ev⟩
  · rw [hn] at rv
    obtain ⟨o, es, ep, hq, h2, h3, h4, _, h5⟩ := dd'
    show EP X pins σ Q u2 _
    refine ⟨d, _, d_write (ob := .dT (putK kvs k d)) I (by rw [ha]; exact True.intro) hs ⟨o, hq⟩ ⟨hl2, hd, _, (rel.put k hb r2).keeps (fun c ys ec => ?_), o, es, ep, hq, h2, h3, h4, h5⟩, r2, q2 (relO_none rv)⟩
    rw [upd_ne (ne_of ec ha (fun z => nomatch z))]
    exact ec
end Inf

set_option Elab.async false
set_option linter.all false
set_option maxRecDepth 100000
set_option maxHeartbeats 4000000
namespace Inf
open PySem PySem.Spec PyProof.Rows L2
/-! ### f(), f a local name that holds a function -/
def tActZ (P : Program) (w : World) (K : PySem.W.Frag) (mg : Str → Option Value) (base : Heap) (CX : CXT) (k i : Nat) (E : L2.St → XK) : TE := fun σ H Q => ∃ f o sp, σ[i]? = some (some (.ref f)) ∧ H f = some o ∧ FnHO f o ∧ FnR P w K mg base CX k f sp ∧ sp [] H Q (E σ)
theorem pe_actZ {X : Cx} {CX : CXT} {k i : Nat} {E : L2.St → XK} {x : Str} {p pos : Pos} (hN : X.N[i]? = some x) (hv : Vis X.env.scope x) (hr : Room k X.A) (hx : ∀ σ, PassesAt CX X σ (E σ)) (hd : (x == ("__debug__" : Str)) = false := by decide) (hcd : (x == ("__classdict__" : Str)) = false := by decide) :
    PE X (.Call (.Name x p) [] [] pos) (tActZ X.prog X.w X.K X.mg X.base CX k i E) := by
  refine ⟨fun pins s σ H Q I h => ?_⟩
  obtain ⟨f, o, sp, hs, hf, ho, hF, q⟩ := h
  refine wpAny_Call_Name_kw (thn ((pe_var (pos := p) hN hv hd hcd).run pins s σ H (fun v H1 => v = .ref f ∧ H1 = H) I ⟨.ref f, hs, rfl, rfl⟩) fun u s1 ⟨v, H1, I1, r1, ev, eH⟩ => ?_)
  subst ev
  rw [eH] at I1
  obtain rfl : u = Value.ref f := r1
  refine PySem.W.callWith_of (P := PySem.W.FnAt f) (by rfl) PySem.W.keeps_F (PyProof.Rows.evalArgs_empty ?_)
  exact ⟨ho _ _ _ _ I1.hok hf, run_fnE hF hr (hx σ) I1 .nil q⟩
end Inf

set_option Elab.async false
set_option linter.all false
set_option maxRecDepth 100000
set_option maxHeartbeats 4000000
namespace Inf
open PySem PySem.Spec PyProof.Rows L2 NdefX LamX
/-! ### a call by names alone while the def's cells are told -/
section
variable {X : Cx} {pins : List (Addr × Obj)} {σ : L2.St} {H : Hp} {s : Shared}
theorem tel_runN {k n : Nat} {f : Addr} {fd : FuncData} {ps ks : List Str} {g : List Value → List Value → List Value} {gV : List V → List V → List V} {sp : Sp} {Q : VK} {us ws : List Value} {vs zs : List V} (F : FnOk X.prog X.w X.K X.mg X.base CX0 k f fd ps sp) (hr : Room k X.A) (hb : KBn X.K fd ps n ks g gV) (hfn : ∀ x, X.fn x = true)
    (I : Inv X pins σ H s) (r : Vals vs us) (rz : Vals zs ws) (l1 : vs.length = n) (l2 : zs.length = ks.length) (h : ∀ cs HT, Tel X.env.cells X.env.scope.names X.N σ H cs HT → sp (gV vs zs) HT (fun v H1 => (∀ b, b ∈ cs → H1 b = HT b) ∧ Q v (cut cs H1)) E0) : wpAny (model X.prog X.w) X.A (call (.ref f) us (ks.zip ws)) (EP X pins σ Q) X.xe s := by
  let cs := frCells X.env.cells
  let HT : Hp := fun b => if b ∈ cs then (match s.heap.get? b with | some o => some (.ext fun h => h.get? b = some o) | Option.none => Option.none) else H b
  have big : ∀ b, b ∈ cs → X.s_0.heap.objs.size ≤ b := fun b hb => by
    obtain ⟨x, e⟩ := mem_frCells hb
    exact I.ok.cab x b (hfn x) e
  have no : ∀ b, b ∈ cs → H b = Option.none := fun b hb => by
    obtain ⟨x, e⟩ := mem_frCells hb
    exact I.freeC x b e
  have inT : ∀ b, b ∈ cs → ∃ v o, s.heap.get? b = some o ∧ o.data = .cell v ∧ HT b = some (.ext fun h => h.get? b = some o) := fun b hb => by
    obtain ⟨x, e⟩ := mem_frCells hb
    obtain ⟨v, o, e1, e2⟩ := I.cell x b e
    refine ⟨v, o, e1, e2, ?_⟩
    show (if b ∈ cs then _ else _) = _
    rw [if_pos hb, e1]
  have outT : ∀ b, b ∉ cs → HT b = H b := fun b hb => if_neg hb
  have nonT : ∀ b, b ∉ cs → H b = Option.none → HT b = Option.none := fun b hb e => (outT b hb).trans e
  have T : Tel X.env.cells X.env.scope.names X.N σ H cs HT := by
    refine ⟨no, fun b hb => ?_, outT, I.ok.inj, fun y h => I.ok.has _ (.inl h), fun i y c v h1 h2 h3 h4 => ?_, fun b hb q hq => ?_⟩
    · obtain ⟨v, o, _, _, e⟩ := inT b hb
      exact ⟨_, e⟩
    · obtain ⟨v', o, e1, e2, e3⟩ := inT c (frCells_mem h3)
      obtain ⟨m, hn, hl⟩ := I.loc
      obtain ⟨u, ru, lk⟩ := hl i y v h1 h4 (.inr (.inl h2))
      refine ⟨_, e3, fun h hh => ⟨u, ru, o, hh, ?_⟩⟩
      rcases lk with ⟨z, _⟩ | ⟨_, c', hc', hcell⟩
      · have z' : X.env.scope.names.lookup y = some .local := z
        rw [h2] at z'
        cases z'
      · rw [h3] at hc'
        cases hc'
        obtain ⟨o', g1, g2⟩ := hcell
        rw [e1] at g1
        cases g1
        exact g2
    · obtain ⟨v, o, e1, e2, e3⟩ := inT b hb
      rw [e3] at hq
      have hq := HO.ext.inj (Option.some.inj hq)
      have hq := (congrFun hq s.heap).mp e1
      obtain ⟨oc, vs, t, g1, g2, _⟩ := hq
      rw [e1] at g1
      cases g1
      rw [e2] at g2
      cases g2
  have ncs : ∀ b, b < X.s_0.heap.objs.size → b ∉ cs := fun b l m => Nat.not_lt.mpr (big b m) l
  have e0 := I.env0
  have notfr : ∀ b, b ∈ frs X.stack → b ∉ cs := fun b hb m => by
    rcases List.mem_cons.mp (I.stkSub b hb) with e | hb'
    · obtain ⟨x, ex⟩ := mem_frCells m
      exact I.cne x b ex e
    · obtain ⟨_, o, ho, _⟩ := I.ok.funs.mem hb'
      exact ncs b (Heap.lt_size ho) m
  have nonext : ∀ {b : Addr} {o : HO}, H b = some o → b ∉ cs := fun e m => by
    rw [no _ m] at e
    cases e
  have e1 : Env0 X.prog X.w X.K X.mg X.base X.A X.stack s HT := by
    refine ⟨e0.frames, e0.mod, fun b o q => ⟨(e0.bs b o q).1, nonT b (ncs b (Nat.lt_of_lt_of_le (Heap.lt_size q) I.ok.bsz)) (e0.bs b o q).2⟩, e0.bsz, e0.funs, fun b hb => nonT b (notfr b hb) (e0.frf b hb), fun b o e => ?_, e0.bare⟩
    by_cases hb : b ∈ cs
    · obtain ⟨v, o', g1, g2, g3⟩ := inT b hb
      rw [g3] at e
      cases e
      exact ⟨g1, ⟨o', g1⟩, fun h1 h2 z k => k _ z⟩
    · rw [outT b hb] at e
      refine (e0.hok b o e).stay (fun c u _ q => q) (fun c q => ?_) fun c xs q => ?_
      · rw [outT c (nonext q)]
        exact q
      · rw [outT c (nonext q)]
        exact q
  have hq0 := h cs HT T
  have r2 := hb.rel r rz
  refine wpAny_call (codeAny_mono (F.run X.A X.stack s HT ⟨us, ks.zip ws⟩ (g us ws) (gV vs zs) _ E0 hr e1 (hb.to s us ws I.kIn (r.length.symm.trans l1) (rz.length.symm.trans l2)) r2 hq0) fun r s' hq => ?_)
  cases r with
  | error e => exact False.elim hq
  | ok fl =>
    cases fl with
    | next => exact False.elim hq
    | brk => exact False.elim hq
    | cont => exact False.elim hq
    | ret u =>
      obtain ⟨v, H1, os, bare, un, hok1, rv, kc, q⟩ := hq
      have notin : ∀ {b : Addr} {o : HO}, H1 b = some o → (∀ φ, o ≠ .ext φ) → b ∉ cs := fun {b o} e n m => by
        obtain ⟨v, o', _, _, g3⟩ := inT b m
        rw [kc b m, g3] at e
        exact n _ (Option.some.inj e).symm
      have keepC : ∀ b o, b ∈ cs → s.heap.get? b = some o → s'.heap.get? b = some o := fun b o m e => by
        obtain ⟨v, o', g1, _, g3⟩ := inT b m
        rw [g1] at e
        cases e
        have := hok1 b _ ((kc b m).trans g3)
        exact this.1
      refine I.after ⟨v, cut cs H1, os, bare, ⟨fun b o a n h1 h2 => ?_, fun b o a n h1 h2 => ?_, fun b o a n h2 => ?_, un.there, fun b xs e => ?_, fun b o u e => ?_, fun b ps e => ?_⟩, fun b o e => ?_, rv, q⟩
      · by_cases m : b ∈ cs
        · exact keepC b o m a
        · exact un.keep b o a (nonT b m n) h1 h2
      · exact un.slot b o a (nonT b (notfr b h1) n) h1 h2
      · by_cases m : b ∈ cs
        · exact cut_in m
        · rw [cut_out m]
          exact un.free b o a (nonT b m n) h2
      · have m := nonext e
        rw [cut_out m]
        exact un.tups b xs ((outT b m).trans e)
      · have m := nonext e
        rw [cut_out m]
        exact un.frzs b o u ((outT b m).trans e)
      · have m := nonext e
        rw [cut_out m]
        exact un.tbls b ps ((outT b m).trans e)
      · by_cases m : b ∈ cs
        · rw [cut_in m] at e
          cases e
        · rw [cut_out m] at e
          refine (hok1 b o e).stay (fun c u _ q => q) (fun c q => ?_) fun c xs q => ?_
          · rw [cut_out (notin q (fun φ z => nomatch z))]
            exact q
          · rw [cut_out (notin q (fun φ z => nomatch z))]
            exact q
end
def tCallKT (X : Cx) (m : Nat) (sp : Sp) (gV : List V → List V → List V) (tk : TA) : TE := fun σ H Q => tk σ H fun zs H1 => zs.length = m ∧ ∀ cs HT, Tel X.env.cells X.env.scope.names X.N σ H1 cs HT → sp (gV [] zs) HT (fun v H2 => (∀ b, b ∈ cs → H2 b = HT b) ∧ Q v (cut cs H2)) E0
theorem pe_kwT {X : Cx} {k : Nat} {f : Addr} {fd : FuncData} {ps ks : List Str} {g : List Value → List Value → List Value} {gV : List V → List V → List V} {sp : Sp} {x : Str} {p pos : Pos} {kws : List Keyword} {tk : TA} (hfn : ∀ x, X.fn x = true) (F : FnOk X.prog X.w X.K X.mg X.base CX0 k f fd ps sp) (hr : Room k X.A) (hg : Gl X x) (hm : X.mg x = some (.ref f))
    (hk : PySem.W.keepIn X.K (.ref f) = true) (hb : KBn X.K fd ps 0 ks g gV) (hkw : PK X kws tk)
    (hall : (backToKw pos (keywordEach kws X.env)).all (·.1.isSome) = true := by rfl)
    (hks : (backToKw pos (keywordEach kws X.env)).filterMap (·.1) = ks := by rfl) (hdb : (x == ("__debug__" : Str)) = false := by decide)
    (hpl : ((backTo pos (starEach [] X.env)).any (·.1) || (backToKw pos (keywordEach kws X.env)).any (·.1.isNone)) = false := by rfl) :
    PE X (.Call (.Name x p) [] kws pos) (tCallKT X ks.length sp gV tk) :=
  ⟨fun pins s σ H Q I h => wpAny_Call_Name_kw (ld_glob I hg hm (PySem.W.callWith_KW0 (h₀ := X.base) I.ok.mod.kin hk hall
    (thn (hkw.run pos pins s σ H _ I h) fun ws s2 ⟨zs, H2, I2, rz, l1, q2⟩ => ⟨I2.kIn, by rw [hks]; exact tel_runN (us := []) (vs := []) F hr hb hfn I2 .nil rz rfl l1 q2⟩) hpl) hdb)⟩
end Inf

set_option Elab.async false
set_option linter.all false
set_option maxRecDepth 100000
set_option maxHeartbeats 4000000
namespace Inf
open PySem PySem.Spec PyProof.Rows L2 NdefX LamX
/-! ### sorted(pairs, key=lambda p: (-p[1], p[0])) -/
/-- the lambda F: (-x[1], x[0]) -/
structure KeyLam (F : LF) (x : Str) : Prop where
  sc : NScope [x] [x] [] F.scope
  body : ∃ p1 k1 p2 p3 p4 p5 k2 p6 p7 k3 p8, F.body = .Tuple [.UnaryOp .USub (.Subscript (.Name x p1) (.Constant (.int 1) k1 p2) p3) p4, .Subscript (.Name x p5) (.Constant (.int 0) k2 p6) p7] k3 p8
  bind : ∀ (pm ctv v : Value), bindArgs (PySem.W.kla_fn "<lambda>" F.qual F.params F.body F.scope F.cl pm (.ref F.c) ctv) ⟨[v], []⟩ = pure [(x, v)]
  nd : (x == ("__debug__" : Str)) = false
section
variable {prog : Program} {w : World} {A : Around} {s : Shared} {E : Value → Shared → Prop}
theorem sub_at {env : Env} {x : Str} {p1 p2 p3 : Pos} {k1} {n : Int} {t : Addr} {its : Array Value} {j : Nat} {y : Value} {m : Str → Option Value} {Q : Value → Shared → Prop} (hk : env.scope.kind = .function) (hl : env.kindOf x = some .local) (hn : s.heap.Ns env.locals m) (hm : m x = some (.ref t)) (nd : (x == ("__debug__" : Str)) = false)
    (ht : IsTup s.heap t its) (h1 : -(2 ^ 63) ≤ n) (h2 : n < 2 ^ 63) (h3 : seqIndex? n its.size = some j) (h4 : its[j]? = some y) (q : Q y { s with toks := s.toks + 1 }) :
    wpAny (model prog w) A (eval (.Subscript (.Name x p1) (.Constant (.int n) k1 p2) p3) env) Q E s := by
  refine Subscript_ (wpAny_Name (wpAny_loadName_local hk hl hn hm ?_) nd)
  refine wpAny_Constant_int ?_
  exact subscriptTail_builtinR (s := { s with toks := s.toks + 1 }) (x := y) ht.typeIs slot_tuple_getitem.lookup (getItem_tuple (j := j) (Q := fun r s' => r = y ∧ Q r s') ht h1 h2 h3 h4 ⟨rfl, q⟩) rfl
theorem key_call {f t : Addr} {F : LF} {x : Str} {pm ctv : Value} {i j : Int} {ti tj : Tok} (L : KeyLam F x) (hd : A.depth < recursionLimit) (lim : s.heap.NoLimit) (ho : s.heap.get? f = some (PySem.W.kla_obj "<lambda>" F.qual F.params F.body F.scope F.cl pm F.c ctv)) (hc : s.heap.CodeRec (.ref F.c) F.qual) (ht : IsTup s.heap t #[.int i ti, .int j tj]) :
    wpAny (model prog w) A (call (.ref f) [.ref t]) (PySem.W.KeyPure (.tuple [.int (-j), .int i]) s) (fun _ _ => False) s := by
  refine wpAny_call ?_
  refine PySem.W.kla_callFunE hd ho rfl L.sc.co L.sc.gen rfl hc ?_
  rw [L.bind pm ctv]
  refine wpAny_pure (wpAny_newFunctionEnv L.sc.nocell (fun y hy => ?_) (fun h₁ hns hsb => ⟨lim.fresh _ hsb, ?_⟩) L.sc.kind)
  · rw [List.mem_singleton.mp hy]
    exact L.sc.par x List.mem_cons_self
  have kp : ∀ b o, s.heap.get? b = some o → h₁.get? b = some o := fun b o e => hsb.extBut b o (Nat.ne_of_lt (Heap.lt_size e)) (Heap.get?_push_of_some _ e)
  have ht1 : IsTup h₁ t #[.int i ti, .int j tj] := by
    obtain ⟨o, h1, h2, n, h3⟩ := ht
    exact ⟨o, kp _ _ h1, h2, n, h3⟩
  have hl : F.scope.names.lookup x = some .local := L.sc.par x List.mem_cons_self
  have hm : ([(x, Value.ref t)] : List (Str × Value)).reverse.lookup x = some (.ref t) := by
    show ([(x, Value.ref t)] : List (Str × Value)).lookup x = _
    rw [List.lookup_cons, beq_self_eq_true]
  obtain ⟨p1, k1, p2, p3, p4, p5, k2, p6, p7, k3, p8, hb⟩ := L.body
  refine PySem.W.kla_codeExpr ?_
  rw [hb]
  refine wpAny_Tuple_spliced ?_
  refine Calls.spliced_cons ?_
  refine wpAny_UnaryOp (sub_at (j := 1) (y := .int j tj) L.sc.kind hl hns hm L.nd ht1 (by decide) (by decide) rfl rfl ?_)
  refine neg_int ?_
  refine Calls.spliced_cons ?_
  refine sub_at (j := 0) (y := .int i ti) L.sc.kind hl hns hm L.nd ht1 (by decide) (by decide) rfl rfl ?_
  refine Calls.spliced_nil ⟨(show (2 : Nat) ≤ sizeLine by decide), ?_⟩
  refine ⟨_, _, rfl, fun b o e => Heap.get?_push_of_some _ (kp b o e), ?_⟩
  exact .tuple (Heap.get?_push_size _ rfl) rfl rfl (.cons (as := []) (.int _ _) (.cons (as := []) (.int _ _) .nil))
end
/-- the pairs stand at their addresses; the result goes by the second, the greatest first, then by the first -/
def pairLe (p q : Addr × Int × Int) : Bool := decide (-p.2.2 < -q.2.2 ∨ (-p.2.2 = -q.2.2 ∧ p.2.1 ≤ q.2.1))
def rSortKey (K : PySem.W.Frag) : List V → List V → Hp → VK → Prop := fun vs zs H Q => ∃ (a f : Addr) (F : LF) (x : Str) (bs : List (Addr × Int × Int)), vs = [.ref a] ∧ zs = [.ref f] ∧ SqL K H a (bs.map fun b => V.ref b.1) ∧ (∀ b ∈ bs, H b.1 = some (.tup [.int b.2.1, .int b.2.2])) ∧ KeyLam F x ∧ H f = some (LamO f F) ∧ H F.c = some (CodeO F.c F.qual) ∧
  ∀ p, H p = Option.none → Q (.ref p) (upd H p (.lst ((bs.mergeSort pairLe).map fun b => V.ref b.1)))
def PairIs (h : Heap) (v : Value) (b : Addr × Int × Int) : Prop := v = .ref b.1 ∧ ∃ ti tj, IsTup h b.1 #[.int b.2.1 ti, .int b.2.2 tj]
theorem pairs_each {h : Heap} : ∀ {bs : List (Addr × Int × Int)} {us : List Value}, Vals (bs.map fun b => V.ref b.1) us → (∀ b ∈ bs, ∃ ti tj, IsTup h b.1 #[.int b.2.1 ti, .int b.2.2 tj]) → PySem.W.EachIs (PairIs h) us bs
  | [], _, .nil, _ => .nil
  | b :: bs, _, .cons r t, k => .cons ⟨r, k b List.mem_cons_self⟩ (pairs_each t fun c m => k c (List.mem_cons_of_mem _ m))
theorem each_vals {h : Heap} : ∀ {bs : List (Addr × Int × Int)} {us : List Value}, PySem.W.EachIs (PairIs h) us bs → Vals (bs.map fun b => V.ref b.1) us
  | [], _, .nil => .nil
  | b :: bs, _, .cons r t => .cons r.1 (each_vals t)
theorem cr_sortKey {X : Cx} {k : Nat} (hr : Room k X.A) : CallRK X (.builtin "sorted") [Str.ofString "key"] (rSortKey X.K) := by
  intro pins s σ H vs zs us ws Q I r rz h
  obtain ⟨a, f, F, x, bs, rfl, rfl, hs, hb, L, hf, hcf, q⟩ := h
  obtain ⟨its, rv, hl, hz⟩ := I.list hs
  obtain rfl := Vals.ref1 r
  obtain ⟨w1, rfl, e1⟩ := vals1 rz
  obtain rfl : w1 = Value.ref f := e1
  have hp : ∀ b ∈ bs, ∃ ti tj, IsTup s.heap b.1 #[.int b.2.1 ti, .int b.2.2 tj] := fun b m => by
    obtain ⟨its2, r2, t2, _⟩ := I.tuple (SqT.of (hb b m))
    obtain ⟨u1, u2, rfl, g1, g2⟩ := vals2 r2
    obtain ⟨ti, rfl⟩ := g1
    obtain ⟨tj, rfl⟩ := g2
    exact ⟨ti, tj, t2⟩
  have e0 := I.env0
  have lim : s.heap.NoLimit := e0.mod.nolimit.keeps fun b o e => (e0.bs b o e).1
  obtain ⟨pm, ctv, ho⟩ := lamO_at I.hok hf
  have hc := codeO_at I.hok hcf
  rw [List.length_map] at hz
  refine PySem.W.sorted_key_data (b := false) (R := PairIs s.heap) (fun b : Addr × Int × Int => PyData.tuple [.int (-b.2.2), .int b.2.1]) hl.isList (pairs_each rv hp) (PySem.W.AllAlike.of fun _ _ => by simp [PySem.W.alike, PySem.W.alikeAll]) (PySem.W.Sortable.tuples fun _ => ⟨_, _, rfl⟩) hz (fun b _ => ?_) (ksk_s1 _ _) (fun _ => ksk_l1 _ _) (fun _ => ksk_t1 _ _)
    (fun v b hR _ h tk kp => ?_) fun out c h' tk kp _ hD hlo eo => ?_
  · have hd : (PyData.tuple [.int (-b.2.2), .int b.2.1]).depth = 1 := by simp [PyData.depth, PyData.depthAll]
    have := hr.un
    rw [hd]
    omega
  · obtain ⟨rfl, ti, tj, o, h1, h2, n, h3⟩ := hR
    obtain ⟨c, oc, vs, t, g1, g2, g3, g4⟩ := hc
    exact key_call L (A := X.A.in1.in1) (s := { s with heap := h, toks := tk }) hr.depth (lim.keeps kp) (kp _ _ ho) ⟨c, oc, vs, t, g1, kp _ _ g2, g3, g4⟩ ⟨o, kp _ _ h1, h2, n, h3⟩
  · rw [PySem.W.dataLe_ii (β := Addr × Int × Int) (fun p => -p.2.2) (fun p => p.2.1)] at eo
    have hlen : ((bs.mergeSort pairLe).map fun b => V.ref b.1).length ≤ sizeLine := by
      rw [List.length_map, List.length_mergeSort]
      exact hz
    exact ⟨.ref _, upd H (s.heap.objs.size + 1) (.lst ((bs.mergeSort pairLe).map fun b => V.ref b.1)), I.laid (t' := tk) kp (Nat.le_succ _) ⟨hlen, out, c, each_vals eo, hD⟩, rfl, q _ (I.hok.fresh (Nat.le_succ _))⟩
end Inf


set_option Elab.async false
set_option linter.all false
set_option maxRecDepth 100000
set_option maxHeartbeats 4000000
namespace Ob
open PySem PySem.Spec PyProof.Rows L2
/-! ### a def whose code object is named: it makes functions -/
structure FunT (K : PySem.W.Frag) (x qual : Str) (st : Stmt) (f : Addr) (fd : FuncData) (c : Addr) : Prop where
  ex : ∃ (oc : Value) (od : Option Addr) (kV doc pm : Value) (an : Option Addr) (ct : Value) (osl : Array (Option Value)),
    fd = PySem.W.fnOf x qual (defArgs st) (defBody st) (defScope st) .none kV doc pm an (.ref c) ct ∧ K.lookup f = some ⟨oc, od, .func fd, osl⟩ ∧ PySem.W.codeIn K (.ref c) qual = true
  kp : PySem.W.keepIn K (.ref f) = true
theorem FunT.ok {P : Program} {w : World} {K : PySem.W.Frag} {mg : Str → Option Value} {base : Heap} {x qual : Str} {st : Stmt} {f c : Addr} {fd : FuncData} {CX : CXT} {N ps : List Str} {k : Nat} {sp : Sp} (F : FunT K x qual st f fd c) (S : FnScope N ps (defScope st)) (len : ∀ vs H Q E, sp vs H Q E → vs.length = ps.length)
    (hbody : ∀ (A : Around) (outer : List Env) (s : Shared) (H : Hp) (vs : List V) (Q : VK) (E : XK), Room k (A.deeper (envOfC qual (defScope st) s.heap.objs.size f (.ref c))) → sp vs H Q E →
      ∃ t, PSs (cxOf CX P w K mg base N qual (defScope st) f (.ref c) A outer s H E) (defBody st) t ∧ t { nx := fun _ H' => Q .non H', rt := Q } (L2.start N vs) H) : FnOk P w K mg base CX (k + 1) f fd ps sp := by
  obtain ⟨oc, od, kV, doc, pm, an, ct, osl, rfl, lk, hcd⟩ := F.ex
  exact fn_of lk hcd S len fun A outer s H vs Q E hr hsp => hbody A outer s H vs Q E hr hsp
theorem FunT.okC {P : Program} {w : World} {K : PySem.W.Frag} {mg : Str → Option Value} {base : Heap} {x qual : Str} {st : Stmt} {f c : Addr} {fd : FuncData} {N ps : List Str} {k : Nat} {sp : Sp} (F : FunT K x qual st f fd c) (S : FnScope N ps (defScope st)) (len : ∀ vs H Q E, sp vs H Q E → vs.length = ps.length)
    (hbody : ∀ (A : Around) (outer : List Env) (s : Shared) (H : Hp) (vs : List V) (Q : VK) (E : XK), Room k (A.deeper (envOfC qual (defScope st) s.heap.objs.size f (.ref c))) → sp vs H Q E →
      ∃ t, Inf.PSsR (cxOf CX0 P w K mg base N qual (defScope st) f (.ref c) A outer s H E).nox (defBody st) t ∧
        t (fun σ v H' => ∀ H'', Inf.Fin (envOfC qual (defScope st) s.heap.objs.size f (.ref c)).cells (defScope st).names N σ H' H'' → Q v H'') (L2.start N vs) H) : FnOk P w K mg base CX0 (k + 1) f fd ps sp := by
  obtain ⟨oc, od, kV, doc, pm, an, ct, osl, rfl, lk, hcd⟩ := F.ex
  exact Inf.okC_of lk hcd S len hbody
theorem all_cons {α : Type} {P : α → Prop} {a : α} {l : List α} (h : P a) (t : ∀ x ∈ l, P x) : ∀ x ∈ a :: l, P x := fun x m => (List.mem_cons.mp m).elim (fun e => by rw [e]; exact h) (t x)

/-! ### the text -/
def topS (i : Nat) : Stmt := PySem.Challenge.pw_oncebuilt_k52_whole_bounds_of_timed.main.body.getD i (.Pass ⟨0, 0, 0, 0⟩)
abbrev s_without : Stmt := topS 7
abbrev n_without : List Str := ["held", "numbers", "member", "number"]
theorem sc_without : FnScope n_without ["held", "numbers"] (defScope s_without) := ⟨rfl, rfl, rfl, by decide +kernel, rfl, by decide +kernel, by decide +kernel⟩
abbrev s_Calls_init : Stmt := inClass (topS 9) 0
abbrev n_Calls_init : List Str := ["self"]
theorem sc_Calls_init : FnScope n_Calls_init ["self"] (defScope s_Calls_init) := ⟨rfl, rfl, rfl, by decide +kernel, rfl, by decide +kernel, by decide +kernel⟩
abbrev s_Calls_check : Stmt := inClass (topS 9) 1
abbrev n_Calls_check : List Str := ["self"]
theorem sc_Calls_check : FnScope n_Calls_check ["self"] (defScope s_Calls_check) := ⟨rfl, rfl, rfl, by decide +kernel, rfl, by decide +kernel, by decide +kernel⟩
abbrev s_Calls_run : Stmt := inClass (topS 9) 2
abbrev n_Calls_run : List Str := ["self", "entry", "action", "values", "result"]
theorem sc_Calls_run : FnScope n_Calls_run ["self", "entry", "action", "values"] (defScope s_Calls_run) := ⟨rfl, rfl, rfl, by decide +kernel, rfl, by decide +kernel, by decide +kernel⟩
abbrev s_Outer_init : Stmt := inClass (topS 11) 0
abbrev n_Outer_init : List Str := ["self", "push", "pop", "ask"]
theorem sc_Outer_init : FnScope n_Outer_init ["self", "push", "pop", "ask"] (defScope s_Outer_init) := ⟨rfl, rfl, rfl, by decide +kernel, rfl, by decide +kernel, by decide +kernel⟩
abbrev s_Outer_check : Stmt := inClass (topS 11) 1
abbrev n_Outer_check : List Str := ["self"]
theorem sc_Outer_check : FnScope n_Outer_check ["self"] (defScope s_Outer_check) := ⟨rfl, rfl, rfl, by decide +kernel, rfl, by decide +kernel, by decide +kernel⟩
abbrev s_Outer_answer : Stmt := inClass (topS 11) 2
abbrev n_Outer_answer : List Str := ["self", "question"]
theorem sc_Outer_answer : FnScope n_Outer_answer ["self", "question"] (defScope s_Outer_answer) := ⟨rfl, rfl, rfl, by decide +kernel, rfl, by decide +kernel, by decide +kernel⟩
abbrev s_Outer_change : Stmt := inClass (topS 11) 3
abbrev n_Outer_change : List Str := ["self", "entries", "held"]
theorem sc_Outer_change : FnScope n_Outer_change ["self", "entries", "held"] (defScope s_Outer_change) := ⟨rfl, rfl, rfl, by decide +kernel, rfl, by decide +kernel, by decide +kernel⟩
abbrev s_Outer_follow : Stmt := inClass (topS 11) 5
abbrev n_Outer_follow : List Str := ["self", "entries", "held", "failed", "action", "number"]
theorem sc_Outer_follow : FnScope n_Outer_follow ["self", "entries", "held"] (defScope s_Outer_follow) := ⟨rfl, rfl, rfl, by decide +kernel, rfl, by decide +kernel, by decide +kernel⟩
abbrev s_plan_pushes : Stmt := topS 12
abbrev n_plan_pushes : List Str := ["numbers", "number"]
theorem sc_plan_pushes : FnScope n_plan_pushes ["numbers"] (defScope s_plan_pushes) := ⟨rfl, rfl, rfl, by decide +kernel, rfl, by decide +kernel, by decide +kernel⟩
abbrev s_plan_pops : Stmt := topS 13
abbrev n_plan_pops : List Str := ["numbers", "number"]
theorem sc_plan_pops : FnScope n_plan_pops ["numbers"] (defScope s_plan_pops) := ⟨rfl, rfl, rfl, by decide +kernel, rfl, by decide +kernel, by decide +kernel⟩
abbrev s_changed_order : Stmt := topS 14
abbrev n_changed_order : List Str := ["order", "entries", "changed", "action", "number"]
theorem sc_changed_order : FnScope n_changed_order ["order", "entries"] (defScope s_changed_order) := ⟨rfl, rfl, rfl, by decide +kernel, rfl, by decide +kernel, by decide +kernel⟩
abbrev s_pieces : Stmt := topS 17
abbrev n_pieces : List Str := ["begin", "end", "found", "first", "size"]
theorem sc_pieces : FnScope n_pieces ["begin", "end"] (defScope s_pieces) := ⟨rfl, rfl, rfl, by decide +kernel, rfl, by decide +kernel, by decide +kernel⟩
abbrev s_piece_size : Stmt := topS 18
abbrev n_piece_size : List Str := ["first", "room", "fitting"]
theorem sc_piece_size : FnScope n_piece_size ["first", "room"] (defScope s_piece_size) := ⟨rfl, rfl, rfl, by decide +kernel, rfl, by decide +kernel, by decide +kernel⟩
abbrev s_lowest_power : Stmt := topS 19
abbrev n_lowest_power : List Str := ["number"]
theorem sc_lowest_power : FnScope n_lowest_power ["number"] (defScope s_lowest_power) := ⟨rfl, rfl, rfl, by decide +kernel, rfl, by decide +kernel, by decide +kernel⟩
abbrev s_greatest_power : Stmt := topS 20
abbrev n_greatest_power : List Str := ["number"]
theorem sc_greatest_power : FnScope n_greatest_power ["number"] (defScope s_greatest_power) := ⟨rfl, rfl, rfl, by decide +kernel, rfl, by decide +kernel, by decide +kernel⟩
abbrev s_is_integer : Stmt := topS 21
abbrev n_is_integer : List Str := ["value"]
theorem sc_is_integer : FnScope n_is_integer ["value"] (defScope s_is_integer) := ⟨rfl, rfl, rfl, by decide +kernel, rfl, by decide +kernel, by decide +kernel⟩
abbrev s_check_integer : Stmt := topS 22
abbrev n_check_integer : List Str := ["value"]
theorem sc_check_integer : FnScope n_check_integer ["value"] (defScope s_check_integer) := ⟨rfl, rfl, rfl, by decide +kernel, rfl, by decide +kernel, by decide +kernel⟩
abbrev s_check_number : Stmt := topS 23
abbrev n_check_number : List Str := ["value"]
theorem sc_check_number : FnScope n_check_number ["value"] (defScope s_check_number) := ⟨rfl, rfl, rfl, by decide +kernel, rfl, by decide +kernel, by decide +kernel⟩
abbrev s_Timed_init : Stmt := inClass (topS 25) 2
abbrev n_Timed_init : List Str := ["self", "push", "pop", "ask"]
theorem sc_Timed_init : FnScope n_Timed_init ["self", "push", "pop", "ask"] (defScope s_Timed_init) := ⟨rfl, rfl, rfl, by decide +kernel, rfl, by decide +kernel, by decide +kernel⟩
abbrev s_Timed_add : Stmt := inClass (topS 25) 3
abbrev n_Timed_add : List Str := ["self", "member", "until", "number", "held"]
theorem sc_Timed_add : FnScope n_Timed_add ["self", "member", "until"] (defScope s_Timed_add) := ⟨rfl, rfl, rfl, by decide +kernel, rfl, by decide +kernel, by decide +kernel⟩
abbrev s_Timed_tick : Stmt := inClass (topS 25) 4
abbrev n_Timed_tick : List Str := ["self", "ending", "begun", "number", "size"]
theorem sc_Timed_tick : FnScope n_Timed_tick ["self"] (defScope s_Timed_tick) := ⟨rfl, rfl, rfl, by decide +kernel, rfl, by decide +kernel, by decide +kernel⟩
abbrev s_Timed_clock : Stmt := inClass (topS 25) 5
abbrev n_Timed_clock : List Str := ["self"]
theorem sc_Timed_clock : FnScope n_Timed_clock ["self"] (defScope s_Timed_clock) := ⟨rfl, rfl, rfl, by decide +kernel, rfl, by decide +kernel, by decide +kernel⟩
abbrev s_Timed_query : Stmt := inClass (topS 25) 6
abbrev n_Timed_query : List Str := ["self", "question"]
theorem sc_Timed_query : FnScope n_Timed_query ["self", "question"] (defScope s_Timed_query) := ⟨rfl, rfl, rfl, by decide +kernel, rfl, by decide +kernel, by decide +kernel⟩
abbrev s_Timed_log : Stmt := inClass (topS 25) 13
abbrev n_Timed_log : List Str := ["self"]
theorem sc_Timed_log : FnScope n_Timed_log ["self"] (defScope s_Timed_log) := ⟨rfl, rfl, rfl, by decide +kernel, rfl, by decide +kernel, by decide +kernel⟩
abbrev s_Timed_len : Stmt := inClass (topS 25) 16
abbrev n_Timed_len : List Str := ["self"]
theorem sc_Timed_len : FnScope n_Timed_len ["self"] (defScope s_Timed_len) := ⟨rfl, rfl, rfl, by decide +kernel, rfl, by decide +kernel, by decide +kernel⟩
abbrev s_check_until : Stmt := topS 26
abbrev n_check_until : List Str := ["until", "clock"]
theorem sc_check_until : FnScope n_check_until ["until", "clock"] (defScope s_check_until) := ⟨rfl, rfl, rfl, by decide +kernel, rfl, by decide +kernel, by decide +kernel⟩
abbrev s_ending_numbers : Stmt := topS 27
abbrev n_ending_numbers : List Str := ["timed", "order", "kept"]
theorem sc_ending_numbers : FnScope n_ending_numbers ["timed"] (defScope s_ending_numbers) := ⟨rfl, rfl, rfl, by decide +kernel, rfl, by decide +kernel, by decide +kernel⟩
abbrev s_next_pieces : Stmt := topS 28
abbrev n_next_pieces : List Str := ["timed", "ending", "clock", "found", "number", "room"]
theorem sc_next_pieces : FnScope n_next_pieces ["timed", "ending"] (defScope s_next_pieces) := ⟨rfl, rfl, rfl, by decide +kernel, rfl, by decide +kernel, by decide +kernel⟩
abbrev s_plan_moves : Stmt := topS 29
abbrev n_plan_moves : List Str := ["ending", "begun", "number", "size"]
theorem sc_plan_moves : FnScope n_plan_moves ["ending", "begun"] (defScope s_plan_moves) := ⟨rfl, rfl, rfl, by decide +kernel, rfl, by decide +kernel, by decide +kernel⟩
abbrev s_let_go : Stmt := topS 30
abbrev n_let_go : List Str := ["timed", "ending", "gone", "number"]
theorem sc_let_go : FnScope n_let_go ["timed", "ending"] (defScope s_let_go) := ⟨rfl, rfl, rfl, by decide +kernel, rfl, by decide +kernel, by decide +kernel⟩
abbrev s_l_bag : Stmt := topS 32
abbrev n_l_bag : List Str := ["_law_script", "_law_at", "_law_cell", "_law_great", "_law_primes"]
theorem sc_l_bag : FnScope n_l_bag ["_law_script", "_law_at"] (defScope s_l_bag) := ⟨rfl, rfl, rfl, by decide +kernel, rfl, by decide +kernel, by decide +kernel⟩
abbrev s_l_take : Stmt := topS 33
abbrev n_l_take : List Str := ["_law_bag_here", "_law_many", "_law_digit"]
theorem sc_l_take : FnScope n_l_take ["_law_bag_here", "_law_many"] (defScope s_l_take) := ⟨rfl, rfl, rfl, by decide +kernel, rfl, by decide +kernel, by decide +kernel⟩
abbrev s_l_counting : Stmt := topS 34
abbrev n_l_counting : List Str := ["_law_counts", "_law_held", "_law_pushes"]
theorem sc_l_counting : FnScope n_l_counting ["_law_counts", "_law_held"] (defScope s_l_counting) := ⟨rfl, rfl, rfl, by decide +kernel, rfl, by decide +kernel, by decide +kernel⟩
abbrev s_l_counting_pushes : Stmt := (defBody s_l_counting).getD 0 (.Pass ⟨0, 0, 0, 0⟩)
abbrev n_l_counting_pushes : List Str := ["_law_one", "_law_counts", "_law_held"]
abbrev fr_l_counting_pushes : List Str := ["_law_counts", "_law_held"]
theorem sc_l_counting_pushes : NdefX.NScope n_l_counting_pushes ["_law_one"] fr_l_counting_pushes (C8.fnScope s_l_counting_pushes) := NdefX.nscope_by (by decide +kernel)
abbrev s_l_counts_right : Stmt := topS 35
abbrev n_l_counts_right : List Str := ["_law_counts", "_law_spans", "_law_one", "_law_low", "_law_high", "_law_log"]
theorem sc_l_counts_right : FnScope n_l_counts_right ["_law_counts", "_law_spans"] (defScope s_l_counts_right) := ⟨rfl, rfl, rfl, by decide +kernel, rfl, by decide +kernel, by decide +kernel⟩
abbrev s_l_moves : Stmt := topS 36
abbrev n_l_moves : List Str := ["_law_house", "_law_entry"]
theorem sc_l_moves : FnScope n_l_moves ["_law_house"] (defScope s_l_moves) := ⟨rfl, rfl, rfl, by decide +kernel, rfl, by decide +kernel, by decide +kernel⟩
abbrev s_law : Stmt := topS 37
abbrev n_law : List Str := ["_law_script", "_law_k", "_law_bag_here", "_law_counts", "_law_held", "_law_spans", "_law_house", "_law_turn", "_law_low", "_law_high", "_law_pushes_here", "_law_number", "_law_word"]
theorem sc_law : FnScope n_law ["_law_script"] (defScope s_law) := ⟨rfl, rfl, rfl, by decide +kernel, rfl, by decide +kernel, by decide +kernel⟩
structure Txt (K : PySem.W.Frag) (mg : Str → Option Value) where
  C_Calls : Addr
  gc_Calls : mg "Calls" = some (.ref C_Calls)
  C_Outer : Addr
  gc_Outer : mg "Outer" = some (.ref C_Outer)
  C_Timed : Addr
  gc_Timed : mg "Timed" = some (.ref C_Timed)
  f_Calls_init : Addr
  d_Calls_init : FuncData
  -- 
  F_Calls_init : Fun K "__init__" "Calls.__init__" s_Calls_init f_Calls_init d_Calls_init
  b_Calls_init : Binds K d_Calls_init ["self"] []
  m_Calls_init : PySem.W.findIn K (.ref C_Calls) "__init__" = some (some (.ref f_Calls_init))
  t_Calls_init : PySem.W.isFn K (.ref f_Calls_init) = true
  y_Calls_init : PySem.W.typeIn K (.ref f_Calls_init) = some (.type "function")
  k_Calls_init : PySem.W.keepIn K (.ref f_Calls_init) = true
  f_Calls_check : Addr
  d_Calls_check : FuncData
  -- 
  F_Calls_check : Fun K "check" "Calls.check" s_Calls_check f_Calls_check d_Calls_check
  b_Calls_check : Binds K d_Calls_check ["self"] []
  m_Calls_check : PySem.W.findIn K (.ref C_Calls) "check" = some (some (.ref f_Calls_check))
  t_Calls_check : PySem.W.isFn K (.ref f_Calls_check) = true
  y_Calls_check : PySem.W.typeIn K (.ref f_Calls_check) = some (.type "function")
  k_Calls_check : PySem.W.keepIn K (.ref f_Calls_check) = true
  f_Calls_run : Addr
  d_Calls_run : FuncData
  -- 
  F_Calls_run : Fun K "run" "Calls.run" s_Calls_run f_Calls_run d_Calls_run
  m_Calls_run : PySem.W.findIn K (.ref C_Calls) "run" = some (some (.ref f_Calls_run))
  t_Calls_run : PySem.W.isFn K (.ref f_Calls_run) = true
  y_Calls_run : PySem.W.typeIn K (.ref f_Calls_run) = some (.type "function")
  k_Calls_run : PySem.W.keepIn K (.ref f_Calls_run) = true
  f_Outer_init : Addr
  d_Outer_init : FuncData
  -- 
  F_Outer_init : Fun K "__init__" "Outer.__init__" s_Outer_init f_Outer_init d_Outer_init
  b_Outer_init : Binds K d_Outer_init ["self", "push", "pop", "ask"] []
  m_Outer_init : PySem.W.findIn K (.ref C_Outer) "__init__" = some (some (.ref f_Outer_init))
  t_Outer_init : PySem.W.isFn K (.ref f_Outer_init) = true
  y_Outer_init : PySem.W.typeIn K (.ref f_Outer_init) = some (.type "function")
  k_Outer_init : PySem.W.keepIn K (.ref f_Outer_init) = true
  f_Outer_check : Addr
  d_Outer_check : FuncData
  -- 
  F_Outer_check : Fun K "check" "Outer.check" s_Outer_check f_Outer_check d_Outer_check
  b_Outer_check : Binds K d_Outer_check ["self"] []
  m_Outer_check : PySem.W.findIn K (.ref C_Outer) "check" = some (some (.ref f_Outer_check))
  t_Outer_check : PySem.W.isFn K (.ref f_Outer_check) = true
  y_Outer_check : PySem.W.typeIn K (.ref f_Outer_check) = some (.type "function")
  k_Outer_check : PySem.W.keepIn K (.ref f_Outer_check) = true
  f_Outer_answer : Addr
  d_Outer_answer : FuncData
  -- 
  F_Outer_answer : Fun K "answer" "Outer.answer" s_Outer_answer f_Outer_answer d_Outer_answer
  b_Outer_answer : Binds K d_Outer_answer ["self", "question"] []
  m_Outer_answer : PySem.W.findIn K (.ref C_Outer) "answer" = some (some (.ref f_Outer_answer))
  t_Outer_answer : PySem.W.isFn K (.ref f_Outer_answer) = true
  y_Outer_answer : PySem.W.typeIn K (.ref f_Outer_answer) = some (.type "function")
  k_Outer_answer : PySem.W.keepIn K (.ref f_Outer_answer) = true
  f_Outer_change : Addr
  d_Outer_change : FuncData
  -- 
  F_Outer_change : Fun K "change" "Outer.change" s_Outer_change f_Outer_change d_Outer_change
  b_Outer_change : Binds K d_Outer_change ["self", "entries", "held"] []
  m_Outer_change : PySem.W.findIn K (.ref C_Outer) "change" = some (some (.ref f_Outer_change))
  t_Outer_change : PySem.W.isFn K (.ref f_Outer_change) = true
  y_Outer_change : PySem.W.typeIn K (.ref f_Outer_change) = some (.type "function")
  k_Outer_change : PySem.W.keepIn K (.ref f_Outer_change) = true
  f_Outer_follow : Addr
  d_Outer_follow : FuncData
  -- 
  F_Outer_follow : Fun K "follow" "Outer.follow" s_Outer_follow f_Outer_follow d_Outer_follow
  b_Outer_follow : Binds K d_Outer_follow ["self", "entries", "held"] []
  m_Outer_follow : PySem.W.findIn K (.ref C_Outer) "follow" = some (some (.ref f_Outer_follow))
  t_Outer_follow : PySem.W.isFn K (.ref f_Outer_follow) = true
  y_Outer_follow : PySem.W.typeIn K (.ref f_Outer_follow) = some (.type "function")
  k_Outer_follow : PySem.W.keepIn K (.ref f_Outer_follow) = true
  f_Timed_init : Addr
  d_Timed_init : FuncData
  -- 
  F_Timed_init : Fun K "__init__" "Timed.__init__" s_Timed_init f_Timed_init d_Timed_init
  b_Timed_init : Binds K d_Timed_init ["self", "push", "pop", "ask"] []
  m_Timed_init : PySem.W.findIn K (.ref C_Timed) "__init__" = some (some (.ref f_Timed_init))
  t_Timed_init : PySem.W.isFn K (.ref f_Timed_init) = true
  y_Timed_init : PySem.W.typeIn K (.ref f_Timed_init) = some (.type "function")
  k_Timed_init : PySem.W.keepIn K (.ref f_Timed_init) = true
  f_Timed_add : Addr
  d_Timed_add : FuncData
  -- 
  F_Timed_add : Fun K "add" "Timed.add" s_Timed_add f_Timed_add d_Timed_add
  m_Timed_add : PySem.W.findIn K (.ref C_Timed) "add" = some (some (.ref f_Timed_add))
  t_Timed_add : PySem.W.isFn K (.ref f_Timed_add) = true
  y_Timed_add : PySem.W.typeIn K (.ref f_Timed_add) = some (.type "function")
  k_Timed_add : PySem.W.keepIn K (.ref f_Timed_add) = true
  f_Timed_tick : Addr
  d_Timed_tick : FuncData
  -- 
  F_Timed_tick : Fun K "tick" "Timed.tick" s_Timed_tick f_Timed_tick d_Timed_tick
  b_Timed_tick : Binds K d_Timed_tick ["self"] []
  m_Timed_tick : PySem.W.findIn K (.ref C_Timed) "tick" = some (some (.ref f_Timed_tick))
  t_Timed_tick : PySem.W.isFn K (.ref f_Timed_tick) = true
  y_Timed_tick : PySem.W.typeIn K (.ref f_Timed_tick) = some (.type "function")
  k_Timed_tick : PySem.W.keepIn K (.ref f_Timed_tick) = true
  f_Timed_clock : Addr
  d_Timed_clock : FuncData
  -- 
  F_Timed_clock : Fun K "clock" "Timed.clock" s_Timed_clock f_Timed_clock d_Timed_clock
  b_Timed_clock : Binds K d_Timed_clock ["self"] []
  m_Timed_clock : PySem.W.findIn K (.ref C_Timed) "clock" = some (some (.ref f_Timed_clock))
  t_Timed_clock : PySem.W.isFn K (.ref f_Timed_clock) = true
  y_Timed_clock : PySem.W.typeIn K (.ref f_Timed_clock) = some (.type "function")
  k_Timed_clock : PySem.W.keepIn K (.ref f_Timed_clock) = true
  f_Timed_query : Addr
  d_Timed_query : FuncData
  -- 
  F_Timed_query : Fun K "query" "Timed.query" s_Timed_query f_Timed_query d_Timed_query
  b_Timed_query : Binds K d_Timed_query ["self", "question"] []
  m_Timed_query : PySem.W.findIn K (.ref C_Timed) "query" = some (some (.ref f_Timed_query))
  t_Timed_query : PySem.W.isFn K (.ref f_Timed_query) = true
  y_Timed_query : PySem.W.typeIn K (.ref f_Timed_query) = some (.type "function")
  k_Timed_query : PySem.W.keepIn K (.ref f_Timed_query) = true
  f_Timed_log : Addr
  d_Timed_log : FuncData
  -- 
  F_Timed_log : Fun K "log" "Timed.log" s_Timed_log f_Timed_log d_Timed_log
  b_Timed_log : Binds K d_Timed_log ["self"] []
  m_Timed_log : PySem.W.findIn K (.ref C_Timed) "log" = some (some (.ref f_Timed_log))
  t_Timed_log : PySem.W.isFn K (.ref f_Timed_log) = true
  y_Timed_log : PySem.W.typeIn K (.ref f_Timed_log) = some (.type "function")
  k_Timed_log : PySem.W.keepIn K (.ref f_Timed_log) = true
  f_Timed_len : Addr
  d_Timed_len : FuncData
  -- 
  F_Timed_len : Fun K "__len__" "Timed.__len__" s_Timed_len f_Timed_len d_Timed_len
  b_Timed_len : Binds K d_Timed_len ["self"] []
  m_Timed_len : PySem.W.findIn K (.ref C_Timed) "__len__" = some (some (.ref f_Timed_len))
  t_Timed_len : PySem.W.isFn K (.ref f_Timed_len) = true
  y_Timed_len : PySem.W.typeIn K (.ref f_Timed_len) = some (.type "function")
  k_Timed_len : PySem.W.keepIn K (.ref f_Timed_len) = true
  f_without : Addr
  d_without : FuncData
  F_without : Fun K "without" "without" s_without f_without d_without
  b_without : Binds K d_without ["held", "numbers"] []
  g_without : mg "without" = some (.ref f_without)
  f_plan_pushes : Addr
  d_plan_pushes : FuncData
  F_plan_pushes : Fun K "plan_pushes" "plan_pushes" s_plan_pushes f_plan_pushes d_plan_pushes
  b_plan_pushes : Binds K d_plan_pushes ["numbers"] []
  g_plan_pushes : mg "plan_pushes" = some (.ref f_plan_pushes)
  f_plan_pops : Addr
  d_plan_pops : FuncData
  F_plan_pops : Fun K "plan_pops" "plan_pops" s_plan_pops f_plan_pops d_plan_pops
  b_plan_pops : Binds K d_plan_pops ["numbers"] []
  g_plan_pops : mg "plan_pops" = some (.ref f_plan_pops)
  f_changed_order : Addr
  d_changed_order : FuncData
  F_changed_order : Fun K "changed_order" "changed_order" s_changed_order f_changed_order d_changed_order
  b_changed_order : Binds K d_changed_order ["order", "entries"] []
  g_changed_order : mg "changed_order" = some (.ref f_changed_order)
  f_pieces : Addr
  d_pieces : FuncData
  F_pieces : Fun K "pieces" "pieces" s_pieces f_pieces d_pieces
  b_pieces : Binds K d_pieces ["begin", "end"] []
  g_pieces : mg "pieces" = some (.ref f_pieces)
  f_piece_size : Addr
  d_piece_size : FuncData
  F_piece_size : Fun K "piece_size" "piece_size" s_piece_size f_piece_size d_piece_size
  b_piece_size : Binds K d_piece_size ["first", "room"] []
  g_piece_size : mg "piece_size" = some (.ref f_piece_size)
  f_lowest_power : Addr
  d_lowest_power : FuncData
  F_lowest_power : Fun K "lowest_power" "lowest_power" s_lowest_power f_lowest_power d_lowest_power
  b_lowest_power : Binds K d_lowest_power ["number"] []
  g_lowest_power : mg "lowest_power" = some (.ref f_lowest_power)
  f_greatest_power : Addr
  d_greatest_power : FuncData
  F_greatest_power : Fun K "greatest_power" "greatest_power" s_greatest_power f_greatest_power d_greatest_power
  b_greatest_power : Binds K d_greatest_power ["number"] []
  g_greatest_power : mg "greatest_power" = some (.ref f_greatest_power)
  f_is_integer : Addr
  d_is_integer : FuncData
  F_is_integer : Fun K "is_integer" "is_integer" s_is_integer f_is_integer d_is_integer
  b_is_integer : Binds K d_is_integer ["value"] []
  g_is_integer : mg "is_integer" = some (.ref f_is_integer)
  f_check_integer : Addr
  d_check_integer : FuncData
  F_check_integer : Fun K "check_integer" "check_integer" s_check_integer f_check_integer d_check_integer
  b_check_integer : Binds K d_check_integer ["value"] []
  g_check_integer : mg "check_integer" = some (.ref f_check_integer)
  f_check_number : Addr
  d_check_number : FuncData
  F_check_number : Fun K "check_number" "check_number" s_check_number f_check_number d_check_number
  b_check_number : Binds K d_check_number ["value"] []
  g_check_number : mg "check_number" = some (.ref f_check_number)
  f_check_until : Addr
  d_check_until : FuncData
  F_check_until : Fun K "check_until" "check_until" s_check_until f_check_until d_check_until
  b_check_until : Binds K d_check_until ["until", "clock"] []
  g_check_until : mg "check_until" = some (.ref f_check_until)
  f_ending_numbers : Addr
  d_ending_numbers : FuncData
  F_ending_numbers : Fun K "ending_numbers" "ending_numbers" s_ending_numbers f_ending_numbers d_ending_numbers
  b_ending_numbers : Binds K d_ending_numbers ["timed"] []
  g_ending_numbers : mg "ending_numbers" = some (.ref f_ending_numbers)
  f_next_pieces : Addr
  d_next_pieces : FuncData
  c_next_pieces : Addr
  p_next_pieces : Addr
  F_next_pieces : FunT K "next_pieces" "next_pieces" s_next_pieces f_next_pieces d_next_pieces c_next_pieces
  b_next_pieces : Binds K d_next_pieces ["timed", "ending"] []
  g_next_pieces : mg "next_pieces" = some (.ref f_next_pieces)
  f_plan_moves : Addr
  d_plan_moves : FuncData
  F_plan_moves : Fun K "plan_moves" "plan_moves" s_plan_moves f_plan_moves d_plan_moves
  b_plan_moves : Binds K d_plan_moves ["ending", "begun"] []
  g_plan_moves : mg "plan_moves" = some (.ref f_plan_moves)
  f_let_go : Addr
  d_let_go : FuncData
  F_let_go : Fun K "let_go" "let_go" s_let_go f_let_go d_let_go
  b_let_go : Binds K d_let_go ["timed", "ending"] []
  g_let_go : mg "let_go" = some (.ref f_let_go)
  f_l_bag : Addr
  d_l_bag : FuncData
  F_l_bag : Fun K "_law_bag" "_law_bag" s_l_bag f_l_bag d_l_bag
  b_l_bag : Binds K d_l_bag ["_law_script", "_law_at"] []
  g_l_bag : mg "_law_bag" = some (.ref f_l_bag)
  f_l_take : Addr
  d_l_take : FuncData
  F_l_take : Fun K "_law_take" "_law_take" s_l_take f_l_take d_l_take
  b_l_take : Binds K d_l_take ["_law_bag_here", "_law_many"] []
  g_l_take : mg "_law_take" = some (.ref f_l_take)
  f_l_counting : Addr
  d_l_counting : FuncData
  c_l_counting : Addr
  p_l_counting : Addr
  F_l_counting : FunT K "_law_counting" "_law_counting" s_l_counting f_l_counting d_l_counting c_l_counting
  b_l_counting : Binds K d_l_counting ["_law_counts", "_law_held"] []
  g_l_counting : mg "_law_counting" = some (.ref f_l_counting)
  f_l_counts_right : Addr
  d_l_counts_right : FuncData
  F_l_counts_right : Fun K "_law_counts_right" "_law_counts_right" s_l_counts_right f_l_counts_right d_l_counts_right
  b_l_counts_right : Binds K d_l_counts_right ["_law_counts", "_law_spans"] []
  g_l_counts_right : mg "_law_counts_right" = some (.ref f_l_counts_right)
  f_l_moves : Addr
  d_l_moves : FuncData
  F_l_moves : Fun K "_law_moves" "_law_moves" s_l_moves f_l_moves d_l_moves
  b_l_moves : Binds K d_l_moves ["_law_house"] []
  g_l_moves : mg "_law_moves" = some (.ref f_l_moves)
  pne_next_pieces_l_counting : p_next_pieces ≠ p_l_counting
  z_abs : mg "abs" = none
  z_any : mg "any" = none
  z_bool : mg "bool" = none
  z_int : mg "int" = none
  z_isinstance : mg "isinstance" = none
  z_len : mg "len" = none
  z_list : mg "list" = none
  z_min : mg "min" = none
  z_property : mg "property" = none
  z_range : mg "range" = none
  z_repr : mg "repr" = none
  z_reversed : mg "reversed" = none
  z_sorted : mg "sorted" = none
  z_sum : mg "sum" = none
  u_GREATEST : Value
  v_GREATEST : mg "GREATEST" = some u_GREATEST
  r_GREATEST : RelV (V.int (10 ^ (30 : Nat))) u_GREATEST
  cl_Calls : Cls K C_Calls
  mk_Calls : PySem.W.makesIn K C_Calls = true
  kp_Calls : PySem.W.keepIn K (.ref C_Calls) = true
  n_Calls_entries : NoAttr K C_Calls "entries"
  n_Calls_running : NoAttr K C_Calls "running"
  cl_Outer : Cls K C_Outer
  mk_Outer : PySem.W.makesIn K C_Outer = true
  kp_Outer : PySem.W.keepIn K (.ref C_Outer) = true
  n_Outer_calls : NoAttr K C_Outer "calls"
  n_Outer_push_call : NoAttr K C_Outer "push_call"
  n_Outer_pop_call : NoAttr K C_Outer "pop_call"
  n_Outer_ask_call : NoAttr K C_Outer "ask_call"
  n_Outer_order : NoAttr K C_Outer "order"
  n_Outer_broken : NoAttr K C_Outer "broken"
  cl_Timed : Cls K C_Timed
  mk_Timed : PySem.W.makesIn K C_Timed = true
  kp_Timed : PySem.W.keepIn K (.ref C_Timed) = true
  n_Timed_outer : NoAttr K C_Timed "outer"
  n_Timed_given : NoAttr K C_Timed "given"
  n_Timed_now : NoAttr K C_Timed "now"
  n_Timed_held : NoAttr K C_Timed "held"
  n_Timed_limits : NoAttr K C_Timed "limits"
  n_Timed_ends : NoAttr K C_Timed "ends"
  cr_Timed : ClX.CRead K C_Timed (.type "type")
  uv_LAST : Value
  cv_LAST : ClX.CVal K C_Timed (.type "type") "LAST" (.int 1000000000) uv_LAST

theorem log_lo {n : Nat} (h : n ≠ 0) : 2 ^ n.log2 ≤ n := Nat.log2_self_le h
theorem log_hi {n : Nat} : n < 2 ^ (n.log2 + 1) := Nat.lt_log2_self
theorem log_lt {n f : Nat} (h : n ≠ 0) (hf : n < 2 ^ f) : n.log2 < f := (Nat.log2_lt h).mpr hf
theorem rest_lt {n : Nat} (h : n ≠ 0) : n - 2 ^ n.log2 < 2 ^ n.log2 := by
  have a := log_hi (n := n)
  have b := log_lo h
  rw [Nat.pow_succ] at a
  omega
theorem rest_lt' {n f : Nat} (h : n ≠ 0) (hf : n < 2 ^ (f + 1)) : n - 2 ^ n.log2 < 2 ^ f := by
  have a := rest_lt h
  have b := log_lt h hf
  have c : 2 ^ n.log2 ≤ 2 ^ f := Nat.pow_le_pow_right (by decide) (by omega)
  omega
/-- the lowest power -/
def low (n : Nat) : Nat := if h : n = 0 then 1 else if n % 2 = 0 then 2 * low (n / 2) else 1
termination_by n
decreasing_by omega
theorem low_even {n : Nat} (h : n ≠ 0) (e : n % 2 = 0) : low n = 2 * low (n / 2) := by
  rw [low, dif_neg h, if_pos e]
theorem low_odd {n : Nat} (e : n % 2 = 1) : low n = 1 := by
  rw [low, dif_neg (by omega), if_neg (by omega)]
theorem low_is : ∀ (j n : Nat), n ≠ 0 → n % 2 ^ j = 0 → ¬ n % 2 ^ (j + 1) = 0 → low n = 2 ^ j
  | 0, n, h, _, e => by
    rw [Nat.zero_add, Nat.pow_one] at e
    exact low_odd (by omega)
  | j + 1, n, h, a, b => by
    have e2 : n % 2 = 0 := by
      rw [Nat.pow_succ] at a
      have := Nat.mod_mod_of_dvd n (show 2 ∣ 2 ^ j * 2 from ⟨2 ^ j, Nat.mul_comm _ _⟩)
      rw [a] at this
      omega
    obtain ⟨m, rfl⟩ : ∃ m, n = 2 * m := ⟨n / 2, by omega⟩
    have hm : m ≠ 0 := by omega
    rw [low_even h e2, Nat.mul_div_cancel_left _ (by decide), Nat.pow_succ, Nat.mul_comm]
    have a' : m % 2 ^ j = 0 := by
      rw [Nat.pow_succ, Nat.mul_comm (2 ^ j) 2, Nat.mul_mod_mul_left] at a
      omega
    have b' : ¬ m % 2 ^ (j + 1) = 0 := fun z => by
      rw [Nat.pow_succ, Nat.mul_comm (2 ^ (j + 1)) 2, Nat.mul_mod_mul_left, z] at b
      exact b rfl
    rw [low_is j m hm a' b']
theorem low_pow (j : Nat) : low (2 ^ j) = 2 ^ j := by
  refine low_is j _ (Nat.pos_iff_ne_zero.mp (Nat.two_pow_pos j)) (Nat.mod_self _) fun z => ?_
  rw [Nat.mod_eq_of_lt (Nat.pow_lt_pow_right (by decide) (by omega))] at z
  have := Nat.two_pow_pos j
  omega

theorem ifT {c : Bool} {A B : Prop} (hc : c = true) (h : A) : if c = true then A else B := by
  rw [if_pos hc]
  exact h
theorem ifF {c : Bool} {A B : Prop} (hc : c = false) (h : B) : if c = true then A else B := by
  rw [hc, if_neg Bool.false_ne_true]
  exact h
theorem dF {p : Prop} [Decidable p] (h : ¬ p) : decide p = false := decide_eq_false h
theorem dT {p : Prop} [Decidable p] (h : p) : decide p = true := decide_eq_true h
theorem bits_nat {n : Nat} (h : n ≠ 0) : (Builtin.Int.intBits (n : Int) : Nat) = n.log2 + 1 := by
  unfold Builtin.Int.intBits
  rw [if_neg (show ¬ ((n : Int) == 0) = true by simpa using (show (n : Int) ≠ 0 by omega))]
  rfl
theorem gp_eq {n : Nat} (h : n ≠ 0) : (1 : Int) * 2 ^ (((Builtin.Int.intBits (n : Int) : Nat) : Int) - 1).toNat = ((2 ^ n.log2 : Nat) : Int) := by
  rw [bits_nat h, show (((n.log2 + 1 : Nat) : Int) - 1).toNat = n.log2 by omega, Int.one_mul]
  exact (PySem.W.kbt_cast _).symm
theorem gp_ok {n : Nat} (h : n ≠ 0) (hn : n < 2 ^ 200) : CShl 1 (((Builtin.Int.intBits (n : Int) : Nat) : Int) - 1) := by
  have a := log_lt h hn
  rw [bits_nat h, show (((n.log2 + 1 : Nat) : Int) - 1) = (n.log2 : Int) by omega]
  exact shl_ok (n := 1) (by decide) (by omega)
theorem nat_cast_lt {a : Nat} {n : Nat} (h : n < 2 ^ a) : (n : Int).natAbs < 2 ^ a := h
theorem pow_nat (k : Nat) : (2 : Int) ^ k = ((2 ^ k : Nat) : Int) := (PySem.W.kbt_cast k).symm
theorem p10 : (10 : Int) ^ Int.toNat 30 = ((10 ^ 30 : Nat) : Int) := by decide +kernel
theorem le6 : 6 ≤ sizeLine := by decide
theorem p100 : (10 ^ 30 : Nat) < 2 ^ 100 := by decide +kernel
def intAt (σ : L2.St) (i : Nat) : Nat := match σ[i]? with
  | some (some (V.int r)) => r.toNat
  | _ => 0
theorem le2 : 2 ≤ sizeLine := by decide
theorem cdiv_nat (a b : Nat) : ((a : Int) / (b : Int)) = ((a / b : Nat) : Int) := rfl

/-! ### heaps -/
theorem same_put {H H1 : Hp} {p : Addr} {o : HO} (h : Same H H1) (n : H p = none) : Same H (upd H1 p o) := fun b u e => by
  rw [upd_ne (ne_of_none e n)]
  exact h b u e
theorem same_new {H : Hp} {p : Addr} {o : HO} (n : H p = none) : Same H (upd H p o) := same_put (Same.refl H) n
theorem same_no {H H1 : Hp} {p : Addr} (h : Same H H1) (n : H1 p = none) : H p = none := h.free n
/-- all but p is as it was -/
def But (p : Addr) (H H' : Hp) : Prop := ∀ b o, H b = some o → b ≠ p → H' b = some o
theorem but_refl (p : Addr) (H : Hp) : But p H H := fun _ _ h _ => h
theorem but_trans {p : Addr} {H H1 H2 : Hp} (a : But p H H1) (b : But p H1 H2) : But p H H2 := fun c o h n => b c o (a c o h n) n
theorem but_of_same {p : Addr} {H H1 : Hp} (a : Same H H1) : But p H H1 := fun c o h _ => a c o h
theorem but_upd (p : Addr) (H : Hp) (o : HO) : But p H (upd H p o) := fun b u e n => by
  rw [upd_ne n]
  exact e
theorem but_fresh {p : Addr} {H0 H H1 : Hp} (s : Same H0 H) (n : H0 p = none) (b : But p H H1) : Same H0 H1 := fun c o e => b c o (s c o e) (ne_of_none e n)
/-! ### a bag of digits -/
def Bag (H : Hp) (p : Addr) : Prop := ∃ g m c : Int, H p = some (.lst [.int g, .int m, .int c]) ∧ 0 ≤ g ∧ 0 ≤ m ∧ m < 2147483648
theorem fm0 {a b : Int} (h : 0 < b) : 0 ≤ a.fmod b := by
  rw [Int.fmod_eq_emod_of_nonneg a (by omega)]
  exact Int.emod_nonneg a (by omega)
theorem fm1 {a b : Int} (h : 0 < b) : a.fmod b < b := by
  rw [Int.fmod_eq_emod_of_nonneg a (by omega)]
  exact Int.emod_lt_of_pos a h
theorem nz1 : (2147483647 : Int) ≠ 0 := by decide
theorem nz2 : (2147483629 : Int) ≠ 0 := by decide
section
variable {P : Program} {w : World} {K : PySem.W.Frag} {mg : Str → Option Value} {base : Heap}
def spTake : Sp := fun vs H Q _ => ∃ (p : Addr) (n : Int), vs = [.ref p, .int n] ∧ Bag H p ∧ 0 < n ∧ n.natAbs < 2 ^ 200 ∧
  ∀ r H', 0 ≤ r → r < n → Bag H' p → But p H H' → Q (.int r) H'
theorem ok_take (T : Txt K mg) : FnOk P w K mg base CX0 1 T.f_l_take T.d_l_take ["_law_bag_here", "_law_many"] spTake := by
  refine T.F_l_take.ok sc_l_take (fun vs H Q E h => ?_) (fun cdv A outer s H vs Q E hr h => ?_)
  · obtain ⟨p, n, rfl, _⟩ := h
    rfl
  · obtain ⟨p, n, rfl, ⟨g, m, c, hb, g0, m0, m1⟩, n0, n1, q⟩ := h
    refine ⟨_, (pss_cons (ps_if (pt_cmpR op_gt (pe_ix (r := rIxL K) ix_list (pv 0) pe_int (fun _ _ => rfl)) pe_int (nomark _)) (pss_cons (ps_set (i := 2) sc_l_take.nd rfl (.inl rfl) (pe_op op_modN (pe_ix (r := rIxL K) ix_list (pv 0) pe_int (fun _ _ => rfl)) (pv 1)))
        (pss_cons (ps_asg (pe_op op_fdivW (pe_ix (r := rIxL K) ix_list (pv 0) pe_int (fun _ _ => rfl)) (pv 1)) (pg_sub (pv 0) pe_int set_list))
        (pss_one (ps_ret (pv 2))))) pss_nil)
      (pss_cons (ps_asg (pe_op op_add (pe_ix (r := rIxL K) ix_list (pv 0) pe_int (fun _ _ => rfl)) pe_int) (pg_sub (pv 0) pe_int set_list))
      (pss_cons (ps_asg (pe_op op_modN (pe_op op_add (pe_op op_add (pe_op op_mul (pe_ix (r := rIxL K) ix_list (pv 0) pe_int (fun _ _ => rfl)) pe_int) (pe_op op_mul pe_int (pe_ix (r := rIxL K) ix_list (pv 0) pe_int (fun _ _ => rfl)))) pe_int) pe_int) (pg_sub (pv 0) pe_int set_list))
      (pss_one (ps_ret (pe_op op_modN (pe_op op_modN (pe_op op_pow (pe_op op_fdivW (pe_ix (r := rIxL K) ix_list (pv 0) pe_int (fun _ _ => rfl)) pe_int) pe_int) pe_int) (pv 1))))))), ?_⟩
    have hB : SqL K H p [.int g, .int m, .int c] := .inl (.inl hb)
    refine ⟨_, rfl, p, _, 0, .int g, rfl, rfl, hB, atI_nat (j := 0) rfl, _, _, rfl, rfl, _, rfl, ite2 (fun e => ?_) (fun e => ?_)⟩
    · refine ⟨_, rfl, p, _, 0, .int g, rfl, rfl, hB, atI_nat (j := 0) rfl, _, rfl, _, _, rfl, rfl, (by omega), ?_⟩
      refine ⟨_, rfl, p, _, 0, .int g, rfl, rfl, hB, atI_nat (j := 0) rfl, _, rfl, _, _, rfl, rfl, wide_div n0 n1 (by decide) (by decide), ?_⟩
      refine ⟨_, rfl, p, _, _, 0, rfl, rfl, hb, rfl, ?_⟩
      refine ⟨_, rfl, ?_⟩
      exact q _ _ (fm0 n0) (fm1 n0) ⟨g / n, m, c, upd_same, Int.ediv_nonneg g0 (by omega), m0, m1⟩ (but_upd _ _ _)
    · refine ⟨_, rfl, p, _, 2, .int c, rfl, rfl, hB, atI_nat (j := 2) rfl, _, _, rfl, rfl, ?_⟩
      refine ⟨_, rfl, p, _, _, 2, rfl, rfl, hb, rfl, ?_⟩
      have h2 : upd H p (.lst [.int g, .int m, .int (c + 1)]) p = some (.lst [.int g, .int m, .int (c + 1)]) := upd_same
      have hB2 : SqL K (upd H p (.lst [.int g, .int m, .int (c + 1)])) p [.int g, .int m, .int (c + 1)] := .inl (.inl h2)
      refine ⟨_, rfl, p, _, 1, .int m, rfl, rfl, hB2, atI_nat (j := 1) rfl, _, _, rfl, rfl, .inr ⟨by decide, by decide⟩, _, rfl, p, _, 2, .int (c + 1), rfl, rfl, hB2, atI_nat (j := 2) rfl, _, _, rfl, rfl, .inl ⟨by decide, by decide⟩, _, _, rfl, rfl, _, _, rfl, rfl, _, _, rfl, rfl, nz1, ?_⟩
      refine ⟨_, rfl, p, _, _, 1, rfl, rfl, h2, rfl, ?_⟩
      have m0' := fm0 (a := m * 69621 + 6007 * (c + 1) + 19) (show (0 : Int) < 2147483647 by decide)
      have m1' := fm1 (a := m * 69621 + 6007 * (c + 1) + 19) (show (0 : Int) < 2147483647 by decide)
      refine ⟨_, rfl, p, _, 1, _, rfl, rfl, .inl (.inl upd_same), atI_nat (j := 1) rfl, _, _, rfl, rfl, ⟨by decide, by decide⟩, _, _, rfl, rfl, ⟨by decide, by decide, ?_⟩, _, _, rfl, rfl, nz2, _, rfl, _, _, rfl, rfl, (by omega), ?_⟩
      · omega
      exact q _ _ (fm0 n0) (fm1 n0) ⟨g, _, c + 1, upd_same, g0, m0', by omega⟩ (but_trans (but_upd _ _ _) (but_upd _ _ _))
theorem le3 : 3 ≤ sizeLine := by decide
theorem nz3 : (8 : Int) ≠ 0 := by decide
theorem primes_at (k : Nat) : ∃ v : Int, 0 < v ∧ v < 2147483648 ∧ atI [V.int 2147483629, V.int 2147483587, V.int 2147483579, V.int 2147483563, V.int 2147483549, V.int 2147483543, V.int 2147483497, V.int 2147483489] ((k : Int).fmod 8) = some (.int v) := by
  have e : (k : Int).fmod 8 = ((k % 8 : Nat) : Int) := by
    rw [Int.fmod_eq_emod_of_nonneg _ (by decide)]
    rfl
  have h : k % 8 < 8 := Nat.mod_lt _ (by decide)
  rw [e]
  generalize k % 8 = j at h
  match j, h with
  | 0, _ => exact ⟨_, by decide, by decide, atI_nat (j := 0) rfl⟩
  | 1, _ => exact ⟨_, by decide, by decide, atI_nat (j := 1) rfl⟩
  | 2, _ => exact ⟨_, by decide, by decide, atI_nat (j := 2) rfl⟩
  | 3, _ => exact ⟨_, by decide, by decide, atI_nat (j := 3) rfl⟩
  | 4, _ => exact ⟨_, by decide, by decide, atI_nat (j := 4) rfl⟩
  | 5, _ => exact ⟨_, by decide, by decide, atI_nat (j := 5) rfl⟩
  | 6, _ => exact ⟨_, by decide, by decide, atI_nat (j := 6) rfl⟩
  | 7, _ => exact ⟨_, by decide, by decide, atI_nat (j := 7) rfl⟩
  | n + 8, h => exact absurd h (by omega)
def spBag (K : PySem.W.Frag) : Sp := fun vs H Q _ => ∃ (a : Addr) (ns : List Int) (k : Nat), vs = [.ref a, .int (k : Int)] ∧ SqL K H a (ns.map V.int) ∧ k ≤ 1000 ∧
  ∀ p H', H p = none → Same H H' → Bag H' p → Q (.ref p) H'
theorem ok_bag (T : Txt K mg) : FnOk P w K mg base CX0 1 T.f_l_bag T.d_l_bag ["_law_script", "_law_at"] (spBag K) := by
  refine T.F_l_bag.ok sc_l_bag (fun vs H Q E h => ?_) (fun cdv A outer s H vs Q E hr h => ?_)
  · obtain ⟨a, ns, k, rfl, _⟩ := h
    rfl
  · obtain ⟨a, ns, k, rfl, hS, hk, q⟩ := h
    refine ⟨_, (pss_cons (ps_set (i := 2) sc_l_bag.nd rfl (.inl rfl) pe_int)
      (C8.pss_cut (ps_if (pt_cmpR op_lt (pv 1) (pe_callB call_len_seq (by rfl) T.z_len (by decide +kernel) (pa_cons (pv 0) pa_nil)) (nomark _)) (pss_one (ps_set (i := 2) sc_l_bag.nd rfl (.inl rfl) (pe_ix (r := rIxL K) ix_list (pv 0) (pv 1) (fun _ _ => rfl)))) pss_nil)
      (pss_cons (ps_set (i := 3) sc_l_bag.nd rfl (.inl rfl) pe_int)
      (C8.pss_cut (ps_if (pt_cmpR op_ge (pe_callB call_abs (by rfl) T.z_abs (by decide +kernel) (pa_cons (pv 2) pa_nil)) (pe_op op_pow pe_int pe_int) (nomark _)) (pss_one (ps_set (i := 3) sc_l_bag.nd rfl (.inl rfl) (pe_callB call_abs (by rfl) T.z_abs (by decide +kernel) (pa_cons (pv 2) pa_nil)))) pss_nil)
      (pss_cons (ps_set (i := 4) sc_l_bag.nd rfl (.inl rfl) (pe_lst (pa_cons pe_int (pa_cons pe_int (pa_cons pe_int (pa_cons pe_int (pa_cons pe_int (pa_cons pe_int (pa_cons pe_int (pa_cons pe_int pa_nil))))))))))
      (pss_one (ps_ret (pe_lst (pa_cons (pv 3) (pa_cons (pe_op op_modN (pe_op op_pow (pe_op op_add (pe_op op_add (pe_op op_modN (pv 2) pe_int) (pe_op op_mul pe_int (pv 1))) pe_int) pe_int) (pe_ix (r := rIxL K) ix_list (pv 4) (pe_op op_modN (pv 1) pe_int) (fun _ _ => rfl))) (pa_cons pe_int pa_nil))))))))))), ?_⟩
    refine ⟨fun σ' H' => H' = H ∧ ∃ c : Int, σ' = [some (.ref a), some (.int (k : Int)), some (.int c), none, none], ?_, fun σ' H' hM => ?_⟩
    · refine ⟨_, rfl, _, rfl, a, _, rfl, .inl hS, _, _, rfl, rfl, _, rfl, ite2 (fun e => ?_) (fun e => ?_)⟩
      · have e2 := of_decide_eq_true e
        have e3 : k < ns.length := by
          rw [List.length_map] at e2
          omega
        have e4 : (ns.map V.int)[k]? = some (.int ns[k]) := by
          rw [List.getElem?_map, List.getElem?_eq_getElem e3]
          rfl
        exact ⟨_, rfl, _, rfl, a, _, _, _, rfl, rfl, hS, atI_nat e4, rfl, _, rfl⟩
      · exact ⟨rfl, _, rfl⟩
    · obtain ⟨rfl, c, rfl⟩ := hM
      refine ⟨fun σ'' H'' => H'' = H' ∧ ∃ g : Int, σ'' = [some (.ref a), some (.int (k : Int)), some (.int c), some (.int g), none] ∧ 0 ≤ g, ?_, fun σ'' H'' hM => ?_⟩
      · refine ⟨_, rfl, _, rfl, _, _, rfl, rfl, ⟨by decide, by decide, by decide⟩, _, _, rfl, rfl, _, rfl, ite2 (fun e => ?_) (fun e => ?_)⟩
        · refine ⟨_, rfl, _, rfl, rfl, _, rfl, ?_⟩
          split <;> omega
        · exact ⟨rfl, _, rfl, by decide⟩
      · obtain ⟨rfl, g, rfl, g0⟩ := hM
        refine ⟨by decide, fun o no => ?_⟩
        obtain ⟨v, v0, v1, hv⟩ := primes_at k
        have h0 := fm0 (a := c) (show (0 : Int) < 2147483647 by decide)
        have h1 := fm1 (a := c) (show (0 : Int) < 2147483647 by decide)
        refine ⟨_, rfl, _, rfl, _, _, rfl, rfl, nz1, _, rfl, _, _, rfl, rfl, .inl ⟨by decide, by decide⟩, _, _, rfl, rfl, _, _, rfl, rfl, _, _, rfl, rfl, ⟨by decide, by decide, by omega⟩, _, rfl, _, rfl, _, _, rfl, rfl, nz3, o, _, _, _, rfl, rfl, .inl (.inl upd_same), hv, _, _, rfl, rfl, by omega, ?_⟩
        refine ⟨le3, fun p np => ?_⟩
        have np' : H'' p = none := (same_new no).free np
        exact q _ _ np' (same_put (same_new no) np') ⟨g, _, 0, upd_same, g0, fm0 v0, by have := fm1 (a := (c.fmod 2147483647 + 104711 * (k : Int) + 23) ^ Int.toNat 5) v0; omega⟩
end
theorem but_put {p q : Addr} {H H1 : Hp} {o : HO} (b : But p H H1) (n : H1 q = none) : But p H (upd H1 q o) := fun c u e nc => by
  have e1 := b c u e nc
  rw [upd_ne (ne_of_none e1 n)]
  exact e1
theorem bag_put {p q : Addr} {H : Hp} {o : HO} (b : Bag H p) (n : H q = none) : Bag (upd H q o) p := by
  obtain ⟨g, m, c, e, r⟩ := b
  exact ⟨g, m, c, by rw [upd_ne (ne_of_none e n)]; exact e, r⟩
theorem bag_same {p : Addr} {H H1 : Hp} (b : Bag H p) (s : Same H H1) : Bag H1 p := by
  obtain ⟨g, m, c, e, r⟩ := b
  exact ⟨g, m, c, s _ _ e, r⟩
theorem bag_ne {p q : Addr} {H : Hp} (b : Bag H p) (n : H q = none) : q ≠ p := by
  obtain ⟨g, m, c, e, r⟩ := b
  exact (ne_of_none e n).symm

end Ob

set_option Elab.async false
set_option linter.all false
set_option maxRecDepth 100000
set_option maxHeartbeats 1000000
namespace Ob
open PySem PySem.Spec PyProof.Rows L2
open LamX (Tabs TabB TabS ExtN)

/-- nothing stands there -/
structure Fr (H : Hp) (p : Addr) : Prop where
  h : H p = none
theorem neN {H : Hp} {a b : Addr} {o : HO} (h' : Fr H b) (h : H a = some o) : a ≠ b := ne_of_none h h'.h
theorem neN' {H : Hp} {a b : Addr} {o : HO} (h' : Fr H a) (h : H b = some o) : a ≠ b := (ne_of_none h h'.h).symm
theorem atNew {H : Hp} {a p : Addr} {o u : HO} (n : Fr H p) (h : H a = some o) : upd H p u a = some o := (upd_ne (ne_of_none h n.h)).trans h
theorem atNe {H : Hp} {a p : Addr} {o u : HO} (n : a ≠ p) (h : H a = some o) : upd H p u a = some o := (upd_ne n).trans h
theorem atSame {H H1 : Hp} {a : Addr} {o : HO} (s : Same H H1) (h : H a = some o) : H1 a = some o := s _ _ h
/-- all is kept but what stands in cs -/
structure Kp (cs : List Addr) (H H' : Hp) : Prop where
  at_ : ∀ b o, H b = some o → b ∉ cs → H' b = some o
theorem kp_refl (cs : List Addr) (H : Hp) : Kp cs H H := ⟨fun _ _ e _ => e⟩
theorem kp_trans {cs : List Addr} {H H1 H2 : Hp} (a : Kp cs H H1) (b : Kp cs H1 H2) : Kp cs H H2 := ⟨fun c o e n => b.at_ c o (a.at_ c o e n) n⟩
theorem kp_up {cs : List Addr} {H H1 : Hp} {a : Addr} {o : HO} (m : a ∈ cs) (h : Kp cs H H1) : Kp cs H (upd H1 a o) := ⟨fun b u e n => by
  rw [upd_ne (show b ≠ a from fun z => n (by rw [z]; exact m))]
  exact h.at_ b u e n⟩
theorem kp_new {cs : List Addr} {H H1 : Hp} {a : Addr} {o : HO} (m : Fr H1 a) (h : Kp cs H H1) : Kp cs H (upd H1 a o) := ⟨fun b u e n => by
  rw [upd_ne (ne_of_none (h.at_ b u e n) m.h)]
  exact h.at_ b u e n⟩
theorem kp_newF {cs : List Addr} {H H1 : Hp} {a : Addr} {o : HO} (m : Fr H a) (h : Kp cs H H1) : Kp cs H (upd H1 a o) := ⟨fun b u e n => by
  rw [upd_ne (ne_of_none e m.h)]
  exact h.at_ b u e n⟩
theorem kp_same {cs : List Addr} {H H1 : Hp} (s : Same H H1) : Kp cs H H1 := ⟨fun b o e _ => s b o e⟩
theorem kp_more {cs ds : List Addr} {H H1 : Hp} (h : Kp cs H H1) (m : ∀ a ∈ cs, a ∈ ds) : Kp ds H H1 := ⟨fun b o e n => h.at_ b o e fun z => n (m b z)⟩
/-- what is changed is new, as H sees it -/
theorem kp_fresh {cs ds : List Addr} {H H1 H2 : Hp} (a : Kp cs H H1) (b : Kp ds H1 H2) (n : ∀ x ∈ ds, x ∈ cs ∨ Fr H x) : Kp cs H H2 := ⟨fun x o e m => b.at_ x o (a.at_ x o e m) fun z => (n x z).elim m fun f => ne_of_none e f.h rfl⟩
theorem atKp {cs : List Addr} {H H1 : Hp} {a : Addr} {o : HO} (s : Kp cs H H1) (n : a ∉ cs) (h : H a = some o) : H1 a = some o := s.at_ _ _ h n
theorem not_nil {a : Addr} : a ∉ ([] : List Addr) := fun z => nomatch z
theorem not_cons {a b : Addr} {l : List Addr} (h : a ≠ b) (t : a ∉ l) : a ∉ b :: l := fun z => (List.mem_cons.mp z).elim h t
theorem not_app {a : Addr} {l m : List Addr} (h : a ∉ l) (t : a ∉ m) : a ∉ l ++ m := fun z => (List.mem_append.mp z).elim h t
theorem sqlOf {K : PySem.W.Frag} {H : Hp} {a : Addr} {xs : List V} (h : H a = some (.lst xs)) : SqL K H a xs := .inl (.inl h)
theorem sqtOf {K : PySem.W.Frag} {H : Hp} {a : Addr} {xs : List V} (h : H a = some (.tup xs)) : SqT K H a xs := .inl (.inl h)
theorem sqlSame {K : PySem.W.Frag} {H H1 : Hp} {a : Addr} {xs : List V} (s : Same H H1) (h : SqL K H a xs) : SqL K H1 a xs := s.seq h
theorem neO {H : Hp} {a b : Addr} {x y : HO} (ha : H a = some x) (hb : H b = some y) (n : x ≠ y) : a ≠ b := fun z => by
  rw [z, hb] at ha
  exact n (Option.some.inj ha).symm
theorem noneOf {H H1 : Hp} {p : Addr} (h : Fr H1 p) (k : ∀ o, H p = some o → ∃ u, H1 p = some u) : Fr H p := ⟨by
  cases e : H p with
  | none => rfl
  | some o =>
    obtain ⟨u, z⟩ := k o e
    rw [h.h] at z
    cases z⟩
theorem same_newF {H : Hp} {p : Addr} {o : HO} (n : Fr H p) : Same H (upd H p o) := same_new n.h
theorem same_putF {H H1 : Hp} {p : Addr} {o : HO} (n : Fr H1 p) (h : Same H H1) : Same H (upd H1 p o) := h.trans (same_new n.h)
theorem same_putG {H H1 : Hp} {p : Addr} {o : HO} (n : Fr H p) (h : Same H H1) : Same H (upd H1 p o) := same_put h n.h
theorem memA {a : Addr} {l : List Addr} : a ∈ a :: l := List.mem_cons_self ..
theorem memB {a b : Addr} {l : List Addr} (h : a ∈ l) : a ∈ b :: l := List.mem_cons_of_mem _ h
theorem memL {a : Addr} {l m : List Addr} (h : a ∈ l) : a ∈ l ++ m := List.mem_append.mpr (.inl h)
theorem memR {a : Addr} {l m : List Addr} (h : a ∈ m) : a ∈ l ++ m := List.mem_append.mpr (.inr h)
theorem kp_transR {cs : List Addr} {H H1 H2 : Hp} (b : Kp cs H1 H2) (a : Kp cs H H1) : Kp cs H H2 := kp_trans a b
theorem kp_sameR {cs : List Addr} {H H1 H2 : Hp} (b : Same H1 H2) (a : Kp cs H H1) : Kp cs H H2 := kp_trans a (kp_same b)
theorem kp_freshR {cs ds : List Addr} {H H1 H2 : Hp} (b : Kp ds H1 H2) (n : ∀ x ∈ ds, x ∈ cs ∨ Fr H x) (a : Kp cs H H1) : Kp cs H H2 := kp_fresh a b n
theorem same_transR {H H1 H2 : Hp} (b : Same H1 H2) (a : Same H H1) : Same H H2 := a.trans b
theorem subNil {P : Addr → Prop} : ∀ x ∈ ([] : List Addr), P x := fun _ h => nomatch h
theorem subCons {P : Addr → Prop} {a : Addr} {l : List Addr} (h : P a) (t : ∀ x ∈ l, P x) : ∀ x ∈ a :: l, P x := fun x m => (List.mem_cons.mp m).elim (fun e => by rw [e]; exact h) (t x)
theorem subApp {P : Addr → Prop} {l m : List Addr} (h : ∀ x ∈ l, P x) (t : ∀ x ∈ m, P x) : ∀ x ∈ l ++ m, P x := fun x e => (List.mem_append.mp e).elim (h x) (t x)
theorem sqtAll {K : PySem.W.Frag} {H : Hp} {a : Addr} {xs : List V} (h : ∀ H, SqT K H a xs) : SqT K H a xs := h H
theorem sqtSame {K : PySem.W.Frag} {H H1 : Hp} {a : Addr} {xs : List V} (s : Same H H1) (h : SqT K H a xs) : SqT K H1 a xs := by
  rcases h with (h | ⟨o, h⟩) | h
  · exact .inl (.inl (s _ _ h))
  · exact .inl (.inr ⟨o, s _ _ h⟩)
  · exact .inr h
theorem frUp {H : Hp} {a p : Addr} {o : HO} (n : p ≠ a) (h : Fr H p) : Fr (upd H a o) p := ⟨by rw [upd_ne n]; exact h.h⟩
theorem bag_putF {p q : Addr} {H : Hp} {o : HO} (n : Fr H q) (b : Bag H p) : Bag (upd H q o) p := bag_put b n.h
theorem bag_kpR {p : Addr} {cs : List Addr} {H H1 : Hp} (k : Kp cs H H1) (n : p ∉ cs) (h : Bag H p) : Bag H1 p := by
  obtain ⟨g, m, c, e, z⟩ := h
  exact ⟨g, m, c, k.at_ _ _ e n, z⟩

/-- a promise that a run does not open by itself -/
structure Bx (p : Prop) : Prop where
  h : p
def bx (sp : Sp) : Sp := fun vs H Q E => Bx (sp vs H Q E)
theorem fnBx {P : Program} {w : World} {K : PySem.W.Frag} {mg : Str → Option Value} {base : Heap} {CX : CXT} {k : Nat} {f : Addr} {fd : FuncData} {ps : List Str} {sp : Sp} (F : FnOk P w K mg base CX k f fd ps sp) : FnOk P w K mg base CX k f fd ps (bx sp) := F.imp fun _ _ _ _ h => h.h

end Ob

set_option Elab.async false
set_option linter.all false
set_option maxRecDepth 100000
set_option maxHeartbeats 1000000
namespace Ob
open PySem PySem.Spec PyProof.Rows L2
open LamX (Tabs TabB TabS ExtN)

set_option hygiene false in
local macro_rules
  | `(tactic| kp_flats) => `(tactic| first
    | assumption
    | exact upd_same
    | (apply atNew; assumption; kp_flats)
    | (apply atNe; (next => kbo_bools); kp_flats)
    | (apply atSame; assumption; kp_flats)
    | (apply atKp; assumption; (next => kaf_pre); kp_flats))
set_option hygiene false in
local macro_rules
  | `(tactic| kaf_pre) => `(tactic| first
    | assumption
    | exact not_nil
    | (apply not_cons; (next => kbo_bools); kaf_pre)
    | (apply not_app; (next => kaf_pre); kaf_pre))
set_option hygiene false in
local macro_rules
  | `(tactic| kbo_bools) => `(tactic| first
    | assumption
    | (apply Ne.symm; assumption)
    | (apply neN; assumption; kp_flats)
    | (apply neN'; assumption; kp_flats))
set_option hygiene false in
local macro_rules
  | `(tactic| o_reads) => `(tactic| first
    | with_reducible rfl
    | assumption
    | rfl
    | kp_flats
    | (show SqL _ _ _ _; first | assumption | (apply sqlOf; kp_flats) | (apply sqlSame; assumption; o_reads))
    | (show SqT _ _ _ _; first | assumption | (apply sqtOf; kp_flats) | (apply sqtAll; assumption) | (apply sqtSame; assumption; o_reads))
    | (show Cls _ _; first | exact T.cl_Calls | exact T.cl_Outer | exact T.cl_Timed)
    | (show NoAttr _ _ _; first | exact T.n_Calls_entries | exact T.n_Calls_running | exact T.n_Outer_calls | exact T.n_Outer_push_call | exact T.n_Outer_pop_call | exact T.n_Outer_ask_call | exact T.n_Outer_order | exact T.n_Outer_broken | exact T.n_Timed_outer | exact T.n_Timed_given | exact T.n_Timed_now | exact T.n_Timed_held | exact T.n_Timed_limits | exact T.n_Timed_ends)
    | (apply Or.inl; o_reads)
    | (apply Or.inr; o_reads)
    | (apply And.intro; (next => o_reads); o_reads)
    | (apply Exists.intro; o_reads)
    | exact Nat.le_of_ble_eq_true rfl
    | exact Nat.succ_ne_zero _
    | (show Fr _ _; kba_ints)
    | (show Same _ _; kd_subs)
    | (show Kp _ _ _; kxs_still)
    | (show (_ : Nat) ≤ _; simp only [List.length_append, List.length_map, List.length_cons, List.length_nil, List.length_take, List.length_drop, List.length_replicate, List.length_range, sizeLine_eq]; omega)
    | (show _ = none; apply Fr.h; kba_ints)
    | (show Bag _ _; first | assumption | (apply bag_putF; assumption; o_reads) | (apply bag_neF; (next => kbo_bools); o_reads) | (apply bag_kpR; assumption; (next => kaf_pre); o_reads))
    | omega
    | decide)
local macro_rules
  | `(tactic| o_readsAll) => `(tactic| repeat (first
    | (refine fun (pNew : Addr) (nNew : _ = none) => ?_; replace nNew := Fr.mk nNew)
    | (refine fun (xNew dNew : Addr) (nNew : _ = none) (mNew : _ = none) (eNew : dNew ≠ xNew) => ?_; replace nNew := Fr.mk nNew; replace mNew := Fr.mk mNew)
    | (apply And.intro; next => o_reads)
    | apply Exists.intro (α := V)
    | apply Exists.intro (α := Addr)
    | apply Exists.intro (α := Int)
    | apply Exists.intro (α := Bool)
    | apply Exists.intro (α := List V)
    | apply Exists.intro (α := List Nat)
    | apply Exists.intro (α := List (Str × V))
    | apply Exists.intro (α := List _)
    | apply Exists.intro (α := Str)
    | apply Exists.intro (α := HO)
    | apply Exists.intro (α := Sp)
    | apply Exists.intro (α := VK)))
set_option hygiene false in
local macro_rules
  | `(tactic| kba_ints) => `(tactic| first
    | assumption
    | (apply frUp; (first | assumption | (apply Ne.symm; assumption)); kba_ints)
    | (apply noneOf; assumption; intro oF eF; apply Exists.intro; kp_flats)
    | (apply frUp; (next => kbo_bools); kba_ints))
set_option hygiene false in
local macro_rules
  | `(tactic| kxs_still) => `(tactic| first
    | assumption
    | exact kp_refl _ _
    | (apply kp_newF; assumption; kxs_still)
    | (apply kp_new; assumption; kxs_still)
    | (apply kp_up; (next => o_fieldsN); kxs_still)
    | (apply kp_new; (next => kba_ints); kxs_still)
    | (apply kp_sameR; assumption; kxs_still)
    | (apply kp_transR; assumption; kxs_still)
    | (apply kp_freshR; assumption; (next => kaf_suf); kxs_still))
set_option hygiene false in
local macro_rules
  | `(tactic| kaf_suf) => `(tactic| first
    | assumption
    | exact subNil
    | (apply subCons; (first | (apply Or.inl; o_fieldsN) | (apply Or.inr; kba_ints)); kaf_suf)
    | (apply subApp; (next => kaf_suf); kaf_suf))
set_option hygiene false in
local macro_rules
  | `(tactic| o_fieldsN) => `(tactic| first
    | assumption
    | exact memA
    | (apply memB; o_fieldsN)
    | (apply memL; o_fieldsN)
    | (apply memR; o_fieldsN))
set_option hygiene false in
local macro_rules
  | `(tactic| kd_subs) => `(tactic| first
    | assumption
    | exact Same.refl _
    | (apply same_putF; assumption; kd_subs)
    | (apply same_putG; assumption; kd_subs)
    | (apply same_putF; (next => kba_ints); kd_subs)
    | (apply same_transR; assumption; kd_subs))

def Mu (H : Hp) (cs : List Addr) : Prop := ∀ a ∈ cs, ∃ o, H a = some o ∧ (∀ xs, o ≠ .tup xs) ∧ ∀ φ, o ≠ .ext φ
theorem Mu.tup {H : Hp} {cs : List Addr} {t : Addr} {xs : List V} (n : Mu H cs) (h : H t = some (.tup xs)) : t ∉ cs := fun m => by
  obtain ⟨o, e, k, _⟩ := n t m
  rw [h] at e
  exact k xs (Option.some.inj e).symm
theorem Mu.ext {H : Hp} {cs : List Addr} {t : Addr} {φ : Heap → Prop} (n : Mu H cs) (h : H t = some (.ext φ)) : t ∉ cs := fun m => by
  obtain ⟨o, e, _, k⟩ := n t m
  rw [h] at e
  exact k φ (Option.some.inj e).symm
theorem Mu.fr {H : Hp} {cs : List Addr} {a : Addr} (n : Mu H cs) (f : Fr H a) : a ∉ cs := fun m => by
  obtain ⟨o, e, _⟩ := n a m
  rw [f.h] at e
  cases e
theorem Mu.sub {H : Hp} {cs ds : List Addr} (n : Mu H cs) (s : ∀ a ∈ ds, a ∈ cs) : Mu H ds := fun a m => n a (s a m)
theorem mu_nil {H : Hp} : Mu H [] := fun _ m => nomatch m
theorem mu_cons {H : Hp} {a : Addr} {o : HO} {l : List Addr} (e : H a = some o) (k : ∀ xs, o ≠ .tup xs) (k2 : ∀ φ, o ≠ .ext φ) (t : Mu H l) : Mu H (a :: l) := fun x m => (List.mem_cons.mp m).elim (fun z => by rw [z]; exact ⟨o, e, k, k2⟩) (t x)
theorem mu_lst {H : Hp} {a : Addr} {xs : List V} {l : List Addr} (e : H a = some (.lst xs)) (t : Mu H l) : Mu H (a :: l) := mu_cons e (fun _ z => nomatch z) (fun _ z => nomatch z) t
theorem mu_ins {H : Hp} {a C dx : Addr} {fs : List (Str × V)} {l : List Addr} (e : H a = some (.ins C dx fs)) (t : Mu H l) : Mu H (a :: l) := mu_cons e (fun _ z => nomatch z) (fun _ z => nomatch z) t
theorem mu_app {H : Hp} {l m : List Addr} (a : Mu H l) (b : Mu H m) : Mu H (l ++ m) := fun x h => (List.mem_append.mp h).elim (a x) (b x)
/-- what does not change stays; what changes is told again -/
theorem Mu.kp {H H1 : Hp} {cs ds : List Addr} (n : Mu H cs) (k : Kp ds H H1) (m : Mu H1 ds) : Mu H1 cs := fun a ha => by
  by_cases e : a ∈ ds
  · exact m a e
  · obtain ⟨o, h1, h2⟩ := n a ha
    exact ⟨o, k.at_ _ _ h1 e, h2⟩
theorem Mu.same {H H1 : Hp} {cs : List Addr} (n : Mu H cs) (s : Same H H1) : Mu H1 cs := fun a m => (n a m).imp fun _ z => ⟨s _ _ z.1, z.2⟩
theorem kp_tup {cs : List Addr} {H H1 : Hp} (k : Kp cs H H1) (n : Mu H cs) {t : Addr} {xs : List V} (h : H t = some (.tup xs)) : H1 t = some (.tup xs) := k.at_ _ _ h (n.tup h)

set_option pp.maxSteps 900
/-! ### the entries of a walk -/
abbrev nV (k : Nat) : V := .int (k : Int)
def WEnt (H : Hp) (x : V) (e : Str × Nat) : Prop := ∃ p : Addr, x = .ref p ∧ H p = some (.tup [.str e.1, .int (e.2 : Int)])
theorem WEnt.kp {H H1 : Hp} {x : V} {e : Str × Nat} {cs : List Addr} (h : WEnt H x e) (k : Kp cs H H1) (m : Mu H cs) : WEnt H1 x e := by
  obtain ⟨p, h1, h2⟩ := h
  exact ⟨p, h1, kp_tup k m h2⟩
structure WLog (H : Hp) (xs : List V) (es : List (Str × Nat)) : Prop where
  len : xs.length = es.length
  at_ : ∀ (q : Nat) (x : V) (e : Str × Nat), xs[q]? = some x → es[q]? = some e → WEnt H x e
theorem WLog.kp {H H1 : Hp} {xs : List V} {es : List (Str × Nat)} {cs : List Addr} (h : WLog H xs es) (k : Kp cs H H1) (m : Mu H cs) : WLog H1 xs es := ⟨h.len, fun q x e a b => (h.at_ q x e a b).kp k m⟩
theorem WLog.nil {H : Hp} : WLog H [] [] := ⟨rfl, fun q x e z => by cases q <;> cases z⟩
theorem WLog.app {H : Hp} {xs ys : List V} {es fs : List (Str × Nat)} (h : WLog H xs es) (g : WLog H ys fs) : WLog H (xs ++ ys) (es ++ fs) := by
  refine ⟨by rw [List.length_append, List.length_append, h.len, g.len], fun q x e a b => ?_⟩
  by_cases c : q < xs.length
  · rw [List.getElem?_append_left c] at a
    rw [List.getElem?_append_left (by rw [← h.len]; exact c)] at b
    exact h.at_ q x e a b
  · rw [List.getElem?_append_right (by omega)] at a
    rw [List.getElem?_append_right (by rw [← h.len]; omega), ← h.len] at b
    exact g.at_ _ x e a b
theorem WLog.one {H : Hp} {x : V} {e : Str × Nat} (h : WEnt H x e) : WLog H [x] [e] := ⟨rfl, fun q y d a b => by
  match q, a, b with
  | 0, a, b =>
    cases a
    cases b
    exact h
  | q + 1, a, _ => cases q <;> cases a⟩
theorem wstep {H0 H1 : Hp} {D t : Addr} {ys : List V} {es : List (Str × Nat)} {e : Str × Nat} (fD : Fr H0 D) (s : Same H0 H1) (eD : H1 D = some (.lst ys)) (wl : WLog H1 ys es) (nt : H1 t = none) :
    upd H1 t (.tup [.str e.1, .int (e.2 : Int)]) D = some (.lst ys) ∧ Same H0 (upd (upd H1 t (.tup [.str e.1, .int (e.2 : Int)])) D (.lst (ys ++ [.ref t]))) ∧ ∃ zs, upd (upd H1 t (.tup [.str e.1, .int (e.2 : Int)])) D (.lst (ys ++ [.ref t])) D = some (.lst zs) ∧ WLog (upd (upd H1 t (.tup [.str e.1, .int (e.2 : Int)])) D (.lst (ys ++ [.ref t]))) zs (es ++ [e]) := by
  have ft := Fr.mk nt
  have st : Same H1 (upd H1 t (.tup [.str e.1, .int (e.2 : Int)])) := same_newF ft
  have eD2 := st _ _ eD
  have mD : Mu (upd H1 t (.tup [.str e.1, .int (e.2 : Int)])) [D] := mu_lst eD2 mu_nil
  have kD : Kp [D] (upd H1 t (.tup [.str e.1, .int (e.2 : Int)])) (upd (upd H1 t (.tup [.str e.1, .int (e.2 : Int)])) D (.lst (ys ++ [.ref t]))) := kp_up memA (kp_refl _ _)
  exact ⟨eD2, same_putG fD (s.trans st), _, upd_same, ((wl.kp (kp_same (cs := []) st) mu_nil).kp kD mD).app (WLog.one (WEnt.kp ⟨t, rfl, upd_same⟩ kD mD))⟩
theorem take_map {α β : Type} (f : α → β) {l : List α} {i : Nat} {x : α} (h : l[i]? = some x) : (l.take (i + 1)).map f = (l.take i).map f ++ [f x] := by
  rw [List.take_succ, h, List.map_append]
  rfl
section
variable {P : Program} {w : World} {K : PySem.W.Frag} {mg : Str → Option Value} {base : Heap}
def spPush : Sp := fun vs H Q _ => ∃ (a : Addr) (ns : List Nat), vs = [.ref a] ∧ H a = some (.lst (ns.map nV)) ∧ ns.length < 4000000 ∧ ∀ p xs H', Fr H p → Same H H' → H' p = some (.lst xs) → WLog H' xs (ns.map fun i => ("push", i)) → Q (.ref p) H'
theorem ok_push (T : Txt K mg) : FnOk P w K mg base CX0 1 T.f_plan_pushes T.d_plan_pushes ["numbers"] spPush := by
  refine T.F_plan_pushes.ok sc_plan_pushes (fun vs H Q E h => ?_) (fun cdv A outer s H vs Q E hr h => ?_)
  · obtain ⟨a, ns, rfl, _⟩ := h
    rfl
  · obtain ⟨a, ns, rfl, ha, hn, q⟩ := h
    refine ⟨_, (pss_one (ps_ret (pe_lc (own := [("number", 1)]) (g := gName 1) (tt := tYes) rfl sc_plan_pushes.nd (pi_list (pv 0)) (blkOk_by (N := n_plan_pushes) (sc := defScope s_plan_pushes) (by decide +kernel)) (fun _ _ _ _ _ => (pg_name (i := 1) sc_plan_pushes.nd rfl (.inl rfl))) (fun _ _ _ _ _ => pts_nil) (fun _ _ _ _ _ => (pe_tup (pa_cons pe_str (pa_cons (pv 1) pa_nil))))))), ?_⟩
    refine ⟨_, rfl, a, rfl, ⟨_, sqlOf ha⟩, fun D nD => ?_⟩
    have fD := Fr.mk nD
    refine lc_it (walk_list (K := K) (a := a) (xs := ns.map nV)) (fun i H' => Same H H' ∧ ∃ ys, H' D = some (.lst ys) ∧ WLog H' ys ((ns.take i).map fun i => (("push" : Str), i))) ⟨same_newF fD, [], upd_same, WLog.nil⟩ (fun i H' _ z => sqlOf (z.1 _ _ ha)) ?_ ?_
    · rintro i x H1 H2 hi ⟨s1, ys, eD, wl⟩ ⟨rfl, hx⟩
      have li := List.length_map (as := ns) nV
      obtain ⟨n, hn', rfl⟩ : ∃ n : Nat, ns[i]? = some n ∧ x = .int (n : Int) := by
        rw [List.getElem?_map] at hx
        obtain ⟨n, h1, h2⟩ := Option.map_eq_some_iff.mp hx
        exact ⟨n, h1, h2.symm⟩
      refine ⟨rfl, ?_⟩
      unfold tYes
      refine ifT rfl ?_
      refine ⟨_, rfl, le2, fun t nt => ?_⟩
      obtain ⟨z1, z2, z3⟩ := wstep (e := ("push", n)) fD s1 eD wl nt
      refine ⟨ys, z1, ?_, z2, ?_⟩
      · rw [wl.len, List.length_map, sizeLine_eq]
        have := List.length_take_le i ns
        omega
      · rw [take_map (fun i => (("push" : Str), i)) hn']
        exact z3
    · rintro H1 ⟨s1, ys, eD, wl⟩
      have hl : ns.length = ns.length := rfl
      rw [List.length_map, ← hl, List.take_length] at wl
      exact q _ _ _ fD s1 eD wl
def spPops : Sp := fun vs H Q _ => ∃ (a : Addr) (ns : List Nat), vs = [.ref a] ∧ H a = some (.lst (ns.map nV)) ∧ ns.length < 4000000 ∧ ∀ p xs H', Fr H p → Same H H' → H' p = some (.lst xs) → WLog H' xs (ns.reverse.map fun i => ("pop", i)) → Q (.ref p) H'
theorem ok_pops (T : Txt K mg) : FnOk P w K mg base CX0 1 T.f_plan_pops T.d_plan_pops ["numbers"] spPops := by
  refine T.F_plan_pops.ok sc_plan_pops (fun vs H Q E h => ?_) (fun cdv A outer s H vs Q E hr h => ?_)
  · obtain ⟨a, ns, rfl, _⟩ := h
    rfl
  · obtain ⟨a, ns, rfl, ha, hn, q⟩ := h
    refine ⟨_, (pss_one (ps_ret (pe_lc (own := [("number", 1)]) (g := gName 1) (tt := tYes) rfl sc_plan_pops.nd (RT.pi_revA (by rfl) T.z_reversed (pv 0)) (blkOk_by (N := n_plan_pops) (sc := defScope s_plan_pops) (by decide +kernel)) (fun _ _ _ _ _ => (pg_name (i := 1) sc_plan_pops.nd rfl (.inl rfl))) (fun _ _ _ _ _ => pts_nil) (fun _ _ _ _ _ => (pe_tup (pa_cons pe_str (pa_cons (pv 1) pa_nil))))))), ?_⟩
    refine ⟨_, rfl, a, _, rfl, .inl ⟨sqlOf ha, fun D nD => ?_⟩⟩
    have fD := Fr.mk nD
    refine lc_it (walk_rev (K := K) (a := a) (xs := ns.map nV)) (fun i H' => Same H H' ∧ ∃ ys, H' D = some (.lst ys) ∧ WLog H' ys ((ns.reverse.take i).map fun i => (("pop" : Str), i))) ⟨same_newF fD, [], upd_same, WLog.nil⟩ (fun i H' _ z => sqlOf (z.1 _ _ ha)) ?_ ?_
    · rintro i x H1 H2 hi ⟨s1, ys, eD, wl⟩ ⟨rfl, hx⟩
      have li := List.length_map (as := ns) nV
      obtain ⟨n, hn', rfl⟩ : ∃ n : Nat, ns.reverse[i]? = some n ∧ x = .int (n : Int) := by
        rw [List.getElem?_map] at hx
        obtain ⟨n, h1, h2⟩ := Option.map_eq_some_iff.mp hx
        rw [li] at h1 hi
        exact ⟨n, by rw [List.getElem?_reverse hi]; exact h1, h2.symm⟩
      refine ⟨rfl, ?_⟩
      unfold tYes
      refine ifT rfl ?_
      refine ⟨_, rfl, le2, fun t nt => ?_⟩
      obtain ⟨z1, z2, z3⟩ := wstep (e := ("pop", n)) fD s1 eD wl nt
      refine ⟨ys, z1, ?_, z2, ?_⟩
      · rw [wl.len, List.length_map, sizeLine_eq]
        have := List.length_take_le i ns.reverse
        rw [li] at hi
        omega
      · rw [take_map (fun i => (("pop" : Str), i)) hn']
        exact z3
    · rintro H1 ⟨s1, ys, eD, wl⟩
      have hl : ns.reverse.length = ns.length := List.length_reverse
      rw [List.length_map, ← hl, List.take_length] at wl
      exact q _ _ _ fD s1 eD wl
end
end Ob

set_option Elab.async false
set_option linter.all false
set_option maxRecDepth 100000
set_option maxHeartbeats 1000000
namespace Ob
open PySem PySem.Spec PyProof.Rows L2
open LamX (Tabs TabB TabS ExtN)

set_option hygiene false in
local macro_rules
  | `(tactic| kp_flats) => `(tactic| first
    | assumption
    | exact upd_same
    | (apply atNew; assumption; kp_flats)
    | (apply atNe; (next => kbo_bools); kp_flats)
    | (apply atSame; assumption; kp_flats)
    | (apply atKp; assumption; (next => kaf_pre); kp_flats))
set_option hygiene false in
local macro_rules
  | `(tactic| kaf_pre) => `(tactic| first
    | assumption
    | exact not_nil
    | (apply not_cons; (next => kbo_bools); kaf_pre)
    | (apply not_app; (next => kaf_pre); kaf_pre))
set_option hygiene false in
local macro_rules
  | `(tactic| kbo_bools) => `(tactic| first
    | assumption
    | (apply Ne.symm; assumption)
    | (apply neN; assumption; kp_flats)
    | (apply neN'; assumption; kp_flats))
set_option hygiene false in
local macro_rules
  | `(tactic| o_reads) => `(tactic| first
    | with_reducible rfl
    | assumption
    | rfl
    | kp_flats
    | (show SqL _ _ _ _; first | assumption | (apply sqlOf; kp_flats) | (apply sqlSame; assumption; o_reads))
    | (show SqT _ _ _ _; first | assumption | (apply sqtOf; kp_flats) | (apply sqtAll; assumption) | (apply sqtSame; assumption; o_reads))
    | (show Cls _ _; first | exact T.cl_Calls | exact T.cl_Outer | exact T.cl_Timed)
    | (show NoAttr _ _ _; first | exact T.n_Calls_entries | exact T.n_Calls_running | exact T.n_Outer_calls | exact T.n_Outer_push_call | exact T.n_Outer_pop_call | exact T.n_Outer_ask_call | exact T.n_Outer_order | exact T.n_Outer_broken | exact T.n_Timed_outer | exact T.n_Timed_given | exact T.n_Timed_now | exact T.n_Timed_held | exact T.n_Timed_limits | exact T.n_Timed_ends)
    | (apply Or.inl; o_reads)
    | (apply Or.inr; o_reads)
    | (apply And.intro; (next => o_reads); o_reads)
    | (apply Exists.intro; o_reads)
    | exact Nat.le_of_ble_eq_true rfl
    | exact Nat.succ_ne_zero _
    | (show Fr _ _; kba_ints)
    | (show Same _ _; kd_subs)
    | (show Kp _ _ _; kxs_still)
    | (show (_ : Nat) ≤ _; simp only [List.length_append, List.length_map, List.length_cons, List.length_nil, List.length_take, List.length_drop, List.length_replicate, List.length_range, sizeLine_eq]; omega)
    | (show _ = none; apply Fr.h; kba_ints)
    | (show Bag _ _; first | assumption | (apply bag_putF; assumption; o_reads) | (apply bag_neF; (next => kbo_bools); o_reads) | (apply bag_kpR; assumption; (next => kaf_pre); o_reads))
    | omega
    | decide)
local macro_rules
  | `(tactic| o_readsAll) => `(tactic| repeat (first
    | (refine fun (pNew : Addr) (nNew : _ = none) => ?_; replace nNew := Fr.mk nNew)
    | (refine fun (xNew dNew : Addr) (nNew : _ = none) (mNew : _ = none) (eNew : dNew ≠ xNew) => ?_; replace nNew := Fr.mk nNew; replace mNew := Fr.mk mNew)
    | (apply And.intro; next => o_reads)
    | apply Exists.intro (α := V)
    | apply Exists.intro (α := Addr)
    | apply Exists.intro (α := Int)
    | apply Exists.intro (α := Bool)
    | apply Exists.intro (α := List V)
    | apply Exists.intro (α := List Nat)
    | apply Exists.intro (α := List (Str × V))
    | apply Exists.intro (α := List _)
    | apply Exists.intro (α := Str)
    | apply Exists.intro (α := HO)
    | apply Exists.intro (α := Sp)
    | apply Exists.intro (α := VK)))
set_option hygiene false in
local macro_rules
  | `(tactic| kba_ints) => `(tactic| first
    | assumption
    | (apply frUp; (first | assumption | (apply Ne.symm; assumption)); kba_ints)
    | (apply noneOf; assumption; intro oF eF; apply Exists.intro; kp_flats)
    | (apply frUp; (next => kbo_bools); kba_ints))
set_option hygiene false in
local macro_rules
  | `(tactic| kxs_still) => `(tactic| first
    | assumption
    | exact kp_refl _ _
    | (apply kp_newF; assumption; kxs_still)
    | (apply kp_new; assumption; kxs_still)
    | (apply kp_up; (next => o_fieldsN); kxs_still)
    | (apply kp_new; (next => kba_ints); kxs_still)
    | (apply kp_sameR; assumption; kxs_still)
    | (apply kp_transR; assumption; kxs_still)
    | (apply kp_freshR; assumption; (next => kaf_suf); kxs_still))
set_option hygiene false in
local macro_rules
  | `(tactic| kaf_suf) => `(tactic| first
    | assumption
    | exact subNil
    | (apply subCons; (first | (apply Or.inl; o_fieldsN) | (apply Or.inr; kba_ints)); kaf_suf)
    | (apply subApp; (next => kaf_suf); kaf_suf))
set_option hygiene false in
local macro_rules
  | `(tactic| o_fieldsN) => `(tactic| first
    | assumption
    | exact memA
    | (apply memB; o_fieldsN)
    | (apply memL; o_fieldsN)
    | (apply memR; o_fieldsN))
set_option hygiene false in
local macro_rules
  | `(tactic| kd_subs) => `(tactic| first
    | assumption
    | exact Same.refl _
    | (apply same_putF; assumption; kd_subs)
    | (apply same_putG; assumption; kd_subs)
    | (apply same_putF; (next => kba_ints); kd_subs)
    | (apply same_transR; assumption; kd_subs))

set_option pp.maxSteps 900
/-! ### the lowest power by the and of both signs -/
theorem and_parts (a b : Nat) : a &&& b = 2 * (a / 2 &&& b / 2) + (a % 2 &&& b % 2) := by
  have h1 : (a &&& b) / 2 = a / 2 &&& b / 2 := Nat.and_div_two
  have h2 : (a &&& b) % 2 = a % 2 &&& b % 2 := by
    have := Nat.and_mod_two_pow (a := a) (b := b) (n := 1)
    simpa using this
  omega
theorem low_and : ∀ n : Nat, n ≠ 0 → n - (n &&& (n - 1)) = low n := by
  intro n
  induction n using Nat.strongRecOn with
  | ind n ih =>
    intro h
    by_cases e : n % 2 = 0
    · obtain ⟨m, rfl⟩ : ∃ m, n = 2 * m := ⟨n / 2, by omega⟩
      have hm : m ≠ 0 := by omega
      have i := ih m (by omega) hm
      rw [low_even h e, and_parts, show 2 * m / 2 = m by omega, show (2 * m - 1) / 2 = m - 1 by omega, show 2 * m % 2 = 0 by omega, Nat.zero_and, ← i]
      omega
    · rw [low_odd (by omega), and_parts, show (n - 1) / 2 = n / 2 by omega, show (n - 1) % 2 = 0 by omega, Nat.and_zero, Nat.and_self]
      omega
theorem low_bits {n : Nat} (h : n ≠ 0) : Builtin.bitAnd (n : Int) (-(n : Int)) = (low n : Int) := by
  have e1 : (Builtin.bitNot (-(n : Int))).toNat = n - 1 := by
    show (-(-(n : Int)) - 1).toNat = n - 1
    omega
  have e2 : n &&& (n - 1) ≤ n := Nat.and_le_left
  rw [bitAnd_pn (by omega) (by omega), e1, Int.toNat_natCast, ← low_and n h]
  omega
theorem low_spec : ∀ n : Nat, n ≠ 0 → ∃ e, low n = 2 ^ e ∧ n % 2 ^ e = 0 ∧ n % 2 ^ (e + 1) ≠ 0 := by
  intro n
  induction n using Nat.strongRecOn with
  | ind n ih =>
    intro h
    by_cases e : n % 2 = 0
    · obtain ⟨m, rfl⟩ : ∃ m, n = 2 * m := ⟨n / 2, by omega⟩
      have hm : m ≠ 0 := by omega
      obtain ⟨k, e1, e2, e3⟩ := ih m (by omega) hm
      refine ⟨k + 1, ?_, ?_, ?_⟩
      · rw [low_even h e, show 2 * m / 2 = m by omega, e1, Nat.pow_succ, Nat.mul_comm]
      · rw [Nat.pow_succ, Nat.mul_comm (2 ^ k) 2, Nat.mul_mod_mul_left, e2]
      · rw [Nat.pow_succ, Nat.mul_comm (2 ^ (k + 1)) 2, Nat.mul_mod_mul_left]
        omega
    · exact ⟨0, low_odd (by omega), Nat.mod_one _, by rw [Nat.zero_add, Nat.pow_one]; omega⟩
/-! ### pieces -/
def szP (a r : Nat) : Nat := if a = 0 then 2 ^ r.log2 else min (2 ^ r.log2) (low a)
def pcF : Nat → Nat → Nat → List (Nat × Nat)
  | 0, _, _ => []
  | f + 1, a, r => if r = 0 then [] else (a, szP a r) :: pcF f (a + szP a r) (r - szP a r)
def enough (k a r : Nat) : Prop := ∃ m, r < 2 ^ m ∧ (((a = 0 ∨ a % 2 ^ m = 0) ∧ m ≤ k) ∨ ∃ j, a ≠ 0 ∧ a % 2 ^ j = 0 ∧ j ≤ 100 ∧ (100 - j) + m + 1 ≤ k)
theorem mod_le {a i j : Nat} (h : a % 2 ^ j = 0) (l : i ≤ j) : a % 2 ^ i = 0 := by
  have d : 2 ^ i ∣ 2 ^ j := Nat.pow_dvd_pow 2 l
  exact Nat.mod_eq_zero_of_dvd (Nat.dvd_trans d (Nat.dvd_of_mod_eq_zero h))
theorem mod_add {a b i : Nat} (h : a % 2 ^ i = 0) (h2 : b % 2 ^ i = 0) : (a + b) % 2 ^ i = 0 := by
  rw [Nat.add_mod, h, h2]
  simp
theorem odd_up {a e : Nat} (h : a % 2 ^ e = 0) (h2 : a % 2 ^ (e + 1) ≠ 0) : (a + 2 ^ e) % 2 ^ (e + 1) = 0 := by
  obtain ⟨q, rfl⟩ := Nat.dvd_of_mod_eq_zero h
  have hp := Nat.two_pow_pos e
  rw [Nat.pow_succ, Nat.mul_mod_mul_left] at h2
  have h3 : q % 2 = 1 := by
    rcases Nat.mod_two_eq_zero_or_one q with z | z
    · rw [z] at h2
      exact absurd rfl h2
    · exact z
  rw [show 2 ^ e * q + 2 ^ e = 2 ^ e * (q + 1) by rw [Nat.mul_add, Nat.mul_one], Nat.pow_succ, Nat.mul_mod_mul_left, show (q + 1) % 2 = 0 by omega, Nat.mul_zero]
theorem szP_le {a r : Nat} (h : r ≠ 0) : szP a r ≤ r := by
  have l2 := log_lo h
  unfold szP
  split
  · exact l2
  · exact Nat.le_trans (Nat.min_le_left _ _) l2
theorem enough_step {k a r : Nat} (h : enough k a r) (hr : r ≠ 0) (hb : a + r ≤ 2 ^ 100) :
    ∃ k', k = k' + 1 ∧ enough k' (a + szP a r) (r - szP a r) ∧ szP a r ≤ r ∧ 0 < szP a r ∧ ∃ j, szP a r = 2 ^ j ∧ a % 2 ^ j = 0 := by
  obtain ⟨m, hm, hc⟩ := h
  have lo := log_lo hr
  have rl := rest_lt hr
  have ll := log_lt hr hm
  have hp := Nat.two_pow_pos r.log2
  rcases hc with ⟨hz, hk⟩ | ⟨j, ha, hj, hj1, hk⟩
  · have es : szP a r = 2 ^ r.log2 := by
      unfold szP
      by_cases z : a = 0
      · rw [if_pos z]
      · rw [if_neg z]
        obtain ⟨e, e1, e2, e3⟩ := low_spec a z
        rw [e1]
        rcases hz with hz | hz
        · exact absurd hz z
        · have : m ≤ e := by
            refine Nat.le_of_not_lt fun q => e3 (mod_le hz (by omega))
          exact Nat.min_eq_left (Nat.pow_le_pow_right (by decide) (by omega))
    have ad : a % 2 ^ r.log2 = 0 := by
      rcases hz with hz | hz
      · rw [hz]
        exact Nat.zero_mod _
      · exact mod_le hz (by omega)
    rw [es]
    exact ⟨k - 1, by omega, ⟨r.log2, rl, .inl ⟨.inr (mod_add ad (Nat.mod_self _)), by omega⟩⟩, lo, hp, _, rfl, ad⟩
  · obtain ⟨e, e1, e2, e3⟩ := low_spec a ha
    have hje : j ≤ e := Nat.le_of_not_lt fun q => e3 (mod_le hj (by omega))
    by_cases c : 2 ^ e ≤ 2 ^ r.log2
    · have es : szP a r = 2 ^ e := by
        unfold szP
        rw [if_neg ha, e1]
        exact Nat.min_eq_right c
      rw [es]
      have he : e < 100 := by
        have h1 : 2 ^ e < 2 ^ 100 := by omega
        exact (Nat.pow_lt_pow_iff_right (by decide)).mp h1
      have hpe := Nat.two_pow_pos e
      exact ⟨k - 1, by omega, ⟨m, by omega, .inr ⟨e + 1, by omega, odd_up e2 e3, by omega, by omega⟩⟩, by omega, hpe, _, rfl, e2⟩
    · have es : szP a r = 2 ^ r.log2 := by
        unfold szP
        rw [if_neg ha, e1]
        exact Nat.min_eq_left (by omega)
      have hle : r.log2 ≤ e := by
        refine Nat.le_of_not_lt fun q => c (Nat.pow_le_pow_right (by decide) (by omega))
      rw [es]
      exact ⟨k - 1, by omega, ⟨r.log2, rl, .inl ⟨.inr (mod_add (mod_le e2 hle) (Nat.mod_self _)), by omega⟩⟩, lo, hp, _, rfl, mod_le e2 hle⟩
theorem enough_all {a r : Nat} (h : a + r ≤ 10 ^ 30) : enough 201 a r := by
  have h1 : (10 ^ 30 : Nat) < 2 ^ 100 := by decide +kernel
  by_cases z : a = 0
  · exact ⟨100, by omega, .inl ⟨.inl z, by decide⟩⟩
  · exact ⟨100, by omega, .inr ⟨0, z, Nat.mod_one _, by decide, by decide⟩⟩
theorem pcF_zero (f a : Nat) : pcF f a 0 = [] := by
  cases f with
  | zero => rfl
  | succ f => exact if_pos rfl
theorem pcF_pos {f a r : Nat} (h : r ≠ 0) : pcF (f + 1) a r = (a, szP a r) :: pcF f (a + szP a r) (r - szP a r) := if_neg h
theorem pcF_len : ∀ (f a r : Nat), (pcF f a r).length ≤ f
  | 0, _, _ => Nat.le_refl _
  | f + 1, a, r => by
    by_cases h : r = 0
    · subst h
      rw [pcF_zero]
      exact Nat.zero_le _
    · rw [pcF_pos h, List.length_cons]
      have := pcF_len f (a + szP a r) (r - szP a r)
      omega
/-- a right list of pieces from a on, to b -/
def okP : Nat → List (Nat × Nat) → Nat → Prop
  | a, [], b => a = b
  | a, (x, s) :: t, b => x = a ∧ (∃ j, s = 2 ^ j ∧ a % 2 ^ j = 0) ∧ a + s ≤ b ∧ (∀ y s', t.head? = some (y, s') → ¬ (s' = s ∧ a % (2 * s) = 0)) ∧ okP (a + s) t b
/-- two neighbours never make one -/
theorem szP_next {a r : Nat} (hr : r ≠ 0) (h : r - szP a r ≠ 0) : ¬ (szP (a + szP a r) (r - szP a r) = szP a r ∧ a % (2 * szP a r) = 0) := by
  rintro ⟨e1, e2⟩
  have es : szP a r = 2 ^ r.log2 := by
    unfold szP
    by_cases z : a = 0
    · rw [if_pos z]
    · rw [if_neg z]
      obtain ⟨e, f1, f2, f3⟩ := low_spec a z
      rw [f1]
      refine Nat.min_eq_left (Nat.le_of_not_lt fun q => ?_)
      have f4 : szP a r = 2 ^ e := by
        unfold szP
        rw [if_neg z, f1]
        exact Nat.min_eq_right (Nat.le_of_lt q)
      rw [f4, show 2 * 2 ^ e = 2 ^ (e + 1) by rw [Nat.pow_succ, Nat.mul_comm]] at e2
      exact f3 e2
  have rl := rest_lt hr
  have le := szP_le (a := a + szP a r) h
  omega
theorem okP_all : ∀ (k a r : Nat), enough k a r → a + r ≤ 2 ^ 100 → okP a (pcF k a r) (a + r)
  | k, a, r, h, hb => by
    by_cases hr : r = 0
    · subst hr
      rw [pcF_zero]
      exact rfl
    · obtain ⟨k', rfl, h2, s1, s0, j, ej, aj⟩ := enough_step h hr hb
      rw [pcF_pos hr]
      refine ⟨rfl, ⟨j, ej, aj⟩, by omega, fun y s' e => ?_, ?_⟩
      · by_cases z : r - szP a r = 0
        · rw [z, pcF_zero] at e
          cases e
        · cases k' with
          | zero => cases e
          | succ k' =>
            rw [pcF_pos z] at e
            obtain ⟨rfl, rfl⟩ := Prod.mk.inj (Option.some.inj e)
            exact szP_next hr z
      · have := okP_all k' (a + szP a r) (r - szP a r) h2 (by omega)
        rw [show a + szP a r + (r - szP a r) = a + r by omega] at this
        exact this
end Ob

set_option Elab.async false
set_option linter.all false
set_option maxRecDepth 100000
set_option maxHeartbeats 1000000
namespace Ob
open PySem PySem.Spec PyProof.Rows L2
open LamX (Tabs TabB TabS ExtN)

set_option hygiene false in
local macro_rules
  | `(tactic| kp_flats) => `(tactic| first
    | assumption
    | exact upd_same
    | (apply atNew; assumption; kp_flats)
    | (apply atNe; (next => kbo_bools); kp_flats)
    | (apply atSame; assumption; kp_flats)
    | (apply atKp; assumption; (next => kaf_pre); kp_flats))
set_option hygiene false in
local macro_rules
  | `(tactic| kaf_pre) => `(tactic| first
    | assumption
    | exact not_nil
    | (apply not_cons; (next => kbo_bools); kaf_pre)
    | (apply not_app; (next => kaf_pre); kaf_pre))
set_option hygiene false in
local macro_rules
  | `(tactic| kbo_bools) => `(tactic| first
    | assumption
    | (apply Ne.symm; assumption)
    | (apply neN; assumption; kp_flats)
    | (apply neN'; assumption; kp_flats))
set_option hygiene false in
local macro_rules
  | `(tactic| o_reads) => `(tactic| first
    | with_reducible rfl
    | assumption
    | rfl
    | kp_flats
    | (show SqL _ _ _ _; first | assumption | (apply sqlOf; kp_flats) | (apply sqlSame; assumption; o_reads))
    | (show SqT _ _ _ _; first | assumption | (apply sqtOf; kp_flats) | (apply sqtAll; assumption) | (apply sqtSame; assumption; o_reads))
    | (show Cls _ _; first | exact T.cl_Calls | exact T.cl_Outer | exact T.cl_Timed)
    | (show NoAttr _ _ _; first | exact T.n_Calls_entries | exact T.n_Calls_running | exact T.n_Outer_calls | exact T.n_Outer_push_call | exact T.n_Outer_pop_call | exact T.n_Outer_ask_call | exact T.n_Outer_order | exact T.n_Outer_broken | exact T.n_Timed_outer | exact T.n_Timed_given | exact T.n_Timed_now | exact T.n_Timed_held | exact T.n_Timed_limits | exact T.n_Timed_ends)
    | (apply Or.inl; o_reads)
    | (apply Or.inr; o_reads)
    | (apply And.intro; (next => o_reads); o_reads)
    | (apply Exists.intro; o_reads)
    | exact Nat.le_of_ble_eq_true rfl
    | exact Nat.succ_ne_zero _
    | (show Fr _ _; kba_ints)
    | (show Same _ _; kd_subs)
    | (show Kp _ _ _; kxs_still)
    | (show (_ : Nat) ≤ _; simp only [List.length_append, List.length_map, List.length_cons, List.length_nil, List.length_take, List.length_drop, List.length_replicate, List.length_range, sizeLine_eq]; omega)
    | (show _ = none; apply Fr.h; kba_ints)
    | (show Bag _ _; first | assumption | (apply bag_putF; assumption; o_reads) | (apply bag_neF; (next => kbo_bools); o_reads) | (apply bag_kpR; assumption; (next => kaf_pre); o_reads))
    | omega
    | decide)
local macro_rules
  | `(tactic| o_readsAll) => `(tactic| repeat (first
    | (refine fun (pNew : Addr) (nNew : _ = none) => ?_; replace nNew := Fr.mk nNew)
    | (refine fun (xNew dNew : Addr) (nNew : _ = none) (mNew : _ = none) (eNew : dNew ≠ xNew) => ?_; replace nNew := Fr.mk nNew; replace mNew := Fr.mk mNew)
    | (apply And.intro; next => o_reads)
    | apply Exists.intro (α := V)
    | apply Exists.intro (α := Addr)
    | apply Exists.intro (α := Int)
    | apply Exists.intro (α := Bool)
    | apply Exists.intro (α := List V)
    | apply Exists.intro (α := List Nat)
    | apply Exists.intro (α := List (Str × V))
    | apply Exists.intro (α := List _)
    | apply Exists.intro (α := Str)
    | apply Exists.intro (α := HO)
    | apply Exists.intro (α := Sp)
    | apply Exists.intro (α := VK)))
set_option hygiene false in
local macro_rules
  | `(tactic| kba_ints) => `(tactic| first
    | assumption
    | (apply frUp; (first | assumption | (apply Ne.symm; assumption)); kba_ints)
    | (apply noneOf; assumption; intro oF eF; apply Exists.intro; kp_flats)
    | (apply frUp; (next => kbo_bools); kba_ints))
set_option hygiene false in
local macro_rules
  | `(tactic| kxs_still) => `(tactic| first
    | assumption
    | exact kp_refl _ _
    | (apply kp_newF; assumption; kxs_still)
    | (apply kp_new; assumption; kxs_still)
    | (apply kp_up; (next => o_fieldsN); kxs_still)
    | (apply kp_new; (next => kba_ints); kxs_still)
    | (apply kp_sameR; assumption; kxs_still)
    | (apply kp_transR; assumption; kxs_still)
    | (apply kp_freshR; assumption; (next => kaf_suf); kxs_still))
set_option hygiene false in
local macro_rules
  | `(tactic| kaf_suf) => `(tactic| first
    | assumption
    | exact subNil
    | (apply subCons; (first | (apply Or.inl; o_fieldsN) | (apply Or.inr; kba_ints)); kaf_suf)
    | (apply subApp; (next => kaf_suf); kaf_suf))
set_option hygiene false in
local macro_rules
  | `(tactic| o_fieldsN) => `(tactic| first
    | assumption
    | exact memA
    | (apply memB; o_fieldsN)
    | (apply memL; o_fieldsN)
    | (apply memR; o_fieldsN))
set_option hygiene false in
local macro_rules
  | `(tactic| kd_subs) => `(tactic| first
    | assumption
    | exact Same.refl _
    | (apply same_putF; assumption; kd_subs)
    | (apply same_putG; assumption; kd_subs)
    | (apply same_putF; (next => kba_ints); kd_subs)
    | (apply same_transR; assumption; kd_subs))

set_option pp.maxSteps 900
section
variable {P : Program} {w : World} {K : PySem.W.Frag} {mg : Str → Option Value} {base : Heap}
def spGp : Sp := fun vs H Q _ => ∃ n : Nat, vs = [.int (n : Int)] ∧ n ≠ 0 ∧ n < 2 ^ 200 ∧ Q (.int ((2 ^ n.log2 : Nat) : Int)) H
theorem ok_gp (T : Txt K mg) : FnOk P w K mg base CX0 1 T.f_greatest_power T.d_greatest_power ["number"] spGp := by
  refine T.F_greatest_power.ok sc_greatest_power (fun vs H Q E h => ?_) (fun cdv A outer s H vs Q E hr h => ?_)
  · obtain ⟨n, rfl, _⟩ := h
    rfl
  · obtain ⟨n, rfl, h0, h1, q⟩ := h
    refine ⟨_, (pss_one (ps_ret (pe_op op_shlW pe_int (pe_op op_sub (pe_bits (pv 0)) pe_int)))), ?_⟩
    rw [← gp_eq h0] at q
    exact ⟨_, rfl, _, rfl, _, _, rfl, rfl, _, _, rfl, rfl, gp_ok h0 h1, q⟩
def spIsI : Sp := fun vs H Q _ => ∃ i : Int, vs = [.int i] ∧ Q (.bl true) H
theorem ok_isi (T : Txt K mg) : FnOk P w K mg base CX0 1 T.f_is_integer T.d_is_integer ["value"] spIsI := by
  refine T.F_is_integer.ok sc_is_integer (fun vs H Q E h => ?_) (fun cdv A outer s H vs Q E hr h => ?_)
  · obtain ⟨i, rfl, _⟩ := h
    rfl
  · obtain ⟨i, rfl, q⟩ := h
    refine ⟨_, (pss_one (ps_ret (pe_and (pe_callB call_isi (by rfl) T.z_isinstance (by decide +kernel) (pa_cons (pv 0) (pa_cons (pe_bltn (v := .ty "int") (by rfl) T.z_int (by decide +kernel) rfl) pa_nil))) (pe_one (pe_not (pe_callB call_isi (by rfl) T.z_isinstance (by decide +kernel) (pa_cons (pv 0) (pa_cons (pe_bltn (v := .ty "bool") (by rfl) T.z_bool (by decide +kernel) rfl) pa_nil)))))))), ?_⟩
    refine ⟨_, rfl, .int i, .ty "int", .type "int", .type "int", true, rfl, .ty _, .base (.int _), kit_ty (by decide +kernel), true, rfl, iteT ?_⟩
    exact ⟨_, rfl, .int i, .ty "bool", .type "int", .type "bool", false, rfl, .ty _, .base (.int _), kit_ty (by decide +kernel), false, rfl, q⟩
theorem ok_cki (T : Txt K mg) : FnOk P w K mg base CX0 2 T.f_check_integer T.d_check_integer ["value"] (fun vs H Q _ => ∃ i : Int, vs = [.int i] ∧ Q .non H) := by
  have G_is_integer := ok_isi (P := P) (w := w) (base := base) T
  refine T.F_check_integer.ok sc_check_integer (fun vs H Q E h => ?_) (fun cdv A outer s H vs Q E hr h => ?_)
  · obtain ⟨i, rfl, _⟩ := h
    rfl
  · obtain ⟨i, rfl, q⟩ := h
    refine ⟨_, (pss_one (ps_if (pt_not (pt_val (pe_call G_is_integer (hr.mono (by omega)) rfl T.g_is_integer T.F_is_integer.kp T.b_is_integer .nil pass0 (pa_cons (pv 0) pa_nil)))) pss_never pss_nil)), ?_⟩
    exact ⟨_, rfl, i, rfl, true, rfl, iteF q⟩
def spCheck : Sp := fun vs H Q _ => ∃ n : Nat, vs = [.int (n : Int)] ∧ n ≤ 10 ^ 30 ∧ Q .non H
theorem ok_check (T : Txt K mg) : FnOk P w K mg base CX0 3 T.f_check_number T.d_check_number ["value"] spCheck := by
  have G_check_integer := ok_cki (P := P) (w := w) (base := base) T
  refine T.F_check_number.ok sc_check_number (fun vs H Q E h => ?_) (fun cdv A outer s H vs Q E hr h => ?_)
  · obtain ⟨n, rfl, _⟩ := h
    rfl
  · obtain ⟨n, rfl, h0, q⟩ := h
    have rG := T.r_GREATEST
    refine ⟨_, (pss_cons (ps_expr (pe_call G_check_integer (hr.mono (by omega)) rfl T.g_check_integer T.F_check_integer.kp T.b_check_integer .nil pass0 (pa_cons (pv 0) pa_nil)))
      (pss_one (ps_if (PW.pt (pw_or (pt_cmpR op_lt (pv 0) pe_int (nomark _)) (pw_or1 (pt_cmpR op_gt (pv 0) (pe_glob rfl T.v_GREATEST T.r_GREATEST) (nomark _))))) pss_never pss_nil))), ?_⟩
    refine ⟨_, rfl, (n : Int), rfl, ?_⟩
    refine ⟨_, rfl, _, _, rfl, rfl, _, rfl, ?_⟩
    refine ifF (dF (by omega)) ?_
    refine ⟨_, rfl, _, _, rfl, rfl, _, rfl, ?_⟩
    have h1 : ¬ ((10 : Int) ^ 30 < (n : Int)) := by
      have : (10 : Int) ^ 30 = ((10 ^ 30 : Nat) : Int) := by decide +kernel
      rw [this]
      omega
    exact ifF (dF h1) q


def spLp : Sp := fun vs H Q _ => ∃ n : Nat, vs = [.int (n : Int)] ∧ n ≠ 0 ∧ Q (.int (low n : Int)) H
theorem ok_lp (T : Txt K mg) : FnOk P w K mg base CX0 3 T.f_lowest_power T.d_lowest_power ["number"] spLp := by
  refine T.F_lowest_power.ok sc_lowest_power (fun vs H Q E h => ?_) (fun cdv A outer s H vs Q E hr h => ?_)
  · obtain ⟨n, rfl, _⟩ := h
    rfl
  · obtain ⟨n, rfl, h0, q⟩ := h
    refine ⟨_, (pss_one (ps_ret (pe_op op_and (pv 0) (pe_un un_neg (pv 0))))), ?_⟩
    rw [← low_bits h0] at q
    exact ⟨_, rfl, _, rfl, _, rfl, _, _, rfl, rfl, q⟩
def spPs : Sp := fun vs H Q _ => ∃ a r : Nat, vs = [.int (a : Int), .int (r : Int)] ∧ r ≠ 0 ∧ r < 2 ^ 200 ∧ Q (.int (szP a r : Int)) H
theorem ok_ps (T : Txt K mg) : FnOk P w K mg base CX0 4 T.f_piece_size T.d_piece_size ["first", "room"] spPs := by
  have G_greatest_power := ok_gp (P := P) (w := w) (base := base) T
  have G_lowest_power := ok_lp (P := P) (w := w) (base := base) T
  refine T.F_piece_size.ok sc_piece_size (fun vs H Q E h => ?_) (fun cdv A outer s H vs Q E hr h => ?_)
  · obtain ⟨a, r, rfl, _⟩ := h
    rfl
  · obtain ⟨a, r, rfl, h0, h1, q⟩ := h
    refine ⟨_, (pss_cons (ps_set (i := 2) sc_piece_size.nd rfl (.inl rfl) (pe_call G_greatest_power (hr.mono (by omega)) rfl T.g_greatest_power T.F_greatest_power.kp T.b_greatest_power .nil pass0 (pa_cons (pv 1) pa_nil)))
      (pss_cons (ps_if (pt_cmpR op_eq (pv 0) pe_int (nomark _)) (pss_one (ps_ret (pv 2))) pss_nil)
      (pss_one (ps_ret (pe_callB (call_min2 rfl) (by rfl) T.z_min (by decide +kernel) (pa_cons (pv 2) (pa_cons (pe_call G_lowest_power (hr.mono (by omega)) rfl T.g_lowest_power T.F_lowest_power.kp T.b_lowest_power .nil pass0 (pa_cons (pv 0) pa_nil)) pa_nil))))))), ?_⟩
    refine ⟨_, rfl, r, rfl, h0, h1, _, rfl, rfl, _, rfl, ite2 (fun e => ?_) (fun e => ?_)⟩
    · have e1 := V.int.inj (of_decide_eq_true e)
      have e2 : szP a r = 2 ^ r.log2 := if_pos (by omega)
      rw [e2] at q
      exact ⟨_, rfl, q⟩
    · have e1 : a ≠ 0 := fun z => e (dT (by rw [z]; rfl))
      have e2 : szP a r = min (2 ^ r.log2) (low a) := if_neg e1
      refine ⟨_, rfl, _, rfl, a, rfl, e1, _, _, rfl, ?_⟩
      have e3 : (if (low a : Int) < ((2 ^ r.log2 : Nat) : Int) then (low a : Int) else ((2 ^ r.log2 : Nat) : Int)) = (szP a r : Int) := by
        rw [e2]
        split <;> omega
      rw [e3]
      exact q
/-- a list of pairs at p -/
def PL (H : Hp) (p : Addr) (l : List (Nat × Nat)) : Prop := ∃ ts : List Addr, H p = some (.lst (ts.map V.ref)) ∧ ts.length = l.length ∧
  ∀ (i : Nat) (t : Addr) (x : Nat × Nat), ts[i]? = some t → l[i]? = some x → H t = some (.tup [.int (x.1 : Int), .int (x.2 : Int)])
theorem PL.same {H H1 : Hp} {p : Addr} {l : List (Nat × Nat)} (h : PL H p l) (s : Same H H1) : PL H1 p l := by
  obtain ⟨ts, a, b, c⟩ := h
  exact ⟨ts, s _ _ a, b, fun i t x e1 e2 => s _ _ (c i t x e1 e2)⟩
theorem PL.nil {H : Hp} {p : Addr} : PL (upd H p (.lst [])) p [] := ⟨[], upd_same, rfl, fun i t x e => by simp at e⟩
theorem PL.add {H : Hp} {p t : Addr} {l : List (Nat × Nat)} {ts : List Addr} {x : Nat × Nat} (e1 : H p = some (.lst (ts.map V.ref))) (e2 : ts.length = l.length)
    (e3 : ∀ (i : Nat) (t : Addr) (x : Nat × Nat), ts[i]? = some t → l[i]? = some x → H t = some (.tup [.int (x.1 : Int), .int (x.2 : Int)])) (n : H t = none) :
    PL (upd (upd H t (.tup [.int (x.1 : Int), .int (x.2 : Int)])) p (.lst ((ts.map V.ref) ++ [V.ref t]))) p (l ++ [x]) := by
  have ntp : t ≠ p := (ne_of_none e1 n).symm
  refine ⟨ts ++ [t], by rw [upd_same, List.map_append]; rfl, by rw [List.length_append, List.length_append, e2]; rfl, fun i u y f1 f2 => ?_⟩
  by_cases hi : i < ts.length
  · rw [List.getElem?_append_left hi] at f1
    rw [List.getElem?_append_left (by omega)] at f2
    have g := e3 i u y f1 f2
    have hup : u ≠ p := fun z => by
      rw [z, e1] at g
      cases g
    rw [upd_ne hup, upd_ne (ne_of_none g n)]
    exact g
  · rw [List.getElem?_append_right (by omega)] at f1 f2
    by_cases hz : i - ts.length = 0
    · rw [hz] at f1
      rw [show i - l.length = 0 by omega] at f2
      cases f1
      cases f2
      rw [upd_ne ntp, upd_same]
    · rw [show i - ts.length = (i - ts.length - 1) + 1 by omega] at f1
      simp at f1
def spPieces : Sp := fun vs H Q _ => ∃ a r : Nat, vs = [.int (a : Int), .int ((a + r : Nat) : Int)] ∧ a + r ≤ 10 ^ 30 ∧ ∀ p H', H p = none → Same H H' → PL H' p (pcF 201 a r) → Q (.ref p) H'
theorem ok_pieces (T : Txt K mg) : FnOk P w K mg base CX0 5 T.f_pieces T.d_pieces ["begin", "end"] spPieces := by
  have G_piece_size := ok_ps (P := P) (w := w) (base := base) T
  have G_check_number := ok_check (P := P) (w := w) (base := base) T
  refine T.F_pieces.ok sc_pieces (fun vs H Q E h => ?_) (fun cdv A outer s H vs Q E hr h => ?_)
  · obtain ⟨a, r, rfl, _⟩ := h
    rfl
  · obtain ⟨a, r, rfl, h0, q⟩ := h
    refine ⟨_, (pss_cons (ps_expr (pe_call G_check_number (hr.mono (by omega)) rfl T.g_check_number T.F_check_number.kp T.b_check_number .nil pass0 (pa_cons (pv 0) pa_nil)))
      (pss_cons (ps_expr (pe_call G_check_number (hr.mono (by omega)) rfl T.g_check_number T.F_check_number.kp T.b_check_number .nil pass0 (pa_cons (pv 1) pa_nil)))
      (pss_cons (ps_if (pt_cmpR op_gt (pv 0) (pv 1) (nomark _)) pss_never pss_nil)
      (pss_cons (ps_set (i := 2) sc_pieces.nd rfl (.inl rfl) (pe_lst pa_nil))
      (pss_cons (ps_set (i := 3) sc_pieces.nd rfl (.inl rfl) (pv 0))
      (pss_cons (ps_while PassesOwn.never (pt_cmpR op_lt (pv 3) (pv 1) (nomark _)) (pss_cons (ps_set (i := 4) sc_pieces.nd rfl (.inl rfl) (pe_call G_piece_size (hr.mono (by omega)) rfl T.g_piece_size T.F_piece_size.kp T.b_piece_size .nil pass0 (pa_cons (pv 3) (pa_cons (pe_op op_sub (pv 1) (pv 3)) pa_nil))))
        (pss_cons (ps_expr (pe_bm PySem.F.plainAttrs_list PySem.F.slot_list_append PySem.F.type_list_append mt_append (pv 2) (pa_cons (pe_tup (pa_cons (pv 3) (pa_cons (pv 4) pa_nil))) pa_nil)))
        (pss_one (ps_aug (i := 3) sc_pieces.nd rfl (.inl rfl) (pv 4) ip_add)))))
      (pss_one (ps_ret (pv 2))))))))), ?_⟩
    refine ⟨_, rfl, a, rfl, by omega, ?_⟩
    refine ⟨_, rfl, a + r, rfl, h0, ?_⟩
    refine ⟨_, rfl, _, rfl, _, _, rfl, rfl, _, rfl, ifF (dF (by omega)) ?_⟩
    refine ⟨Nat.zero_le _, fun o no => ?_⟩
    refine ⟨_, rfl, ?_⟩
    have hb : a + r ≤ 2 ^ 100 := Nat.le_of_lt (Nat.lt_of_le_of_lt h0 p100)
    refine while_by (fun σ H' => ∃ (x y k : Nat) (acc : List (Nat × Nat)) (z : Option V), σ = [some (.int (a : Int)), some (.int ((a + r : Nat) : Int)), some (.ref o), some (.int (x : Int)), z] ∧ x + y = a + r ∧ enough k x y ∧ acc.length + k ≤ 201 ∧ acc ++ pcF k x y = pcF 201 a r ∧ Same H H' ∧ PL H' o acc)
      (fun σ _ => a + r - intAt σ 3) ⟨a, r, 201, [], none, rfl, rfl, enough_all h0, Nat.le_refl _, rfl, same_new no, PL.nil⟩ ?_ ?_
    · rintro σ H' ⟨x, y, k, acc, z, rfl, hxy, hk, hl, he, hs, ho⟩
      refine ⟨_, rfl, _, rfl, _, _, rfl, rfl, _, rfl, ite2 (fun e => ?_) (fun e => ?_)⟩
      · have e1 := of_decide_eq_true e
        have y0 : y ≠ 0 := by omega
        obtain ⟨k, rfl, hk2, s1, s0, _⟩ := enough_step hk y0 (by omega)
        refine ⟨_, rfl, _, rfl, _, rfl, _, _, rfl, rfl, x, y, by show [V.int (x : Int), V.int (((a + r : Nat) : Int) - (x : Int))] = _; rw [show (((a + r : Nat) : Int) - (x : Int)) = (y : Int) by omega], y0, by omega, ?_⟩
        obtain ⟨ts, t1, t2, t3⟩ := ho
        refine ⟨_, rfl, .inl ⟨rfl, _, .inl (.inl t1)⟩, _, rfl, _, rfl, le2, fun t nt => ?_⟩
        have ntp : o ≠ t := ne_of_none t1 nt
        refine ⟨o, _, _, rfl, rfl, by rw [upd_ne ntp]; exact t1, ?_, ?_⟩
        · rw [List.length_map]
          exact small1000 (by omega)
        · refine ⟨_, rfl, _, rfl, _, _, rfl, rfl, ?_⟩
          refine ⟨⟨x + szP x y, y - szP x y, k, acc ++ [(x, szP x y)], some (.int (szP x y : Int)), rfl, by omega, hk2, ?_, ?_, same_put (same_put hs (hs.free nt)) no, PL.add (x := (x, szP x y)) t1 t2 t3 nt⟩, ?_⟩
          · rw [List.length_append]
            show acc.length + 1 + k ≤ 201
            omega
          · rw [← he, pcF_pos y0, List.append_assoc]
            rfl
          · show a + r - ((x : Int) + (szP x y : Int)).toNat < a + r - ((x : Int)).toNat
            omega
      · have e1 : y = 0 := by
          have : ¬ ((x : Int) < ((a + r : Nat) : Int)) := fun z => e (dT z)
          omega
        subst e1
        rw [pcF_zero, List.append_nil] at he
        subst he
        exact ⟨_, rfl, q o H' no hs ho⟩
    · rintro σ H' Q1 Q2 m ⟨x, hx, y, hy, i, j, e1, e2, c, e3, q⟩
      exact ⟨x, hx, y, hy, i, j, e1, e2, c, e3, m _ _ q⟩
end
end Ob

set_option Elab.async false
set_option linter.all false
set_option maxRecDepth 100000
set_option maxHeartbeats 1000000
namespace Ob
open PySem PySem.Spec PyProof.Rows L2
open LamX (Tabs TabB TabS ExtN)

set_option hygiene false in
local macro_rules
  | `(tactic| kp_flats) => `(tactic| first
    | assumption
    | exact upd_same
    | (apply atNew; assumption; kp_flats)
    | (apply atNe; (next => kbo_bools); kp_flats)
    | (apply atSame; assumption; kp_flats)
    | (apply atKp; assumption; (next => kaf_pre); kp_flats))
set_option hygiene false in
local macro_rules
  | `(tactic| kaf_pre) => `(tactic| first
    | assumption
    | exact not_nil
    | (apply not_cons; (next => kbo_bools); kaf_pre)
    | (apply not_app; (next => kaf_pre); kaf_pre))
set_option hygiene false in
local macro_rules
  | `(tactic| kbo_bools) => `(tactic| first
    | assumption
    | (apply Ne.symm; assumption)
    | (apply neN; assumption; kp_flats)
    | (apply neN'; assumption; kp_flats))
set_option hygiene false in
local macro_rules
  | `(tactic| o_reads) => `(tactic| first
    | with_reducible rfl
    | assumption
    | rfl
    | kp_flats
    | (show SqL _ _ _ _; first | assumption | (apply sqlOf; kp_flats) | (apply sqlSame; assumption; o_reads))
    | (show SqT _ _ _ _; first | assumption | (apply sqtOf; kp_flats) | (apply sqtAll; assumption) | (apply sqtSame; assumption; o_reads))
    | (show Cls _ _; first | exact T.cl_Calls | exact T.cl_Outer | exact T.cl_Timed)
    | (show NoAttr _ _ _; first | exact T.n_Calls_entries | exact T.n_Calls_running | exact T.n_Outer_calls | exact T.n_Outer_push_call | exact T.n_Outer_pop_call | exact T.n_Outer_ask_call | exact T.n_Outer_order | exact T.n_Outer_broken | exact T.n_Timed_outer | exact T.n_Timed_given | exact T.n_Timed_now | exact T.n_Timed_held | exact T.n_Timed_limits | exact T.n_Timed_ends)
    | (apply Or.inl; o_reads)
    | (apply Or.inr; o_reads)
    | (apply And.intro; (next => o_reads); o_reads)
    | (apply Exists.intro; o_reads)
    | exact Nat.le_of_ble_eq_true rfl
    | exact Nat.succ_ne_zero _
    | (show Fr _ _; kba_ints)
    | (show Same _ _; kd_subs)
    | (show Kp _ _ _; kxs_still)
    | (show (_ : Nat) ≤ _; simp only [List.length_append, List.length_map, List.length_cons, List.length_nil, List.length_take, List.length_drop, List.length_replicate, List.length_range, sizeLine_eq]; omega)
    | (show _ = none; apply Fr.h; kba_ints)
    | (show Bag _ _; first | assumption | (apply bag_putF; assumption; o_reads) | (apply bag_neF; (next => kbo_bools); o_reads) | (apply bag_kpR; assumption; (next => kaf_pre); o_reads))
    | omega
    | decide)
local macro_rules
  | `(tactic| o_readsAll) => `(tactic| repeat (first
    | (refine fun (pNew : Addr) (nNew : _ = none) => ?_; replace nNew := Fr.mk nNew)
    | (refine fun (xNew dNew : Addr) (nNew : _ = none) (mNew : _ = none) (eNew : dNew ≠ xNew) => ?_; replace nNew := Fr.mk nNew; replace mNew := Fr.mk mNew)
    | (apply And.intro; next => o_reads)
    | apply Exists.intro (α := V)
    | apply Exists.intro (α := Addr)
    | apply Exists.intro (α := Int)
    | apply Exists.intro (α := Bool)
    | apply Exists.intro (α := List V)
    | apply Exists.intro (α := List Nat)
    | apply Exists.intro (α := List (Str × V))
    | apply Exists.intro (α := List _)
    | apply Exists.intro (α := Str)
    | apply Exists.intro (α := HO)
    | apply Exists.intro (α := Sp)
    | apply Exists.intro (α := VK)))
set_option hygiene false in
local macro_rules
  | `(tactic| kba_ints) => `(tactic| first
    | assumption
    | (apply frUp; (first | assumption | (apply Ne.symm; assumption)); kba_ints)
    | (apply noneOf; assumption; intro oF eF; apply Exists.intro; kp_flats)
    | (apply frUp; (next => kbo_bools); kba_ints))
set_option hygiene false in
local macro_rules
  | `(tactic| kxs_still) => `(tactic| first
    | assumption
    | exact kp_refl _ _
    | (apply kp_newF; assumption; kxs_still)
    | (apply kp_new; assumption; kxs_still)
    | (apply kp_up; (next => o_fieldsN); kxs_still)
    | (apply kp_new; (next => kba_ints); kxs_still)
    | (apply kp_sameR; assumption; kxs_still)
    | (apply kp_transR; assumption; kxs_still)
    | (apply kp_freshR; assumption; (next => kaf_suf); kxs_still))
set_option hygiene false in
local macro_rules
  | `(tactic| kaf_suf) => `(tactic| first
    | assumption
    | exact subNil
    | (apply subCons; (first | (apply Or.inl; o_fieldsN) | (apply Or.inr; kba_ints)); kaf_suf)
    | (apply subApp; (next => kaf_suf); kaf_suf))
set_option hygiene false in
local macro_rules
  | `(tactic| o_fieldsN) => `(tactic| first
    | assumption
    | exact memA
    | (apply memB; o_fieldsN)
    | (apply memL; o_fieldsN)
    | (apply memR; o_fieldsN))
set_option hygiene false in
local macro_rules
  | `(tactic| kd_subs) => `(tactic| first
    | assumption
    | exact Same.refl _
    | (apply same_putF; assumption; kd_subs)
    | (apply same_putG; assumption; kd_subs)
    | (apply same_putF; (next => kba_ints); kd_subs)
    | (apply same_transR; assumption; kd_subs))

theorem kp_but {p : Addr} {H H1 : Hp} (b : But p H H1) : Kp [p] H H1 := ⟨fun c o e n => b c o e fun z => n (List.mem_singleton.mpr z)⟩
def spTakeK : Sp := fun vs H Q _ => ∃ (p : Addr) (m : Int), vs = [.ref p, .int m] ∧ Bag H p ∧ 0 < m ∧ m.natAbs < 2 ^ 200 ∧ ∀ r H', 0 ≤ r → r < m → Bag H' p → Kp [p] H H' → Q (.int r) H'
theorem ok_takeK {P : Program} {w : World} {K : PySem.W.Frag} {mg : Str → Option Value} {base : Heap} (T : Txt K mg) : FnOk P w K mg base CX0 1 T.f_l_take T.d_l_take ["_law_bag_here", "_law_many"] spTakeK := by
  have F := ok_take (P := P) (w := w) (base := base) T
  refine ⟨fun vs H Q E h => ?_, fun A outer s H args us vs Q E hr e0 hb r h => F.run A outer s H args us vs Q E hr e0 hb r ?_⟩
  · obtain ⟨p, m, rfl, _⟩ := h
    rfl
  · obtain ⟨p, m, e, h1, h2, h3, q⟩ := h
    exact ⟨p, m, e, h1, h2, h3, fun r H' a b c d => q r H' a b c (kp_but d)⟩
theorem bag_neF {p q : Addr} {H : Hp} {o : HO} (n : p ≠ q) (b : Bag H p) : Bag (upd H q o) p := by
  obtain ⟨g, m, c, e, z⟩ := b
  exact ⟨g, m, c, (upd_ne n).trans e, z⟩
theorem tabsN_kp {T : List NdefX.NTab} {cs : List Addr} {H H1 : Hp} (t : NdefX.TabsN T H) (k : Kp cs H H1) (n : ∀ a ∈ cs, ∃ o, H a = some o ∧ (∀ ps, o ≠ .tbl ps) ∧ ∀ φ, o ≠ .ext φ) : NdefX.TabsN T H1 := fun p hp => by
  obtain ⟨ps, h1, h2, h3⟩ := t p hp
  refine ⟨ps, k.at_ _ _ h1 (fun m => ?_), h2, fun pos cv hc => ?_⟩
  · obtain ⟨o, e, n1, _⟩ := n _ m
    rw [h1] at e
    exact n1 ps (Option.some.inj e).symm
  · obtain ⟨c, e1, e2⟩ := h3 pos cv hc
    refine ⟨c, e1, k.at_ _ _ e2 fun m => ?_⟩
    obtain ⟨o, e, _, n2⟩ := n _ m
    rw [e2] at e
    exact n2 _ (Option.some.inj e).symm

set_option pp.maxSteps 900
open NdefX (TabsN)
open Inf (LClo cut mend cellsOf)
theorem wPP : decide (V.str "push" = V.str "push") = true := by decide +kernel
theorem wOP : decide (V.str "pop" = V.str "push") = false := by decide +kernel
theorem wOO : decide (V.str "pop" = V.str "pop") = true := by decide +kernel
theorem wAP : decide (V.str "ask" = V.str "push") = false := by decide +kernel
theorem wAO : decide (V.str "ask" = V.str "pop") = false := by decide +kernel
theorem wPA : ("push" : Str) ≠ "ask" := by decide +kernel
theorem wOA : ("pop" : Str) ≠ "ask" := by decide +kernel
def stepS (S : List Nat) (e : Str × Nat) : List Nat := if e.1 = "push" then S ++ [e.2] else if e.1 = "pop" then S.dropLast else S
def runW (S : List Nat) (l : List (Str × Nat)) : List Nat := l.foldl stepS S
theorem wOP2 : ¬ ("pop" : Str) = "push" := by decide +kernel
theorem wAP2 : ¬ ("ask" : Str) = "push" := by decide +kernel
theorem wAO2 : ¬ ("ask" : Str) = "pop" := by decide +kernel
theorem run_app {S : List Nat} {a b : List (Str × Nat)} : runW S (a ++ b) = runW (runW S a) b := List.foldl_append ..
section
variable {P : Program} {w : World} {K : PySem.W.Frag} {mg : Str → Option Value} {base : Heap} {n : Nat}
/-- the callable f, called with xs in H: what it does brings Q -/
def Acx (P : Program) (w : World) (K : PySem.W.Frag) (mg : Str → Option Value) (base : Heap) (n : Nat) (f : V) (xs : List V) (H : Hp) (Q : VK) : Prop :=
  ∃ (a : Addr) (o : HO) (sp : Sp), f = .ref a ∧ H a = some o ∧ Inf.FnHO a o ∧ FnR P w K mg base CX0 n a sp ∧ sp xs H Q E0
end
theorem bag_lst {H : Hp} {p : Addr} (b : Bag H p) : ∃ xs, H p = some (.lst xs) := by
  obtain ⟨g, m, c, e, _⟩ := b
  exact ⟨_, e⟩
theorem bag_mu {H : Hp} {p : Addr} (b : Bag H p) : Mu H [p] := by
  obtain ⟨xs, e⟩ := bag_lst b
  exact mu_lst e mu_nil
theorem pSeq {t u : TS} {D : Ends} {σ : L2.St} {H : Hp} (h : t { D with nx := u D } σ H) : tSeq t u D σ H := h
theorem pAsg {te : TE} {g : TG} {D : Ends} {σ : L2.St} {H : Hp} (h : te σ H fun x H1 => g x σ H1 D.nx) : tAsg te g D σ H := h
theorem pOp {r : R2} {ta tb : TE} {σ : L2.St} {H : Hp} {Q : VK} (h : ta σ H fun x H1 => tb σ H1 fun y H2 => r x y H2 Q) : tOp r ta tb σ H Q := h
theorem pIf {c : L2.TT} {t u : TS} {D : Ends} {σ : L2.St} {H : Hp} (h : c σ H fun b H1 => if b = true then t D σ H1 else u D σ H1) : tIfS c t u D σ H := h
theorem pOr {t u : L2.TT} {σ : L2.St} {H : Hp} {Q : Bool → Hp → Prop} (h : t σ H fun c H1 => if c = true then Q true H1 else u σ H1 Q) : tOr t u σ H Q := h
theorem pAnd {t u : L2.TT} {σ : L2.St} {H : Hp} {Q : Bool → Hp → Prop} (h : t σ H fun c H1 => if c = true then u σ H1 Q else Q false H1) : tAnd t u σ H Q := h
theorem pTest {t : TE} {σ : L2.St} {H : Hp} {Q : Bool → Hp → Prop} (h : t σ H fun x H' => ∃ k, x = .bl k ∧ Q k H') : tTest t σ H Q := h
theorem pGN {i : Nat} {x : V} {σ : L2.St} {H : Hp} {N : L2.St → Hp → Prop} (h : N (σ.set i (some x)) H) : gName i x σ H N := h
theorem pNx {D : Ends} {σ : L2.St} {H : Hp} (h : D.nx σ H) : tNext D σ H := h
theorem pRev {K : PySem.W.Frag} {te : TE} {σ : L2.St} {H : Hp} {Q : VK} (h : te σ H fun x H1 => ∃ a xs, x = .ref a ∧ SqL K H1 a xs ∧ ∀ p, H1 p = none → Q (.ref p) (upd H1 p (.lst xs.reverse))) : tRevL K te σ H Q := h
/-- an if whose test says I -/
theorem if_by2 {c : L2.TT} {t u : TS} {D : Ends} {σ : L2.St} {H : Hp} (I : Bool → Hp → Prop) (h : ∀ Q : Bool → Hp → Prop, (∀ b H', I b H' → Q b H') → c σ H Q) (hT : ∀ H', I true H' → t D σ H') (hF : ∀ H', I false H' → u D σ H') : tIfS c t u D σ H :=
  h (fun b H' => if b = true then t D σ H' else u D σ H') fun b H' i => by
    cases b with
    | true => exact (if_pos rfl).mpr (hT H' i)
    | false => exact (if_neg (fun z => nomatch z)).mpr (hF H' i)
/-- a test that answers b where J b holds -/
def Ans (t : L2.TT) (σ : L2.St) (H : Hp) (J : Bool → Hp → Prop) : Prop := ∀ Q : Bool → Hp → Prop, (∀ b H', J b H' → Q b H') → t σ H Q
section
variable {t u : L2.TT} {σ : L2.St} {H : Hp} {J J1 : Bool → Hp → Prop}
theorem ans_or (a : Ans t σ H J1) (hT : ∀ H', J1 true H' → J true H') (hF : ∀ H', J1 false H' → Ans u σ H' J) : Ans (tOr t u) σ H J := fun Q q => a _ fun b H' j => by
  cases b with
  | true => exact (if_pos rfl).mpr (q _ _ (hT H' j))
  | false => exact (if_neg (fun z => nomatch z)).mpr (hF H' j Q q)
end
section
variable {t u : L2.TT} {σ : L2.St} {H : Hp} {J J1 : Bool → Hp → Prop}
theorem ans_and (a : Ans t σ H J1) (hF : ∀ H', J1 false H' → J false H') (hT : ∀ H', J1 true H' → Ans u σ H' J) : Ans (tAnd t u) σ H J := fun Q q => a _ fun b H' j => by
  cases b with
  | true => exact (if_pos rfl).mpr (hT H' j Q q)
  | false => exact (if_neg (fun z => nomatch z)).mpr (q _ _ (hF H' j))
end
section
variable {t u : L2.TT} {σ : L2.St} {H : Hp} {J J1 : Bool → Hp → Prop}
/-- a test that leaves the heap as it is, with the answer b -/
theorem ans_of {b : Bool} (h : ∀ Q : Bool → Hp → Prop, Q b H → t σ H Q) : Ans t σ H (fun c H' => c = b ∧ H' = H) := fun Q q => h Q (q _ _ ⟨rfl, rfl⟩)
end
def lamOf : Stmt → Nat → Expr
  | .Assign _ (.Call _ es _ _) _, i => es.getD i (.Constant .none 0 ⟨0, 0, 0, 0⟩)
  | .Assign _ (.Tuple es _ _) _, i => es.getD i (.Constant .none 0 ⟨0, 0, 0, 0⟩)
  | _, _ => .Constant .none 0 ⟨0, 0, 0, 0⟩
def lamF (q : Str) (cl : List (Str × Addr)) (c : Addr) : Expr → Inf.LF
  | .Lambda ps b sc _ => ⟨q, ps, b, sc, cl, c⟩
  | _ => ⟨q, { posonlyargs := [], args := [], vararg := none, kwonlyargs := [], kw_defaults := [], kwarg := none, defaults := [] }, .Constant .none 0 ⟨0, 0, 0, 0⟩, defScope s_law, cl, c⟩
theorem kp_ext {cs : List Addr} {H H1 : Hp} (k : Kp cs H H1) (n : Mu H cs) {t : Addr} {φ : Heap → Prop} (h : H t = some (.ext φ)) : H1 t = some (.ext φ) := k.at_ _ _ h (n.ext h)
theorem cellAt_kp {cs : List Addr} {H H1 : Hp} {c : Addr} {v : V} (h : Inf.CellAt H c v) (k : Kp cs H H1) (m : Mu H cs) : Inf.CellAt H1 c v := by
  obtain ⟨φ, e1, e2⟩ := h
  exact ⟨φ, kp_ext k m e1, e2⟩
theorem lclo_kp {cs : List Addr} {H H1 : Hp} {f : Addr} {F : Inf.LF} {fr : List Str} {ws : List V} (h : LClo H f F fr ws) (k : Kp cs H H1) (m : Mu H cs) : LClo H1 f F fr ws :=
  ⟨kp_ext k m h.fn, kp_ext k m h.code, h.len, h.dom, h.inj, fun i y e => by
    obtain ⟨c, v, a, b, d⟩ := h.at_ i y e
    exact ⟨c, v, a, b, cellAt_kp d k m⟩⟩
theorem mend_kp {cs ds : List Addr} {H H1 : Hp} (e : ∀ b ∈ cs, ∃ φ, H b = some (.ext φ)) (s : Kp ds (cut cs H) H1) (no : ∀ b ∈ cs, H1 b = none) : Kp ds H (mend cs H H1) := ⟨fun b o h n => by
  by_cases hb : b ∈ cs
  · rw [Inf.mend_in hb]
    exact h
  · rw [Inf.mend_out hb]
    exact s.at_ _ _ ((Inf.cut_out hb).trans h) n⟩
theorem tab_ne {T : List NdefX.NTab} {P : Addr} {nm : Nat → Nat → Str} {H : Hp} {a : Addr} {o : HO} (t : TabsN T H) (m : (P, nm) ∈ T) (e : H a = some o) (n : ∀ ps, o ≠ .tbl ps) : a ≠ P := fun z => by
  obtain ⟨ps, h, _⟩ := t _ m
  have h : H P = some (.tbl ps) := h
  rw [← z, e] at h
  exact n ps (Option.some.inj h)
theorem cv_tel {cells : List (Str × Addr)} {names : List (Str × NameKind)} {N : List Str} {σ : L2.St} {H HT H3 : Hp} {cT : List Addr} (t : Inf.Tel cells names N σ H cT HT) (k : ∀ b, b ∈ cT → H3 b = HT b) : ∀ b o, H3 b = some o → (∀ φ, o ≠ .ext φ) → Inf.cut cT H3 b = some o := fun b o e nx => by
  rw [Inf.cut_out fun m => ?_]
  · exact e
  · obtain ⟨φ, y⟩ := t.ext b m
    rw [k b m, y] at e
    exact nx φ (Option.some.inj e).symm
theorem tel_kp {cells : List (Str × Addr)} {names : List (Str × NameKind)} {N : List Str} {σ : L2.St} {H HT H3 : Hp} {cT ds : List Addr} (t : Inf.Tel cells names N σ H cT HT) (k : Kp ds HT H3) (m : Mu HT ds) : (∀ b, b ∈ cT → H3 b = HT b) ∧ Kp ds H (Inf.cut cT H3) :=
  ⟨fun b hb => by
    obtain ⟨φ, y⟩ := t.ext b hb
    rw [y]
    exact k.at_ _ _ y (m.ext y), ⟨fun b o e n => by
    rw [Inf.cut_out (fun z => by rw [t.no b z] at e; cases e)]
    exact k.at_ _ _ (t.same _ _ e) n⟩⟩
theorem flat_rep (x : V) : ∀ n : Nat, (List.replicate n [x]).flatten = List.replicate n x
  | 0 => rfl
  | n + 1 => by
    rw [List.replicate_succ, List.replicate_succ, List.flatten_cons, flat_rep x n]
    rfl
theorem seq_at {k n : Nat} (h : k < n) : seqIndex? (k : Int) n = some k := by
  unfold seqIndex?
  simp only [if_neg (show ¬ (k : Int) < 0 by omega)]
  rw [if_pos (by rw [Bool.and_eq_true]; exact ⟨decide_eq_true (by omega), decide_eq_true (by omega)⟩)]
  rfl
theorem fr_kp {cs : List Addr} {H H1 : Hp} {a : Addr} (k : Kp cs H H1) (m : Mu H1 cs) (f : Fr H1 a) : Fr H a := noneOf f fun o e => by
  by_cases c : a ∈ cs
  · obtain ⟨o, h, _⟩ := m a c
    exact ⟨o, h⟩
  · exact ⟨o, k.at_ _ _ e c⟩
theorem tabs_same {T : List NdefX.NTab} {H H1 : Hp} (t : TabsN T H) (s : Same H H1) : TabsN T H1 := tabsN_kp t (kp_same (cs := []) s) fun _ z => nomatch z
end Ob

set_option Elab.async false
set_option linter.all false
set_option maxRecDepth 100000
set_option maxHeartbeats 1000000
namespace Ob
open PySem PySem.Spec PyProof.Rows L2
open LamX (Tabs TabB TabS ExtN)

set_option hygiene false in
local macro_rules
  | `(tactic| kp_flats) => `(tactic| first
    | assumption
    | exact upd_same
    | (apply atNew; assumption; kp_flats)
    | (apply atNe; (next => kbo_bools); kp_flats)
    | (apply atSame; assumption; kp_flats)
    | (apply atKp; assumption; (next => kaf_pre); kp_flats))
set_option hygiene false in
local macro_rules
  | `(tactic| kaf_pre) => `(tactic| first
    | assumption
    | exact not_nil
    | (apply not_cons; (next => kbo_bools); kaf_pre)
    | (apply not_app; (next => kaf_pre); kaf_pre))
set_option hygiene false in
local macro_rules
  | `(tactic| kbo_bools) => `(tactic| first
    | assumption
    | (apply Ne.symm; assumption)
    | (apply neN; assumption; kp_flats)
    | (apply neN'; assumption; kp_flats))
set_option hygiene false in
local macro_rules
  | `(tactic| o_reads) => `(tactic| first
    | with_reducible rfl
    | assumption
    | rfl
    | kp_flats
    | (show SqL _ _ _ _; first | assumption | (apply sqlOf; kp_flats) | (apply sqlSame; assumption; o_reads))
    | (show SqT _ _ _ _; first | assumption | (apply sqtOf; kp_flats) | (apply sqtAll; assumption) | (apply sqtSame; assumption; o_reads))
    | (show Cls _ _; first | exact T.cl_Calls | exact T.cl_Outer | exact T.cl_Timed)
    | (show NoAttr _ _ _; first | exact T.n_Calls_entries | exact T.n_Calls_running | exact T.n_Outer_calls | exact T.n_Outer_push_call | exact T.n_Outer_pop_call | exact T.n_Outer_ask_call | exact T.n_Outer_order | exact T.n_Outer_broken | exact T.n_Timed_outer | exact T.n_Timed_given | exact T.n_Timed_now | exact T.n_Timed_held | exact T.n_Timed_limits | exact T.n_Timed_ends)
    | (apply Or.inl; o_reads)
    | (apply Or.inr; o_reads)
    | (apply And.intro; (next => o_reads); o_reads)
    | (apply Exists.intro; o_reads)
    | exact Nat.le_of_ble_eq_true rfl
    | exact Nat.succ_ne_zero _
    | (show Fr _ _; kba_ints)
    | (show Same _ _; kd_subs)
    | (show Kp _ _ _; kxs_still)
    | (show (_ : Nat) ≤ _; simp only [List.length_append, List.length_map, List.length_cons, List.length_nil, List.length_take, List.length_drop, List.length_replicate, List.length_range, sizeLine_eq]; omega)
    | (show _ = none; apply Fr.h; kba_ints)
    | (show Bag _ _; first | assumption | (apply bag_putF; assumption; o_reads) | (apply bag_neF; (next => kbo_bools); o_reads) | (apply bag_kpR; assumption; (next => kaf_pre); o_reads))
    | omega
    | decide)
local macro_rules
  | `(tactic| o_readsAll) => `(tactic| repeat (first
    | (refine fun (pNew : Addr) (nNew : _ = none) => ?_; replace nNew := Fr.mk nNew)
    | (refine fun (xNew dNew : Addr) (nNew : _ = none) (mNew : _ = none) (eNew : dNew ≠ xNew) => ?_; replace nNew := Fr.mk nNew; replace mNew := Fr.mk mNew)
    | (apply And.intro; next => o_reads)
    | apply Exists.intro (α := V)
    | apply Exists.intro (α := Addr)
    | apply Exists.intro (α := Int)
    | apply Exists.intro (α := Bool)
    | apply Exists.intro (α := List V)
    | apply Exists.intro (α := List Nat)
    | apply Exists.intro (α := List (Str × V))
    | apply Exists.intro (α := List _)
    | apply Exists.intro (α := Str)
    | apply Exists.intro (α := HO)
    | apply Exists.intro (α := Sp)
    | apply Exists.intro (α := VK)))
set_option hygiene false in
local macro_rules
  | `(tactic| kba_ints) => `(tactic| first
    | assumption
    | (apply frUp; (first | assumption | (apply Ne.symm; assumption)); kba_ints)
    | (apply noneOf; assumption; intro oF eF; apply Exists.intro; kp_flats)
    | (apply frUp; (next => kbo_bools); kba_ints))
set_option hygiene false in
local macro_rules
  | `(tactic| kxs_still) => `(tactic| first
    | assumption
    | exact kp_refl _ _
    | (apply kp_newF; assumption; kxs_still)
    | (apply kp_new; assumption; kxs_still)
    | (apply kp_up; (next => o_fieldsN); kxs_still)
    | (apply kp_new; (next => kba_ints); kxs_still)
    | (apply kp_sameR; assumption; kxs_still)
    | (apply kp_transR; assumption; kxs_still)
    | (apply kp_freshR; assumption; (next => kaf_suf); kxs_still))
set_option hygiene false in
local macro_rules
  | `(tactic| kaf_suf) => `(tactic| first
    | assumption
    | exact subNil
    | (apply subCons; (first | (apply Or.inl; o_fieldsN) | (apply Or.inr; kba_ints)); kaf_suf)
    | (apply subApp; (next => kaf_suf); kaf_suf))
set_option hygiene false in
local macro_rules
  | `(tactic| o_fieldsN) => `(tactic| first
    | assumption
    | exact memA
    | (apply memB; o_fieldsN)
    | (apply memL; o_fieldsN)
    | (apply memR; o_fieldsN))
set_option hygiene false in
local macro_rules
  | `(tactic| kd_subs) => `(tactic| first
    | assumption
    | exact Same.refl _
    | (apply same_putF; assumption; kd_subs)
    | (apply same_putG; assumption; kd_subs)
    | (apply same_putF; (next => kba_ints); kd_subs)
    | (apply same_transR; assumption; kd_subs))

/-! ### the calls of a collection -/
def CO (C dx l : Addr) (r : Bool) : HO := .ins C dx [("entries", .ref l), ("running", .bl r)]
section
variable {P : Program} {w : World} {K : PySem.W.Frag} {mg : Str → Option Value} {base : Heap} {n : Nat}
def spCI (C : Addr) : Sp := fun vs H Q _ => ∃ (a dx : Addr), vs = [.ref a] ∧ H a = some (.ins C dx []) ∧ ∀ l H', Fr H l → H' a = some (CO C dx l false) → H' l = some (.lst []) → Kp [a] H H' → Q .non H'
theorem ok_ci (T : Txt K mg) : FnOk P w K mg base CX0 1 T.f_Calls_init T.d_Calls_init ["self"] (spCI T.C_Calls) := by
  refine T.F_Calls_init.ok sc_Calls_init (fun vs H Q E h => ?_) (fun cdv A outer s H vs Q E hr h => ?_)
  · obtain ⟨a, dx, rfl, _⟩ := h
    rfl
  · obtain ⟨a, dx, rfl, ha, q⟩ := h
    refine ⟨_, (pss_cons (ps_fld (pv 0) (pe_lst pa_nil) rfl)
      (pss_one (ps_fld (pv 0) pe_bl rfl))), ?_⟩
    o_readsAll
    rename_i l nl
    exact q _ _ nl (by kp_flats) (by kp_flats) (by kxs_still)
def spChk (C : Addr) : Sp := fun vs H Q _ => ∃ (c dx l : Addr), vs = [.ref c] ∧ H c = some (CO C dx l false) ∧ Q .non H
theorem ok_chk (T : Txt K mg) : FnOk P w K mg base CX0 1 T.f_Calls_check T.d_Calls_check ["self"] (spChk T.C_Calls) := by
  refine T.F_Calls_check.ok sc_Calls_check (fun vs H Q E h => ?_) (fun cdv A outer s H vs Q E hr h => ?_)
  · obtain ⟨a, dx, l, rfl, _⟩ := h
    rfl
  · obtain ⟨c, dx, l, rfl, hc, q⟩ := h
    refine ⟨_, (pss_one (ps_if (pt_val (pe_fld (pv 0) rfl)) pss_never pss_nil)), ?_⟩
    o_readsAll
    exact iteF q
/-- the callable f, called with xs in H: what it does brings Q -/
def Act (P : Program) (w : World) (K : PySem.W.Frag) (mg : Str → Option Value) (base : Heap) (n : Nat) (f : V) (xs : List V) (H : Hp) (Q : VK) : Prop :=
  ∃ (a : Addr) (o : HO) (sp : Sp) (Q0 : VK), f = .ref a ∧ H a = some o ∧ Inf.FnHO a o ∧ FnR P w K mg base CX0 n a sp ∧ sp xs H Q0 E0 ∧ ∀ v H', Q0 v H' → Q v H'
theorem Act.imp {f : V} {xs : List V} {H : Hp} {Q Q' : VK} (h : Act P w K mg base n f xs H Q) (i : ∀ v H', Q v H' → Q' v H') : Act P w K mg base n f xs H Q' := by
  obtain ⟨a, o, sp, Q0, h1, h2, h3, h4, h5, h6⟩ := h
  exact ⟨a, o, sp, Q0, h1, h2, h3, h4, h5, fun v H' z => i _ _ (h6 _ _ z)⟩
theorem fnR_q {k : Nat} {f : Addr} {sp : Sp} (F : FnR P w K mg base CX0 k f sp) : FnR P w K mg base CX0 k f (fun vs H Q E => ∃ Q0 : VK, sp vs H Q0 E ∧ ∀ v H', Q0 v H' → Q v H') := fun A outer s H us vs Q E hr e0 r h => by
  obtain ⟨Q0, h0, hi⟩ := h
  refine codeAny_mono (F A outer s H us vs Q0 E hr e0 r h0) fun res s' hq => ?_
  match res, hq with
  | .error e, z => exact z
  | .ok .next, z => exact z
  | .ok .brk, z => exact z
  | .ok .cont, z => exact z
  | .ok (.ret u), z =>
    obtain ⟨v, H', h1, h2, h3, h4, h5, h6⟩ := z
    exact ⟨v, H', h1, h2, h3, h4, h5, hi _ _ h6⟩
/-- run(entry, action, *values) -/
def spRun (P : Program) (w : World) (K : PySem.W.Frag) (mg : Str → Option Value) (base : Heap) (C : Addr) (n : Nat) : Sp := fun vs H Q E => ∃ (c dx l : Addr) (en f : V) (xs : List V), vs = [.ref c, en, f] ++ xs ∧ xs.length ≤ sizeLine ∧ H c = some (CO C dx l false) ∧
  ∀ H1, Kp [c] H H1 → H1 c = some (CO C dx l true) → Act P w K mg base n f xs H1 (fun v H2 => H2 c = some (CO C dx l true) ∧ ∃ es, H2 l = some (.lst es) ∧ es.length < sizeLine ∧
    ∀ H3, Kp [c, l] H2 H3 → H3 c = some (CO C dx l false) → H3 l = some (.lst (es ++ [en])) → Q v H3)
theorem ok_run (T : Txt K mg) : FnR P w K mg base CX0 (n + 1) T.f_Calls_run (spRun P w K mg base T.C_Calls n) := by
  obtain ⟨oc, od, kV, doc, pm, an, cdv, ct, osl, hfd, lk, hcd⟩ := T.F_Calls_run.ex
  rw [hfd] at lk
  have key := StX.fn_star (P := P) (w := w) (mg := mg) (base := base) (CX := CX0) (k := n) (ps := ["self", "entry", "action"]) (pv := "values") (sp := fun us H Q E => ∃ ws rest p H0, us = ws ++ [.ref p] ∧ ws.length = 3 ∧ H0 p = none ∧ H = upd H0 p (.tup rest) ∧ spRun P w K mg base T.C_Calls n (ws ++ rest) H0 Q E) lk hcd sc_Calls_run StX.cxUp_none (fun us rest hl => ?_) (fun A outer s H vs Q E hr h => ?_)
  · refine key.imp fun vs H Q E h => ?_
    have h' := h
    obtain ⟨c, dx, l, en, f, xs, rfl, lx, _⟩ := h
    exact ⟨[.ref c, en, f], xs, rfl, rfl, lx, fun p np => ⟨[.ref c, en, f], xs, p, H, rfl, rfl, np, rfl, h'⟩⟩
  · match us, hl, rest with
    | [a, b, c], _, [] => rfl
    | [a, b, c], _, r :: rs => rfl
  · obtain ⟨ws, rest, p, H0, rfl, hw, np, rfl, c, dx, l, en, f, xs, e1, lx, hc, q⟩ := h
    obtain ⟨rfl, rfl⟩ := List.append_inj e1 hw
    replace np := Fr.mk np
    refine ⟨_, (pss_cons (ps_fld (pv 0) pe_bl rfl)
      (pss_cons (Inf.ps_fin0 (pss_one (ps_set (i := 4) sc_Calls_run.nd rfl (.inl rfl) (Inf.pe_actG (i := 2) (CX := CX0) (k := n) (E := fun _ => E0) rfl (.inl rfl) hr (fun _ _ _ _ _ _ _ z => False.elim z) (pv 3)))) (pss_one (ps_fld (pv 0) pe_bl rfl)))
      (pss_cons (ps_expr (pe_bm PySem.F.plainAttrs_list PySem.F.slot_list_append PySem.F.type_list_append mt_append (pe_fld (pv 0) rfl) (pa_cons (pv 1) pa_nil)))
      (pss_one (ps_ret (pv 4)))))), ?_⟩
    obtain ⟨a, o, sp, Q0, rfl, h2, h3, h4, h5, h6⟩ := q (upd (upd H0 p (.tup rest)) c (CO T.C_Calls dx l true)) (by kxs_still) upd_same
    replace h4 := fnR_q h4
    o_readsAll
    intro v H2 hv
    obtain ⟨hc2, es, hl, hs, q2⟩ := h6 v H2 hv
    have hlc : l ≠ c := neO hl hc2 (fun z => nomatch z)
    o_readsAll
    exact q2 _ (by kxs_still) (by kp_flats) (by kp_flats)
end
end Ob

set_option Elab.async false
set_option linter.all false
set_option maxRecDepth 100000
set_option maxHeartbeats 1000000
namespace Ob
open PySem PySem.Spec PyProof.Rows L2
open LamX (Tabs TabB TabS ExtN)

set_option hygiene false in
local macro_rules
  | `(tactic| kp_flats) => `(tactic| first
    | assumption
    | exact upd_same
    | (apply atNew; assumption; kp_flats)
    | (apply atNe; (next => kbo_bools); kp_flats)
    | (apply atSame; assumption; kp_flats)
    | (apply atKp; assumption; (next => kaf_pre); kp_flats))
set_option hygiene false in
local macro_rules
  | `(tactic| kaf_pre) => `(tactic| first
    | assumption
    | exact not_nil
    | (apply not_cons; (next => kbo_bools); kaf_pre)
    | (apply not_app; (next => kaf_pre); kaf_pre))
set_option hygiene false in
local macro_rules
  | `(tactic| kbo_bools) => `(tactic| first
    | assumption
    | (apply Ne.symm; assumption)
    | (apply neN; assumption; kp_flats)
    | (apply neN'; assumption; kp_flats))
set_option hygiene false in
local macro_rules
  | `(tactic| o_reads) => `(tactic| first
    | with_reducible rfl
    | assumption
    | rfl
    | kp_flats
    | (show SqL _ _ _ _; first | assumption | (apply sqlOf; kp_flats) | (apply sqlSame; assumption; o_reads))
    | (show SqT _ _ _ _; first | assumption | (apply sqtOf; kp_flats) | (apply sqtAll; assumption) | (apply sqtSame; assumption; o_reads))
    | (show Cls _ _; first | exact T.cl_Calls | exact T.cl_Outer | exact T.cl_Timed)
    | (show NoAttr _ _ _; first | exact T.n_Calls_entries | exact T.n_Calls_running | exact T.n_Outer_calls | exact T.n_Outer_push_call | exact T.n_Outer_pop_call | exact T.n_Outer_ask_call | exact T.n_Outer_order | exact T.n_Outer_broken | exact T.n_Timed_outer | exact T.n_Timed_given | exact T.n_Timed_now | exact T.n_Timed_held | exact T.n_Timed_limits | exact T.n_Timed_ends)
    | (apply Or.inl; o_reads)
    | (apply Or.inr; o_reads)
    | (apply And.intro; (next => o_reads); o_reads)
    | (apply Exists.intro; o_reads)
    | exact Nat.le_of_ble_eq_true rfl
    | exact Nat.succ_ne_zero _
    | (show Fr _ _; kba_ints)
    | (show Same _ _; kd_subs)
    | (show Kp _ _ _; kxs_still)
    | (show (_ : Nat) ≤ _; simp only [List.length_append, List.length_map, List.length_cons, List.length_nil, List.length_take, List.length_drop, List.length_replicate, List.length_range, sizeLine_eq]; omega)
    | (show _ = none; apply Fr.h; kba_ints)
    | (show Bag _ _; first | assumption | (apply bag_putF; assumption; o_reads) | (apply bag_neF; (next => kbo_bools); o_reads) | (apply bag_kpR; assumption; (next => kaf_pre); o_reads))
    | omega
    | decide)
local macro_rules
  | `(tactic| o_readsAll) => `(tactic| repeat (first
    | (refine fun (pNew : Addr) (nNew : _ = none) => ?_; replace nNew := Fr.mk nNew)
    | (refine fun (xNew dNew : Addr) (nNew : _ = none) (mNew : _ = none) (eNew : dNew ≠ xNew) => ?_; replace nNew := Fr.mk nNew; replace mNew := Fr.mk mNew)
    | (apply And.intro; next => o_reads)
    | apply Exists.intro (α := V)
    | apply Exists.intro (α := Addr)
    | apply Exists.intro (α := Int)
    | apply Exists.intro (α := Bool)
    | apply Exists.intro (α := List V)
    | apply Exists.intro (α := List Nat)
    | apply Exists.intro (α := List (Str × V))
    | apply Exists.intro (α := List _)
    | apply Exists.intro (α := Str)
    | apply Exists.intro (α := HO)
    | apply Exists.intro (α := Sp)
    | apply Exists.intro (α := VK)))
set_option hygiene false in
local macro_rules
  | `(tactic| kba_ints) => `(tactic| first
    | assumption
    | (apply frUp; (first | assumption | (apply Ne.symm; assumption)); kba_ints)
    | (apply noneOf; assumption; intro oF eF; apply Exists.intro; kp_flats)
    | (apply frUp; (next => kbo_bools); kba_ints))
set_option hygiene false in
local macro_rules
  | `(tactic| kxs_still) => `(tactic| first
    | assumption
    | exact kp_refl _ _
    | (apply kp_newF; assumption; kxs_still)
    | (apply kp_new; assumption; kxs_still)
    | (apply kp_up; (next => o_fieldsN); kxs_still)
    | (apply kp_new; (next => kba_ints); kxs_still)
    | (apply kp_sameR; assumption; kxs_still)
    | (apply kp_transR; assumption; kxs_still)
    | (apply kp_freshR; assumption; (next => kaf_suf); kxs_still))
set_option hygiene false in
local macro_rules
  | `(tactic| kaf_suf) => `(tactic| first
    | assumption
    | exact subNil
    | (apply subCons; (first | (apply Or.inl; o_fieldsN) | (apply Or.inr; kba_ints)); kaf_suf)
    | (apply subApp; (next => kaf_suf); kaf_suf))
set_option hygiene false in
local macro_rules
  | `(tactic| o_fieldsN) => `(tactic| first
    | assumption
    | exact memA
    | (apply memB; o_fieldsN)
    | (apply memL; o_fieldsN)
    | (apply memR; o_fieldsN))
set_option hygiene false in
local macro_rules
  | `(tactic| kd_subs) => `(tactic| first
    | assumption
    | exact Same.refl _
    | (apply same_putF; assumption; kd_subs)
    | (apply same_putG; assumption; kd_subs)
    | (apply same_putF; (next => kba_ints); kd_subs)
    | (apply same_transR; assumption; kd_subs))

set_option pp.maxSteps 900
/-! ### an outer structure, and the calls on it -/
inductive Ca where
  | push (i : Nat) (v : V) | pop (i : Nat) | ask (v : V)
def Ca.ent : Ca → List V
  | .push i _ => [.str "push", .int (i : Int)]
  | .pop i => [.str "pop", .int (i : Int)]
  | .ask _ => [.str "ask"]
/-- the log of these calls -/
structure LogC (H : Hp) (xs : List V) (tr : List Ca) : Prop where
  len : xs.length = tr.length
  at_ : ∀ (q : Nat) (x : V) (e : Ca), xs[q]? = some x → tr[q]? = some e → ∃ p, x = .ref p ∧ H p = some (.tup e.ent)
theorem LogC.kp {H H1 : Hp} {xs : List V} {tr : List Ca} {cs : List Addr} (h : LogC H xs tr) (k : Kp cs H H1) (m : Mu H cs) : LogC H1 xs tr := ⟨h.len, fun q x e a b => by
  obtain ⟨p, h1, h2⟩ := h.at_ q x e a b
  exact ⟨p, h1, kp_tup k m h2⟩⟩
theorem LogC.nil {H : Hp} : LogC H [] [] := ⟨rfl, fun q x e z => by cases q <;> cases z⟩
theorem LogC.add {H : Hp} {xs : List V} {tr : List Ca} {t : Addr} {e : Ca} (h : LogC H xs tr) (ht : H t = some (.tup e.ent)) : LogC H (xs ++ [.ref t]) (tr ++ [e]) := by
  refine ⟨by rw [List.length_append, List.length_append, h.len]; rfl, fun i x y a b => ?_⟩
  have hl := h.len
  by_cases c : i < xs.length
  · rw [List.getElem?_append_left c] at a
    rw [List.getElem?_append_left (by omega)] at b
    exact h.at_ i x y a b
  · rw [List.getElem?_append_right (by omega)] at a
    rw [List.getElem?_append_right (by omega), ← hl] at b
    match i - xs.length, a, b with
    | 0, a, b =>
      cases a
      cases b
      exact ⟨t, rfl, ht⟩
    | r + 1, a, _ => cases r <;> cases a
/-- what stands behind these calls -/
def stC (S : List Nat) : List Ca → List Nat
  | [] => S
  | .push i _ :: l => stC (S ++ [i]) l
  | .pop _ :: l => stC S.dropLast l
  | .ask _ :: l => stC S l
theorem stC_app : ∀ {a b : List Ca} {S : List Nat}, stC S (a ++ b) = stC (stC S a) b
  | [], _, _ => rfl
  | .push _ _ :: a, b, S => stC_app (a := a)
  | .pop _ :: a, b, S => stC_app (a := a)
  | .ask _ :: a, b, S => stC_app (a := a)
/-- three callables: R by the calls that were made; PM what members are, PQ what questions are, An what a question brings -/
structure OS (P : Program) (w : World) (K : PySem.W.Frag) (mg : Str → Option Value) (base : Heap) (n : Nat) (uv : List Addr) (fp fo fa : V) (PM : Nat → V → Prop) (PQ : V → Prop) (R : List Ca → Hp → Prop) (An : List Ca → V → V → Hp → Prop) : Prop where
  rk : ∀ {tr : List Ca} {cs : List Addr} {H H1 : Hp}, R tr H → Kp cs H H1 → Mu H cs → (∀ a ∈ uv, a ∉ cs) → R tr H1
  ak : ∀ {tr : List Ca} {v u : V} {cs : List Addr} {H H1 : Hp}, An tr v u H → Kp cs H H1 → Mu H cs → (∀ r, u = .ref r → r ∉ cs) → An tr v u H1
  mu : ∀ {tr : List Ca} {H : Hp}, R tr H → Mu H uv
  push : ∀ {tr : List Ca} {i : Nat} {v : V} {H : Hp} {Q : VK}, PM i v → tr.length < 1000000 → R tr H → (∀ u H', Kp uv H H' → R (tr ++ [.push i v]) H' → Q u H') → Acx P w K mg base n fp [v] H Q
  pop : ∀ {tr : List Ca} {i : Nat} {S : List Nat} {H : Hp} {Q : VK}, stC [] tr = S ++ [i] → tr.length < 1000000 → R tr H → (∀ u H', Kp uv H H' → R (tr ++ [.pop i]) H' → Q u H') → Acx P w K mg base n fo [] H Q
  ask : ∀ {tr : List Ca} {v : V} {H : Hp} {Q : VK}, PQ v → tr.length < 1000000 → R tr H → (∀ u H', Kp uv H H' → R (tr ++ [.ask v]) H' → An tr v u H' → (∀ r, u = .ref r → H r = none) → Q u H') → Acx P w K mg base n fa [v] H Q
def OO (C dx c : Addr) (fp fo fa : V) (od : Addr) (b : Bool) : HO := .ins C dx [("calls", .ref c), ("push_call", fp), ("pop_call", fo), ("ask_call", fa), ("order", .ref od), ("broken", .bl b)]
/-- an Outer at o: its calls at c, its log at l, its stack at od; the calls tr were made -/
structure OutAt (C CC : Addr) (H : Hp) (o c l od : Addr) (fp fo fa : V) (uv : List Addr) (R : List Ca → Hp → Prop) (tr : List Ca) : Prop where
  ho : ∃ dx, H o = some (OO C dx c fp fo fa od false)
  hc : ∃ dx, H c = some (CO CC dx l false)
  hl : ∃ es, H l = some (.lst es) ∧ LogC H es tr
  hd : H od = some (.lst ((stC [] tr).map nV))
  r : R tr H
  nl : l ≠ od
  nc : o ≠ c
  nu : ∀ a ∈ uv, a ≠ o ∧ a ≠ c ∧ a ≠ l ∧ a ≠ od
theorem OutAt.kp {P : Program} {w : World} {K : PySem.W.Frag} {mg : Str → Option Value} {base : Heap} {n : Nat} {PM : Nat → V → Prop} {PQ : V → Prop} {An : List Ca → V → V → Hp → Prop} {C CC : Addr} {H H1 : Hp} {o c l od : Addr} {fp fo fa : V} {uv : List Addr} {R : List Ca → Hp → Prop} {tr : List Ca} {cs : List Addr} (A : OS P w K mg base n uv fp fo fa PM PQ R An) (h : OutAt C CC H o c l od fp fo fa uv R tr) (k : Kp cs H H1) (m : Mu H cs) (n1 : o ∉ cs) (n2 : c ∉ cs) (n3 : l ∉ cs) (n4 : od ∉ cs) (n5 : ∀ a ∈ uv, a ∉ cs) : OutAt C CC H1 o c l od fp fo fa uv R tr := by
  obtain ⟨⟨d1, e1⟩, ⟨d2, e2⟩, ⟨es, e3, e4⟩, e5, e6, e7, e8, e9⟩ := h
  exact ⟨⟨d1, k.at_ _ _ e1 n1⟩, ⟨d2, k.at_ _ _ e2 n2⟩, ⟨es, k.at_ _ _ e3 n3, e4.kp k m⟩, k.at_ _ _ e5 n4, A.rk e6 k m n5, e7, e8, e9⟩
section
variable {P : Program} {w : World} {K : PySem.W.Frag} {mg : Str → Option Value} {base : Heap} {n : Nat}
theorem act_of {f : V} {xs : List V} {H : Hp} {Q : VK} (h : Acx P w K mg base n f xs H Q) : Act P w K mg base n f xs H Q := by
  obtain ⟨a, o, sp, rfl, h1, h2, h3, h4⟩ := h
  exact ⟨a, o, sp, Q, rfl, h1, h2, h3, h4, fun _ _ z => z⟩
theorem k2_at {H H1 : Hp} {o c l : Addr} {x : HO} (s : Same H H1) (h : H o = some x) (_ : H c = none) (_ : Fr H1 l) : H1 o = some x := s _ _ h
def spOI (C CC : Addr) : Sp := fun vs H Q _ => ∃ (o dx : Addr) (fp fo fa : V), vs = [.ref o, fp, fo, fa] ∧ H o = some (.ins C dx []) ∧
  ∀ c l od H', Fr H c → Fr H l → Fr H od → Kp [o] H H' → l ≠ od → (∃ dx, H' o = some (OO C dx c fp fo fa od false)) → (∃ dx, H' c = some (CO CC dx l false)) → H' l = some (.lst []) → H' od = some (.lst []) → Q .non H'
theorem ok_oi (T : Txt K mg) : FnOk P w K mg base CX0 4 T.f_Outer_init T.d_Outer_init ["self", "push", "pop", "ask"] (spOI T.C_Outer T.C_Calls) := by
  have G_Calls_init := ok_ci (P := P) (w := w) (base := base) T
  refine T.F_Outer_init.ok sc_Outer_init (fun vs H Q E h => ?_) (fun cdv A outer s H vs Q E hr h => ?_)
  · obtain ⟨o, dx, fp, fo, fa, rfl, _⟩ := h
    rfl
  · obtain ⟨o, dx, fp, fo, fa, rfl, ho, q⟩ := h
    refine ⟨_, (pss_cons (ps_fld (pv 0) (pe_make0 ⟨T.mk_Calls, T.m_Calls_init, T.t_Calls_init, T.kp_Calls⟩ G_Calls_init (hr.mono (by omega)) rfl T.gc_Calls T.b_Calls_init .nil pass0) rfl)
      (pss_cons (ps_fld (pv 0) (pv 1) rfl)
      (pss_cons (ps_fld (pv 0) (pv 2) rfl)
      (pss_cons (ps_fld (pv 0) (pv 3) rfl)
      (pss_cons (ps_fld (pv 0) (pe_lst pa_nil) rfl)
      (pss_one (ps_fld (pv 0) pe_bl rfl))))))), ?_⟩
    intro c cdx nc ncdx nxc
    have fc := Fr.mk nc
    have fcd := Fr.mk ncdx
    have e1 : upd (upd H cdx (.own c)) c (.ins T.C_Calls cdx []) c = some (.ins T.C_Calls cdx []) := upd_same
    have s1 : Same H (upd (upd H cdx (.own c)) c (.ins T.C_Calls cdx [])) := same_putG fc (same_newF fcd)
    generalize upd (upd H cdx (.own c)) c (.ins T.C_Calls cdx []) = H1 at e1 s1 ⊢
    refine ⟨c, cdx, rfl, e1, fun l H2 fl ec el k2 => ⟨rfl, ?_⟩⟩
    have ho2 := k2.at_ _ _ (s1 _ _ ho) (not_cons (ne_of_none ho nc) not_nil)
    o_readsAll
    rename_i od nod
    have nco : o ≠ c := ne_of_none ho nc
    have nlo : o ≠ l := ne_of_none (k2_at s1 ho nc fl) fl.h
    have nlc : l ≠ c := neO el ec (fun z => nomatch z)
    have b2 : Kp [o] H H2 := kp_fresh (kp_same s1) k2 (subCons (.inr fc) subNil)
    have b6 := kp_up (o := .ins T.C_Outer dx (putF "ask_call" fa (putF "pop_call" fo (putF "push_call" fp (putF "calls" (.ref c) []))))) memA (kp_up (o := .ins T.C_Outer dx (putF "pop_call" fo (putF "push_call" fp (putF "calls" (.ref c) [])))) memA (kp_up (o := .ins T.C_Outer dx (putF "push_call" fp (putF "calls" (.ref c) []))) memA (kp_up (o := .ins T.C_Outer dx (putF "calls" (.ref c) [])) memA b2)))
    have m6 : Mu (upd (upd (upd (upd H2 o (.ins T.C_Outer dx (putF "calls" (.ref c) []))) o (.ins T.C_Outer dx (putF "push_call" fp (putF "calls" (.ref c) [])))) o (.ins T.C_Outer dx (putF "pop_call" fo (putF "push_call" fp (putF "calls" (.ref c) []))))) o (.ins T.C_Outer dx (putF "ask_call" fa (putF "pop_call" fo (putF "push_call" fp (putF "calls" (.ref c) [])))))) [o] := mu_ins upd_same mu_nil
    have fod : Fr H od := fr_kp b6 m6 nod
    have c6 : upd (upd (upd (upd H2 o (.ins T.C_Outer dx (putF "calls" (.ref c) []))) o (.ins T.C_Outer dx (putF "push_call" fp (putF "calls" (.ref c) [])))) o (.ins T.C_Outer dx (putF "pop_call" fo (putF "push_call" fp (putF "calls" (.ref c) []))))) o (.ins T.C_Outer dx (putF "ask_call" fa (putF "pop_call" fo (putF "push_call" fp (putF "calls" (.ref c) []))))) c = some (CO T.C_Calls cdx l false) := by
      rw [upd_ne nco.symm, upd_ne nco.symm, upd_ne nco.symm, upd_ne nco.symm]
      exact ec
    have l6 : upd (upd (upd (upd H2 o (.ins T.C_Outer dx (putF "calls" (.ref c) []))) o (.ins T.C_Outer dx (putF "push_call" fp (putF "calls" (.ref c) [])))) o (.ins T.C_Outer dx (putF "pop_call" fo (putF "push_call" fp (putF "calls" (.ref c) []))))) o (.ins T.C_Outer dx (putF "ask_call" fa (putF "pop_call" fo (putF "push_call" fp (putF "calls" (.ref c) []))))) l = some (.lst []) := by
      rw [upd_ne nlo.symm, upd_ne nlo.symm, upd_ne nlo.symm, upd_ne nlo.symm]
      exact el
    generalize upd (upd (upd (upd H2 o (.ins T.C_Outer dx (putF "calls" (.ref c) []))) o (.ins T.C_Outer dx (putF "push_call" fp (putF "calls" (.ref c) [])))) o (.ins T.C_Outer dx (putF "pop_call" fo (putF "push_call" fp (putF "calls" (.ref c) []))))) o (.ins T.C_Outer dx (putF "ask_call" fa (putF "pop_call" fo (putF "push_call" fp (putF "calls" (.ref c) []))))) = H6 at nod b6 m6 c6 l6 ⊢
    have noo : o ≠ od := ne_of_none ho fod.h
    refine q c l od _ fc (Fr.mk (s1.free fl.h)) fod (kp_up memA (kp_up memA (kp_new nod b6))) (ne_of_none l6 nod.h) ⟨dx, upd_same⟩ ⟨cdx, ?_⟩ ?_ ?_
    · rw [upd_ne nco.symm, upd_ne nco.symm]
      exact atNew nod c6
    · rw [upd_ne nlo.symm, upd_ne nlo.symm]
      exact atNew nod l6
    · rw [upd_ne noo.symm, upd_ne noo.symm]
      exact upd_same
def spOC (C CC : Addr) : Sp := fun vs H Q _ => ∃ (o c l od : Addr) (fp fo fa : V), vs = [.ref o] ∧ (∃ dx, H o = some (OO C dx c fp fo fa od false)) ∧ (∃ dx, H c = some (CO CC dx l false)) ∧ Q .non H
theorem ok_oc (T : Txt K mg) : FnOk P w K mg base CX0 2 T.f_Outer_check T.d_Outer_check ["self"] (spOC T.C_Outer T.C_Calls) := by
  have G_Calls_check := ok_chk (P := P) (w := w) (base := base) T
  refine T.F_Outer_check.ok sc_Outer_check (fun vs H Q E h => ?_) (fun cdv A outer s H vs Q E hr h => ?_)
  · obtain ⟨o, c, l, od, fp, fo, fa, rfl, _⟩ := h
    rfl
  · obtain ⟨o, c, l, od, fp, fo, fa, rfl, ⟨d1, ho⟩, ⟨d2, hc⟩, q⟩ := h
    refine ⟨_, (pss_cons (ps_expr (pe_meth0 (pe_fld (pv 0) rfl) T.cl_Calls ⟨T.m_Calls_check, T.t_Calls_check, T.k_Calls_check⟩ G_Calls_check (hr.mono (by omega)) T.b_Calls_check .nil pass0))
      (pss_one (ps_if (pt_truth (pe_fld (pv 0) rfl) (by intro _; rfl)) pss_never pss_nil))), ?_⟩
    unfold OO at ho
    o_readsAll
    exact iteF q
end
end Ob

set_option Elab.async false
set_option linter.all false
set_option maxRecDepth 100000
set_option maxHeartbeats 1000000
namespace Ob
open PySem PySem.Spec PyProof.Rows L2
open LamX (Tabs TabB TabS ExtN)

set_option hygiene false in
local macro_rules
  | `(tactic| kp_flats) => `(tactic| first
    | assumption
    | exact upd_same
    | (apply atNew; assumption; kp_flats)
    | (apply atNe; (next => kbo_bools); kp_flats)
    | (apply atSame; assumption; kp_flats)
    | (apply atKp; assumption; (next => kaf_pre); kp_flats))
set_option hygiene false in
local macro_rules
  | `(tactic| kaf_pre) => `(tactic| first
    | assumption
    | exact not_nil
    | (apply not_cons; (next => kbo_bools); kaf_pre)
    | (apply not_app; (next => kaf_pre); kaf_pre))
set_option hygiene false in
local macro_rules
  | `(tactic| kbo_bools) => `(tactic| first
    | assumption
    | (apply Ne.symm; assumption)
    | (apply neN; assumption; kp_flats)
    | (apply neN'; assumption; kp_flats))
set_option hygiene false in
local macro_rules
  | `(tactic| o_reads) => `(tactic| first
    | with_reducible rfl
    | assumption
    | rfl
    | kp_flats
    | (show SqL _ _ _ _; first | assumption | (apply sqlOf; kp_flats) | (apply sqlSame; assumption; o_reads))
    | (show SqT _ _ _ _; first | assumption | (apply sqtOf; kp_flats) | (apply sqtAll; assumption) | (apply sqtSame; assumption; o_reads))
    | (show Cls _ _; first | exact T.cl_Calls | exact T.cl_Outer | exact T.cl_Timed)
    | (show NoAttr _ _ _; first | exact T.n_Calls_entries | exact T.n_Calls_running | exact T.n_Outer_calls | exact T.n_Outer_push_call | exact T.n_Outer_pop_call | exact T.n_Outer_ask_call | exact T.n_Outer_order | exact T.n_Outer_broken | exact T.n_Timed_outer | exact T.n_Timed_given | exact T.n_Timed_now | exact T.n_Timed_held | exact T.n_Timed_limits | exact T.n_Timed_ends)
    | (apply Or.inl; o_reads)
    | (apply Or.inr; o_reads)
    | (apply And.intro; (next => o_reads); o_reads)
    | (apply Exists.intro; o_reads)
    | exact Nat.le_of_ble_eq_true rfl
    | exact Nat.succ_ne_zero _
    | (show Fr _ _; kba_ints)
    | (show Same _ _; kd_subs)
    | (show Kp _ _ _; kxs_still)
    | (show (_ : Nat) ≤ _; simp only [List.length_append, List.length_map, List.length_cons, List.length_nil, List.length_take, List.length_drop, List.length_replicate, List.length_range, sizeLine_eq]; omega)
    | (show _ = none; apply Fr.h; kba_ints)
    | (show Bag _ _; first | assumption | (apply bag_putF; assumption; o_reads) | (apply bag_neF; (next => kbo_bools); o_reads) | (apply bag_kpR; assumption; (next => kaf_pre); o_reads))
    | omega
    | decide)
local macro_rules
  | `(tactic| o_readsAll) => `(tactic| repeat (first
    | (refine fun (pNew : Addr) (nNew : _ = none) => ?_; replace nNew := Fr.mk nNew)
    | (refine fun (xNew dNew : Addr) (nNew : _ = none) (mNew : _ = none) (eNew : dNew ≠ xNew) => ?_; replace nNew := Fr.mk nNew; replace mNew := Fr.mk mNew)
    | (apply And.intro; next => o_reads)
    | apply Exists.intro (α := V)
    | apply Exists.intro (α := Addr)
    | apply Exists.intro (α := Int)
    | apply Exists.intro (α := Bool)
    | apply Exists.intro (α := List V)
    | apply Exists.intro (α := List Nat)
    | apply Exists.intro (α := List (Str × V))
    | apply Exists.intro (α := List _)
    | apply Exists.intro (α := Str)
    | apply Exists.intro (α := HO)
    | apply Exists.intro (α := Sp)
    | apply Exists.intro (α := VK)))
set_option hygiene false in
local macro_rules
  | `(tactic| kba_ints) => `(tactic| first
    | assumption
    | (apply frUp; (first | assumption | (apply Ne.symm; assumption)); kba_ints)
    | (apply noneOf; assumption; intro oF eF; apply Exists.intro; kp_flats)
    | (apply frUp; (next => kbo_bools); kba_ints))
set_option hygiene false in
local macro_rules
  | `(tactic| kxs_still) => `(tactic| first
    | assumption
    | exact kp_refl _ _
    | (apply kp_newF; assumption; kxs_still)
    | (apply kp_new; assumption; kxs_still)
    | (apply kp_up; (next => o_fieldsN); kxs_still)
    | (apply kp_new; (next => kba_ints); kxs_still)
    | (apply kp_sameR; assumption; kxs_still)
    | (apply kp_transR; assumption; kxs_still)
    | (apply kp_freshR; assumption; (next => kaf_suf); kxs_still))
set_option hygiene false in
local macro_rules
  | `(tactic| kaf_suf) => `(tactic| first
    | assumption
    | exact subNil
    | (apply subCons; (first | (apply Or.inl; o_fieldsN) | (apply Or.inr; kba_ints)); kaf_suf)
    | (apply subApp; (next => kaf_suf); kaf_suf))
set_option hygiene false in
local macro_rules
  | `(tactic| o_fieldsN) => `(tactic| first
    | assumption
    | exact memA
    | (apply memB; o_fieldsN)
    | (apply memL; o_fieldsN)
    | (apply memR; o_fieldsN))
set_option hygiene false in
local macro_rules
  | `(tactic| kd_subs) => `(tactic| first
    | assumption
    | exact Same.refl _
    | (apply same_putF; assumption; kd_subs)
    | (apply same_putG; assumption; kd_subs)
    | (apply same_putF; (next => kba_ints); kd_subs)
    | (apply same_transR; assumption; kd_subs))

set_option pp.maxSteps 900
/-! ### following a plan -/
/-- the calls of these entries, with these members -/
def caOf (mb : Nat → V) (e : Str × Nat) : Ca := if e.1 = "push" then .push e.2 (mb e.2) else .pop e.2
/-- each pop takes the last one -/
def PopsOk : List Nat → List (Str × Nat) → Prop
  | _, [] => True
  | S, e :: l => (if e.1 = "push" then True else e.1 = "pop" ∧ ∃ S', S = S' ++ [e.2]) ∧ PopsOk (stepS S e) l
theorem pops_app : ∀ {a b : List (Str × Nat)} {S : List Nat}, PopsOk S (a ++ b) ↔ PopsOk S a ∧ PopsOk (runW S a) b
  | [], b, S => ⟨fun h => ⟨True.intro, h⟩, fun h => h.2⟩
  | e :: a, b, S => by
    have ih := pops_app (a := a) (b := b) (S := stepS S e)
    exact ⟨fun h => ⟨⟨h.1, (ih.mp h.2).1⟩, (ih.mp h.2).2⟩, fun h => ⟨h.1.1, ih.mpr ⟨h.1.2, h.2⟩⟩⟩
theorem st_run {mb : Nat → V} : ∀ {l : List (Str × Nat)} {S : List Nat}, PopsOk S l → stC S (l.map (caOf mb)) = runW S l
  | [], S, _ => rfl
  | (wd, i) :: l, S, h => by
    obtain ⟨h1, h2⟩ := h
    show stC S (caOf mb (wd, i) :: l.map (caOf mb)) = runW (stepS S (wd, i)) l
    by_cases c : wd = "push"
    · subst c
      have e1 : caOf mb (("push" : Str), i) = .push i (mb i) := if_pos rfl
      have e2 : stepS S (("push" : Str), i) = S ++ [i] := if_pos rfl
      rw [e1, e2]
      rw [e2] at h2
      exact st_run h2
    · have h1 : wd = "pop" ∧ ∃ S', S = S' ++ [i] := by
        rw [if_neg c] at h1
        exact h1
      obtain ⟨rfl, _⟩ := h1
      have e1 : caOf mb (("pop" : Str), i) = .pop i := if_neg wOP2
      have e2 : stepS S (("pop" : Str), i) = S.dropLast := by
        show (if ("pop" : Str) = "push" then _ else if ("pop" : Str) = "pop" then _ else _) = _
        rw [if_neg wOP2, if_pos rfl]
      rw [e1, e2]
      rw [e2] at h2
      exact st_run h2
section
variable {P : Program} {w : World} {K : PySem.W.Frag} {mg : Str → Option Value} {base : Heap} {n : Nat}
def spFol (P : Program) (w : World) (K : PySem.W.Frag) (mg : Str → Option Value) (base : Heap) (C CC : Addr) (n : Nat) : Sp := fun vs H Q _ => ∃ (o c l od ea hd : Addr) (fp fo fa : V) (uv : List Addr) (PM : Nat → V → Prop) (PQ : V → Prop) (R : List Ca → Hp → Prop) (An : List Ca → V → V → Hp → Prop) (tr : List Ca) (ys : List V) (es : List (Str × Nat)) (kvs : List (Key × V)) (mb : Nat → V),
  vs = [.ref o, .ref ea, .ref hd] ∧ OS P w K mg base n uv fp fo fa PM PQ R An ∧ OutAt C CC H o c l od fp fo fa uv R tr ∧ H ea = some (.lst ys) ∧ WLog H ys es ∧ H hd = some (.dK kvs) ∧ (∀ e ∈ es, e.1 = "push" → valV kvs (.inl (e.2 : Int)) = some (mb e.2) ∧ PM e.2 (mb e.2)) ∧ PopsOk (stC [] tr) es ∧ tr.length + es.length < 1000000 ∧
  (∀ a ∈ [ea, hd], a ≠ o ∧ a ≠ c ∧ a ≠ l ∧ a ∉ uv) ∧
  ∀ H', Kp (o :: c :: l :: uv) H H' → (∃ dx, H' o = some (OO C dx c fp fo fa od false)) → (∃ dx, H' c = some (CO CC dx l false)) → (∃ xs, H' l = some (.lst xs) ∧ LogC H' xs (tr ++ es.map (caOf mb))) → R (tr ++ es.map (caOf mb)) H' → Q .non H'
theorem ok_fol (T : Txt K mg) : FnOk P w K mg base CX0 (n + 4) T.f_Outer_follow T.d_Outer_follow ["self", "entries", "held"] (spFol P w K mg base T.C_Outer T.C_Calls n) := by
  have G_Calls_run := ok_run (P := P) (w := w) (base := base) (n := n) T
  refine T.F_Outer_follow.ok sc_Outer_follow (fun vs H Q E h => ?_) (fun cdv A outer s H vs Q E hr h => ?_)
  · obtain ⟨o, c, l, od, ea, hd, fp, fo, fa, uv, PM, PQ, R, An, tr, ys, es, kvs, mb, rfl, _⟩ := h
    rfl
  · obtain ⟨o, c, l, od, ea, hd, fp, fo', fa, uv, PM, PQ, R, An, tr, ys, es, kvs, mb, rfl, OA, hO, hea, hw, hhd, hmb, hp, hlen, hne, q⟩ := h
    refine ⟨_, (pss_cons (ps_set (i := 3) sc_Outer_follow.nd rfl (.inl rfl) pe_bl)
      (pss_one (Inf.ps_fin0 (pss_cons (ps_for PassesOwn.never rfl (pi_list (pv 1)) (pg_tup (by rfl) (pgs_cons (pg_name (i := 4) sc_Outer_follow.nd rfl (.inl rfl)) (pgs_cons (pg_name (i := 5) sc_Outer_follow.nd rfl (.inl rfl)) pgs_nil))) (pss_one (ps_if (pt_cmpR op_eq (pv 4) pe_str (nomark _)) (pss_one (ps_expr (pe_methR (pe_fld (pv 0) rfl) T.cl_Calls ⟨T.m_Calls_run, T.t_Calls_run, T.k_Calls_run⟩ G_Calls_run (hr.mono (by omega)) pass0 (pa_cons (pe_tup (pa_cons (pv 4) (pa_cons (pv 5) pa_nil))) (pa_cons (pe_fld (pv 0) rfl) (pa_cons (pe_dget (hu_of hr) (pv 2) (pv 5) (fun _ _ => rfl)) pa_nil)))))) (pss_one (ps_expr (pe_methR (pe_fld (pv 0) rfl) T.cl_Calls ⟨T.m_Calls_run, T.t_Calls_run, T.k_Calls_run⟩ G_Calls_run (hr.mono (by omega)) pass0 (pa_cons (pe_tup (pa_cons (pv 4) (pa_cons (pv 5) pa_nil))) (pa_cons (pe_fld (pv 0) rfl) pa_nil))))))))
        (pss_one (ps_set (i := 3) sc_Outer_follow.nd rfl (.inl rfl) pe_bl))) (pss_one (ps_fld (pv 0) (pv 3) rfl))))), ?_⟩
    obtain ⟨⟨d1, ho⟩, ⟨d2, hc⟩, ⟨xs, hl, hlg⟩, hod, hR, nlod, noc, nu⟩ := hO
    have hwl := hw.len
    refine pGN ?_
    simp only [List.set_cons_succ, List.set_cons_zero]
    have nlo : l ≠ o := neO hl ho (fun z => nomatch z)
    have nlc : l ≠ c := neO hl hc (fun z => nomatch z)
    have uo : o ∉ uv := fun m => (nu o m).1 rfl
    have uc : c ∉ uv := fun m => (nu c m).2.1 rfl
    have ul : l ∉ uv := fun m => (nu l m).2.2.1 rfl
    have mU : Mu H (o :: c :: l :: uv) := mu_ins ho (mu_ins hc (mu_lst hl (OA.mu hR)))
    have nea : ea ∉ o :: c :: l :: uv := by
      obtain ⟨a1, a2, a3, a4⟩ := hne ea memA
      exact not_cons a1 (not_cons a2 (not_cons a3 a4))
    have nhd : hd ∉ o :: c :: l :: uv := by
      obtain ⟨a1, a2, a3, a4⟩ := hne hd (memB memA)
      exact not_cons a1 (not_cons a2 (not_cons a3 a4))
    refine ⟨_, rfl, ea, rfl, ⟨_, sqlOf hea⟩, ?_⟩
    refine for_it (walk_list (K := K) (a := ea) (xs := ys)) (fun k σ H' => ∃ y4 y5, σ = [some (.ref o), some (.ref ea), some (.ref hd), some (.bl true), y4, y5] ∧ Kp (o :: c :: l :: uv) H H' ∧ H' o = some (OO T.C_Outer d1 c fp fo' fa od false) ∧ H' c = some (CO T.C_Calls d2 l false) ∧ (∃ zs, H' l = some (.lst zs) ∧ LogC H' zs (tr ++ (es.take k).map (caOf mb))) ∧ R (tr ++ (es.take k).map (caOf mb)) H') ⟨_, _, rfl, kp_refl _ _, ho, hc, ⟨xs, hl, by rw [List.take_zero, List.map_nil, List.append_nil]; exact hlg⟩, by rw [List.take_zero, List.map_nil, List.append_nil]; exact hR⟩ (fun k σ H' _ ⟨_, _, _, z, _⟩ => sqlOf (z.at_ _ _ hea nea)) ?_ ?_
    · rintro k x σ H4' H4 hk ⟨y4, y5, rfl, k4, ho4, hc4, ⟨zs, hl4, hg4⟩, R4⟩ ⟨rfl, hx⟩
      have hke : k < es.length := by omega
      have hee : es[k]? = some (es[k]'hke) := List.getElem?_eq_getElem hke
      have hsp : es.take k ++ es[k]'hke :: es.drop (k + 1) = es := by
        rw [List.getElem_cons_drop, List.take_append_drop]
      have hmem : es[k]'hke ∈ es := List.getElem_mem hke
      have htk : es.take (k + 1) = es.take k ++ [es[k]'hke] := by
        rw [List.take_succ, hee]
        rfl
      rw [htk, List.map_append, ← List.append_assoc]
      generalize es[k]'hke = e at hee hsp hmem ⊢
      obtain ⟨p, rfl, hp4⟩ := (hw.kp k4 mU).at_ k x e hx hee
      obtain ⟨wd, i⟩ := e
      have hlt : (tr ++ (es.take k).map (caOf mb)).length < 1000000 := by
        rw [List.length_append, List.length_map, List.length_take]
        omega
      have hzl := hg4.len
      have hpk : PopsOk (stC [] (tr ++ (es.take k).map (caOf mb))) [(wd, i)] := by
        rw [← hsp] at hp
        have h1 := pops_app.mp hp
        rw [stC_app, st_run h1.1]
        exact ⟨h1.2.1, True.intro⟩
      -- what is the same for both calls
      have go : ∀ (ac : V) (as : List V) (ca : Ca) (Hn : Hp) (t : Addr) (Q' : VK), Same H4 Hn → Hn t = some (.tup ca.ent) → as.length ≤ 10 →
          (∀ (H6 : Hp) (Qn : VK), R (tr ++ (es.take k).map (caOf mb)) H6 → (∀ u H', Kp uv H6 H' → R ((tr ++ (es.take k).map (caOf mb)) ++ [ca]) H' → Qn u H') → Acx P w K mg base n ac as H6 Qn) →
          (∀ u H8, Kp (o :: c :: l :: uv) H H8 → H8 o = some (OO T.C_Outer d1 c fp fo' fa od false) → H8 c = some (CO T.C_Calls d2 l false) → (∃ zs, H8 l = some (.lst zs) ∧ LogC H8 zs ((tr ++ (es.take k).map (caOf mb)) ++ [ca])) → R ((tr ++ (es.take k).map (caOf mb)) ++ [ca]) H8 → Q' u H8) →
          spRun P w K mg base T.C_Calls n (.ref c :: .ref t :: ac :: as) Hn Q' E0 := by
        intro ac as ca Hn t Q' sn et la hact hq
        have R5 := OA.rk R4 (kp_same (cs := []) sn) mu_nil (fun _ _ => not_nil)
        have hc5 := sn _ _ hc4
        have hl5 := sn _ _ hl4
        have ho5 := sn _ _ ho4
        have g5 := hg4.kp (kp_same (cs := []) sn) mu_nil
        refine ⟨c, d2, l, .ref t, ac, as, rfl, by rw [sizeLine_eq]; omega, hc5, fun H6 k6 ec6 => act_of (hact H6 _ ?_ fun u H7 k7 R7 => ?_)⟩
        · exact OA.rk R5 k6 (mu_ins hc5 mu_nil) (fun a m => not_cons (nu a m).2.1 not_nil)
        · have m5 : Mu Hn [c] := mu_ins hc5 mu_nil
          have R6 := OA.rk R5 k6 m5 (fun a m => not_cons (nu a m).2.1 not_nil)
          have m6 := OA.mu R6
          have ec7 := k7.at_ _ _ ec6 uc
          have el7 := k7.at_ _ _ (k6.at_ _ _ hl5 (not_cons nlc not_nil)) ul
          have eo7 := k7.at_ _ _ (k6.at_ _ _ ho5 (not_cons noc not_nil)) uo
          have g7 := (g5.kp k6 m5).kp k7 m6
          have et7 := kp_tup k7 m6 (kp_tup k6 m5 et)
          refine ⟨ec7, zs, el7, by rw [hzl, sizeLine_eq]; omega, fun H8 k8 ec8 el8 => ?_⟩
          have m7 : Mu H7 [c, l] := mu_ins ec7 (mu_lst el7 mu_nil)
          have kk : Kp (o :: c :: l :: uv) H H8 := kp_trans k4 (kp_trans (kp_same sn) (kp_trans (kp_more k6 (subCons (memB memA) subNil)) (kp_trans (kp_more k7 fun a m => memB (memB (memB m))) (kp_more k8 (subCons (memB memA) (subCons (memB (memB memA)) subNil))))))
          exact hq u H8 kk (k8.at_ _ _ eo7 (not_cons noc (not_cons nlo.symm not_nil))) ec8 ⟨_, el8, (g7.kp k8 m7).add (kp_tup k8 m7 et7)⟩ (OA.rk R7 k8 m7 (fun a m => not_cons (nu a m).2.1 (not_cons (nu a m).2.2.1 not_nil)))
      refine ⟨p, _, rfl, sqtOf hp4, rfl, _, _, rfl, _, _, rfl, rfl, ?_⟩
      refine ⟨_, rfl, rfl, _, rfl, ?_⟩
      by_cases cw : wd = "push"
      · subst cw
        obtain ⟨hv, hPM⟩ := hmb _ hmem rfl
        refine ifT wPP ?_
        have ecn : caOf mb (("push" : Str), i) = .push i (mb i) := if_pos rfl
        refine ⟨_, rfl, o, _, d1, _, _, rfl, ho4, T.cl_Outer, T.n_Outer_calls, rfl, c, d2, _, rfl, hc4, rfl, _, rfl, _, rfl, le2, fun t nt => ?_⟩
        have st := same_newF (o := .tup [.str "push", .int (i : Int)]) (Fr.mk nt)
        have hg : DGet (upd H4 t (.tup [.str "push", .int (i : Int)])) hd (.int (i : Int)) (some (mb i)) := by
          rw [← hv]
          exact DGet.k (k := .inl (i : Int)) (st _ _ (k4.at_ _ _ hhd nhd))
        refine ⟨_, rfl, o, _, d1, _, _, rfl, st _ _ ho4, T.cl_Outer, T.n_Outer_push_call, rfl, _, rfl, _, rfl, hd, _, rfl, hg, ?_⟩
        refine go fp [mb i] (.push i (mb i)) _ t _ st upd_same (show 1 ≤ 10 by decide) (fun H6 Qn R6 hq => OA.push hPM hlt R6 hq) fun u H8 a1 a2 a3 a4 a5 => ?_
        exact ⟨_, _, rfl, a1, a2, a3, by rw [List.map_cons, List.map_nil, ecn]; exact a4, by rw [List.map_cons, List.map_nil, ecn]; exact a5⟩
      · have hpop : wd = "pop" ∧ ∃ S', stC [] (tr ++ (es.take k).map (caOf mb)) = S' ++ [i] := by
          have := hpk.1
          rw [if_neg cw] at this
          exact this
        obtain ⟨rfl, S', hS⟩ := hpop
        refine ifF wOP ?_
        have ecn : caOf mb (("pop" : Str), i) = .pop i := if_neg wOP2
        refine ⟨_, rfl, o, _, d1, _, _, rfl, ho4, T.cl_Outer, T.n_Outer_calls, rfl, c, d2, _, rfl, hc4, rfl, _, rfl, _, rfl, le2, fun t nt => ?_⟩
        have st := same_newF (o := .tup [.str "pop", .int (i : Int)]) (Fr.mk nt)
        refine ⟨_, rfl, o, _, d1, _, _, rfl, st _ _ ho4, T.cl_Outer, T.n_Outer_pop_call, rfl, ?_⟩
        refine go fo' [] (.pop i) _ t _ st upd_same (by decide) (fun H6 Qn R6 hq => OA.pop hS hlt R6 hq) fun u H8 a1 a2 a3 a4 a5 => ?_
        exact ⟨_, _, rfl, a1, a2, a3, by rw [List.map_cons, List.map_nil, ecn]; exact a4, by rw [List.map_cons, List.map_nil, ecn]; exact a5⟩
    · rintro σ H4 ⟨y4, y5, rfl, k4, ho4, hc4, ⟨zs, hl4, hg4⟩, R4⟩
      rw [List.take_of_length_le (by omega)] at hg4 R4
      dsimp only []
      refine pAsg (pGN ?_)
      simp only [List.set_cons_succ, List.set_cons_zero]
      refine ⟨_, rfl, _, rfl, o, _, d1, _, rfl, ho4, T.cl_Outer, T.n_Outer_broken, (show 6 < 1000 by decide), ?_⟩
      have ku : Kp [o] H4 (upd H4 o (OO T.C_Outer d1 c fp fo' fa od false)) := kp_up memA (kp_refl _ _)
      have m4 : Mu H4 [o] := mu_ins ho4 mu_nil
      exact q _ (kp_trans k4 (kp_more ku (subCons memA subNil))) ⟨d1, upd_same⟩ ⟨d2, ku.at_ _ _ hc4 (not_cons noc.symm not_nil)⟩ ⟨zs, ku.at_ _ _ hl4 (not_cons nlo not_nil), hg4.kp ku m4⟩ (OA.rk R4 ku m4 fun a m => not_cons (nu a m).1 not_nil)
end
end Ob

set_option Elab.async false
set_option linter.all false
set_option maxRecDepth 100000
set_option maxHeartbeats 1000000
namespace Ob
open PySem PySem.Spec PyProof.Rows L2
open LamX (Tabs TabB TabS ExtN)

set_option hygiene false in
local macro_rules
  | `(tactic| kp_flats) => `(tactic| first
    | assumption
    | exact upd_same
    | (apply atNew; assumption; kp_flats)
    | (apply atNe; (next => kbo_bools); kp_flats)
    | (apply atSame; assumption; kp_flats)
    | (apply atKp; assumption; (next => kaf_pre); kp_flats))
set_option hygiene false in
local macro_rules
  | `(tactic| kaf_pre) => `(tactic| first
    | assumption
    | exact not_nil
    | (apply not_cons; (next => kbo_bools); kaf_pre)
    | (apply not_app; (next => kaf_pre); kaf_pre))
set_option hygiene false in
local macro_rules
  | `(tactic| kbo_bools) => `(tactic| first
    | assumption
    | (apply Ne.symm; assumption)
    | (apply neN; assumption; kp_flats)
    | (apply neN'; assumption; kp_flats))
set_option hygiene false in
local macro_rules
  | `(tactic| o_reads) => `(tactic| first
    | with_reducible rfl
    | assumption
    | rfl
    | kp_flats
    | (show SqL _ _ _ _; first | assumption | (apply sqlOf; kp_flats) | (apply sqlSame; assumption; o_reads))
    | (show SqT _ _ _ _; first | assumption | (apply sqtOf; kp_flats) | (apply sqtAll; assumption) | (apply sqtSame; assumption; o_reads))
    | (show Cls _ _; first | exact T.cl_Calls | exact T.cl_Outer | exact T.cl_Timed)
    | (show NoAttr _ _ _; first | exact T.n_Calls_entries | exact T.n_Calls_running | exact T.n_Outer_calls | exact T.n_Outer_push_call | exact T.n_Outer_pop_call | exact T.n_Outer_ask_call | exact T.n_Outer_order | exact T.n_Outer_broken | exact T.n_Timed_outer | exact T.n_Timed_given | exact T.n_Timed_now | exact T.n_Timed_held | exact T.n_Timed_limits | exact T.n_Timed_ends)
    | (apply Or.inl; o_reads)
    | (apply Or.inr; o_reads)
    | (apply And.intro; (next => o_reads); o_reads)
    | (apply Exists.intro; o_reads)
    | exact Nat.le_of_ble_eq_true rfl
    | exact Nat.succ_ne_zero _
    | (show Fr _ _; kba_ints)
    | (show Same _ _; kd_subs)
    | (show Kp _ _ _; kxs_still)
    | (show (_ : Nat) ≤ _; simp only [List.length_append, List.length_map, List.length_cons, List.length_nil, List.length_take, List.length_drop, List.length_replicate, List.length_range, sizeLine_eq]; omega)
    | (show _ = none; apply Fr.h; kba_ints)
    | (show Bag _ _; first | assumption | (apply bag_putF; assumption; o_reads) | (apply bag_neF; (next => kbo_bools); o_reads) | (apply bag_kpR; assumption; (next => kaf_pre); o_reads))
    | omega
    | decide)
local macro_rules
  | `(tactic| o_readsAll) => `(tactic| repeat (first
    | (refine fun (pNew : Addr) (nNew : _ = none) => ?_; replace nNew := Fr.mk nNew)
    | (refine fun (xNew dNew : Addr) (nNew : _ = none) (mNew : _ = none) (eNew : dNew ≠ xNew) => ?_; replace nNew := Fr.mk nNew; replace mNew := Fr.mk mNew)
    | (apply And.intro; next => o_reads)
    | apply Exists.intro (α := V)
    | apply Exists.intro (α := Addr)
    | apply Exists.intro (α := Int)
    | apply Exists.intro (α := Bool)
    | apply Exists.intro (α := List V)
    | apply Exists.intro (α := List Nat)
    | apply Exists.intro (α := List (Str × V))
    | apply Exists.intro (α := List _)
    | apply Exists.intro (α := Str)
    | apply Exists.intro (α := HO)
    | apply Exists.intro (α := Sp)
    | apply Exists.intro (α := VK)))
set_option hygiene false in
local macro_rules
  | `(tactic| kba_ints) => `(tactic| first
    | assumption
    | (apply frUp; (first | assumption | (apply Ne.symm; assumption)); kba_ints)
    | (apply noneOf; assumption; intro oF eF; apply Exists.intro; kp_flats)
    | (apply frUp; (next => kbo_bools); kba_ints))
set_option hygiene false in
local macro_rules
  | `(tactic| kxs_still) => `(tactic| first
    | assumption
    | exact kp_refl _ _
    | (apply kp_newF; assumption; kxs_still)
    | (apply kp_new; assumption; kxs_still)
    | (apply kp_up; (next => o_fieldsN); kxs_still)
    | (apply kp_new; (next => kba_ints); kxs_still)
    | (apply kp_sameR; assumption; kxs_still)
    | (apply kp_transR; assumption; kxs_still)
    | (apply kp_freshR; assumption; (next => kaf_suf); kxs_still))
set_option hygiene false in
local macro_rules
  | `(tactic| kaf_suf) => `(tactic| first
    | assumption
    | exact subNil
    | (apply subCons; (first | (apply Or.inl; o_fieldsN) | (apply Or.inr; kba_ints)); kaf_suf)
    | (apply subApp; (next => kaf_suf); kaf_suf))
set_option hygiene false in
local macro_rules
  | `(tactic| o_fieldsN) => `(tactic| first
    | assumption
    | exact memA
    | (apply memB; o_fieldsN)
    | (apply memL; o_fieldsN)
    | (apply memR; o_fieldsN))
set_option hygiene false in
local macro_rules
  | `(tactic| kd_subs) => `(tactic| first
    | assumption
    | exact Same.refl _
    | (apply same_putF; assumption; kd_subs)
    | (apply same_putG; assumption; kd_subs)
    | (apply same_putF; (next => kba_ints); kd_subs)
    | (apply same_transR; assumption; kd_subs))

set_option pp.maxSteps 900
theorem run_lenA : ∀ {l : List (Str × Nat)} {S : List Nat}, (runW S l).length ≤ S.length + l.length
  | [], S => Nat.le_refl _
  | e :: l, S => by
    have h := run_lenA (l := l) (S := stepS S e)
    have h2 : (stepS S e).length ≤ S.length + 1 := by
      unfold stepS
      split
      · rw [List.length_append]
        exact Nat.le_refl _
      · split
        · rw [List.length_dropLast]
          omega
        · omega
    show (runW (stepS S e) l).length ≤ _
    rw [List.length_cons]
    omega
section
variable {P : Program} {w : World} {K : PySem.W.Frag} {mg : Str → Option Value} {base : Heap} {n : Nat}
/-- the stack behind these entries: a new list -/
def spChg : Sp := fun vs H Q _ => ∃ (a b : Addr) (S : List Nat) (ys : List V) (es : List (Str × Nat)), vs = [.ref a, .ref b] ∧ H a = some (.lst (S.map nV)) ∧ H b = some (.lst ys) ∧ WLog H ys es ∧ PopsOk S es ∧ S.length + es.length < 1000000 ∧ ∀ o H', Same H H' → Fr H o → H' o = some (.lst ((runW S es).map nV)) → Q (.ref o) H'
theorem ok_chg (T : Txt K mg) : FnOk P w K mg base CX0 1 T.f_changed_order T.d_changed_order ["order", "entries"] spChg := by
  refine T.F_changed_order.ok sc_changed_order (fun vs H Q E h => ?_) (fun cdv A outer s H vs Q E hr h => ?_)
  · obtain ⟨a, b, S, ys, es, rfl, _⟩ := h
    rfl
  · obtain ⟨a, b, S, ys, es, rfl, ha, hb, hw, hp, hlen, q⟩ := h
    refine ⟨_, (pss_cons (ps_set (i := 2) sc_changed_order.nd rfl (.inl rfl) (pe_callTy call_list_of (by rfl) T.z_list (by decide +kernel) (pa_cons (pv 0) pa_nil)))
      (pss_cons (ps_for PassesOwn.never rfl (pi_list (pv 1)) (pg_tup (by rfl) (pgs_cons (pg_name (i := 3) sc_changed_order.nd rfl (.inl rfl)) (pgs_cons (pg_name (i := 4) sc_changed_order.nd rfl (.inl rfl)) pgs_nil))) (pss_one (ps_if (pt_cmpR op_eq (pv 3) pe_str (nomark _)) (pss_one (ps_expr (pe_bm PySem.F.plainAttrs_list PySem.F.slot_list_append PySem.F.type_list_append mt_append (pv 2) (pa_cons (pv 4) pa_nil)))) (pss_one (ps_expr (pe_bm0 PySem.F.plainAttrs_list PySem.F.slot_list_pop PySem.F.type_list_pop mt_pop (pv 2)))))))
      (pss_one (ps_ret (pv 2))))), ?_⟩
    have hwl := hw.len
    refine ⟨_, rfl, a, _, rfl, .inl (sqlOf ha), fun o no => pGN ?_⟩
    have fo := Fr.mk no
    have s1 := same_newF (o := .lst (S.map nV)) fo
    have eo : upd H o (.lst (S.map nV)) o = some (.lst (S.map nV)) := upd_same
    generalize upd H o (.lst (S.map nV)) = H1 at s1 eo ⊢
    simp only [List.set_cons_succ, List.set_cons_zero]
    refine ⟨_, rfl, b, rfl, ⟨_, sqlOf (s1 _ _ hb)⟩, ?_⟩
    refine for_it (walk_list (K := K) (a := b) (xs := ys)) (fun k σ H' => ∃ y3 y4, σ = [some (.ref a), some (.ref b), some (.ref o), y3, y4] ∧ Same H H' ∧ H' o = some (.lst ((runW S (es.take k)).map nV))) ⟨_, _, rfl, s1, by rw [List.take_zero]; exact eo⟩ (fun k σ H' _ ⟨_, _, _, z, _⟩ => sqlOf (z _ _ hb)) ?_ ?_
    · rintro k x σ H4' H4 hk ⟨y4, y5, rfl, s4, ho4⟩ ⟨rfl, hx⟩
      have hke : k < es.length := by omega
      have hee : es[k]? = some (es[k]'hke) := List.getElem?_eq_getElem hke
      have hsp : es.take k ++ es[k]'hke :: es.drop (k + 1) = es := by
        rw [List.getElem_cons_drop, List.take_append_drop]
      have htk : es.take (k + 1) = es.take k ++ [es[k]'hke] := by
        rw [List.take_succ, hee]
        rfl
      rw [htk, run_app]
      generalize es[k]'hke = e at hee hsp ⊢
      obtain ⟨p, rfl, hp4⟩ := (hw.kp (cs := []) (kp_same s4) mu_nil).at_ k x e hx hee
      obtain ⟨wd, i⟩ := e
      have hpk : PopsOk (runW S (es.take k)) [(wd, i)] := by
        rw [← hsp] at hp
        exact ⟨(pops_app.mp hp).2.1, True.intro⟩
      have hrl := run_lenA (S := S) (l := es.take k)
      rw [List.length_take] at hrl
      generalize runW S (es.take k) = S4 at hpk hrl ho4 ⊢
      refine ⟨p, _, rfl, sqtOf hp4, rfl, _, _, rfl, _, _, rfl, rfl, ?_⟩
      refine ⟨_, rfl, rfl, _, rfl, ?_⟩
      by_cases cw : wd = "push"
      · subst cw
        refine ifT wPP ?_
        refine ⟨_, rfl, .inl ⟨rfl, _, sqlOf ho4⟩, _, rfl, o, _, _, rfl, rfl, ho4, by rw [List.length_map, sizeLine_eq]; omega, ?_⟩
        refine ⟨_, _, rfl, same_putG fo s4, ?_⟩
        have e2 : runW S4 [(("push" : Str), i)] = S4 ++ [i] := by
          show stepS S4 (("push" : Str), i) = _
          unfold stepS
          rw [if_pos rfl]
        rw [upd_same, e2, List.map_append]
        rfl
      · have hpop : wd = "pop" ∧ ∃ S', S4 = S' ++ [i] := by
          have := hpk.1
          rw [if_neg cw] at this
          exact this
        obtain ⟨rfl, S', rfl⟩ := hpop
        refine ifF wOP ?_
        have hlast : ((S' ++ [i]).map nV)[((S' ++ [i]).map nV).length - 1]? = some (nV i) := by
          rw [List.map_append, List.length_append]
          exact List.getElem?_concat_length ..
        refine ⟨_, rfl, .inl ⟨rfl, _, sqlOf ho4⟩, o, _, _, rfl, rfl, ho4, hlast, ?_⟩
        refine ⟨_, _, rfl, same_putG fo s4, ?_⟩
        have e2 : runW (S' ++ [i]) [(("pop" : Str), i)] = S' := by
          show stepS (S' ++ [i]) (("pop" : Str), i) = _
          unfold stepS
          rw [if_neg wOP2, if_pos rfl, List.dropLast_concat]
        rw [upd_same, e2, List.map_append, List.map_cons, List.map_nil, List.dropLast_concat]
    · rintro σ H4 ⟨y3, y4, rfl, s4, ho4⟩
      rw [List.take_of_length_le (by omega)] at ho4
      exact ⟨_, rfl, q o H4 s4 fo ho4⟩
def spAnsw (P : Program) (w : World) (K : PySem.W.Frag) (mg : Str → Option Value) (base : Heap) (C CC : Addr) (n : Nat) : Sp := fun vs H Q _ => ∃ (o c l od : Addr) (fp fo fa qv : V) (uv : List Addr) (PM : Nat → V → Prop) (PQ : V → Prop) (R : List Ca → Hp → Prop) (An : List Ca → V → V → Hp → Prop) (tr : List Ca),
  vs = [.ref o, qv] ∧ OS P w K mg base n uv fp fo fa PM PQ R An ∧ OutAt C CC H o c l od fp fo fa uv R tr ∧ PQ qv ∧ tr.length < 1000000 ∧
  ∀ u H', Kp (o :: c :: l :: uv) H H' → OutAt C CC H' o c l od fp fo fa uv R (tr ++ [.ask qv]) → An tr qv u H' → (∀ r, u = .ref r → H r = none) → Q u H'
theorem ok_answ (T : Txt K mg) : FnOk P w K mg base CX0 (n + 4) T.f_Outer_answer T.d_Outer_answer ["self", "question"] (spAnsw P w K mg base T.C_Outer T.C_Calls n) := by
  have G_Calls_run := ok_run (P := P) (w := w) (base := base) (n := n) T
  refine T.F_Outer_answer.ok sc_Outer_answer (fun vs H Q E h => ?_) (fun cdv A outer s H vs Q E hr h => ?_)
  · obtain ⟨o, c, l, od, fp, fo, fa, qv, uv, PM, PQ, R, An, tr, rfl, _⟩ := h
    rfl
  · obtain ⟨o, c, l, od, fp, fo, fa, qv, uv, PM, PQ, R, An, tr, rfl, OA, hO, hpq, hlen, q⟩ := h
    refine ⟨_, (pss_one (ps_ret (pe_methR (pe_fld (pv 0) rfl) T.cl_Calls ⟨T.m_Calls_run, T.t_Calls_run, T.k_Calls_run⟩ G_Calls_run (hr.mono (by omega)) pass0 (pa_cons (pe_tup (pa_cons pe_str pa_nil)) (pa_cons (pe_fld (pv 0) rfl) (pa_cons (pv 1) pa_nil)))))), ?_⟩
    obtain ⟨⟨d1, ho⟩, ⟨d2, hc⟩, ⟨xs, hl, hlg⟩, hod, hR, nlod, noc, nu⟩ := hO
    have nlo : l ≠ o := neO hl ho (fun z => nomatch z)
    have nlc : l ≠ c := neO hl hc (fun z => nomatch z)
    have ndo : od ≠ o := neO hod ho (fun z => nomatch z)
    have ndc : od ≠ c := neO hod hc (fun z => nomatch z)
    have uo : o ∉ uv := fun m => (nu o m).1 rfl
    have uc : c ∉ uv := fun m => (nu c m).2.1 rfl
    have ul : l ∉ uv := fun m => (nu l m).2.2.1 rfl
    have ud : od ∉ uv := fun m => (nu od m).2.2.2 rfl
    refine ⟨_, rfl, o, _, d1, _, _, rfl, ho, T.cl_Outer, T.n_Outer_calls, rfl, c, d2, _, rfl, hc, rfl, (by decide : 1 ≤ sizeLine), fun t nt => ?_⟩
    have st := same_newF (o := .tup [.str "ask"]) (Fr.mk nt)
    refine ⟨_, rfl, o, _, d1, _, _, rfl, st _ _ ho, T.cl_Outer, T.n_Outer_ask_call, rfl, _, rfl, ?_⟩
    have et : upd H t (.tup [.str "ask"]) t = some (.tup [.str "ask"]) := upd_same
    have R5 := OA.rk hR (kp_same (cs := []) st) mu_nil (fun _ _ => not_nil)
    have hc5 := st _ _ hc
    have m5 : Mu (upd H t (.tup [.str "ask"])) [c] := mu_ins hc5 mu_nil
    have g5 := hlg.kp (kp_same (cs := []) st) mu_nil
    refine ⟨c, d2, l, .ref t, fa, [qv], rfl, by rw [sizeLine_eq]; show 1 ≤ _; omega, hc5, fun H6 k6 ec6 => ?_⟩
    have R6 := OA.rk R5 k6 m5 (fun a m => not_cons (nu a m).2.1 not_nil)
    refine act_of (OA.ask hpq hlen R6 fun u H7 k7 R7 a7 f7 => ?_)
    have m6 := OA.mu R6
    have ec7 := k7.at_ _ _ ec6 uc
    have el7 := k7.at_ _ _ (k6.at_ _ _ (st _ _ hl) (not_cons nlc not_nil)) ul
    have eo7 := k7.at_ _ _ (k6.at_ _ _ (st _ _ ho) (not_cons noc not_nil)) uo
    have ed7 := k7.at_ _ _ (k6.at_ _ _ (st _ _ hod) (not_cons ndc not_nil)) ud
    have hxl := hlg.len
    refine ⟨ec7, xs, el7, by rw [hxl, sizeLine_eq]; omega, fun H8 k8 ec8 el8 => ?_⟩
    have m7 : Mu H7 [c, l] := mu_ins ec7 (mu_lst el7 mu_nil)
    have nu7 : ∀ a ∈ uv, a ∉ [c, l] := fun a m => not_cons (nu a m).2.1 (not_cons (nu a m).2.2.1 not_nil)
    refine q u H8 (kp_trans (kp_same st) (kp_trans (kp_more k6 (subCons (memB memA) subNil)) (kp_trans (kp_more k7 fun a m => memB (memB (memB m))) (kp_more k8 (subCons (memB memA) (subCons (memB (memB memA)) subNil)))))) ⟨⟨d1, k8.at_ _ _ eo7 (not_cons noc (not_cons nlo.symm not_nil))⟩, ⟨d2, ec8⟩, ⟨_, el8, (((g5.kp k6 m5).kp k7 m6).kp k8 m7).add (kp_tup k8 m7 (kp_tup k7 m6 (kp_tup k6 m5 et)))⟩, ?_, OA.rk R7 k8 m7 nu7, nlod, noc, nu⟩ (OA.ak a7 k8 m7 fun r e => (mu_ins ec6 (mu_lst (k6.at_ _ _ (st _ _ hl) (not_cons nlc not_nil)) mu_nil)).fr (Fr.mk (f7 r e))) fun r e => st.free (fr_kp k6 (mu_ins ec6 mu_nil) (Fr.mk (f7 r e))).h
    rw [stC_app]
    exact k8.at_ _ _ ed7 (not_cons ndc (not_cons nlod.symm not_nil))
/-- the calls of entries: followed, and the stack is that behind them -/
def spChange (P : Program) (w : World) (K : PySem.W.Frag) (mg : Str → Option Value) (base : Heap) (C CC : Addr) (n : Nat) : Sp := fun vs H Q _ => ∃ (o c l od ea hd : Addr) (fp fo fa : V) (uv : List Addr) (PM : Nat → V → Prop) (PQ : V → Prop) (R : List Ca → Hp → Prop) (An : List Ca → V → V → Hp → Prop) (tr : List Ca) (ys : List V) (es : List (Str × Nat)) (kvs : List (Key × V)) (mb : Nat → V),
  vs = [.ref o, .ref ea, .ref hd] ∧ OS P w K mg base n uv fp fo fa PM PQ R An ∧ OutAt C CC H o c l od fp fo fa uv R tr ∧ H ea = some (.lst ys) ∧ WLog H ys es ∧ H hd = some (.dK kvs) ∧ (∀ e ∈ es, e.1 = "push" → valV kvs (.inl (e.2 : Int)) = some (mb e.2) ∧ PM e.2 (mb e.2)) ∧ PopsOk (stC [] tr) es ∧ tr.length + es.length < 500000 ∧ (stC [] tr).length < 500000 ∧
  (∀ a ∈ [ea, hd], a ≠ o ∧ a ≠ c ∧ a ≠ l ∧ a ∉ uv) ∧
  ∀ od2 H', Kp (o :: c :: l :: uv) H H' → Fr H od2 → OutAt C CC H' o c l od2 fp fo fa uv R (tr ++ es.map (caOf mb)) → Q .non H'
theorem ok_change (T : Txt K mg) : FnOk P w K mg base CX0 (n + 6) T.f_Outer_change T.d_Outer_change ["self", "entries", "held"] (spChange P w K mg base T.C_Outer T.C_Calls n) := by
  have G_Outer_follow := ok_fol (P := P) (w := w) (base := base) (n := n) T
  have G_changed_order := ok_chg (P := P) (w := w) (base := base) T
  refine T.F_Outer_change.ok sc_Outer_change (fun vs H Q E h => ?_) (fun cdv A outer s H vs Q E hr h => ?_)
  · obtain ⟨o, c, l, od, ea, hd, fp, fo, fa, uv, PM, PQ, R, An, tr, ys, es, kvs, mb, rfl, _⟩ := h
    rfl
  · obtain ⟨o, c, l, od, ea, hd, fp, fo, fa, uv, PM, PQ, R, An, tr, ys, es, kvs, mb, rfl, OA, hO, hea, hw, hhd, hmb, hp, hlen, hlen2, hne, q⟩ := h
    refine ⟨_, (pss_cons (ps_expr (pe_meth (pv 0) T.cl_Outer ⟨T.m_Outer_follow, T.t_Outer_follow, T.k_Outer_follow⟩ G_Outer_follow (hr.mono (by omega)) T.b_Outer_follow .nil pass0 (pa_cons (pv 1) (pa_cons (pv 2) pa_nil))))
      (pss_one (ps_fld (pv 0) (pe_call G_changed_order (hr.mono (by omega)) rfl T.g_changed_order T.F_changed_order.kp T.b_changed_order .nil pass0 (pa_cons (pe_fld (pv 0) rfl) (pa_cons (pv 1) pa_nil))) rfl))), ?_⟩
    obtain ⟨⟨d1, ho⟩, ⟨d2, hc⟩, ⟨xs, hl, hlg⟩, hod, hR, nlod, noc, nu⟩ := id hO
    have nlo : l ≠ o := neO hl ho (fun z => nomatch z)
    have ndo : od ≠ o := neO hod ho (fun z => nomatch z)
    have ndc : od ≠ c := neO hod hc (fun z => nomatch z)
    have ud : od ∉ uv := fun m => (nu od m).2.2.2 rfl
    have mU : Mu H (o :: c :: l :: uv) := mu_ins ho (mu_ins hc (mu_lst hl (OA.mu hR)))
    refine ⟨_, rfl, o, d1, _, rfl, ho, rfl, _, rfl, _, rfl, o, c, l, od, ea, hd, fp, fo, fa, uv, PM, PQ, R, An, tr, ys, es, kvs, mb, rfl, OA, hO, hea, hw, hhd, hmb, hp, by omega, hne, fun H1 k1 ⟨d3, ho1⟩ hc1 ⟨zs, hl1, hg1⟩ R1 => ?_⟩
    have hod1 := k1.at_ _ _ hod (not_cons ndo (not_cons ndc (not_cons nlod.symm ud)))
    have nea : ea ∉ o :: c :: l :: uv := by
      obtain ⟨a1, a2, a3, a4⟩ := hne ea memA
      exact not_cons a1 (not_cons a2 (not_cons a3 a4))
    refine ⟨_, rfl, o, _, d3, _, _, rfl, ho1, T.cl_Outer, T.n_Outer_order, rfl, _, rfl, od, ea, stC [] tr, ys, es, rfl, hod1, k1.at_ _ _ hea nea, hw.kp k1 mU, hp, by omega, fun od2 H2 s2 fod2 e2 => ?_⟩
    have ho2 := s2 _ _ ho1
    obtain ⟨d4, hc1⟩ := hc1
    refine ⟨_, rfl, o, _, d3, _, rfl, ho2, T.cl_Outer, T.n_Outer_order, (show 6 < 1000 by decide), ?_⟩
    have ku : Kp [o] H2 (upd H2 o (OO T.C_Outer d3 c fp fo fa od2 false)) := kp_up memA (kp_refl _ _)
    have m2 : Mu H2 [o] := mu_ins ho2 mu_nil
    have n2o : od2 ≠ o := (ne_of_none ho1 fod2.h).symm
    have m1 : Mu H1 (o :: c :: l :: uv) := mu_ins ho1 (mu_ins hc1 (mu_lst hl1 (OA.mu R1)))
    have R2 := OA.rk (OA.rk R1 (kp_same (cs := []) s2) mu_nil (fun _ _ => not_nil)) ku m2 fun a m => not_cons (nu a m).1 not_nil
    refine q od2 _ (kp_trans k1 (kp_trans (kp_same s2) (kp_more ku (subCons memA subNil)))) (fr_kp k1 m1 fod2) ⟨⟨d3, upd_same⟩, ⟨d4, ku.at_ _ _ (s2 _ _ hc1) (not_cons noc.symm not_nil)⟩, ⟨zs, ku.at_ _ _ (s2 _ _ hl1) (not_cons nlo not_nil), (hg1.kp (cs := []) (kp_same s2) mu_nil).kp ku m2⟩, ?_, R2, ne_of_none hl1 fod2.h, noc, fun a m => ⟨(nu a m).1, (nu a m).2.1, (nu a m).2.2.1, fun z => ?_⟩⟩
    · rw [stC_app, st_run hp]
      exact ku.at_ _ _ e2 (not_cons n2o not_nil)
    · obtain ⟨x, hx, _⟩ := OA.mu R1 a m
      rw [z, fod2.h] at hx
      cases hx
end
end Ob

set_option Elab.async false
set_option linter.all false
set_option maxRecDepth 100000
set_option maxHeartbeats 1000000
namespace Ob
open PySem PySem.Spec PyProof.Rows L2
open LamX (Tabs TabB TabS ExtN)

set_option hygiene false in
local macro_rules
  | `(tactic| kp_flats) => `(tactic| first
    | assumption
    | exact upd_same
    | (apply atNew; assumption; kp_flats)
    | (apply atNe; (next => kbo_bools); kp_flats)
    | (apply atSame; assumption; kp_flats)
    | (apply atKp; assumption; (next => kaf_pre); kp_flats))
set_option hygiene false in
local macro_rules
  | `(tactic| kaf_pre) => `(tactic| first
    | assumption
    | exact not_nil
    | (apply not_cons; (next => kbo_bools); kaf_pre)
    | (apply not_app; (next => kaf_pre); kaf_pre))
set_option hygiene false in
local macro_rules
  | `(tactic| kbo_bools) => `(tactic| first
    | assumption
    | (apply Ne.symm; assumption)
    | (apply neN; assumption; kp_flats)
    | (apply neN'; assumption; kp_flats))
set_option hygiene false in
local macro_rules
  | `(tactic| o_reads) => `(tactic| first
    | with_reducible rfl
    | assumption
    | rfl
    | kp_flats
    | (show SqL _ _ _ _; first | assumption | (apply sqlOf; kp_flats) | (apply sqlSame; assumption; o_reads))
    | (show SqT _ _ _ _; first | assumption | (apply sqtOf; kp_flats) | (apply sqtAll; assumption) | (apply sqtSame; assumption; o_reads))
    | (show Cls _ _; first | exact T.cl_Calls | exact T.cl_Outer | exact T.cl_Timed)
    | (show NoAttr _ _ _; first | exact T.n_Calls_entries | exact T.n_Calls_running | exact T.n_Outer_calls | exact T.n_Outer_push_call | exact T.n_Outer_pop_call | exact T.n_Outer_ask_call | exact T.n_Outer_order | exact T.n_Outer_broken | exact T.n_Timed_outer | exact T.n_Timed_given | exact T.n_Timed_now | exact T.n_Timed_held | exact T.n_Timed_limits | exact T.n_Timed_ends)
    | (apply Or.inl; o_reads)
    | (apply Or.inr; o_reads)
    | (apply And.intro; (next => o_reads); o_reads)
    | (apply Exists.intro; o_reads)
    | exact Nat.le_of_ble_eq_true rfl
    | exact Nat.succ_ne_zero _
    | (show Fr _ _; kba_ints)
    | (show Same _ _; kd_subs)
    | (show Kp _ _ _; kxs_still)
    | (show (_ : Nat) ≤ _; simp only [List.length_append, List.length_map, List.length_cons, List.length_nil, List.length_take, List.length_drop, List.length_replicate, List.length_range, sizeLine_eq]; omega)
    | (show _ = none; apply Fr.h; kba_ints)
    | (show Bag _ _; first | assumption | (apply bag_putF; assumption; o_reads) | (apply bag_neF; (next => kbo_bools); o_reads) | (apply bag_kpR; assumption; (next => kaf_pre); o_reads))
    | omega
    | decide)
local macro_rules
  | `(tactic| o_readsAll) => `(tactic| repeat (first
    | (refine fun (pNew : Addr) (nNew : _ = none) => ?_; replace nNew := Fr.mk nNew)
    | (refine fun (xNew dNew : Addr) (nNew : _ = none) (mNew : _ = none) (eNew : dNew ≠ xNew) => ?_; replace nNew := Fr.mk nNew; replace mNew := Fr.mk mNew)
    | (apply And.intro; next => o_reads)
    | apply Exists.intro (α := V)
    | apply Exists.intro (α := Addr)
    | apply Exists.intro (α := Int)
    | apply Exists.intro (α := Bool)
    | apply Exists.intro (α := List V)
    | apply Exists.intro (α := List Nat)
    | apply Exists.intro (α := List (Str × V))
    | apply Exists.intro (α := List _)
    | apply Exists.intro (α := Str)
    | apply Exists.intro (α := HO)
    | apply Exists.intro (α := Sp)
    | apply Exists.intro (α := VK)))
set_option hygiene false in
local macro_rules
  | `(tactic| kba_ints) => `(tactic| first
    | assumption
    | (apply frUp; (first | assumption | (apply Ne.symm; assumption)); kba_ints)
    | (apply noneOf; assumption; intro oF eF; apply Exists.intro; kp_flats)
    | (apply frUp; (next => kbo_bools); kba_ints))
set_option hygiene false in
local macro_rules
  | `(tactic| kxs_still) => `(tactic| first
    | assumption
    | exact kp_refl _ _
    | (apply kp_newF; assumption; kxs_still)
    | (apply kp_new; assumption; kxs_still)
    | (apply kp_up; (next => o_fieldsN); kxs_still)
    | (apply kp_new; (next => kba_ints); kxs_still)
    | (apply kp_sameR; assumption; kxs_still)
    | (apply kp_transR; assumption; kxs_still)
    | (apply kp_freshR; assumption; (next => kaf_suf); kxs_still))
set_option hygiene false in
local macro_rules
  | `(tactic| kaf_suf) => `(tactic| first
    | assumption
    | exact subNil
    | (apply subCons; (first | (apply Or.inl; o_fieldsN) | (apply Or.inr; kba_ints)); kaf_suf)
    | (apply subApp; (next => kaf_suf); kaf_suf))
set_option hygiene false in
local macro_rules
  | `(tactic| o_fieldsN) => `(tactic| first
    | assumption
    | exact memA
    | (apply memB; o_fieldsN)
    | (apply memL; o_fieldsN)
    | (apply memR; o_fieldsN))
set_option hygiene false in
local macro_rules
  | `(tactic| kd_subs) => `(tactic| first
    | assumption
    | exact Same.refl _
    | (apply same_putF; assumption; kd_subs)
    | (apply same_putG; assumption; kd_subs)
    | (apply same_putF; (next => kba_ints); kd_subs)
    | (apply same_transR; assumption; kd_subs))

set_option pp.maxSteps 900
/-! ### the arithmetic of a tick -/
theorem szP_pos {a r : Nat} (h : r ≠ 0) : 0 < szP a r := by
  unfold szP
  split
  · exact Nat.two_pow_pos _
  · rename_i z
    obtain ⟨e, e1, _⟩ := low_spec a z
    rw [e1]
    exact Nat.lt_min.mpr ⟨Nat.two_pow_pos _, Nat.two_pow_pos _⟩
theorem szP_fit {a r : Nat} (hr : r ≠ 0) : ∃ j, szP a r = 2 ^ j ∧ a % 2 ^ j = 0 ∧ 2 ^ j ≤ r := by
  have lo := log_lo hr
  unfold szP
  by_cases z : a = 0
  · rw [if_pos z, z]
    exact ⟨_, rfl, Nat.zero_mod _, lo⟩
  · rw [if_neg z]
    obtain ⟨e, e1, e2, e3⟩ := low_spec a z
    rw [e1]
    by_cases c : r.log2 ≤ e
    · rw [Nat.min_eq_left (Nat.pow_le_pow_right (by decide) c)]
      exact ⟨_, rfl, mod_le e2 c, lo⟩
    · rw [Nat.min_eq_right (Nat.pow_le_pow_right (by decide) (by omega))]
      exact ⟨_, rfl, e2, Nat.le_trans (Nat.pow_le_pow_right (by decide) (by omega)) lo⟩
/-- a piece that begins within another one ends within it -/
theorem dy_within {b j c k : Nat} (h1 : b < c) (h2 : c < b + 2 ^ j) (h3 : b % 2 ^ j = 0) (h4 : c % 2 ^ k = 0) : c + 2 ^ k ≤ b + 2 ^ j := by
  have db := Nat.dvd_of_mod_eq_zero h3
  have dc := Nat.dvd_of_mod_eq_zero h4
  by_cases l : j ≤ k
  · have d1 : 2 ^ j ∣ c := Nat.dvd_trans (Nat.pow_dvd_pow 2 l) dc
    have d2 : 2 ^ j ∣ c - b := Nat.dvd_sub d1 db
    have := Nat.le_of_dvd (by omega) d2
    omega
  · have d0 : 2 ^ k ∣ 2 ^ j := Nat.pow_dvd_pow 2 (by omega)
    have d1 : 2 ^ k ∣ b + 2 ^ j := Nat.dvd_add (Nat.dvd_trans d0 db) d0
    have d2 : 2 ^ k ∣ b + 2 ^ j - c := Nat.dvd_sub d1 dc
    have := Nat.le_of_dvd (by omega) d2
    omega
/-- a piece that has begun by now, and ends at e -/
def Dy (now e : Nat) : Prop := ∃ k b, b ≤ now ∧ e = b + 2 ^ k ∧ b % 2 ^ k = 0
theorem Dy.one (now : Nat) : Dy now (now + 1) := ⟨0, now, Nat.le_refl _, rfl, Nat.mod_one _⟩
theorem Dy.more {now n2 e : Nat} (h : Dy now e) (l : now ≤ n2) : Dy n2 e := by
  obtain ⟨k, b, h1, h2, h3⟩ := h
  exact ⟨k, b, by omega, h2, h3⟩
/-- the present members M, the stack S: the ends never rise along the stack -/
structure TI (now : Nat) (M S : List Nat) (lim en : Nat → Nat) : Prop where
  inc : M.Pairwise (· < ·)
  pm : S.Perm M
  dn : S.Pairwise fun a b => en b ≤ en a
  lo : ∀ i ∈ M, now < en i ∧ en i ≤ lim i
  dy : ∀ i ∈ M, Dy now (en i)
/-- those that end at c are the last ones -/
theorem top_split {en : Nat → Nat} {c : Nat} : ∀ {S : List Nat}, S.Pairwise (fun a b => en b ≤ en a) → (∀ i ∈ S, c ≤ en i) → S = (S.filter fun i => decide (c < en i)) ++ S.filter fun i => decide (en i = c)
  | [], _, _ => rfl
  | a :: S, hp, hl => by
    obtain ⟨h1, h2⟩ := List.pairwise_cons.mp hp
    have ih := top_split h2 fun i m => hl i (List.mem_cons_of_mem _ m)
    have ha := hl a List.mem_cons_self
    by_cases e : en a = c
    · have all : ∀ i ∈ S, en i = c := fun i m => by
        have := h1 i m
        have := hl i (List.mem_cons_of_mem _ m)
        omega
      rw [List.filter_cons_of_neg (by simp [e]), List.filter_cons_of_pos (by simp [e])]
      have f1 : S.filter (fun i => decide (c < en i)) = [] := List.filter_eq_nil_iff.mpr fun i m => by simp [all i m]
      have f2 : S.filter (fun i => decide (en i = c)) = S := List.filter_eq_self.mpr fun i m => by simp [all i m]
      rw [f1, f2]
      rfl
    · rw [List.filter_cons_of_pos (by simp; omega), List.filter_cons_of_neg (by simp [e]), List.cons_append, ← ih]
def endS (en : Nat → Nat) (c : Nat) (S : List Nat) : List Nat := S.filter fun i => decide (en i = c)
def lowS (en : Nat → Nat) (c : Nat) (S : List Nat) : List Nat := S.filter fun i => decide (c < en i)
/-- the ends behind the tick to c -/
def enT (lim en : Nat → Nat) (c : Nat) (i : Nat) : Nat := if en i = c ∧ c < lim i then c + szP c (lim i - c) else en i
theorem TI.add {now : Nat} {M S : List Nat} {lim en : Nat → Nat} {i u : Nat} (h : TI now M S lim en) (hi : ∀ x ∈ M, x < i) (hu : now < u) : TI now (M ++ [i]) (S ++ [i]) (fun x => if x = i then u else lim x) (fun x => if x = i then now + 1 else en x) := by
  have ne : ∀ x ∈ M, x ≠ i := fun x m => Nat.ne_of_lt (hi x m)
  have nes : ∀ x ∈ S, x ≠ i := fun x m => ne x (h.pm.mem_iff.mp m)
  refine ⟨?_, h.pm.append_right _, ?_, fun x m => ?_, fun x m => ?_⟩
  · refine List.pairwise_append.mpr ⟨h.inc, List.pairwise_singleton _ _, fun a ma b mb => ?_⟩
    rw [List.mem_singleton.mp mb]
    exact hi a ma
  · refine List.pairwise_append.mpr ⟨?_, List.pairwise_singleton _ _, fun a ma b mb => ?_⟩
    · refine List.Pairwise.imp_of_mem (fun {a b} ma mb hab => ?_) h.dn
      rw [if_neg (nes a ma), if_neg (nes b mb)]
      exact hab
    · rw [List.mem_singleton.mp mb, if_pos rfl, if_neg (nes a ma)]
      have := (h.lo a (h.pm.mem_iff.mp ma)).1
      omega
  · rcases List.mem_append.mp m with m | m
    · rw [if_neg (ne x m), if_neg (ne x m)]
      exact h.lo x m
    · rw [List.mem_singleton.mp m, if_pos rfl, if_pos rfl]
      omega
  · rcases List.mem_append.mp m with m | m
    · rw [if_neg (ne x m)]
      exact h.dy x m
    · rw [List.mem_singleton.mp m, if_pos rfl]
      exact Dy.one now
theorem TI.tick {now : Nat} {M S : List Nat} {lim en : Nat → Nat} {B : List Nat} (h : TI now M S lim en) (hB : B.Perm ((endS en (now + 1) S).filter fun i => decide (now + 1 < lim i))) (hs : B.Pairwise fun a b => szP (now + 1) (lim b - (now + 1)) ≤ szP (now + 1) (lim a - (now + 1))) :
    TI (now + 1) (M.filter fun i => decide (lim i ≠ now + 1)) (lowS en (now + 1) S ++ B) lim (enT lim en (now + 1)) := by
  have hM : ∀ i ∈ S, i ∈ M := fun i m => h.pm.mem_iff.mp m
  have hsp := top_split (c := now + 1) h.dn fun i m => (h.lo i (hM i m)).1
  have inB : ∀ i ∈ B, en i = now + 1 ∧ now + 1 < lim i ∧ i ∈ M := fun i m => by
    have m1 := hB.mem_iff.mp m
    obtain ⟨m2, e2⟩ := List.mem_filter.mp m1
    obtain ⟨m3, e3⟩ := List.mem_filter.mp m2
    exact ⟨of_decide_eq_true e3, of_decide_eq_true e2, hM i m3⟩
  have inL : ∀ i ∈ lowS en (now + 1) S, now + 1 < en i ∧ i ∈ M := fun i m => by
    obtain ⟨m1, e1⟩ := List.mem_filter.mp m
    exact ⟨of_decide_eq_true e1, hM i m1⟩
  have eB : ∀ i ∈ B, enT lim en (now + 1) i = now + 1 + szP (now + 1) (lim i - (now + 1)) := fun i m => if_pos ⟨(inB i m).1, (inB i m).2.1⟩
  have eL : ∀ i ∈ lowS en (now + 1) S, enT lim en (now + 1) i = en i := fun i m => if_neg fun z => by
    have := (inL i m).1
    have := z.1
    omega
  have pm : (lowS en (now + 1) S ++ B).Perm (M.filter fun i => decide (lim i ≠ now + 1)) := by
    refine List.Perm.trans (hB.append_left _) (List.Perm.trans (List.Perm.of_eq ?_) (h.pm.filter _))
    have e := congrArg (List.filter fun i => decide (lim i ≠ now + 1)) hsp
    rw [e, List.filter_append]
    congr 1
    · refine (List.filter_eq_self.mpr fun i m => ?_).symm
      have h1 := inL i m
      have h2 := h.lo i h1.2
      exact decide_eq_true (by omega)
    · refine List.filter_congr fun i m => ?_
      obtain ⟨m1, e1⟩ := List.mem_filter.mp m
      have e1 := of_decide_eq_true e1
      have h2 := h.lo i (hM i m1)
      by_cases z : lim i = now + 1
      · rw [z, decide_eq_false (Nat.lt_irrefl _), decide_eq_false (fun y => y rfl)]
      · rw [decide_eq_true (show now + 1 < lim i by omega), decide_eq_true z]
  refine ⟨h.inc.filter _, pm, ?_, fun i m => ?_, fun i m => ?_⟩
  · refine List.pairwise_append.mpr ⟨?_, ?_, fun a ma b mb => ?_⟩
    · refine List.Pairwise.imp_of_mem (fun {a b} ma mb hab => ?_) (h.dn.filter _)
      rw [eL a ma, eL b mb]
      exact hab
    · refine List.Pairwise.imp_of_mem (fun {a b} ma mb hab => ?_) hs
      rw [eB a ma, eB b mb]
      omega
    · rw [eL a ma, eB b mb]
      obtain ⟨k, c, h1, h2, h3⟩ := h.dy a (inL a ma).2
      obtain ⟨j, g1, g2, _⟩ := szP_fit (a := now + 1) (r := lim b - (now + 1)) (by have := (inB b mb).2.1; omega)
      rw [g1, h2]
      have := (inL a ma).1
      exact dy_within (by omega) (by omega) h3 g2
  · rcases List.mem_append.mp (pm.mem_iff.mpr m) with m | m
    · rw [eL i m]
      exact ⟨(inL i m).1, (h.lo i (inL i m).2).2⟩
    · rw [eB i m]
      have h1 := (inB i m).2.1
      have h2 := szP_pos (a := now + 1) (r := lim i - (now + 1)) (by omega)
      have h3 := szP_le (a := now + 1) (r := lim i - (now + 1)) (by omega)
      omega
  · rcases List.mem_append.mp (pm.mem_iff.mpr m) with m | m
    · rw [eL i m]
      exact (h.dy i (inL i m).2).more (Nat.le_succ _)
    · rw [eB i m]
      obtain ⟨j, g1, g2, _⟩ := szP_fit (a := now + 1) (r := lim i - (now + 1)) (by have := (inB i m).2.1; omega)
      exact ⟨j, now + 1, Nat.le_refl _, by rw [g1], g2⟩
end Ob

set_option Elab.async false
set_option linter.all false
set_option maxRecDepth 100000
set_option maxHeartbeats 1000000
namespace Ob
open PySem PySem.Spec PyProof.Rows L2
open LamX (Tabs TabB TabS ExtN)

set_option hygiene false in
local macro_rules
  | `(tactic| kp_flats) => `(tactic| first
    | assumption
    | exact upd_same
    | (apply atNew; assumption; kp_flats)
    | (apply atNe; (next => kbo_bools); kp_flats)
    | (apply atSame; assumption; kp_flats)
    | (apply atKp; assumption; (next => kaf_pre); kp_flats))
set_option hygiene false in
local macro_rules
  | `(tactic| kaf_pre) => `(tactic| first
    | assumption
    | exact not_nil
    | (apply not_cons; (next => kbo_bools); kaf_pre)
    | (apply not_app; (next => kaf_pre); kaf_pre))
set_option hygiene false in
local macro_rules
  | `(tactic| kbo_bools) => `(tactic| first
    | assumption
    | (apply Ne.symm; assumption)
    | (apply neN; assumption; kp_flats)
    | (apply neN'; assumption; kp_flats))
set_option hygiene false in
local macro_rules
  | `(tactic| o_reads) => `(tactic| first
    | with_reducible rfl
    | assumption
    | rfl
    | kp_flats
    | (show SqL _ _ _ _; first | assumption | (apply sqlOf; kp_flats) | (apply sqlSame; assumption; o_reads))
    | (show SqT _ _ _ _; first | assumption | (apply sqtOf; kp_flats) | (apply sqtAll; assumption) | (apply sqtSame; assumption; o_reads))
    | (show Cls _ _; first | exact T.cl_Calls | exact T.cl_Outer | exact T.cl_Timed)
    | (show NoAttr _ _ _; first | exact T.n_Calls_entries | exact T.n_Calls_running | exact T.n_Outer_calls | exact T.n_Outer_push_call | exact T.n_Outer_pop_call | exact T.n_Outer_ask_call | exact T.n_Outer_order | exact T.n_Outer_broken | exact T.n_Timed_outer | exact T.n_Timed_given | exact T.n_Timed_now | exact T.n_Timed_held | exact T.n_Timed_limits | exact T.n_Timed_ends)
    | (apply Or.inl; o_reads)
    | (apply Or.inr; o_reads)
    | (apply And.intro; (next => o_reads); o_reads)
    | (apply Exists.intro; o_reads)
    | exact Nat.le_of_ble_eq_true rfl
    | exact Nat.succ_ne_zero _
    | (show Fr _ _; kba_ints)
    | (show Same _ _; kd_subs)
    | (show Kp _ _ _; kxs_still)
    | (show (_ : Nat) ≤ _; simp only [List.length_append, List.length_map, List.length_cons, List.length_nil, List.length_take, List.length_drop, List.length_replicate, List.length_range, sizeLine_eq]; omega)
    | (show _ = none; apply Fr.h; kba_ints)
    | (show Bag _ _; first | assumption | (apply bag_putF; assumption; o_reads) | (apply bag_neF; (next => kbo_bools); o_reads) | (apply bag_kpR; assumption; (next => kaf_pre); o_reads))
    | omega
    | decide)
local macro_rules
  | `(tactic| o_readsAll) => `(tactic| repeat (first
    | (refine fun (pNew : Addr) (nNew : _ = none) => ?_; replace nNew := Fr.mk nNew)
    | (refine fun (xNew dNew : Addr) (nNew : _ = none) (mNew : _ = none) (eNew : dNew ≠ xNew) => ?_; replace nNew := Fr.mk nNew; replace mNew := Fr.mk mNew)
    | (apply And.intro; next => o_reads)
    | apply Exists.intro (α := V)
    | apply Exists.intro (α := Addr)
    | apply Exists.intro (α := Int)
    | apply Exists.intro (α := Bool)
    | apply Exists.intro (α := List V)
    | apply Exists.intro (α := List Nat)
    | apply Exists.intro (α := List (Str × V))
    | apply Exists.intro (α := List _)
    | apply Exists.intro (α := Str)
    | apply Exists.intro (α := HO)
    | apply Exists.intro (α := Sp)
    | apply Exists.intro (α := VK)))
set_option hygiene false in
local macro_rules
  | `(tactic| kba_ints) => `(tactic| first
    | assumption
    | (apply frUp; (first | assumption | (apply Ne.symm; assumption)); kba_ints)
    | (apply noneOf; assumption; intro oF eF; apply Exists.intro; kp_flats)
    | (apply frUp; (next => kbo_bools); kba_ints))
set_option hygiene false in
local macro_rules
  | `(tactic| kxs_still) => `(tactic| first
    | assumption
    | exact kp_refl _ _
    | (apply kp_newF; assumption; kxs_still)
    | (apply kp_new; assumption; kxs_still)
    | (apply kp_up; (next => o_fieldsN); kxs_still)
    | (apply kp_new; (next => kba_ints); kxs_still)
    | (apply kp_sameR; assumption; kxs_still)
    | (apply kp_transR; assumption; kxs_still)
    | (apply kp_freshR; assumption; (next => kaf_suf); kxs_still))
set_option hygiene false in
local macro_rules
  | `(tactic| kaf_suf) => `(tactic| first
    | assumption
    | exact subNil
    | (apply subCons; (first | (apply Or.inl; o_fieldsN) | (apply Or.inr; kba_ints)); kaf_suf)
    | (apply subApp; (next => kaf_suf); kaf_suf))
set_option hygiene false in
local macro_rules
  | `(tactic| o_fieldsN) => `(tactic| first
    | assumption
    | exact memA
    | (apply memB; o_fieldsN)
    | (apply memL; o_fieldsN)
    | (apply memR; o_fieldsN))
set_option hygiene false in
local macro_rules
  | `(tactic| kd_subs) => `(tactic| first
    | assumption
    | exact Same.refl _
    | (apply same_putF; assumption; kd_subs)
    | (apply same_putG; assumption; kd_subs)
    | (apply same_putF; (next => kba_ints); kd_subs)
    | (apply same_transR; assumption; kd_subs))

set_option pp.maxSteps 900
/-! ### dicts by the present numbers -/
def dM (M : List Nat) (f : Nat → V) : List (Key × V) := M.map fun i : Nat => (Sum.inl (i : Int), f i)
theorem dM_val {f : Nat → V} {i : Nat} : ∀ {M : List Nat}, i ∈ M → valV (dM M f) (.inl (i : Int)) = some (f i)
  | j :: M, h => by
    show valV ((Sum.inl (j : Int), f j) :: dM M f) _ = _
    by_cases c : j = i
    · subst c
      exact valV_pos rfl
    · rw [valV_neg (fun z => c (by injection z with z; omega))]
      exact dM_val ((List.mem_cons.mp h).resolve_left fun z => c z.symm)
theorem dM_none {f : Nat → V} {i : Nat} : ∀ {M : List Nat}, i ∉ M → valV (dM M f) (.inl (i : Int)) = none
  | [], _ => rfl
  | j :: M, h => by
    show valV ((Sum.inl (j : Int), f j) :: dM M f) _ = _
    rw [valV_neg (fun z => h (by injection z with z; rw [show i = j by omega]; exact List.mem_cons_self))]
    exact dM_none fun m => h (List.mem_cons_of_mem _ m)
theorem dM_congr {M : List Nat} {f g : Nat → V} (h : ∀ i ∈ M, f i = g i) : dM M f = dM M g := List.map_congr_left fun i m => by rw [h i m]
theorem dM_new {M : List Nat} {f : Nat → V} {i : Nat} {v : V} (h : i ∉ M) : putK (dM M f) (.inl (i : Int)) v = dM (M ++ [i]) (fun x => if x = i then v else f x) := by
  rw [putK_new v (dM_none h)]
  unfold dM
  rw [List.map_append]
  congr 1
  · refine List.map_congr_left fun j m => ?_
    show (_, f j) = (_, if j = i then v else f j)
    rw [if_neg (fun z => h (by rw [← z]; exact m))]
  · show [(_, v)] = [(_, if i = i then v else f i)]
    rw [if_pos rfl]
theorem dM_old {M : List Nat} {f : Nat → V} {i : Nat} {v : V} (h : i ∈ M) : putK (dM M f) (.inl (i : Int)) v = dM M (fun x => if x = i then v else f x) := by
  unfold putK
  rw [valV_any, dM_val h, if_pos (show (some (f i)).isSome = true from rfl)]
  unfold dM
  rw [List.map_map]
  refine List.map_congr_left fun j _ => ?_
  show (if (Sum.inl (j : Int) : Key) = .inl (i : Int) then ((Sum.inl (j : Int) : Key), v) else (Sum.inl (j : Int), f j)) = (Sum.inl (j : Int), if j = i then v else f j)
  by_cases c : j = i
  · rw [c, if_pos rfl, if_pos rfl]
  · rw [if_neg (fun z => c (by injection z with z; omega)), if_neg c]
theorem dM_drop {M : List Nat} {f : Nat → V} {i : Nat} : dropK (dM M f) (.inl (i : Int)) = dM (M.filter fun j => decide (j ≠ i)) f := by
  unfold dropK dM
  rw [List.filter_map]
  refine congrArg _ (List.filter_congr fun j _ => ?_)
  show decide ((Sum.inl (j : Int) : Key) ≠ .inl (i : Int)) = decide (j ≠ i)
  by_cases c : j = i
  · rw [c]
    simp
  · have c' : (Sum.inl (j : Int) : Key) ≠ .inl (i : Int) := fun z => c (by injection z with z; omega)
    simp [c, c']
def iV (f : Nat → Nat) (i : Nat) : V := .int ((f i : Nat) : Int)
/-! ### a Timed -/
def TO (C dx o : Addr) (given now : Nat) (hd lm en : Addr) : HO := .ins C dx [("outer", .ref o), ("given", .int (given : Int)), ("now", .int (now : Int)), ("held", .ref hd), ("limits", .ref lm), ("ends", .ref en)]
structure TmAt (CT C CC : Addr) (H : Hp) (t o c l lm en : Addr) (fp fo fa : V) (uv : List Addr) (PM : Nat → V → Prop) (R : List Ca → Hp → Prop) (tr : List Ca) (given now : Nat) (M : List Nat) (mb : Nat → V) (lim ends : Nat → Nat) : Prop where
  ht : ∃ dx hd, H t = some (TO CT dx o given now hd lm en) ∧ H hd = some (.dK (dM M mb)) ∧ hd ∉ t :: lm :: en :: o :: c :: l :: uv
  out : ∃ od, OutAt C CC H o c l od fp fo fa uv R tr
  hl : H lm = some (.dK (dM M (iV lim)))
  he : H en = some (.dK (dM M (iV ends)))
  ti : TI now M (stC [] tr) lim ends
  gv : ∀ i ∈ M, i < given ∧ PM i (mb i)
  nt : t ≠ o ∧ t ≠ c
  nle : lm ≠ en
  nu : ∀ a ∈ uv, a ≠ t ∧ a ≠ lm ∧ a ≠ en
section
variable {P : Program} {w : World} {K : PySem.W.Frag} {mg : Str → Option Value} {base : Heap} {n : Nat}
def spTI (CT C CC : Addr) : Sp := fun vs H Q _ => ∃ (t dx : Addr) (fp fo fa : V), vs = [.ref t, fp, fo, fa] ∧ H t = some (.ins CT dx []) ∧
  ∀ o c l od lm en hd H', Fr H o → Fr H c → Fr H l → Fr H od → Fr H lm → Fr H en → Fr H hd → Kp [t] H H' → l ≠ od → lm ≠ en → hd ≠ lm → hd ≠ en → o ≠ c → H' t = some (TO CT dx o 0 0 hd lm en) → (∃ dx, H' o = some (OO C dx c fp fo fa od false)) → (∃ dx, H' c = some (CO CC dx l false)) → H' l = some (.lst []) → H' od = some (.lst []) → H' hd = some (.dK []) → H' lm = some (.dK []) → H' en = some (.dK []) → Q .non H'
theorem ok_tmi (T : Txt K mg) : FnOk P w K mg base CX0 8 T.f_Timed_init T.d_Timed_init ["self", "push", "pop", "ask"] (spTI T.C_Timed T.C_Outer T.C_Calls) := by
  have G_Outer_init := ok_oi (P := P) (w := w) (base := base) T
  refine T.F_Timed_init.ok sc_Timed_init (fun vs H Q E h => ?_) (fun cdv A outer s H vs Q E hr h => ?_)
  · obtain ⟨o, dx, fp, fo, fa, rfl, _⟩ := h
    rfl
  · obtain ⟨t, dx, fp, fo, fa, rfl, ht, q⟩ := h
    refine ⟨_, (pss_cons (ps_fld (pv 0) (pe_make ⟨T.mk_Outer, T.m_Outer_init, T.t_Outer_init, T.kp_Outer⟩ G_Outer_init (hr.mono (by omega)) rfl T.gc_Outer T.b_Outer_init .nil pass0 (pa_cons (pv 1) (pa_cons (pv 2) (pa_cons (pv 3) pa_nil)))) rfl)
      (pss_cons (ps_fld (pv 0) pe_int rfl)
      (pss_cons (ps_fld (pv 0) pe_int rfl)
      (pss_cons (ps_fld (pv 0) pe_dnewK rfl)
      (pss_cons (ps_fld (pv 0) pe_dnewK rfl)
      (pss_one (ps_fld (pv 0) pe_dnewK rfl))))))), ?_⟩
    refine ⟨_, rfl, _, rfl, _, rfl, ?_⟩
    intro o odx no nodx nxo
    have fo' := Fr.mk no
    have fox := Fr.mk nodx
    have e1 : upd (upd H odx (.own o)) o (.ins T.C_Outer odx []) o = some (.ins T.C_Outer odx []) := upd_same
    have s1 : Same H (upd (upd H odx (.own o)) o (.ins T.C_Outer odx [])) := same_putG fo' (same_newF fox)
    generalize upd (upd H odx (.own o)) o (.ins T.C_Outer odx []) = H1 at e1 s1 ⊢
    refine ⟨o, odx, fp, fo, fa, rfl, e1, fun c l od H2 fc fl fod k2 nlod eo ec el ed => ⟨rfl, ?_⟩⟩
    have ht2 := k2.at_ _ _ (s1 _ _ ht) (not_cons (ne_of_none ht no) not_nil)
    have nto : t ≠ o := ne_of_none ht no
    have ntc : t ≠ c := ne_of_none (s1 _ _ ht) fc.h
    have ntl : t ≠ l := ne_of_none (s1 _ _ ht) fl.h
    have ntd : t ≠ od := ne_of_none (s1 _ _ ht) fod.h
    have noc : o ≠ c := ne_of_none e1 fc.h
    have fc0 : Fr H c := Fr.mk (s1.free fc.h)
    have fl0 : Fr H l := Fr.mk (s1.free fl.h)
    have fd0 : Fr H od := Fr.mk (s1.free fod.h)
    have k02 : Kp [t] H H2 := kp_fresh (kp_same s1) k2 (subCons (.inr fo') subNil)
    obtain ⟨d3, eo⟩ := eo
    obtain ⟨d4, ec⟩ := ec
    refine ⟨_, rfl, t, _, dx, _, rfl, ht2, T.cl_Timed, T.n_Timed_outer, (show 0 < 1000 by decide), ?_⟩
    have u3 : upd H2 t (.ins T.C_Timed dx (putF "outer" (.ref o) [])) t = some (.ins T.C_Timed dx (putF "outer" (.ref o) [])) := upd_same
    have k3 : Kp [t] H (upd H2 t (.ins T.C_Timed dx (putF "outer" (.ref o) []))) := kp_up memA k02
    replace eo := (kp_up (o := .ins T.C_Timed dx (putF "outer" (.ref o) [])) memA (kp_refl [t] H2)).at_ _ _ eo (not_cons nto.symm not_nil)
    replace ec := (kp_up (o := .ins T.C_Timed dx (putF "outer" (.ref o) [])) memA (kp_refl [t] H2)).at_ _ _ ec (not_cons ntc.symm not_nil)
    replace el := (kp_up (o := .ins T.C_Timed dx (putF "outer" (.ref o) [])) memA (kp_refl [t] H2)).at_ _ _ el (not_cons ntl.symm not_nil)
    replace ed := (kp_up (o := .ins T.C_Timed dx (putF "outer" (.ref o) [])) memA (kp_refl [t] H2)).at_ _ _ ed (not_cons ntd.symm not_nil)
    generalize upd H2 t (.ins T.C_Timed dx (putF "outer" (.ref o) [])) = H3 at u3 k3 eo ec el ed ⊢
    refine ⟨_, rfl, t, _, dx, _, rfl, u3, T.cl_Timed, T.n_Timed_given, (show 1 < 1000 by decide), ?_⟩
    have u4 : upd H3 t (.ins T.C_Timed dx (putF "given" (.int 0) (putF "outer" (.ref o) []))) t = some (.ins T.C_Timed dx (putF "given" (.int 0) (putF "outer" (.ref o) []))) := upd_same
    have k4 : Kp [t] H (upd H3 t (.ins T.C_Timed dx (putF "given" (.int 0) (putF "outer" (.ref o) [])))) := kp_up memA k3
    replace eo := (kp_up (o := .ins T.C_Timed dx (putF "given" (.int 0) (putF "outer" (.ref o) []))) memA (kp_refl [t] H3)).at_ _ _ eo (not_cons nto.symm not_nil)
    replace ec := (kp_up (o := .ins T.C_Timed dx (putF "given" (.int 0) (putF "outer" (.ref o) []))) memA (kp_refl [t] H3)).at_ _ _ ec (not_cons ntc.symm not_nil)
    replace el := (kp_up (o := .ins T.C_Timed dx (putF "given" (.int 0) (putF "outer" (.ref o) []))) memA (kp_refl [t] H3)).at_ _ _ el (not_cons ntl.symm not_nil)
    replace ed := (kp_up (o := .ins T.C_Timed dx (putF "given" (.int 0) (putF "outer" (.ref o) []))) memA (kp_refl [t] H3)).at_ _ _ ed (not_cons ntd.symm not_nil)
    generalize upd H3 t (.ins T.C_Timed dx (putF "given" (.int 0) (putF "outer" (.ref o) []))) = H4 at u4 k4 eo ec el ed ⊢
    refine ⟨_, rfl, t, _, dx, _, rfl, u4, T.cl_Timed, T.n_Timed_now, (show 2 < 1000 by decide), ?_⟩
    have u5 : upd H4 t (.ins T.C_Timed dx (putF "now" (.int 0) (putF "given" (.int 0) (putF "outer" (.ref o) [])))) t = some (.ins T.C_Timed dx (putF "now" (.int 0) (putF "given" (.int 0) (putF "outer" (.ref o) [])))) := upd_same
    have k5 : Kp [t] H (upd H4 t (.ins T.C_Timed dx (putF "now" (.int 0) (putF "given" (.int 0) (putF "outer" (.ref o) []))))) := kp_up memA k4
    replace eo := (kp_up (o := .ins T.C_Timed dx (putF "now" (.int 0) (putF "given" (.int 0) (putF "outer" (.ref o) [])))) memA (kp_refl [t] H4)).at_ _ _ eo (not_cons nto.symm not_nil)
    replace ec := (kp_up (o := .ins T.C_Timed dx (putF "now" (.int 0) (putF "given" (.int 0) (putF "outer" (.ref o) [])))) memA (kp_refl [t] H4)).at_ _ _ ec (not_cons ntc.symm not_nil)
    replace el := (kp_up (o := .ins T.C_Timed dx (putF "now" (.int 0) (putF "given" (.int 0) (putF "outer" (.ref o) [])))) memA (kp_refl [t] H4)).at_ _ _ el (not_cons ntl.symm not_nil)
    replace ed := (kp_up (o := .ins T.C_Timed dx (putF "now" (.int 0) (putF "given" (.int 0) (putF "outer" (.ref o) [])))) memA (kp_refl [t] H4)).at_ _ _ ed (not_cons ntd.symm not_nil)
    generalize upd H4 t (.ins T.C_Timed dx (putF "now" (.int 0) (putF "given" (.int 0) (putF "outer" (.ref o) [])))) = H5 at u5 k5 eo ec el ed ⊢
    intro hd nhd
    have fhd := Fr.mk nhd
    have ghd : Fr H hd := fr_kp k5 (mu_ins u5 mu_nil) fhd
    have nthd : t ≠ hd := ne_of_none ht ghd.h
    have sn5 : Same H5 (upd H5 hd (.dK [])) := same_newF fhd
    have ehd : upd H5 hd (.dK []) hd = some (.dK []) := upd_same
    have kn5 : Kp [t] H (upd H5 hd (.dK [])) := kp_new fhd k5
    replace eo := sn5 _ _ eo
    replace ec := sn5 _ _ ec
    replace el := sn5 _ _ el
    replace ed := sn5 _ _ ed
    replace u5 := sn5 _ _ u5
    generalize upd H5 hd (.dK []) = N5 at sn5 ehd kn5 u5 eo ec el ed ⊢
    refine ⟨_, rfl, t, _, dx, _, rfl, u5, T.cl_Timed, T.n_Timed_held, (show 3 < 1000 by decide), ?_⟩
    have u6 : upd N5 t (.ins T.C_Timed dx (putF "held" (.ref hd) (putF "now" (.int 0) (putF "given" (.int 0) (putF "outer" (.ref o) []))))) t = some (.ins T.C_Timed dx (putF "held" (.ref hd) (putF "now" (.int 0) (putF "given" (.int 0) (putF "outer" (.ref o) []))))) := upd_same
    have k6 : Kp [t] H (upd N5 t (.ins T.C_Timed dx (putF "held" (.ref hd) (putF "now" (.int 0) (putF "given" (.int 0) (putF "outer" (.ref o) [])))))) := kp_up memA kn5
    replace eo := (kp_up (o := .ins T.C_Timed dx (putF "held" (.ref hd) (putF "now" (.int 0) (putF "given" (.int 0) (putF "outer" (.ref o) []))))) memA (kp_refl [t] N5)).at_ _ _ eo (not_cons nto.symm not_nil)
    replace ec := (kp_up (o := .ins T.C_Timed dx (putF "held" (.ref hd) (putF "now" (.int 0) (putF "given" (.int 0) (putF "outer" (.ref o) []))))) memA (kp_refl [t] N5)).at_ _ _ ec (not_cons ntc.symm not_nil)
    replace el := (kp_up (o := .ins T.C_Timed dx (putF "held" (.ref hd) (putF "now" (.int 0) (putF "given" (.int 0) (putF "outer" (.ref o) []))))) memA (kp_refl [t] N5)).at_ _ _ el (not_cons ntl.symm not_nil)
    replace ed := (kp_up (o := .ins T.C_Timed dx (putF "held" (.ref hd) (putF "now" (.int 0) (putF "given" (.int 0) (putF "outer" (.ref o) []))))) memA (kp_refl [t] N5)).at_ _ _ ed (not_cons ntd.symm not_nil)
    replace ehd := (kp_up (o := .ins T.C_Timed dx (putF "held" (.ref hd) (putF "now" (.int 0) (putF "given" (.int 0) (putF "outer" (.ref o) []))))) memA (kp_refl [t] N5)).at_ _ _ ehd (not_cons nthd.symm not_nil)
    generalize upd N5 t (.ins T.C_Timed dx (putF "held" (.ref hd) (putF "now" (.int 0) (putF "given" (.int 0) (putF "outer" (.ref o) []))))) = H6 at u6 k6 eo ec el ed ehd ⊢
    intro lm nlm
    have nhdlm : hd ≠ lm := ne_of_none ehd nlm
    have flm := Fr.mk nlm
    have glm : Fr H lm := fr_kp k6 (mu_ins u6 mu_nil) flm
    have ntlm : t ≠ lm := ne_of_none ht glm.h
    have sn6 : Same H6 (upd H6 lm (.dK [])) := same_newF flm
    have elm : upd H6 lm (.dK []) lm = some (.dK []) := upd_same
    have kn6 : Kp [t] H (upd H6 lm (.dK [])) := kp_new flm k6
    replace eo := sn6 _ _ eo
    replace ec := sn6 _ _ ec
    replace el := sn6 _ _ el
    replace ed := sn6 _ _ ed
    replace ehd := sn6 _ _ ehd
    replace u6 := sn6 _ _ u6
    generalize upd H6 lm (.dK []) = N6 at sn6 elm kn6 u6 eo ec el ed ehd ⊢
    refine ⟨_, rfl, t, _, dx, _, rfl, u6, T.cl_Timed, T.n_Timed_limits, (show 4 < 1000 by decide), ?_⟩
    have u7 : upd N6 t (.ins T.C_Timed dx (putF "limits" (.ref lm) (putF "held" (.ref hd) (putF "now" (.int 0) (putF "given" (.int 0) (putF "outer" (.ref o) [])))))) t = some (.ins T.C_Timed dx (putF "limits" (.ref lm) (putF "held" (.ref hd) (putF "now" (.int 0) (putF "given" (.int 0) (putF "outer" (.ref o) [])))))) := upd_same
    have k7 : Kp [t] H (upd N6 t (.ins T.C_Timed dx (putF "limits" (.ref lm) (putF "held" (.ref hd) (putF "now" (.int 0) (putF "given" (.int 0) (putF "outer" (.ref o) []))))))) := kp_up memA kn6
    replace eo := (kp_up (o := .ins T.C_Timed dx (putF "limits" (.ref lm) (putF "held" (.ref hd) (putF "now" (.int 0) (putF "given" (.int 0) (putF "outer" (.ref o) [])))))) memA (kp_refl [t] N6)).at_ _ _ eo (not_cons nto.symm not_nil)
    replace ec := (kp_up (o := .ins T.C_Timed dx (putF "limits" (.ref lm) (putF "held" (.ref hd) (putF "now" (.int 0) (putF "given" (.int 0) (putF "outer" (.ref o) [])))))) memA (kp_refl [t] N6)).at_ _ _ ec (not_cons ntc.symm not_nil)
    replace el := (kp_up (o := .ins T.C_Timed dx (putF "limits" (.ref lm) (putF "held" (.ref hd) (putF "now" (.int 0) (putF "given" (.int 0) (putF "outer" (.ref o) [])))))) memA (kp_refl [t] N6)).at_ _ _ el (not_cons ntl.symm not_nil)
    replace ed := (kp_up (o := .ins T.C_Timed dx (putF "limits" (.ref lm) (putF "held" (.ref hd) (putF "now" (.int 0) (putF "given" (.int 0) (putF "outer" (.ref o) [])))))) memA (kp_refl [t] N6)).at_ _ _ ed (not_cons ntd.symm not_nil)
    replace ehd := (kp_up (o := .ins T.C_Timed dx (putF "limits" (.ref lm) (putF "held" (.ref hd) (putF "now" (.int 0) (putF "given" (.int 0) (putF "outer" (.ref o) [])))))) memA (kp_refl [t] N6)).at_ _ _ ehd (not_cons nthd.symm not_nil)
    replace elm := (kp_up (o := .ins T.C_Timed dx (putF "limits" (.ref lm) (putF "held" (.ref hd) (putF "now" (.int 0) (putF "given" (.int 0) (putF "outer" (.ref o) [])))))) memA (kp_refl [t] N6)).at_ _ _ elm (not_cons ntlm.symm not_nil)
    generalize upd N6 t (.ins T.C_Timed dx (putF "limits" (.ref lm) (putF "held" (.ref hd) (putF "now" (.int 0) (putF "given" (.int 0) (putF "outer" (.ref o) [])))))) = H7 at u7 k7 eo ec el ed ehd elm ⊢
    intro en nen
    have nhden : hd ≠ en := ne_of_none ehd nen
    have nlmen : lm ≠ en := ne_of_none elm nen
    have fen := Fr.mk nen
    have gen : Fr H en := fr_kp k7 (mu_ins u7 mu_nil) fen
    have nten : t ≠ en := ne_of_none ht gen.h
    have sn7 : Same H7 (upd H7 en (.dK [])) := same_newF fen
    have een : upd H7 en (.dK []) en = some (.dK []) := upd_same
    have kn7 : Kp [t] H (upd H7 en (.dK [])) := kp_new fen k7
    replace eo := sn7 _ _ eo
    replace ec := sn7 _ _ ec
    replace el := sn7 _ _ el
    replace ed := sn7 _ _ ed
    replace ehd := sn7 _ _ ehd
    replace elm := sn7 _ _ elm
    replace u7 := sn7 _ _ u7
    generalize upd H7 en (.dK []) = N7 at sn7 een kn7 u7 eo ec el ed ehd elm ⊢
    refine ⟨_, rfl, t, _, dx, _, rfl, u7, T.cl_Timed, T.n_Timed_ends, (show 5 < 1000 by decide), ?_⟩
    have u8 : upd N7 t (.ins T.C_Timed dx (putF "ends" (.ref en) (putF "limits" (.ref lm) (putF "held" (.ref hd) (putF "now" (.int 0) (putF "given" (.int 0) (putF "outer" (.ref o) []))))))) t = some (.ins T.C_Timed dx (putF "ends" (.ref en) (putF "limits" (.ref lm) (putF "held" (.ref hd) (putF "now" (.int 0) (putF "given" (.int 0) (putF "outer" (.ref o) []))))))) := upd_same
    have k8 : Kp [t] H (upd N7 t (.ins T.C_Timed dx (putF "ends" (.ref en) (putF "limits" (.ref lm) (putF "held" (.ref hd) (putF "now" (.int 0) (putF "given" (.int 0) (putF "outer" (.ref o) [])))))))) := kp_up memA kn7
    replace eo := (kp_up (o := .ins T.C_Timed dx (putF "ends" (.ref en) (putF "limits" (.ref lm) (putF "held" (.ref hd) (putF "now" (.int 0) (putF "given" (.int 0) (putF "outer" (.ref o) []))))))) memA (kp_refl [t] N7)).at_ _ _ eo (not_cons nto.symm not_nil)
    replace ec := (kp_up (o := .ins T.C_Timed dx (putF "ends" (.ref en) (putF "limits" (.ref lm) (putF "held" (.ref hd) (putF "now" (.int 0) (putF "given" (.int 0) (putF "outer" (.ref o) []))))))) memA (kp_refl [t] N7)).at_ _ _ ec (not_cons ntc.symm not_nil)
    replace el := (kp_up (o := .ins T.C_Timed dx (putF "ends" (.ref en) (putF "limits" (.ref lm) (putF "held" (.ref hd) (putF "now" (.int 0) (putF "given" (.int 0) (putF "outer" (.ref o) []))))))) memA (kp_refl [t] N7)).at_ _ _ el (not_cons ntl.symm not_nil)
    replace ed := (kp_up (o := .ins T.C_Timed dx (putF "ends" (.ref en) (putF "limits" (.ref lm) (putF "held" (.ref hd) (putF "now" (.int 0) (putF "given" (.int 0) (putF "outer" (.ref o) []))))))) memA (kp_refl [t] N7)).at_ _ _ ed (not_cons ntd.symm not_nil)
    replace ehd := (kp_up (o := .ins T.C_Timed dx (putF "ends" (.ref en) (putF "limits" (.ref lm) (putF "held" (.ref hd) (putF "now" (.int 0) (putF "given" (.int 0) (putF "outer" (.ref o) []))))))) memA (kp_refl [t] N7)).at_ _ _ ehd (not_cons nthd.symm not_nil)
    replace elm := (kp_up (o := .ins T.C_Timed dx (putF "ends" (.ref en) (putF "limits" (.ref lm) (putF "held" (.ref hd) (putF "now" (.int 0) (putF "given" (.int 0) (putF "outer" (.ref o) []))))))) memA (kp_refl [t] N7)).at_ _ _ elm (not_cons ntlm.symm not_nil)
    replace een := (kp_up (o := .ins T.C_Timed dx (putF "ends" (.ref en) (putF "limits" (.ref lm) (putF "held" (.ref hd) (putF "now" (.int 0) (putF "given" (.int 0) (putF "outer" (.ref o) []))))))) memA (kp_refl [t] N7)).at_ _ _ een (not_cons nten.symm not_nil)
    generalize upd N7 t (.ins T.C_Timed dx (putF "ends" (.ref en) (putF "limits" (.ref lm) (putF "held" (.ref hd) (putF "now" (.int 0) (putF "given" (.int 0) (putF "outer" (.ref o) []))))))) = H8 at u8 k8 eo ec el ed ehd elm een ⊢
    refine q o c l od lm en hd _ fo' fc0 fl0 fd0 glm gen ghd k8 nlod nlmen nhdlm nhden noc u8 ⟨d3, eo⟩ ⟨d4, ec⟩ el ed ehd elm een
end
end Ob

set_option Elab.async false
set_option linter.all false
set_option maxRecDepth 100000
set_option maxHeartbeats 1000000
namespace Ob
open PySem PySem.Spec PyProof.Rows L2
open LamX (Tabs TabB TabS ExtN)

set_option hygiene false in
local macro_rules
  | `(tactic| kp_flats) => `(tactic| first
    | assumption
    | exact upd_same
    | (apply atNew; assumption; kp_flats)
    | (apply atNe; (next => kbo_bools); kp_flats)
    | (apply atSame; assumption; kp_flats)
    | (apply atKp; assumption; (next => kaf_pre); kp_flats))
set_option hygiene false in
local macro_rules
  | `(tactic| kaf_pre) => `(tactic| first
    | assumption
    | exact not_nil
    | (apply not_cons; (next => kbo_bools); kaf_pre)
    | (apply not_app; (next => kaf_pre); kaf_pre))
set_option hygiene false in
local macro_rules
  | `(tactic| kbo_bools) => `(tactic| first
    | assumption
    | (apply Ne.symm; assumption)
    | (apply neN; assumption; kp_flats)
    | (apply neN'; assumption; kp_flats))
set_option hygiene false in
local macro_rules
  | `(tactic| o_reads) => `(tactic| first
    | with_reducible rfl
    | assumption
    | rfl
    | kp_flats
    | (show SqL _ _ _ _; first | assumption | (apply sqlOf; kp_flats) | (apply sqlSame; assumption; o_reads))
    | (show SqT _ _ _ _; first | assumption | (apply sqtOf; kp_flats) | (apply sqtAll; assumption) | (apply sqtSame; assumption; o_reads))
    | (show Cls _ _; first | exact T.cl_Calls | exact T.cl_Outer | exact T.cl_Timed)
    | (show NoAttr _ _ _; first | exact T.n_Calls_entries | exact T.n_Calls_running | exact T.n_Outer_calls | exact T.n_Outer_push_call | exact T.n_Outer_pop_call | exact T.n_Outer_ask_call | exact T.n_Outer_order | exact T.n_Outer_broken | exact T.n_Timed_outer | exact T.n_Timed_given | exact T.n_Timed_now | exact T.n_Timed_held | exact T.n_Timed_limits | exact T.n_Timed_ends)
    | (apply Or.inl; o_reads)
    | (apply Or.inr; o_reads)
    | (apply And.intro; (next => o_reads); o_reads)
    | (apply Exists.intro; o_reads)
    | exact Nat.le_of_ble_eq_true rfl
    | exact Nat.succ_ne_zero _
    | (show Fr _ _; kba_ints)
    | (show Same _ _; kd_subs)
    | (show Kp _ _ _; kxs_still)
    | (show (_ : Nat) ≤ _; simp only [List.length_append, List.length_map, List.length_cons, List.length_nil, List.length_take, List.length_drop, List.length_replicate, List.length_range, sizeLine_eq]; omega)
    | (show _ = none; apply Fr.h; kba_ints)
    | (show Bag _ _; first | assumption | (apply bag_putF; assumption; o_reads) | (apply bag_neF; (next => kbo_bools); o_reads) | (apply bag_kpR; assumption; (next => kaf_pre); o_reads))
    | omega
    | decide)
local macro_rules
  | `(tactic| o_readsAll) => `(tactic| repeat (first
    | (refine fun (pNew : Addr) (nNew : _ = none) => ?_; replace nNew := Fr.mk nNew)
    | (refine fun (xNew dNew : Addr) (nNew : _ = none) (mNew : _ = none) (eNew : dNew ≠ xNew) => ?_; replace nNew := Fr.mk nNew; replace mNew := Fr.mk mNew)
    | (apply And.intro; next => o_reads)
    | apply Exists.intro (α := V)
    | apply Exists.intro (α := Addr)
    | apply Exists.intro (α := Int)
    | apply Exists.intro (α := Bool)
    | apply Exists.intro (α := List V)
    | apply Exists.intro (α := List Nat)
    | apply Exists.intro (α := List (Str × V))
    | apply Exists.intro (α := List _)
    | apply Exists.intro (α := Str)
    | apply Exists.intro (α := HO)
    | apply Exists.intro (α := Sp)
    | apply Exists.intro (α := VK)))
set_option hygiene false in
local macro_rules
  | `(tactic| kba_ints) => `(tactic| first
    | assumption
    | (apply frUp; (first | assumption | (apply Ne.symm; assumption)); kba_ints)
    | (apply noneOf; assumption; intro oF eF; apply Exists.intro; kp_flats)
    | (apply frUp; (next => kbo_bools); kba_ints))
set_option hygiene false in
local macro_rules
  | `(tactic| kxs_still) => `(tactic| first
    | assumption
    | exact kp_refl _ _
    | (apply kp_newF; assumption; kxs_still)
    | (apply kp_new; assumption; kxs_still)
    | (apply kp_up; (next => o_fieldsN); kxs_still)
    | (apply kp_new; (next => kba_ints); kxs_still)
    | (apply kp_sameR; assumption; kxs_still)
    | (apply kp_transR; assumption; kxs_still)
    | (apply kp_freshR; assumption; (next => kaf_suf); kxs_still))
set_option hygiene false in
local macro_rules
  | `(tactic| kaf_suf) => `(tactic| first
    | assumption
    | exact subNil
    | (apply subCons; (first | (apply Or.inl; o_fieldsN) | (apply Or.inr; kba_ints)); kaf_suf)
    | (apply subApp; (next => kaf_suf); kaf_suf))
set_option hygiene false in
local macro_rules
  | `(tactic| o_fieldsN) => `(tactic| first
    | assumption
    | exact memA
    | (apply memB; o_fieldsN)
    | (apply memL; o_fieldsN)
    | (apply memR; o_fieldsN))
set_option hygiene false in
local macro_rules
  | `(tactic| kd_subs) => `(tactic| first
    | assumption
    | exact Same.refl _
    | (apply same_putF; assumption; kd_subs)
    | (apply same_putG; assumption; kd_subs)
    | (apply same_putF; (next => kba_ints); kd_subs)
    | (apply same_transR; assumption; kd_subs))

set_option pp.maxSteps 900
section
variable {P : Program} {w : World} {K : PySem.W.Frag} {mg : Str → Option Value} {base : Heap} {n : Nat}
def spUnt : Sp := fun vs H Q _ => ∃ (u c : Nat), vs = [.int (u : Int), .int (c : Int)] ∧ c < u ∧ u ≤ 1000000000 ∧ Q .non H
theorem ok_unt (T : Txt K mg) : FnOk P w K mg base CX0 4 T.f_check_until T.d_check_until ["until", "clock"] spUnt := by
  have G_check_integer := ok_cki (P := P) (w := w) (base := base) T
  refine T.F_check_until.ok sc_check_until (fun vs H Q E h => ?_) (fun cdv A outer s H vs Q E hr h => ?_)
  · obtain ⟨u, c, rfl, _⟩ := h
    rfl
  · obtain ⟨u, c, rfl, hc, hu, q⟩ := h
    refine ⟨_, (pss_cons (ps_expr (pe_call G_check_integer (hr.mono (by omega)) rfl T.g_check_integer T.F_check_integer.kp T.b_check_integer .nil pass0 (pa_cons (pv 0) pa_nil)))
      (pss_one (ps_if (PW.pt (pw_or (pt_cmpR op_le (pv 0) (pv 1) (nomark _)) (pw_or1 (pt_cmpR op_gt (pv 0) (ClX.pe_cval (pe_glob (v := .ref T.C_Timed) rfl T.gc_Timed rfl)) (nomark _))))) pss_never pss_nil))), ?_⟩
    refine ⟨_, rfl, (u : Int), rfl, ?_⟩
    dsimp only []
    refine pIf (pOr (pTest (pOp ?_)))
    refine ⟨_, rfl, _, rfl, _, _, rfl, rfl, _, rfl, ifF (decide_eq_false (by omega)) ?_⟩
    refine pTest (pOp ?_)
    refine ⟨_, rfl, _, _, _, _, rfl, T.cr_Timed, T.cv_LAST, _, _, rfl, rfl, _, rfl, ifF (decide_eq_false (by omega)) (pNx q)⟩
theorem kb_add {K : PySem.W.Frag} {f : Addr} {fd : FuncData} (F : Fun K "add" "Timed.add" s_Timed_add f fd) :
    KBn K fd ["self", "member", "until"] 2 ["until"] (fun us ws => us ++ ws) (fun vs zs => vs ++ zs) := by
  obtain ⟨oc, od, kV, doc, pm, an, cdv, ct, osl, rfl, lk, hcd⟩ := F.ex
  exact ⟨fun s us ws X l1 l2 => match us, ws, l1, l2 with | [a, b], [c], _, _ => .of_eq rfl, fun r q => r.append q⟩
end
end Ob

set_option Elab.async false
set_option linter.all false
set_option maxRecDepth 100000
set_option maxHeartbeats 1000000
namespace Ob
open PySem PySem.Spec PyProof.Rows L2
open LamX (Tabs TabB TabS ExtN)

set_option hygiene false in
local macro_rules
  | `(tactic| kp_flats) => `(tactic| first
    | assumption
    | exact upd_same
    | (apply atNew; assumption; kp_flats)
    | (apply atNe; (next => kbo_bools); kp_flats)
    | (apply atSame; assumption; kp_flats)
    | (apply atKp; assumption; (next => kaf_pre); kp_flats))
set_option hygiene false in
local macro_rules
  | `(tactic| kaf_pre) => `(tactic| first
    | assumption
    | exact not_nil
    | (apply not_cons; (next => kbo_bools); kaf_pre)
    | (apply not_app; (next => kaf_pre); kaf_pre))
set_option hygiene false in
local macro_rules
  | `(tactic| kbo_bools) => `(tactic| first
    | assumption
    | (apply Ne.symm; assumption)
    | (apply neN; assumption; kp_flats)
    | (apply neN'; assumption; kp_flats))
set_option hygiene false in
local macro_rules
  | `(tactic| o_reads) => `(tactic| first
    | with_reducible rfl
    | assumption
    | rfl
    | kp_flats
    | (show SqL _ _ _ _; first | assumption | (apply sqlOf; kp_flats) | (apply sqlSame; assumption; o_reads))
    | (show SqT _ _ _ _; first | assumption | (apply sqtOf; kp_flats) | (apply sqtAll; assumption) | (apply sqtSame; assumption; o_reads))
    | (show Cls _ _; first | exact T.cl_Calls | exact T.cl_Outer | exact T.cl_Timed)
    | (show NoAttr _ _ _; first | exact T.n_Calls_entries | exact T.n_Calls_running | exact T.n_Outer_calls | exact T.n_Outer_push_call | exact T.n_Outer_pop_call | exact T.n_Outer_ask_call | exact T.n_Outer_order | exact T.n_Outer_broken | exact T.n_Timed_outer | exact T.n_Timed_given | exact T.n_Timed_now | exact T.n_Timed_held | exact T.n_Timed_limits | exact T.n_Timed_ends)
    | (apply Or.inl; o_reads)
    | (apply Or.inr; o_reads)
    | (apply And.intro; (next => o_reads); o_reads)
    | (apply Exists.intro; o_reads)
    | exact Nat.le_of_ble_eq_true rfl
    | exact Nat.succ_ne_zero _
    | (show Fr _ _; kba_ints)
    | (show Same _ _; kd_subs)
    | (show Kp _ _ _; kxs_still)
    | (show (_ : Nat) ≤ _; simp only [List.length_append, List.length_map, List.length_cons, List.length_nil, List.length_take, List.length_drop, List.length_replicate, List.length_range, sizeLine_eq]; omega)
    | (show _ = none; apply Fr.h; kba_ints)
    | (show Bag _ _; first | assumption | (apply bag_putF; assumption; o_reads) | (apply bag_neF; (next => kbo_bools); o_reads) | (apply bag_kpR; assumption; (next => kaf_pre); o_reads))
    | omega
    | decide)
local macro_rules
  | `(tactic| o_readsAll) => `(tactic| repeat (first
    | (refine fun (pNew : Addr) (nNew : _ = none) => ?_; replace nNew := Fr.mk nNew)
    | (refine fun (xNew dNew : Addr) (nNew : _ = none) (mNew : _ = none) (eNew : dNew ≠ xNew) => ?_; replace nNew := Fr.mk nNew; replace mNew := Fr.mk mNew)
    | (apply And.intro; next => o_reads)
    | apply Exists.intro (α := V)
    | apply Exists.intro (α := Addr)
    | apply Exists.intro (α := Int)
    | apply Exists.intro (α := Bool)
    | apply Exists.intro (α := List V)
    | apply Exists.intro (α := List Nat)
    | apply Exists.intro (α := List (Str × V))
    | apply Exists.intro (α := List _)
    | apply Exists.intro (α := Str)
    | apply Exists.intro (α := HO)
    | apply Exists.intro (α := Sp)
    | apply Exists.intro (α := VK)))
set_option hygiene false in
local macro_rules
  | `(tactic| kba_ints) => `(tactic| first
    | assumption
    | (apply frUp; (first | assumption | (apply Ne.symm; assumption)); kba_ints)
    | (apply noneOf; assumption; intro oF eF; apply Exists.intro; kp_flats)
    | (apply frUp; (next => kbo_bools); kba_ints))
set_option hygiene false in
local macro_rules
  | `(tactic| kxs_still) => `(tactic| first
    | assumption
    | exact kp_refl _ _
    | (apply kp_newF; assumption; kxs_still)
    | (apply kp_new; assumption; kxs_still)
    | (apply kp_up; (next => o_fieldsN); kxs_still)
    | (apply kp_new; (next => kba_ints); kxs_still)
    | (apply kp_sameR; assumption; kxs_still)
    | (apply kp_transR; assumption; kxs_still)
    | (apply kp_freshR; assumption; (next => kaf_suf); kxs_still))
set_option hygiene false in
local macro_rules
  | `(tactic| kaf_suf) => `(tactic| first
    | assumption
    | exact subNil
    | (apply subCons; (first | (apply Or.inl; o_fieldsN) | (apply Or.inr; kba_ints)); kaf_suf)
    | (apply subApp; (next => kaf_suf); kaf_suf))
set_option hygiene false in
local macro_rules
  | `(tactic| o_fieldsN) => `(tactic| first
    | assumption
    | exact memA
    | (apply memB; o_fieldsN)
    | (apply memL; o_fieldsN)
    | (apply memR; o_fieldsN))
set_option hygiene false in
local macro_rules
  | `(tactic| kd_subs) => `(tactic| first
    | assumption
    | exact Same.refl _
    | (apply same_putF; assumption; kd_subs)
    | (apply same_putG; assumption; kd_subs)
    | (apply same_putF; (next => kba_ints); kd_subs)
    | (apply same_transR; assumption; kd_subs))

set_option pp.maxSteps 900
theorem dM_len {M : List Nat} {f : Nat → V} : (dM M f).length = M.length := List.length_map ..
section
variable {P : Program} {w : World} {K : PySem.W.Frag} {mg : Str → Option Value} {base : Heap} {n : Nat}
def spTAdd (P : Program) (w : World) (K : PySem.W.Frag) (mg : Str → Option Value) (base : Heap) (CT C CC : Addr) (n : Nat) : Sp := fun vs H Q _ => ∃ (t o c l lm en : Addr) (fp fo fa m : V) (uv : List Addr) (PM : Nat → V → Prop) (PQ : V → Prop) (R : List Ca → Hp → Prop) (An : List Ca → V → V → Hp → Prop) (tr : List Ca) (given now u : Nat) (M : List Nat) (mb : Nat → V) (lim ends : Nat → Nat),
  vs = [.ref t, m, .int (u : Int)] ∧ OS P w K mg base n uv fp fo fa PM PQ R An ∧ TmAt CT C CC H t o c l lm en fp fo fa uv PM R tr given now M mb lim ends ∧ PM given m ∧ now < u ∧ u ≤ 1000000000 ∧ tr.length < 400000 ∧ M.length < 400000 ∧
  ∀ H', Kp (t :: lm :: en :: o :: c :: l :: uv) H H' → TmAt CT C CC H' t o c l lm en fp fo fa uv PM R (tr ++ [.push given m]) (given + 1) now (M ++ [given]) (fun x => if x = given then m else mb x) (fun x => if x = given then u else lim x) (fun x => if x = given then now + 1 else ends x) → Q (.int (given : Int)) H'
theorem ok_tadd (T : Txt K mg) : FnOk P w K mg base CX0 (n + 12) T.f_Timed_add T.d_Timed_add ["self", "member", "until"] (spTAdd P w K mg base T.C_Timed T.C_Outer T.C_Calls n) := by
  have G_Outer_check := ok_oc (P := P) (w := w) (base := base) T
  have G_check_until := ok_unt (P := P) (w := w) (base := base) T
  have G_Outer_change := ok_change (P := P) (w := w) (base := base) (n := n) T
  refine T.F_Timed_add.ok sc_Timed_add (fun vs H Q E h => ?_) (fun cdv A outer s H vs Q E hr h => ?_)
  · obtain ⟨t, o, c, l, lm, en, fp, fo, fa, m, uv, PM, PQ, R, An, tr, given, now, u, M, mb, lim, ends, rfl, _⟩ := h
    rfl
  · obtain ⟨t, o, c, l, lm, en, fp, fo, fa, m, uv, PM, PQ, R, An, tr, given, now, u, M, mb, lim, ends, rfl, OA, hT, hPM, hu1, hu2, htl, hML, q⟩ := h
    refine ⟨_, (pss_cons (ps_expr (pe_meth0 (pe_fld (pv 0) rfl) T.cl_Outer ⟨T.m_Outer_check, T.t_Outer_check, T.k_Outer_check⟩ G_Outer_check (hr.mono (by omega)) T.b_Outer_check .nil pass0))
      (pss_cons (ps_expr (pe_call G_check_until (hr.mono (by omega)) rfl T.g_check_until T.F_check_until.kp T.b_check_until .nil pass0 (pa_cons (pv 2) (pa_cons (pe_fld (pv 0) rfl) pa_nil))))
      (pss_cons (ps_set (i := 3) sc_Timed_add.nd rfl (.inl rfl) (pe_fld (pv 0) rfl))
      (pss_cons (ps_set (i := 4) sc_Timed_add.nd rfl (.inl rfl) (Inf.pe_dstar (pe_fld (pv 0) rfl) (pv 3) (pv 1)))
      (pss_cons (ps_expr (pe_meth (pe_fld (pv 0) rfl) T.cl_Outer ⟨T.m_Outer_change, T.t_Outer_change, T.k_Outer_change⟩ G_Outer_change (hr.mono (by omega)) T.b_Outer_change .nil pass0 (pa_cons (pe_lst (pa_cons (pe_tup (pa_cons pe_str (pa_cons (pv 3) pa_nil))) pa_nil)) (pa_cons (pv 4) pa_nil))))
      (pss_cons (ps_fld (pv 0) (pv 4) rfl)
      (pss_cons (ps_dput (hu_of hr) (pe_fld (pv 0) rfl) (pv 3) (pe_callTy call_int1 (by rfl) T.z_int (by decide +kernel) (pa_cons (pv 2) pa_nil)) rfl)
      (pss_cons (ps_dput (hu_of hr) (pe_fld (pv 0) rfl) (pv 3) (pe_op op_add (pe_fld (pv 0) rfl) pe_int) rfl)
      (pss_cons (ps_fld (pv 0) (pe_op op_add (pv 3) pe_int) rfl)
      (pss_one (ps_ret (pv 3)))))))))))), ?_⟩
    obtain ⟨⟨dx, hd, ht, hhd, nhd⟩, ⟨od, hO⟩, hlm, hen, hti, hgv, ⟨nto, ntc⟩, nle, nuv⟩ := id hT
    obtain ⟨⟨d1, ho⟩, ⟨d2, hc⟩, ⟨xs, hl, hlg⟩, hod, hR, nlod, noc, nu⟩ := id hO
    refine ⟨_, rfl, t, _, dx, _, _, rfl, ht, T.cl_Timed, T.n_Timed_outer, rfl, o, d1, _, rfl, ho, rfl, o, c, l, od, fp, fo, fa, rfl, ⟨d1, ho⟩, ⟨d2, hc⟩, ?_⟩
    refine ⟨_, rfl, _, rfl, t, _, dx, _, _, rfl, ht, T.cl_Timed, T.n_Timed_now, rfl, u, now, rfl, hu1, hu2, ?_⟩
    refine ⟨_, rfl, t, _, dx, _, _, rfl, ht, T.cl_Timed, T.n_Timed_given, rfl, pGN ?_⟩
    simp only [List.set_cons_succ, List.set_cons_zero]
    intro p np
    have fp' := Fr.mk np
    have npt : t ≠ p := ne_of_none ht np
    have nph : hd ≠ p := ne_of_none hhd np
    refine ⟨_, rfl, t, _, dx, _, .ref hd, rfl, atNe npt ht, T.cl_Timed, T.n_Timed_held, rfl, hd, _, rfl, nph, upd_same, .inl (atNe nph hhd), by rw [dM_len, sizeLine_eq]; omega, fun b2 nb2 => ⟨_, rfl, _, rfl, .inl (given : Int), m, rfl, ?_⟩⟩
    have npb : p ≠ b2 := ne_of_none (H := upd (upd H p (.dK [])) p (.dK (dM M mb))) upd_same nb2
    refine ⟨npb, atNe npb upd_same, upd_same, ?_⟩
    have hgn : given ∉ M := fun z => Nat.lt_irrefl _ (hgv given z).1
    rw [dM_new hgn]
    have s1 : Same H (upd (upd (upd (upd (upd H p (.dK [])) p (.dK (dM M mb))) b2 (.dK [])) b2 (.dK [(Sum.inl (given : Int), m)])) p (.dK (dM (M ++ [given]) fun x => if x = given then m else mb x))) := fun b o e => by
      have n1 := ne_of_none e np
      have e2 : upd (upd H p (.dK [])) p (.dK (dM M mb)) b = some o := by
        rw [upd_ne n1, upd_ne n1]
        exact e
      have n2 := ne_of_none e2 nb2
      rw [upd_ne n1, upd_ne n2, upd_ne n2]
      exact e2
    have ep : upd (upd (upd (upd (upd H p (.dK [])) p (.dK (dM M mb))) b2 (.dK [])) b2 (.dK [(Sum.inl (given : Int), m)])) p (.dK (dM (M ++ [given]) fun x => if x = given then m else mb x)) p = some (.dK (dM (M ++ [given]) fun x => if x = given then m else mb x)) := upd_same
    generalize upd (upd (upd (upd (upd H p (.dK [])) p (.dK (dM M mb))) b2 (.dK [])) b2 (.dK [(Sum.inl (given : Int), m)])) p (.dK (dM (M ++ [given]) fun x => if x = given then m else mb x)) = H2 at s1 ep ⊢
    refine pGN ?_
    simp only [List.set_cons_succ, List.set_cons_zero]
    refine ⟨_, rfl, t, _, dx, _, _, rfl, s1 _ _ ht, T.cl_Timed, T.n_Timed_outer, rfl, o, d1, _, rfl, s1 _ _ ho, rfl, _, rfl, le2, fun ta nta => ⟨(by decide : 1 ≤ sizeLine), fun la nla => ⟨_, rfl, ?_⟩⟩⟩
    have s2 := same_newF (o := .tup [.str "push", .int (given : Int)]) (Fr.mk nta)
    have s3 := same_newF (o := .lst [.ref ta]) (Fr.mk nla)
    have eta : upd (upd H2 ta (.tup [.str "push", .int (given : Int)])) la (.lst [.ref ta]) ta = some (.tup [.str "push", .int (given : Int)]) := atNew (Fr.mk nla) upd_same
    have ela : upd (upd H2 ta (.tup [.str "push", .int (given : Int)])) la (.lst [.ref ta]) la = some (.lst [.ref ta]) := upd_same
    have s5 := s1.trans (s2.trans s3)
    have ep5 := (s2.trans s3) _ _ ep
    have fla : Fr H la := Fr.mk (s1.free (s2.free nla))
    generalize upd (upd H2 ta (.tup [.str "push", .int (given : Int)])) la (.lst [.ref ta]) = H5 at s2 s3 eta ela s5 ep5 ⊢
    have O5 := hO.kp OA (kp_same (cs := []) s5) mu_nil not_nil not_nil not_nil not_nil (fun _ _ => not_nil)
    have hw : WLog H5 [.ref ta] [(("push" : Str), given)] := ⟨rfl, fun q x e a b => by
      match q, a, b with
      | 0, a, b =>
        cases a
        cases b
        exact ⟨ta, rfl, eta⟩
      | q + 1, a, _ => cases q <;> cases a⟩
    have lS : (stC [] tr).length = M.length := hti.pm.length_eq
    have mu0 := OA.mu hR
    have neF : ∀ {a : Addr}, Fr H a → a ≠ o ∧ a ≠ c ∧ a ≠ l ∧ a ∉ uv := fun f => ⟨(ne_of_none ho f.h).symm, (ne_of_none hc f.h).symm, (ne_of_none hl f.h).symm, mu0.fr f⟩
    refine ⟨o, c, l, od, la, p, fp, fo, fa, uv, PM, PQ, R, An, tr, [.ref ta], [(("push" : Str), given)], dM (M ++ [given]) (fun x => if x = given then m else mb x), (fun x => if x = given then m else mb x), rfl, OA, O5, ela, hw, ep5, fun e he _ => ?_, ⟨by rw [if_pos rfl]; exact True.intro, True.intro⟩, by show tr.length + 1 < _; omega, by omega, fun a ha => ?_, fun od2 H6 k6 fod2 O6 => ?_⟩
    · rw [List.mem_singleton.mp he]
      refine ⟨dM_val (List.mem_append.mpr (.inr (List.mem_singleton.mpr rfl))), ?_⟩
      show PM given (if given = given then m else mb given)
      rw [if_pos rfl]
      exact hPM
    · rcases List.mem_cons.mp ha with rfl | ha
      · exact neF fla
      · rw [List.mem_singleton.mp ha]
        exact neF fp'
    have hca : List.map (caOf fun x => if x = given then m else mb x) [(("push" : Str), given)] = [.push given m] := by
      show [caOf _ (("push" : Str), given)] = _
      unfold caOf
      rw [if_pos rfl]
      show [Ca.push given (if given = given then m else mb given)] = _
      rw [if_pos rfl]
    rw [hca] at O6
    have ntl : t ≠ l := neO ht hl (fun z => nomatch z)
    have ut : t ∉ uv := fun z => (nuv t z).1 rfl
    have ulm : lm ∉ uv := fun z => (nuv lm z).2.1 rfl
    have uen : en ∉ uv := fun z => (nuv en z).2.2 rfl
    have nlmU : lm ∉ o :: c :: l :: uv := not_cons (neO hlm ho (fun z => nomatch z)) (not_cons (neO hlm hc (fun z => nomatch z)) (not_cons (neO hlm hl (fun z => nomatch z)) ulm))
    have nenU : en ∉ o :: c :: l :: uv := not_cons (neO hen ho (fun z => nomatch z)) (not_cons (neO hen hc (fun z => nomatch z)) (not_cons (neO hen hl (fun z => nomatch z)) uen))
    have ht6 := k6.at_ _ _ (s5 _ _ ht) (not_cons nto (not_cons ntc (not_cons ntl ut)))
    have hlm6 := k6.at_ _ _ (s5 _ _ hlm) nlmU
    have hen6 := k6.at_ _ _ (s5 _ _ hen) nenU
    have npU : p ∉ o :: c :: l :: uv := by
      obtain ⟨a1, a2, a3, a4⟩ := neF fp'
      exact not_cons a1 (not_cons a2 (not_cons a3 a4))
    have ep6 := k6.at_ _ _ ep5 npU
    have ntlm : t ≠ lm := neO ht hlm (fun z => nomatch z)
    have nten : t ≠ en := neO ht hen (fun z => nomatch z)
    have nplm : p ≠ lm := (ne_of_none hlm np).symm
    have npen : p ≠ en := (ne_of_none hen np).symm
    -- the members
    refine ⟨_, rfl, _, rfl, t, _, dx, _, rfl, ht6, T.cl_Timed, T.n_Timed_held, (show 6 < 1000 by decide), ?_⟩
    have ht7 : upd H6 t (TO T.C_Timed dx o given now p lm en) t = some (TO T.C_Timed dx o given now p lm en) := upd_same
    have k7 : Kp [t, lm, en] H6 (upd H6 t (TO T.C_Timed dx o given now p lm en)) := kp_up memA (kp_refl _ _)
    show tSeq _ _ _ _ (upd H6 t (TO T.C_Timed dx o given now p lm en))
    have hlm7 : upd H6 t (TO T.C_Timed dx o given now p lm en) lm = some (.dK (dM M (iV lim))) := by rw [upd_ne ntlm.symm]; exact hlm6
    have hen7 : upd H6 t (TO T.C_Timed dx o given now p lm en) en = some (.dK (dM M (iV ends))) := by rw [upd_ne nten.symm]; exact hen6
    have ep7 : upd H6 t (TO T.C_Timed dx o given now p lm en) p = some (.dK (dM (M ++ [given]) fun x => if x = given then m else mb x)) := by rw [upd_ne npt.symm]; exact ep6
    generalize upd H6 t (TO T.C_Timed dx o given now p lm en) = H7 at ht7 k7 hlm7 hen7 ep7 ⊢
    have hP := DPut.k (k := .inl (given : Int)) (v := .int (u : Int)) hlm7 (by rw [dM_len, sizeLine_eq]; omega)
    rw [dM_new hgn] at hP
    refine ⟨_, rfl, .inl ⟨_, rfl, _, rfl, t, _, dx, _, _, rfl, ht7, T.cl_Timed, T.n_Timed_limits, rfl, _, rfl, lm, _, rfl, hP, ?_⟩⟩
    have k8 : Kp [t, lm, en] H6 (upd H7 lm (.dK (dM (M ++ [given]) fun x => if x = given then .int (u : Int) else iV lim x))) := kp_up (memB memA) k7
    have hlm8 : upd H7 lm (.dK (dM (M ++ [given]) fun x => if x = given then .int (u : Int) else iV lim x)) lm = some (.dK (dM (M ++ [given]) fun x => if x = given then .int (u : Int) else iV lim x)) := upd_same
    have ht8 : upd H7 lm (.dK (dM (M ++ [given]) fun x => if x = given then .int (u : Int) else iV lim x)) t = some (TO T.C_Timed dx o given now p lm en) := by rw [upd_ne ntlm]; exact ht7
    have hen8 : upd H7 lm (.dK (dM (M ++ [given]) fun x => if x = given then .int (u : Int) else iV lim x)) en = some (.dK (dM M (iV ends))) := by rw [upd_ne nle.symm]; exact hen7
    have ep8 : upd H7 lm (.dK (dM (M ++ [given]) fun x => if x = given then .int (u : Int) else iV lim x)) p = some (.dK (dM (M ++ [given]) fun x => if x = given then m else mb x)) := by rw [upd_ne nplm]; exact ep7
    generalize upd H7 lm (.dK (dM (M ++ [given]) fun x => if x = given then .int (u : Int) else iV lim x)) = H8 at k8 hlm8 ht8 hen8 ep8 ⊢
    have hP := DPut.k (k := .inl (given : Int)) (v := .int ((now : Int) + 1)) hen8 (by rw [dM_len, sizeLine_eq]; omega)
    rw [dM_new hgn] at hP
    refine ⟨_, rfl, t, _, dx, _, _, rfl, ht8, T.cl_Timed, T.n_Timed_now, rfl, _, _, rfl, rfl, _, rfl, t, _, dx, _, _, rfl, ht8, T.cl_Timed, T.n_Timed_ends, rfl, _, rfl, en, _, rfl, hP, ?_⟩
    have k9 : Kp [t, lm, en] H6 (upd H8 en (.dK (dM (M ++ [given]) fun x => if x = given then .int ((now : Int) + 1) else iV ends x))) := kp_up (memB (memB memA)) k8
    have hen9 : upd H8 en (.dK (dM (M ++ [given]) fun x => if x = given then .int ((now : Int) + 1) else iV ends x)) en = some (.dK (dM (M ++ [given]) fun x => if x = given then .int ((now : Int) + 1) else iV ends x)) := upd_same
    have ht9 : upd H8 en (.dK (dM (M ++ [given]) fun x => if x = given then .int ((now : Int) + 1) else iV ends x)) t = some (TO T.C_Timed dx o given now p lm en) := by rw [upd_ne nten]; exact ht8
    have hlm9 : upd H8 en (.dK (dM (M ++ [given]) fun x => if x = given then .int ((now : Int) + 1) else iV ends x)) lm = some (.dK (dM (M ++ [given]) fun x => if x = given then .int (u : Int) else iV lim x)) := by rw [upd_ne nle]; exact hlm8
    have ep9 : upd H8 en (.dK (dM (M ++ [given]) fun x => if x = given then .int ((now : Int) + 1) else iV ends x)) p = some (.dK (dM (M ++ [given]) fun x => if x = given then m else mb x)) := by rw [upd_ne npen]; exact ep8
    generalize upd H8 en (.dK (dM (M ++ [given]) fun x => if x = given then .int ((now : Int) + 1) else iV ends x)) = H9 at k9 hen9 ht9 hlm9 ep9 ⊢
    refine ⟨_, rfl, _, _, rfl, rfl, _, rfl, t, _, dx, _, rfl, ht9, T.cl_Timed, T.n_Timed_given, (show 6 < 1000 by decide), ?_⟩
    have k10 : Kp [t, lm, en] H6 (upd H9 t (TO T.C_Timed dx o (given + 1) now p lm en)) := kp_up memA k9
    have kt : Kp [t] H9 (upd H9 t (TO T.C_Timed dx o (given + 1) now p lm en)) := kp_up memA (kp_refl _ _)
    refine ⟨_, rfl, ?_⟩
    have m6 : Mu H6 [t, lm, en] := mu_ins ht6 (mu_cons hlm6 (fun _ z => nomatch z) (fun _ z => nomatch z) (mu_cons hen6 (fun _ z => nomatch z) (fun _ z => nomatch z) mu_nil))
    have O10 := O6.kp OA k10 m6 (not_cons nto.symm (not_cons (neO ho hlm (fun z => nomatch z)) (not_cons (neO ho hen (fun z => nomatch z)) not_nil))) (not_cons ntc.symm (not_cons (neO hc hlm (fun z => nomatch z)) (not_cons (neO hc hen (fun z => nomatch z)) not_nil))) (not_cons ntl.symm (not_cons (neO hl hlm (fun z => nomatch z)) (not_cons (neO hl hen (fun z => nomatch z)) not_nil))) (not_cons (fun z => ne_of_none (s5 _ _ ht) (Fr.mk (fod2.h)).h (by rw [z])) (not_cons (fun z => ne_of_none (s5 _ _ hlm) fod2.h (by rw [z])) (not_cons (fun z => ne_of_none (s5 _ _ hen) fod2.h (by rw [z])) not_nil))) (fun a m => not_cons (nuv a m).1 (not_cons (nuv a m).2.1 (not_cons (nuv a m).2.2 not_nil)))
    show Q (.int (given : Int)) (upd H9 t (TO T.C_Timed dx o (given + 1) now p lm en))
    have kU : Kp (t :: lm :: en :: o :: c :: l :: uv) H (upd H9 t (TO T.C_Timed dx o (given + 1) now p lm en)) := kp_trans (kp_same s5) (kp_trans (kp_more k6 fun a m => memB (memB (memB m))) (kp_more k10 (subCons memA (subCons (memB memA) (subCons (memB (memB memA)) subNil)))))
    have npT : p ∉ t :: lm :: en :: o :: c :: l :: uv := not_cons npt.symm (not_cons nplm (not_cons npen npU))
    have hst : stC [] (tr ++ [.push given m]) = stC [] tr ++ [given] := by
      rw [stC_app]
      rfl
    refine q _ kU ⟨⟨dx, p, upd_same, by rw [upd_ne npt.symm]; exact ep9, npT⟩, ⟨od2, O10⟩, ?_, ?_, ?_, fun i mi => ?_, ⟨nto, ntc⟩, nle, nuv⟩
    · rw [upd_ne ntlm.symm, hlm9]
      refine congrArg (fun x => some (HO.dK x)) (dM_congr fun i _ => ?_)
      show (if i = given then V.int (u : Int) else V.int ((lim i : Nat) : Int)) = V.int (((if i = given then u else lim i : Nat)) : Int)
      split <;> rfl
    · rw [upd_ne nten.symm, hen9]
      refine congrArg (fun x => some (HO.dK x)) (dM_congr fun i _ => ?_)
      show (if i = given then V.int ((now : Int) + 1) else V.int ((ends i : Nat) : Int)) = V.int (((if i = given then now + 1 else ends i : Nat)) : Int)
      split <;> rfl
    · rw [hst]
      exact hti.add (fun x mx => (hgv x mx).1) hu1
    · rcases List.mem_append.mp mi with mi | mi
      · have h1 := hgv i mi
        have ne : i ≠ given := Nat.ne_of_lt h1.1
        refine ⟨Nat.lt_succ_of_lt h1.1, ?_⟩
        show PM i (if i = given then m else mb i)
        rw [if_neg ne]
        exact h1.2
      · rw [List.mem_singleton.mp mi]
        refine ⟨Nat.lt_succ_self _, ?_⟩
        show PM given (if given = given then m else mb given)
        rw [if_pos rfl]
        exact hPM
end
end Ob

set_option Elab.async false
set_option linter.all false
set_option maxRecDepth 100000
set_option maxHeartbeats 1000000
namespace Ob
open PySem PySem.Spec PyProof.Rows L2
open LamX (Tabs TabB TabS ExtN)

set_option hygiene false in
local macro_rules
  | `(tactic| kp_flats) => `(tactic| first
    | assumption
    | exact upd_same
    | (apply atNew; assumption; kp_flats)
    | (apply atNe; (next => kbo_bools); kp_flats)
    | (apply atSame; assumption; kp_flats)
    | (apply atKp; assumption; (next => kaf_pre); kp_flats))
set_option hygiene false in
local macro_rules
  | `(tactic| kaf_pre) => `(tactic| first
    | assumption
    | exact not_nil
    | (apply not_cons; (next => kbo_bools); kaf_pre)
    | (apply not_app; (next => kaf_pre); kaf_pre))
set_option hygiene false in
local macro_rules
  | `(tactic| kbo_bools) => `(tactic| first
    | assumption
    | (apply Ne.symm; assumption)
    | (apply neN; assumption; kp_flats)
    | (apply neN'; assumption; kp_flats))
set_option hygiene false in
local macro_rules
  | `(tactic| o_reads) => `(tactic| first
    | with_reducible rfl
    | assumption
    | rfl
    | kp_flats
    | (show SqL _ _ _ _; first | assumption | (apply sqlOf; kp_flats) | (apply sqlSame; assumption; o_reads))
    | (show SqT _ _ _ _; first | assumption | (apply sqtOf; kp_flats) | (apply sqtAll; assumption) | (apply sqtSame; assumption; o_reads))
    | (show Cls _ _; first | exact T.cl_Calls | exact T.cl_Outer | exact T.cl_Timed)
    | (show NoAttr _ _ _; first | exact T.n_Calls_entries | exact T.n_Calls_running | exact T.n_Outer_calls | exact T.n_Outer_push_call | exact T.n_Outer_pop_call | exact T.n_Outer_ask_call | exact T.n_Outer_order | exact T.n_Outer_broken | exact T.n_Timed_outer | exact T.n_Timed_given | exact T.n_Timed_now | exact T.n_Timed_held | exact T.n_Timed_limits | exact T.n_Timed_ends)
    | (apply Or.inl; o_reads)
    | (apply Or.inr; o_reads)
    | (apply And.intro; (next => o_reads); o_reads)
    | (apply Exists.intro; o_reads)
    | exact Nat.le_of_ble_eq_true rfl
    | exact Nat.succ_ne_zero _
    | (show Fr _ _; kba_ints)
    | (show Same _ _; kd_subs)
    | (show Kp _ _ _; kxs_still)
    | (show (_ : Nat) ≤ _; simp only [List.length_append, List.length_map, List.length_cons, List.length_nil, List.length_take, List.length_drop, List.length_replicate, List.length_range, sizeLine_eq]; omega)
    | (show _ = none; apply Fr.h; kba_ints)
    | (show Bag _ _; first | assumption | (apply bag_putF; assumption; o_reads) | (apply bag_neF; (next => kbo_bools); o_reads) | (apply bag_kpR; assumption; (next => kaf_pre); o_reads))
    | omega
    | decide)
local macro_rules
  | `(tactic| o_readsAll) => `(tactic| repeat (first
    | (refine fun (pNew : Addr) (nNew : _ = none) => ?_; replace nNew := Fr.mk nNew)
    | (refine fun (xNew dNew : Addr) (nNew : _ = none) (mNew : _ = none) (eNew : dNew ≠ xNew) => ?_; replace nNew := Fr.mk nNew; replace mNew := Fr.mk mNew)
    | (apply And.intro; next => o_reads)
    | apply Exists.intro (α := V)
    | apply Exists.intro (α := Addr)
    | apply Exists.intro (α := Int)
    | apply Exists.intro (α := Bool)
    | apply Exists.intro (α := List V)
    | apply Exists.intro (α := List Nat)
    | apply Exists.intro (α := List (Str × V))
    | apply Exists.intro (α := List _)
    | apply Exists.intro (α := Str)
    | apply Exists.intro (α := HO)
    | apply Exists.intro (α := Sp)
    | apply Exists.intro (α := VK)))
set_option hygiene false in
local macro_rules
  | `(tactic| kba_ints) => `(tactic| first
    | assumption
    | (apply frUp; (first | assumption | (apply Ne.symm; assumption)); kba_ints)
    | (apply noneOf; assumption; intro oF eF; apply Exists.intro; kp_flats)
    | (apply frUp; (next => kbo_bools); kba_ints))
set_option hygiene false in
local macro_rules
  | `(tactic| kxs_still) => `(tactic| first
    | assumption
    | exact kp_refl _ _
    | (apply kp_newF; assumption; kxs_still)
    | (apply kp_new; assumption; kxs_still)
    | (apply kp_up; (next => o_fieldsN); kxs_still)
    | (apply kp_new; (next => kba_ints); kxs_still)
    | (apply kp_sameR; assumption; kxs_still)
    | (apply kp_transR; assumption; kxs_still)
    | (apply kp_freshR; assumption; (next => kaf_suf); kxs_still))
set_option hygiene false in
local macro_rules
  | `(tactic| kaf_suf) => `(tactic| first
    | assumption
    | exact subNil
    | (apply subCons; (first | (apply Or.inl; o_fieldsN) | (apply Or.inr; kba_ints)); kaf_suf)
    | (apply subApp; (next => kaf_suf); kaf_suf))
set_option hygiene false in
local macro_rules
  | `(tactic| o_fieldsN) => `(tactic| first
    | assumption
    | exact memA
    | (apply memB; o_fieldsN)
    | (apply memL; o_fieldsN)
    | (apply memR; o_fieldsN))
set_option hygiene false in
local macro_rules
  | `(tactic| kd_subs) => `(tactic| first
    | assumption
    | exact Same.refl _
    | (apply same_putF; assumption; kd_subs)
    | (apply same_putG; assumption; kd_subs)
    | (apply same_putF; (next => kba_ints); kd_subs)
    | (apply same_transR; assumption; kd_subs))

set_option pp.maxSteps 900
open NdefX (TabsN)
theorem cut_drop {xs : List V} {n : Nat} : cutV xs (some (n : Int)) none = xs.drop n := by
  unfold cutV
  simp [HT.sIx]
  rw [if_neg (by omega)]
  by_cases h : n ≤ xs.length
  · rw [Nat.min_eq_left h]
    exact List.take_of_length_le (by rw [List.length_drop]; exact Nat.le_refl _)
  · rw [Nat.min_eq_right (by omega), List.drop_eq_nil_of_le (Nat.le_refl _), List.drop_eq_nil_of_le (by omega), List.take_nil]
section
variable {P : Program} {w : World} {K : PySem.W.Frag} {mg : Str → Option Value} {base : Heap} {n : Nat}
def spEnd (CT C : Addr) : Sp := fun vs H Q _ => ∃ (t dx o d1 c hd lm en od : Addr) (fp fo fa : V) (given now : Nat) (M S : List Nat) (lim ends : Nat → Nat), vs = [.ref t] ∧ H t = some (TO CT dx o given now hd lm en) ∧ H o = some (OO C d1 c fp fo fa od false) ∧ H od = some (.lst (S.map nV)) ∧ H en = some (.dK (dM M (iV ends))) ∧ TI now M S lim ends ∧ M.length < 400000 ∧
  ∀ r H', Same H H' → Fr H r → H' r = some (.lst ((endS ends (now + 1) S).map nV)) → Q (.ref r) H'
theorem ok_end (T : Txt K mg) : FnOk P w K mg base CX0 1 T.f_ending_numbers T.d_ending_numbers ["timed"] (spEnd T.C_Timed T.C_Outer) := by
  refine T.F_ending_numbers.ok sc_ending_numbers (fun vs H Q E h => ?_) (fun cdv A outer s H vs Q E hr h => ?_)
  · obtain ⟨t, dx, o, d1, c, hd, lm, en, od, fp, fo, fa, given, now, M, S, lim, ends, rfl, _⟩ := h
    rfl
  · obtain ⟨t, dx, o, d1, c, hd, lm, en, od, fp, fo, fa, given, now, M, S, lim, ends, rfl, ht, ho, hod, hen, hti, hML, q⟩ := h
    refine ⟨_, (pss_cons (ps_set (i := 1) sc_ending_numbers.nd rfl (.inl rfl) (pe_fld (pe_fld (pv 0) rfl) rfl))
      (pss_cons (ps_set (i := 2) sc_ending_numbers.nd rfl (.inl rfl) (pe_callB call_len_seq (by rfl) T.z_len (by decide +kernel) (pa_cons (pv 1) pa_nil)))
      (pss_cons (ps_while PassesOwn.never (PW.pt (pw_and (pt_cmpR op_gt (pv 2) pe_int (nomark _)) (pw_and1 (pt_cmpR op_eq (pe_dget (hu_of hr) (pe_fld (pv 0) rfl) (pe_ix (r := rIxL K) ix_list (pv 1) (pe_op op_sub (pv 2) pe_int) (fun _ _ => rfl)) (fun _ _ => rfl)) (pe_op op_add (pe_fld (pv 0) rfl) pe_int) (nomark _))))) (pss_one (ps_aug (i := 2) sc_ending_numbers.nd rfl (.inl rfl) pe_int ip_sub)))
      (pss_one (ps_ret (pe_slice sl_list (pv 1) (po_some (pv 2)) po_none)))))), ?_⟩
    have hM : ∀ i ∈ S, i ∈ M := fun i m => hti.pm.mem_iff.mp m
    have hsp : S = lowS ends (now + 1) S ++ endS ends (now + 1) S := top_split (c := now + 1) hti.dn fun i m => (hti.lo i (hM i m)).1
    have hLS : (lowS ends (now + 1) S).length ≤ S.length := List.length_filter_le _ _
    have lS : S.length = M.length := hti.pm.length_eq
    have hlm : (S.map nV).length = S.length := List.length_map ..
    refine ⟨_, rfl, t, _, dx, _, _, rfl, ht, T.cl_Timed, T.n_Timed_outer, rfl, o, _, d1, _, _, rfl, ho, T.cl_Outer, T.n_Outer_order, rfl, pGN ?_⟩
    simp only [List.set_cons_succ, List.set_cons_zero]
    refine ⟨_, rfl, od, _, rfl, .inl (sqlOf hod), pGN ?_⟩
    simp only [List.set_cons_succ, List.set_cons_zero]
    rw [hlm]
    refine ⟨fun m σ H' => m = intAt σ 2 ∧ H' = H ∧ ∃ k : Nat, σ = [some (.ref t), some (.ref od), some (.int (k : Int))] ∧ (lowS ends (now + 1) S).length ≤ k ∧ k ≤ S.length, ⟨_, rfl, rfl, S.length, rfl, hLS, Nat.le_refl _⟩, ?_⟩
    rintro _ σ H' ⟨rfl, rfl, k, rfl, hk1, hk2⟩
    refine ⟨_, rfl, _, _, rfl, rfl, _, rfl, ?_⟩
    have hgetL : ∀ i, S[k - 1]? = some i → (lowS ends (now + 1) S).length < k → ends i = now + 1 := fun i hi hk => by
      rw [hsp, List.getElem?_append_right (show (lowS ends (now + 1) S).length ≤ k - 1 by omega)] at hi
      exact of_decide_eq_true (List.mem_filter.mp (List.mem_of_getElem? hi)).2
    have hgetR : ∀ i, S[k - 1]? = some i → k = (lowS ends (now + 1) S).length → 0 < k → ends i ≠ now + 1 := fun i hi hk h0 => by
      rw [hsp, List.getElem?_append_left (show k - 1 < (lowS ends (now + 1) S).length by omega)] at hi
      have := of_decide_eq_true (List.mem_filter.mp (List.mem_of_getElem? hi)).2
      omega
    have fin : k = (lowS ends (now + 1) S).length → tSl (rSlL K) (tVar 1) (tPart (tVar 2)) tNoPart [some (.ref t), some (.ref od), some (.int (k : Int))] H' Q := fun hk => by
      refine ⟨_, rfl, _, rfl, _, rfl, od, _, rfl, sqlOf hod, fun r nr => ?_⟩
      rw [cut_drop, ← List.map_drop]
      have hd : S.drop k = endS ends (now + 1) S := by
        have := congrArg (List.drop k) hsp
        rw [this, hk]
        exact List.drop_left
      rw [hd]
      exact q r _ (same_newF (Fr.mk nr)) (Fr.mk nr) upd_same
    by_cases hk0 : 0 < k
    · refine ifT (decide_eq_true (by omega)) ?_
      obtain ⟨i, hi⟩ : ∃ i, S[k - 1]? = some i := ⟨_, List.getElem?_eq_getElem (by omega)⟩
      have hiM := hM i (List.mem_of_getElem? hi)
      have hg : DGet H' en (.int (i : Int)) (some (iV ends i)) := by
        rw [← dM_val (f := iV ends) hiM]
        exact DGet.k (k := .inl (i : Int)) hen
      have hat : atI (S.map nV) ((k : Int) - 1) = some (nV i) := by
        rw [show (k : Int) - 1 = ((k - 1 : Nat) : Int) by omega]
        exact atI_nat (j := k - 1) (by rw [List.getElem?_map, hi]; rfl)
      refine ⟨_, rfl, t, _, dx, _, _, rfl, ht, T.cl_Timed, T.n_Timed_ends, rfl, _, rfl, _, rfl, _, _, rfl, rfl, od, _, _, _, rfl, rfl, sqlOf hod, hat, en, _, rfl, hg, ?_⟩
      refine ⟨_, rfl, t, _, dx, _, _, rfl, ht, T.cl_Timed, T.n_Timed_now, rfl, _, _, rfl, rfl, rfl, _, rfl, ?_⟩
      by_cases hz : (lowS ends (now + 1) S).length < k
      · have he := hgetL i hi hz
        refine ifT (decide_eq_true (by show V.int ((ends i : Nat) : Int) = V.int ((now : Int) + 1); rw [he]; rfl)) ?_
        refine ⟨fun σ' H'' => σ' = [some (.ref t), some (.ref od), some (.int ((k - 1 : Nat) : Int))] ∧ H'' = H', ?_, ?_⟩
        · rintro σ' H'' ⟨rfl, rfl⟩
          refine ⟨_, ?_, rfl, rfl, k - 1, rfl, by omega, by omega⟩
          show (((k - 1 : Nat) : Int)).toNat < ((k : Int)).toNat
          omega
        · refine ⟨_, rfl, _, _, rfl, rfl, ?_, rfl⟩
          show [_, _, some (V.int ((k : Int) - 1))] = _
          rw [show (k : Int) - 1 = ((k - 1 : Nat) : Int) by omega]
      · have hk' : k = (lowS ends (now + 1) S).length := by omega
        have he := hgetR i hi hk' hk0
        refine ifF (decide_eq_false fun z => he (by injection z with z; omega)) ?_
        exact fin hk'
    · refine ifF (decide_eq_false (by omega)) ?_
      refine ifF rfl ?_
      exact fin (by omega)
end
end Ob

set_option Elab.async false
set_option linter.all false
set_option maxRecDepth 100000
set_option maxHeartbeats 1000000
namespace Ob
open PySem PySem.Spec PyProof.Rows L2
open LamX (Tabs TabB TabS ExtN)

set_option hygiene false in
local macro_rules
  | `(tactic| kp_flats) => `(tactic| first
    | assumption
    | exact upd_same
    | (apply atNew; assumption; kp_flats)
    | (apply atNe; (next => kbo_bools); kp_flats)
    | (apply atSame; assumption; kp_flats)
    | (apply atKp; assumption; (next => kaf_pre); kp_flats))
set_option hygiene false in
local macro_rules
  | `(tactic| kaf_pre) => `(tactic| first
    | assumption
    | exact not_nil
    | (apply not_cons; (next => kbo_bools); kaf_pre)
    | (apply not_app; (next => kaf_pre); kaf_pre))
set_option hygiene false in
local macro_rules
  | `(tactic| kbo_bools) => `(tactic| first
    | assumption
    | (apply Ne.symm; assumption)
    | (apply neN; assumption; kp_flats)
    | (apply neN'; assumption; kp_flats))
set_option hygiene false in
local macro_rules
  | `(tactic| o_reads) => `(tactic| first
    | with_reducible rfl
    | assumption
    | rfl
    | kp_flats
    | (show SqL _ _ _ _; first | assumption | (apply sqlOf; kp_flats) | (apply sqlSame; assumption; o_reads))
    | (show SqT _ _ _ _; first | assumption | (apply sqtOf; kp_flats) | (apply sqtAll; assumption) | (apply sqtSame; assumption; o_reads))
    | (show Cls _ _; first | exact T.cl_Calls | exact T.cl_Outer | exact T.cl_Timed)
    | (show NoAttr _ _ _; first | exact T.n_Calls_entries | exact T.n_Calls_running | exact T.n_Outer_calls | exact T.n_Outer_push_call | exact T.n_Outer_pop_call | exact T.n_Outer_ask_call | exact T.n_Outer_order | exact T.n_Outer_broken | exact T.n_Timed_outer | exact T.n_Timed_given | exact T.n_Timed_now | exact T.n_Timed_held | exact T.n_Timed_limits | exact T.n_Timed_ends)
    | (apply Or.inl; o_reads)
    | (apply Or.inr; o_reads)
    | (apply And.intro; (next => o_reads); o_reads)
    | (apply Exists.intro; o_reads)
    | exact Nat.le_of_ble_eq_true rfl
    | exact Nat.succ_ne_zero _
    | (show Fr _ _; kba_ints)
    | (show Same _ _; kd_subs)
    | (show Kp _ _ _; kxs_still)
    | (show (_ : Nat) ≤ _; simp only [List.length_append, List.length_map, List.length_cons, List.length_nil, List.length_take, List.length_drop, List.length_replicate, List.length_range, sizeLine_eq]; omega)
    | (show _ = none; apply Fr.h; kba_ints)
    | (show Bag _ _; first | assumption | (apply bag_putF; assumption; o_reads) | (apply bag_neF; (next => kbo_bools); o_reads) | (apply bag_kpR; assumption; (next => kaf_pre); o_reads))
    | omega
    | decide)
local macro_rules
  | `(tactic| o_readsAll) => `(tactic| repeat (first
    | (refine fun (pNew : Addr) (nNew : _ = none) => ?_; replace nNew := Fr.mk nNew)
    | (refine fun (xNew dNew : Addr) (nNew : _ = none) (mNew : _ = none) (eNew : dNew ≠ xNew) => ?_; replace nNew := Fr.mk nNew; replace mNew := Fr.mk mNew)
    | (apply And.intro; next => o_reads)
    | apply Exists.intro (α := V)
    | apply Exists.intro (α := Addr)
    | apply Exists.intro (α := Int)
    | apply Exists.intro (α := Bool)
    | apply Exists.intro (α := List V)
    | apply Exists.intro (α := List Nat)
    | apply Exists.intro (α := List (Str × V))
    | apply Exists.intro (α := List _)
    | apply Exists.intro (α := Str)
    | apply Exists.intro (α := HO)
    | apply Exists.intro (α := Sp)
    | apply Exists.intro (α := VK)))
set_option hygiene false in
local macro_rules
  | `(tactic| kba_ints) => `(tactic| first
    | assumption
    | (apply frUp; (first | assumption | (apply Ne.symm; assumption)); kba_ints)
    | (apply noneOf; assumption; intro oF eF; apply Exists.intro; kp_flats)
    | (apply frUp; (next => kbo_bools); kba_ints))
set_option hygiene false in
local macro_rules
  | `(tactic| kxs_still) => `(tactic| first
    | assumption
    | exact kp_refl _ _
    | (apply kp_newF; assumption; kxs_still)
    | (apply kp_new; assumption; kxs_still)
    | (apply kp_up; (next => o_fieldsN); kxs_still)
    | (apply kp_new; (next => kba_ints); kxs_still)
    | (apply kp_sameR; assumption; kxs_still)
    | (apply kp_transR; assumption; kxs_still)
    | (apply kp_freshR; assumption; (next => kaf_suf); kxs_still))
set_option hygiene false in
local macro_rules
  | `(tactic| kaf_suf) => `(tactic| first
    | assumption
    | exact subNil
    | (apply subCons; (first | (apply Or.inl; o_fieldsN) | (apply Or.inr; kba_ints)); kaf_suf)
    | (apply subApp; (next => kaf_suf); kaf_suf))
set_option hygiene false in
local macro_rules
  | `(tactic| o_fieldsN) => `(tactic| first
    | assumption
    | exact memA
    | (apply memB; o_fieldsN)
    | (apply memL; o_fieldsN)
    | (apply memR; o_fieldsN))
set_option hygiene false in
local macro_rules
  | `(tactic| kd_subs) => `(tactic| first
    | assumption
    | exact Same.refl _
    | (apply same_putF; assumption; kd_subs)
    | (apply same_putG; assumption; kd_subs)
    | (apply same_putF; (next => kba_ints); kd_subs)
    | (apply same_transR; assumption; kd_subs))

set_option pp.maxSteps 900
open NdefX (TabsN)
def nm_next_pieces : Nat → Nat → Str := fun l _ => if l = 211 then ("next_pieces" : Str) ++ ".<locals>." ++ "<lambda>" else ("next_pieces" : Str) ++ ".<locals>." ++ "<lambda>"
def nm_l_counting : Nat → Nat → Str := fun l _ => if l = 245 then ("_law_counting" : Str) ++ ".<locals>." ++ "<lambda>" else if l = 242 then ("_law_counting" : Str) ++ ".<locals>." ++ "_law_pushes" else ("_law_counting" : Str) ++ ".<locals>." ++ "<lambda>"
def TT {K : PySem.W.Frag} {mg : Str → Option Value} (T : Txt K mg) : List NdefX.NTab := [(T.p_next_pieces, nm_next_pieces), (T.p_l_counting, nm_l_counting)]
theorem hm_next_pieces {K : PySem.W.Frag} {mg : Str → Option Value} (T : Txt K mg) : (T.p_next_pieces, nm_next_pieces) ∈ TT T := List.mem_cons_self ..
theorem hu_next_pieces {K : PySem.W.Frag} {mg : Str → Option Value} (T : Txt K mg) : ∀ p ∈ TT T, p.1 = T.p_next_pieces → p.2 = nm_next_pieces := fun p m e => by
  rcases List.mem_cons.mp m with rfl | m
  · exact rfl
  rcases List.mem_cons.mp m with rfl | m
  · exact absurd e.symm T.pne_next_pieces_l_counting
  · cases m
theorem hm_l_counting {K : PySem.W.Frag} {mg : Str → Option Value} (T : Txt K mg) : (T.p_l_counting, nm_l_counting) ∈ TT T := List.mem_cons_of_mem _ (List.mem_cons_self ..)
theorem hu_l_counting {K : PySem.W.Frag} {mg : Str → Option Value} (T : Txt K mg) : ∀ p ∈ TT T, p.1 = T.p_l_counting → p.2 = nm_l_counting := fun p m e => by
  rcases List.mem_cons.mp m with rfl | m
  · exact absurd e T.pne_next_pieces_l_counting
  rcases List.mem_cons.mp m with rfl | m
  · exact rfl
  · cases m
def kwOf : Stmt → Nat → Expr
  | .Return (some (.Call _ _ kws _)) _, i => (kws.map Keyword.value).getD i (.Constant .none 0 ⟨0, 0, 0, 0⟩)
  | _, _ => .Constant .none 0 ⟨0, 0, 0, 0⟩
def qKey : Str := ("next_pieces" : Str) ++ ".<locals>." ++ "<lambda>"
def LK (cl : List (Str × Addr)) (c : Addr) : Inf.LF := lamF qKey cl c (kwOf ((defBody s_next_pieces).getD 3 (.Pass ⟨0, 0, 0, 0⟩)) 0)
theorem scKey : NdefX.NScope ["piece"] ["piece"] [] (LK [] 0).scope := NdefX.nscope_by (by decide +kernel)
theorem key_lam (cl : List (Str × Addr)) (c : Addr) : Inf.KeyLam (LK cl c) "piece" :=
  ⟨scKey, ⟨_, _, _, _, _, _, _, _, _, _, _, rfl⟩, fun pm ctv v => rfl, by decide⟩
theorem pairLe_trans (a b c : Addr × Int × Int) (h1 : Inf.pairLe a b = true) (h2 : Inf.pairLe b c = true) : Inf.pairLe a c = true := by
  have h1 := of_decide_eq_true h1
  have h2 := of_decide_eq_true h2
  exact decide_eq_true (by omega)
theorem pairLe_total (a b : Addr × Int × Int) : (Inf.pairLe a b || Inf.pairLe b a) = true := by
  rw [Bool.or_eq_true]
  by_cases h : -a.2.2 < -b.2.2 ∨ (-a.2.2 = -b.2.2 ∧ a.2.1 ≤ b.2.1)
  · exact .inl (decide_eq_true h)
  · exact .inr (decide_eq_true (by omega))
/-- pairs (number, size) at these addresses -/
structure PrAt (H : Hp) (ts : List Addr) (B : List Nat) (sz : Nat → Nat) : Prop where
  len : ts.length = B.length
  at_ : ∀ (q : Nat) (t : Addr) (i : Nat), ts[q]? = some t → B[q]? = some i → H t = some (.tup [.int (i : Int), .int ((sz i : Nat) : Int)])
section
variable {P : Program} {w : World} {K : PySem.W.Frag} {mg : Str → Option Value} {base : Heap} {n : Nat}
def spNext (T : Txt K mg) : Sp := fun vs H Q _ => ∃ (t dx o hd lm en a : Addr) (given now : Nat) (M E : List Nat) (lim : Nat → Nat), vs = [.ref t, .ref a] ∧ H t = some (TO T.C_Timed dx o given now hd lm en) ∧ H a = some (.lst (E.map nV)) ∧ H lm = some (.dK (dM M (iV lim))) ∧ (∀ i ∈ E, i ∈ M ∧ lim i ≤ 1000000000 ∧ now < lim i) ∧ E.length < 400000 ∧ TabsN (TT T) H ∧
  ∀ r H' ts B, Kp [T.p_next_pieces] H H' → TabsN (TT T) H' → Fr H r → H' r = some (.lst (ts.map V.ref)) → PrAt H' ts B (fun i => szP (now + 1) (lim i - (now + 1))) → B.Perm (E.filter fun i => decide (now + 1 < lim i)) → (B.Pairwise fun a b => szP (now + 1) (lim b - (now + 1)) ≤ szP (now + 1) (lim a - (now + 1))) → Q (.ref r) H'
theorem ok_next (T : Txt K mg) (TB : LamX.TabB base mg T.c_next_pieces T.p_next_pieces) : FnOk P w K mg base CX0 8 T.f_next_pieces T.d_next_pieces ["timed", "ending"] (spNext T) := by
  have G_piece_size := ok_ps (P := P) (w := w) (base := base) T
  refine T.F_next_pieces.ok sc_next_pieces (fun vs H Q E h => ?_) (fun A outer s H vs Q E hr h => ?_)
  · obtain ⟨t, dx, o, hd, lm, en, a, given, now, M, E, lim, rfl, _⟩ := h
    rfl
  · obtain ⟨t, dx, o, hd, lm, en, a, given, now, M, E, lim, rfl, ht, ha, hlm, hE, hEL, t0, q⟩ := h
    refine ⟨_, (pss_cons (ps_set (i := 2) sc_next_pieces.nd rfl (.inl rfl) (pe_op op_add (pe_fld (pv 0) rfl) pe_int))
      (pss_cons (ps_set (i := 3) sc_next_pieces.nd rfl (.inl rfl) (pe_lst pa_nil))
      (pss_cons (ps_for (passes_of rfl) rfl (pi_list (pv 1)) (pg_name (i := 4) sc_next_pieces.nd rfl (.inl rfl)) (pss_cons (ps_set (i := 5) sc_next_pieces.nd rfl (.inl rfl) (pe_op op_sub (pe_dget (hu_of hr) (pe_fld (pv 0) rfl) (pv 4) (fun _ _ => rfl)) (pv 2)))
        (pss_one (ps_if (pt_cmpR op_gt (pv 5) pe_int (nomark _)) (pss_one (ps_expr (pe_bm PySem.F.plainAttrs_list PySem.F.slot_list_append PySem.F.type_list_append mt_append (pv 3) (pa_cons (pe_tup (pa_cons (pv 4) (pa_cons (pe_call G_piece_size (hr.mono (by omega)) rfl T.g_piece_size T.F_piece_size.kp T.b_piece_size .nil pass0 (pa_cons (pv 2) (pa_cons (pv 5) pa_nil))) pa_nil))) pa_nil)))) pss_nil))))
      (pss_one (ps_ret (pe_callBK (Inf.cr_sortKey hr) (by rfl) T.z_sorted (by decide +kernel) (pa_cons (pv 3) pa_nil) (pk_cons (Inf.pe_lamP (T := TT T) (nm := nm_next_pieces) (c := T.c_next_pieces) (P := T.p_next_pieces) TB rfl (hm_next_pieces T) rfl (hu_next_pieces T) rfl (NdefX.ndef_free (sc := defScope s_next_pieces) (fr := []) (by decide +kernel))) pk_nil))))))), ?_⟩
    refine ⟨_, rfl, t, _, dx, _, _, rfl, ht, T.cl_Timed, T.n_Timed_now, rfl, _, _, rfl, rfl, pGN ?_⟩
    simp only [List.set_cons_succ, List.set_cons_zero]
    refine ⟨Nat.zero_le _, fun fo nfo => pGN ?_⟩
    simp only [List.set_cons_succ, List.set_cons_zero]
    have fF := Fr.mk nfo
    have s1 := same_newF (o := .lst []) fF
    have eF : upd H fo (.lst []) fo = some (.lst []) := upd_same
    generalize upd H fo (.lst []) = H1 at s1 eF ⊢
    refine ⟨_, rfl, a, rfl, ⟨_, sqlOf (s1 _ _ ha)⟩, ?_⟩
    refine for_it (walk_list (K := K) (a := a) (xs := E.map nV)) (fun k σ H' => ∃ y4 y5 bs, σ = [some (.ref t), some (.ref a), some (.int ((now : Int) + 1)), some (.ref fo), y4, y5] ∧ Same H H' ∧ H' fo = some (.lst (bs.map fun b : Addr × Int × Int => V.ref b.1)) ∧ (∀ b ∈ bs, H' b.1 = some (.tup [.int b.2.1, .int b.2.2])) ∧ bs.map (·.2) = ((E.take k).filter fun i => decide (now + 1 < lim i)).map (fun i : Nat => ((i : Int), ((szP (now + 1) (lim i - (now + 1)) : Nat) : Int)))) ⟨_, _, [], rfl, s1, eF, (fun _ z => nomatch z), rfl⟩ (fun k σ H' _ ⟨_, _, _, _, z, _⟩ => sqlOf (z _ _ ha)) ?_ ?_
    · rintro k x σ H4' H4 hk ⟨y4, y5, bs, rfl, s4, hf4, hb4, hm4⟩ ⟨rfl, hx⟩
      rw [List.length_map] at hk
      rw [List.getElem?_map] at hx
      obtain ⟨i, hi, rfl⟩ := Option.map_eq_some_iff.mp hx
      obtain ⟨hiM, hi2, hi3⟩ := hE i (List.mem_of_getElem? hi)
      have htk : E.take (k + 1) = E.take k ++ [i] := by
        rw [List.take_succ, hi]
        rfl
      have hbl : bs.length ≤ k := by
        have h1 := congrArg List.length hm4
        rw [List.length_map, List.length_map] at h1
        have h2 := List.length_filter_le (fun i => decide (now + 1 < lim i)) (E.take k)
        rw [List.length_take] at h2
        omega
      have hg : DGet H4 lm (.int (i : Int)) (some (iV lim i)) := by
        rw [← dM_val (f := iV lim) hiM]
        exact DGet.k (k := .inl (i : Int)) (s4 _ _ hlm)
      rw [htk, List.filter_append]
      refine ⟨_, rfl, t, _, dx, _, _, rfl, s4 _ _ ht, T.cl_Timed, T.n_Timed_limits, rfl, _, rfl, lm, _, rfl, hg, _, rfl, _, _, rfl, rfl, pGN ?_⟩
      simp only [List.set_cons_succ, List.set_cons_zero]
      refine ⟨_, rfl, _, _, rfl, rfl, _, rfl, ?_⟩
      by_cases hr : now + 1 < lim i
      · refine ifT (decide_eq_true (by show (0 : Int) < ((lim i : Nat) : Int) - ((now : Int) + 1); omega)) ?_
        have hfl : [i].filter (fun i => decide (now + 1 < lim i)) = [i] := List.filter_cons_of_pos (by simpa using hr)
        rw [hfl, List.map_append]
        refine ⟨_, rfl, .inl ⟨rfl, _, sqlOf hf4⟩, _, rfl, _, rfl, _, rfl, now + 1, lim i - (now + 1), ?_, by omega, ?_, le2, fun u nu => ?_⟩
        · show [V.int ((now : Int) + 1), V.int (((lim i : Nat) : Int) - ((now : Int) + 1))] = [V.int ((now + 1 : Nat) : Int), V.int ((lim i - (now + 1) : Nat) : Int)]
          rw [show ((lim i : Nat) : Int) - ((now : Int) + 1) = ((lim i - (now + 1) : Nat) : Int) by omega]
          rfl
        · have : (2 : Nat) ^ 200 > 1000000000 := by decide
          omega
        · have fu := Fr.mk nu
          have su := same_newF (o := .tup [.int (i : Int), .int ((szP (now + 1) (lim i - (now + 1)) : Nat) : Int)]) fu
          have nuf : fo ≠ u := ne_of_none hf4 nu
          refine ⟨fo, _, _, rfl, rfl, atNew fu hf4, by rw [List.length_map, sizeLine_eq]; omega, ?_⟩
          have kf : Kp [fo] H4 (upd (upd H4 u (.tup [.int (i : Int), .int ((szP (now + 1) (lim i - (now + 1)) : Nat) : Int)])) fo (.lst (bs.map (fun b : Addr × Int × Int => V.ref b.1) ++ [.ref u]))) := kp_up memA (kp_new fu (kp_refl _ _))
          have mf : Mu H4 [fo] := mu_lst hf4 mu_nil
          refine ⟨_, _, bs ++ [(u, (i : Int), ((szP (now + 1) (lim i - (now + 1)) : Nat) : Int))], rfl, same_putG fF (s4.trans su), by rw [upd_same, List.map_append]; rfl, fun b mb => ?_, by rw [List.map_append, hm4]; rfl⟩
          rcases List.mem_append.mp mb with mb | mb
          · exact kp_tup kf mf (hb4 b mb)
          · rw [List.mem_singleton.mp mb, upd_ne nuf.symm]
            exact upd_same
      · refine ifF (decide_eq_false (by show ¬ (0 : Int) < ((lim i : Nat) : Int) - ((now : Int) + 1); omega)) ?_
        have hfl : [i].filter (fun i => decide (now + 1 < lim i)) = [] := List.filter_cons_of_neg (by simpa using hr)
        rw [hfl, List.append_nil]
        exact ⟨_, _, bs, rfl, s4, hf4, hb4, hm4⟩
    · rintro σ H4 ⟨y4, y5, bs, rfl, s4, hf4, hb4, hm4⟩
      rw [List.take_of_length_le (by rw [List.length_map]; exact Nat.le_refl _)] at hm4
      have t4 := tabs_same t0 s4
      refine ⟨_, rfl, t4, fun fk ck H6 k6 n6 tb6 nf6 hf6 hc6 => ?_⟩
      obtain ⟨cl, hf6⟩ : ∃ cl, H6 fk = some (Inf.LamO fk (LK cl ck)) := ⟨_, hf6⟩
      have hc6 : H6 ck = some (LamX.CodeO ck qKey) := hc6
      have k6 : Kp [T.p_next_pieces] H4 H6 := ⟨fun b o e n => k6 b o e fun z => n (by rw [z]; exact memA)⟩
      have mt : Mu H4 [T.p_next_pieces] := by
        obtain ⟨ps, h, _⟩ := t4 _ (hm_next_pieces T)
        exact mu_cons h (fun _ z => nomatch z) (fun _ z => nomatch z) mu_nil
      have hf46 := k6.at_ _ _ hf4 (not_cons (tab_ne t4 (hm_next_pieces T) hf4 (fun _ z => nomatch z)) not_nil)
      have hb6 : ∀ b ∈ bs, H6 b.1 = some (.tup [.int b.2.1, .int b.2.2]) := fun b mb => kp_tup k6 mt (hb4 b mb)
      refine ⟨fo, fk, LK cl ck, "piece", bs, rfl, rfl, sqlOf hf46, hb6, key_lam cl ck, hf6, hc6, fun r nr => ?_⟩
      have fr := Fr.mk nr
      have sr := same_newF (o := .lst ((bs.mergeSort Inf.pairLe).map fun b => V.ref b.1)) fr
      have hpm : (bs.mergeSort Inf.pairLe).Perm bs := List.mergeSort_perm _ _
      have hpw := List.pairwise_mergeSort (le := Inf.pairLe) pairLe_trans pairLe_total bs
      have hof : ∀ b ∈ bs, ∃ i : Nat, b.2 = ((i : Int), ((szP (now + 1) (lim i - (now + 1)) : Nat) : Int)) := fun b mb => by
        have h1 : b.2 ∈ bs.map (·.2) := List.mem_map.mpr ⟨b, mb, rfl⟩
        rw [hm4] at h1
        obtain ⟨i, _, e⟩ := List.mem_map.mp h1
        exact ⟨i, e.symm⟩
      generalize hL : bs.mergeSort Inf.pairLe = L at sr hpm hpw ⊢
      have hofL : ∀ b ∈ L, ∃ i : Nat, b.2 = ((i : Int), ((szP (now + 1) (lim i - (now + 1)) : Nat) : Int)) := fun b mb => hof b (hpm.mem_iff.mp mb)
      refine q r _ (L.map (·.1)) (L.map fun b => b.2.1.toNat) (kp_trans (kp_same s4) (kp_trans k6 (kp_same sr))) (tabs_same tb6 sr) (Fr.mk (s4.free (n6 _ nr))) (by rw [upd_same, List.map_map]; rfl) ⟨by rw [List.length_map, List.length_map], fun q2 u i e1 e2 => ?_⟩ ?_ ?_
      · rw [List.getElem?_map] at e1 e2
        obtain ⟨b, hb, rfl⟩ := Option.map_eq_some_iff.mp e1
        rw [hb] at e2
        have e2 : b.2.1.toNat = i := Option.some.inj e2
        have mb := List.mem_of_getElem? hb
        obtain ⟨j, hj⟩ := hofL b mb
        have h6 := sr _ _ (hb6 b (hpm.mem_iff.mp mb))
        rw [hj] at h6 e2
        have e3 : j = i := by
          have e2 : ((j : Int)).toNat = i := e2
          omega
        subst e3
        exact h6
      · refine (hpm.map _).trans (List.Perm.of_eq ?_)
        have h1 := congrArg (List.map fun x : Int × Int => x.1.toNat) hm4
        rw [List.map_map, List.map_map] at h1
        refine Eq.trans h1 (Eq.trans (List.map_congr_left fun i _ => ?_) (List.map_id _))
        show ((i : Int)).toNat = id i
        exact Int.toNat_natCast i
      · refine List.pairwise_map.mpr (List.Pairwise.imp_of_mem (fun {x y} mx my h => ?_) hpw)
        obtain ⟨i, hi⟩ := hofL x mx
        obtain ⟨j, hj⟩ := hofL y my
        have h := of_decide_eq_true h
        rw [hi, hj] at h ⊢
        show szP (now + 1) (lim ((j : Int)).toNat - (now + 1)) ≤ szP (now + 1) (lim ((i : Int)).toNat - (now + 1))
        rw [Int.toNat_natCast, Int.toNat_natCast]
        have h : -((szP (now + 1) (lim i - (now + 1)) : Nat) : Int) < -((szP (now + 1) (lim j - (now + 1)) : Nat) : Int) ∨ (-((szP (now + 1) (lim i - (now + 1)) : Nat) : Int) = -((szP (now + 1) (lim j - (now + 1)) : Nat) : Int) ∧ (i : Int) ≤ (j : Int)) := h
        omega
end
end Ob

set_option Elab.async false
set_option linter.all false
set_option maxRecDepth 100000
set_option maxHeartbeats 1000000
namespace Ob
open PySem PySem.Spec PyProof.Rows L2
open LamX (Tabs TabB TabS ExtN)

set_option hygiene false in
local macro_rules
  | `(tactic| kp_flats) => `(tactic| first
    | assumption
    | exact upd_same
    | (apply atNew; assumption; kp_flats)
    | (apply atNe; (next => kbo_bools); kp_flats)
    | (apply atSame; assumption; kp_flats)
    | (apply atKp; assumption; (next => kaf_pre); kp_flats))
set_option hygiene false in
local macro_rules
  | `(tactic| kaf_pre) => `(tactic| first
    | assumption
    | exact not_nil
    | (apply not_cons; (next => kbo_bools); kaf_pre)
    | (apply not_app; (next => kaf_pre); kaf_pre))
set_option hygiene false in
local macro_rules
  | `(tactic| kbo_bools) => `(tactic| first
    | assumption
    | (apply Ne.symm; assumption)
    | (apply neN; assumption; kp_flats)
    | (apply neN'; assumption; kp_flats))
set_option hygiene false in
local macro_rules
  | `(tactic| o_reads) => `(tactic| first
    | with_reducible rfl
    | assumption
    | rfl
    | kp_flats
    | (show SqL _ _ _ _; first | assumption | (apply sqlOf; kp_flats) | (apply sqlSame; assumption; o_reads))
    | (show SqT _ _ _ _; first | assumption | (apply sqtOf; kp_flats) | (apply sqtAll; assumption) | (apply sqtSame; assumption; o_reads))
    | (show Cls _ _; first | exact T.cl_Calls | exact T.cl_Outer | exact T.cl_Timed)
    | (show NoAttr _ _ _; first | exact T.n_Calls_entries | exact T.n_Calls_running | exact T.n_Outer_calls | exact T.n_Outer_push_call | exact T.n_Outer_pop_call | exact T.n_Outer_ask_call | exact T.n_Outer_order | exact T.n_Outer_broken | exact T.n_Timed_outer | exact T.n_Timed_given | exact T.n_Timed_now | exact T.n_Timed_held | exact T.n_Timed_limits | exact T.n_Timed_ends)
    | (apply Or.inl; o_reads)
    | (apply Or.inr; o_reads)
    | (apply And.intro; (next => o_reads); o_reads)
    | (apply Exists.intro; o_reads)
    | exact Nat.le_of_ble_eq_true rfl
    | exact Nat.succ_ne_zero _
    | (show Fr _ _; kba_ints)
    | (show Same _ _; kd_subs)
    | (show Kp _ _ _; kxs_still)
    | (show (_ : Nat) ≤ _; simp only [List.length_append, List.length_map, List.length_cons, List.length_nil, List.length_take, List.length_drop, List.length_replicate, List.length_range, sizeLine_eq]; omega)
    | (show _ = none; apply Fr.h; kba_ints)
    | (show Bag _ _; first | assumption | (apply bag_putF; assumption; o_reads) | (apply bag_neF; (next => kbo_bools); o_reads) | (apply bag_kpR; assumption; (next => kaf_pre); o_reads))
    | omega
    | decide)
local macro_rules
  | `(tactic| o_readsAll) => `(tactic| repeat (first
    | (refine fun (pNew : Addr) (nNew : _ = none) => ?_; replace nNew := Fr.mk nNew)
    | (refine fun (xNew dNew : Addr) (nNew : _ = none) (mNew : _ = none) (eNew : dNew ≠ xNew) => ?_; replace nNew := Fr.mk nNew; replace mNew := Fr.mk mNew)
    | (apply And.intro; next => o_reads)
    | apply Exists.intro (α := V)
    | apply Exists.intro (α := Addr)
    | apply Exists.intro (α := Int)
    | apply Exists.intro (α := Bool)
    | apply Exists.intro (α := List V)
    | apply Exists.intro (α := List Nat)
    | apply Exists.intro (α := List (Str × V))
    | apply Exists.intro (α := List _)
    | apply Exists.intro (α := Str)
    | apply Exists.intro (α := HO)
    | apply Exists.intro (α := Sp)
    | apply Exists.intro (α := VK)))
set_option hygiene false in
local macro_rules
  | `(tactic| kba_ints) => `(tactic| first
    | assumption
    | (apply frUp; (first | assumption | (apply Ne.symm; assumption)); kba_ints)
    | (apply noneOf; assumption; intro oF eF; apply Exists.intro; kp_flats)
    | (apply frUp; (next => kbo_bools); kba_ints))
set_option hygiene false in
local macro_rules
  | `(tactic| kxs_still) => `(tactic| first
    | assumption
    | exact kp_refl _ _
    | (apply kp_newF; assumption; kxs_still)
    | (apply kp_new; assumption; kxs_still)
    | (apply kp_up; (next => o_fieldsN); kxs_still)
    | (apply kp_new; (next => kba_ints); kxs_still)
    | (apply kp_sameR; assumption; kxs_still)
    | (apply kp_transR; assumption; kxs_still)
    | (apply kp_freshR; assumption; (next => kaf_suf); kxs_still))
set_option hygiene false in
local macro_rules
  | `(tactic| kaf_suf) => `(tactic| first
    | assumption
    | exact subNil
    | (apply subCons; (first | (apply Or.inl; o_fieldsN) | (apply Or.inr; kba_ints)); kaf_suf)
    | (apply subApp; (next => kaf_suf); kaf_suf))
set_option hygiene false in
local macro_rules
  | `(tactic| o_fieldsN) => `(tactic| first
    | assumption
    | exact memA
    | (apply memB; o_fieldsN)
    | (apply memL; o_fieldsN)
    | (apply memR; o_fieldsN))
set_option hygiene false in
local macro_rules
  | `(tactic| kd_subs) => `(tactic| first
    | assumption
    | exact Same.refl _
    | (apply same_putF; assumption; kd_subs)
    | (apply same_putG; assumption; kd_subs)
    | (apply same_putF; (next => kba_ints); kd_subs)
    | (apply same_transR; assumption; kd_subs))

set_option pp.maxSteps 900
section
variable {P : Program} {w : World} {K : PySem.W.Frag} {mg : Str → Option Value} {base : Heap} {n : Nat}
def spMoves : Sp := fun vs H Q _ => ∃ (a b : Addr) (E : List Nat) (ts : List Addr) (B : List Nat) (sz : Nat → Nat), vs = [.ref a, .ref b] ∧ H a = some (.lst (E.map nV)) ∧ H b = some (.lst (ts.map V.ref)) ∧ PrAt H ts B sz ∧ E.length < 400000 ∧ B.length < 400000 ∧
  ∀ r xs H', Same H H' → Fr H r → H' r = some (.lst xs) → WLog H' xs ((E.reverse.map fun i => (("pop" : Str), i)) ++ B.map fun i => (("push" : Str), i)) → Q (.ref r) H'
theorem ok_moves (T : Txt K mg) : FnOk P w K mg base CX0 4 T.f_plan_moves T.d_plan_moves ["ending", "begun"] spMoves := by
  have G_plan_pops := ok_pops (P := P) (w := w) (base := base) T
  have G_plan_pushes := ok_push (P := P) (w := w) (base := base) T
  refine T.F_plan_moves.ok sc_plan_moves (fun vs H Q E h => ?_) (fun cdv A outer s H vs Q E hr h => ?_)
  · obtain ⟨a, b, E, ts, B, sz, rfl, _⟩ := h
    rfl
  · obtain ⟨a, b, E, ts, B, sz, rfl, ha, hb, hp, hE, hB, q⟩ := h
    refine ⟨_, (pss_one (ps_ret (pe_op op_cat (pe_call G_plan_pops (hr.mono (by omega)) rfl T.g_plan_pops T.F_plan_pops.kp T.b_plan_pops .nil pass0 (pa_cons (pv 0) pa_nil)) (pe_call G_plan_pushes (hr.mono (by omega)) rfl T.g_plan_pushes T.F_plan_pushes.kp T.b_plan_pushes .nil pass0 (pa_cons (pe_lc (own := [("number", 2), ("size", 3)]) (g := (gTup K 2 (gCons (gName 2) (gCons (gName 3) gNil)))) (tt := tYes) rfl sc_plan_moves.nd (pi_list (pv 1)) (blkOk_by (N := n_plan_moves) (sc := defScope s_plan_moves) (by decide +kernel)) (fun _ _ _ _ _ => (pg_tup (by rfl) (pgs_cons (pg_name (i := 2) sc_plan_moves.nd rfl (.inl rfl)) (pgs_cons (pg_name (i := 3) sc_plan_moves.nd rfl (.inl rfl)) pgs_nil)))) (fun _ _ _ _ _ => pts_nil) (fun _ _ _ _ _ => (pv 2))) pa_nil))))), ?_⟩
    have hpl := hp.len
    refine ⟨_, rfl, a, E, rfl, ha, by omega, fun r1 xs1 H1 fr1 s1 e1 w1 => ?_⟩
    have hb1 := s1 _ _ hb
    refine ⟨_, rfl, b, rfl, ⟨_, sqlOf hb1⟩, fun D nD => ?_⟩
    have fD := Fr.mk nD
    refine lc_it (walk_list (K := K) (a := b) (xs := ts.map V.ref)) (fun i H' => Same H1 H' ∧ H' D = some (.lst ((B.take i).map nV))) ⟨same_newF fD, upd_same⟩ (fun i H' _ z => sqlOf (z.1 _ _ hb1)) ?_ ?_
    · rintro i x H2' H2 hi ⟨s2, eD⟩ ⟨rfl, hx⟩
      rw [List.length_map] at hi
      rw [List.getElem?_map] at hx
      obtain ⟨u, hu, rfl⟩ := Option.map_eq_some_iff.mp hx
      obtain ⟨j, hj⟩ : ∃ j, B[i]? = some j := ⟨_, List.getElem?_eq_getElem (by omega)⟩
      have hu2 := s2 _ _ (s1 _ _ (hp.at_ i u j hu hj))
      refine ⟨u, _, rfl, sqtOf hu2, rfl, _, _, rfl, _, _, rfl, rfl, rfl, ?_⟩
      unfold tYes
      refine ifT rfl ?_
      refine ⟨_, rfl, _, eD, by rw [List.length_map, List.length_take, sizeLine_eq]; omega, same_putG fD s2, ?_⟩
      rw [upd_same, List.take_succ, hj, List.map_append]
      rfl
    · rintro H2 ⟨s2, eD⟩
      rw [List.take_of_length_le (by rw [List.length_map]; omega)] at eD
      refine ⟨D, B, rfl, eD, by omega, fun r2 xs2 H3 fr2 s3 e3 w3 => ?_⟩
      have s13 := s2.trans s3
      have e13 := s13 _ _ e1
      have w13 := w1.kp (cs := []) (kp_same s13) mu_nil
      have l1 := w1.len
      have l3 := w3.len
      rw [List.length_map, List.length_reverse] at l1
      rw [List.length_map] at l3
      refine ⟨r1, r2, xs1, xs2, rfl, rfl, e13, e3, by rw [sizeLine_eq]; omega, fun p np => ?_⟩
      have sp := same_newF (o := .lst (xs1 ++ xs2)) (Fr.mk np)
      have s03 := s1.trans s13
      exact q p _ _ (s03.trans sp) (Fr.mk (s03.free np)) upd_same ((w13.app w3).kp (cs := []) (kp_same sp) mu_nil)
end
end Ob

set_option Elab.async false
set_option linter.all false
set_option maxRecDepth 100000
set_option maxHeartbeats 1000000
namespace Ob
open PySem PySem.Spec PyProof.Rows L2
open LamX (Tabs TabB TabS ExtN)

set_option hygiene false in
local macro_rules
  | `(tactic| kp_flats) => `(tactic| first
    | assumption
    | exact upd_same
    | (apply atNew; assumption; kp_flats)
    | (apply atNe; (next => kbo_bools); kp_flats)
    | (apply atSame; assumption; kp_flats)
    | (apply atKp; assumption; (next => kaf_pre); kp_flats))
set_option hygiene false in
local macro_rules
  | `(tactic| kaf_pre) => `(tactic| first
    | assumption
    | exact not_nil
    | (apply not_cons; (next => kbo_bools); kaf_pre)
    | (apply not_app; (next => kaf_pre); kaf_pre))
set_option hygiene false in
local macro_rules
  | `(tactic| kbo_bools) => `(tactic| first
    | assumption
    | (apply Ne.symm; assumption)
    | (apply neN; assumption; kp_flats)
    | (apply neN'; assumption; kp_flats))
set_option hygiene false in
local macro_rules
  | `(tactic| o_reads) => `(tactic| first
    | with_reducible rfl
    | assumption
    | rfl
    | kp_flats
    | (show SqL _ _ _ _; first | assumption | (apply sqlOf; kp_flats) | (apply sqlSame; assumption; o_reads))
    | (show SqT _ _ _ _; first | assumption | (apply sqtOf; kp_flats) | (apply sqtAll; assumption) | (apply sqtSame; assumption; o_reads))
    | (show Cls _ _; first | exact T.cl_Calls | exact T.cl_Outer | exact T.cl_Timed)
    | (show NoAttr _ _ _; first | exact T.n_Calls_entries | exact T.n_Calls_running | exact T.n_Outer_calls | exact T.n_Outer_push_call | exact T.n_Outer_pop_call | exact T.n_Outer_ask_call | exact T.n_Outer_order | exact T.n_Outer_broken | exact T.n_Timed_outer | exact T.n_Timed_given | exact T.n_Timed_now | exact T.n_Timed_held | exact T.n_Timed_limits | exact T.n_Timed_ends)
    | (apply Or.inl; o_reads)
    | (apply Or.inr; o_reads)
    | (apply And.intro; (next => o_reads); o_reads)
    | (apply Exists.intro; o_reads)
    | exact Nat.le_of_ble_eq_true rfl
    | exact Nat.succ_ne_zero _
    | (show Fr _ _; kba_ints)
    | (show Same _ _; kd_subs)
    | (show Kp _ _ _; kxs_still)
    | (show (_ : Nat) ≤ _; simp only [List.length_append, List.length_map, List.length_cons, List.length_nil, List.length_take, List.length_drop, List.length_replicate, List.length_range, sizeLine_eq]; omega)
    | (show _ = none; apply Fr.h; kba_ints)
    | (show Bag _ _; first | assumption | (apply bag_putF; assumption; o_reads) | (apply bag_neF; (next => kbo_bools); o_reads) | (apply bag_kpR; assumption; (next => kaf_pre); o_reads))
    | omega
    | decide)
local macro_rules
  | `(tactic| o_readsAll) => `(tactic| repeat (first
    | (refine fun (pNew : Addr) (nNew : _ = none) => ?_; replace nNew := Fr.mk nNew)
    | (refine fun (xNew dNew : Addr) (nNew : _ = none) (mNew : _ = none) (eNew : dNew ≠ xNew) => ?_; replace nNew := Fr.mk nNew; replace mNew := Fr.mk mNew)
    | (apply And.intro; next => o_reads)
    | apply Exists.intro (α := V)
    | apply Exists.intro (α := Addr)
    | apply Exists.intro (α := Int)
    | apply Exists.intro (α := Bool)
    | apply Exists.intro (α := List V)
    | apply Exists.intro (α := List Nat)
    | apply Exists.intro (α := List (Str × V))
    | apply Exists.intro (α := List _)
    | apply Exists.intro (α := Str)
    | apply Exists.intro (α := HO)
    | apply Exists.intro (α := Sp)
    | apply Exists.intro (α := VK)))
set_option hygiene false in
local macro_rules
  | `(tactic| kba_ints) => `(tactic| first
    | assumption
    | (apply frUp; (first | assumption | (apply Ne.symm; assumption)); kba_ints)
    | (apply noneOf; assumption; intro oF eF; apply Exists.intro; kp_flats)
    | (apply frUp; (next => kbo_bools); kba_ints))
set_option hygiene false in
local macro_rules
  | `(tactic| kxs_still) => `(tactic| first
    | assumption
    | exact kp_refl _ _
    | (apply kp_newF; assumption; kxs_still)
    | (apply kp_new; assumption; kxs_still)
    | (apply kp_up; (next => o_fieldsN); kxs_still)
    | (apply kp_new; (next => kba_ints); kxs_still)
    | (apply kp_sameR; assumption; kxs_still)
    | (apply kp_transR; assumption; kxs_still)
    | (apply kp_freshR; assumption; (next => kaf_suf); kxs_still))
set_option hygiene false in
local macro_rules
  | `(tactic| kaf_suf) => `(tactic| first
    | assumption
    | exact subNil
    | (apply subCons; (first | (apply Or.inl; o_fieldsN) | (apply Or.inr; kba_ints)); kaf_suf)
    | (apply subApp; (next => kaf_suf); kaf_suf))
set_option hygiene false in
local macro_rules
  | `(tactic| o_fieldsN) => `(tactic| first
    | assumption
    | exact memA
    | (apply memB; o_fieldsN)
    | (apply memL; o_fieldsN)
    | (apply memR; o_fieldsN))
set_option hygiene false in
local macro_rules
  | `(tactic| kd_subs) => `(tactic| first
    | assumption
    | exact Same.refl _
    | (apply same_putF; assumption; kd_subs)
    | (apply same_putG; assumption; kd_subs)
    | (apply same_putF; (next => kba_ints); kd_subs)
    | (apply same_transR; assumption; kd_subs))

set_option pp.maxSteps 900
/-- a dict made over another one's pairs -/
theorem dc_items {d : Addr} {o : Obj} {ks : List (Key × V)} {g : TG} {tt : L2.TT} {tk tv : TE} {vs : List Nat} {σ : L2.St} {H1 : Hp} {D : Addr} {Qd : Hp → Prop} (Pv : Nat → Hp → Prop) (h0 : Pv 0 (upd H1 D (.dK []))) (hl : ∀ i H, Pv i H → H d = some (.frz o (.dK ks)))
    (hs : ∀ i k v T H, ks[i]? = some (k, v) → Pv i H → H T = none → g (.ref T) (wipe σ vs) (upd H T (.tup [kV k, v])) fun σ2 H2 => wipe σ2 vs = wipe σ vs ∧ tt σ2 H2 fun b H3 =>
      if b = true then tk σ2 H3 fun y H4 => tv σ2 H4 fun z H5 => ∃ kvs k, y = kV k ∧ H5 D = some (.dK kvs) ∧ kvs.length < sizeLine ∧ Pv (i + 1) (upd H5 D (.dK (putK kvs k z))) else Pv (i + 1) H3) (hd : ∀ H, Pv ks.length H → Qd H) :
    ∃ W : Nat → Nat → Hp → Prop, (∃ m, W 0 m (upd H1 D (.dK []))) ∧ ∀ i m H, W i m H →
      ((Iti d o ks).stop i H ∧ Qd H) ∨ ((Iti d o ks).go i H ∧ ∃ Nx : Hp → Prop, (∀ H', Nx H' → ∃ m', m' < m ∧ W (i + 1) m' H') ∧ ∀ x H', (Iti d o ks).yld i H x H' → g x (wipe σ vs) H' fun σ2 H2 => wipe σ2 vs = wipe σ vs ∧ tt σ2 H2 fun b H3 =>
        if b = true then tk σ2 H3 fun y H4 => tv σ2 H4 fun z H5 => ∃ kvs k, y = kV k ∧ H5 D = some (.dK kvs) ∧ kvs.length < sizeLine ∧ Nx (upd H5 D (.dK (putK kvs k z))) else Nx H3) := by
  refine ⟨fun i m H => m = ks.length - i ∧ i ≤ ks.length ∧ Pv i H, ⟨ks.length, rfl, Nat.zero_le _, h0⟩, ?_⟩
  rintro i m H ⟨rfl, hi, p⟩
  by_cases hlt : i < ks.length
  · refine .inr ⟨⟨hl i H p, hlt⟩, Pv (i + 1), fun H' p' => ⟨ks.length - (i + 1), by omega, rfl, hlt, p'⟩, fun x H' y => ?_⟩
    obtain ⟨T, k, v, e1, e2, e3, e4⟩ := y
    subst e2
    subst e4
    exact hs i k v T H e1 p e3
  · have e : i = ks.length := by omega
    subst e
    exact .inl ⟨⟨hl _ H p, Nat.le_refl _⟩, hd H p⟩
theorem in_nat (x : Nat) : ∀ F : List Nat, inV (.int (x : Int)) (F.map fun k : Nat => V.int (k : Int)) = decide (x ∈ F)
  | [] => rfl
  | y :: F => by
    have i := in_nat x F
    unfold inV at i ⊢
    rw [List.map_cons, List.any_cons, i]
    have e : eqV (V.int (y : Int)) (V.int (x : Int)) = decide (y = x) := by
      show decide ((y : Int) = (x : Int)) = decide (y = x)
      by_cases z : y = x
      · rw [dT z, z, dT rfl]
      · rw [dF z, dF fun w => z (by omega)]
    rw [e]
    by_cases z : y = x
    · rw [dT z, dT (show x ∈ y :: F by rw [z]; exact List.mem_cons_self ..)]
      rfl
    · rw [dF z, Bool.false_or]
      by_cases m : x ∈ F
      · rw [dT m, dT (List.mem_cons_of_mem _ m)]
      · rw [dF m, dF fun w => (List.mem_cons.mp w).elim (fun q => z q.symm) m]
theorem flat_nats (F : List Nat) : (F.map fun k : Nat => V.int (k : Int)).all flatV = true := by
  rw [List.all_map]
  exact List.all_eq_true.mpr fun _ _ => rfl

theorem dM_at {M : List Nat} {f : Nat → V} {i : Nat} {k : Key} {v : V} (h : (dM M f)[i]? = some (k, v)) : ∃ j : Nat, M[i]? = some j ∧ k = .inl (j : Int) ∧ v = f j := by
  unfold dM at h
  rw [List.getElem?_map] at h
  obtain ⟨j, hj, e⟩ := Option.map_eq_some_iff.mp h
  injection e with e1 e2
  exact ⟨j, hj, e1.symm, e2.symm⟩
section
variable {P : Program} {w : World} {K : PySem.W.Frag} {mg : Str → Option Value} {base : Heap} {n : Nat}
def spWo : Sp := fun vs H Q _ => ∃ (a b : Addr) (M G : List Nat) (mb : Nat → V), vs = [.ref a, .ref b] ∧ H a = some (.dK (dM M mb)) ∧ H b = some (.lst (G.map nV)) ∧ M.Nodup ∧ M.length < 400000 ∧ ∀ r H', Same H H' → Fr H r → H' r = some (.dK (dM (M.filter fun i => decide (i ∉ G)) mb)) → Q (.ref r) H'
theorem ok_wo (T : Txt K mg) : FnOk P w K mg base CX0 1 T.f_without T.d_without ["held", "numbers"] spWo := by
  refine T.F_without.ok sc_without (fun vs H Q E h => ?_) (fun cdv A outer s H vs Q E hr h => ?_)
  · obtain ⟨a, b, M, G, mb, rfl, _⟩ := h
    rfl
  · obtain ⟨a, b, M, G, mb, rfl, h1, h2, hnd, hML, q⟩ := h
    refine ⟨_, (pss_one (ps_ret (pe_lock (pe_dc (own := [("number", 3), ("member", 2)]) (g := (gTup K 2 (gCons (gName 3) (gCons (gName 2) gNil))))  rfl sc_without.nd (pi_items (pv 0)) (blkOk_by (N := n_without) (sc := defScope s_without) (by decide +kernel)) (fun _ _ _ _ _ => (pg_tup (by rfl) (pgs_cons (pg_name (i := 3) sc_without.nd rfl (.inl rfl)) (pgs_cons (pg_name (i := 2) sc_without.nd rfl (.inl rfl)) pgs_nil)))) (fun _ _ _ _ _ => (pts_one (pt_cmpR (show OpR _ _ (rIn K true) from op_notIn_seq) (pv 3) (pv 1) (by rfl)))) (fun _ _ _ _ _ => (pv 3)) (fun _ _ _ _ _ => (pv 2)))))), ?_⟩
    refine ⟨a, _, h1, True.intro, fun od => ?_⟩
    generalize hF : upd H a (.frz od (.dK (dM M mb))) = F
    have ea : F a = some (.frz od (.dK (dM M mb))) := by
      rw [← hF]
      exact upd_same
    have en : ∀ b o, b ≠ a → H b = some o → F b = some o := fun b o nb e => by
      rw [← hF, upd_ne nb]
      exact e
    have nba : b ≠ a := fun z => by
      rw [z, h1] at h2
      cases h2
    have eb := en b _ nba h2
    refine ⟨_, rfl, a, od, _, rfl, ea, fun D nD => ?_⟩
    have fD := Fr.mk nD
    refine dc_items (fun i H' => Same F H' ∧ H' D = some (.dK (dM ((M.take i).filter fun i => decide (i ∉ G)) mb))) ⟨same_newF fD, upd_same⟩ (fun i H' h => h.1 _ _ ea) ?_ ?_
    · rintro i k v T2 H2 hk ⟨s2, e2⟩ nT
      have fT := Fr.mk nT
      obtain ⟨j, hj, rfl, rfl⟩ := dM_at hk
      have s3 : Same H2 (upd H2 T2 (.tup [kV (.inl (j : Int)), mb j])) := same_newF fT
      have li : i < M.length := (List.getElem?_eq_some_iff.mp hj).1
      have htk : M.take (i + 1) = M.take i ++ [j] := by
        rw [List.take_succ, hj]
        rfl
      have hjn : j ∉ M.take i := fun z => by
        have h3 : (M.take (i + 1)).Nodup := (List.take_sublist _ _).nodup hnd
        rw [htk] at h3
        exact (List.nodup_append.mp h3).2.2 j z j (List.mem_singleton.mpr rfl) rfl
      have v1 := in_nat j G
      rw [htk, List.filter_append]
      refine ⟨T2, _, rfl, sqtOf upd_same, rfl, _, _, rfl, _, _, rfl, rfl, rfl, ?_⟩
      refine ⟨_, rfl, _, rfl, b, _, rfl, .inl (sqlOf (s3 _ _ (s2 _ _ eb))), rfl, flat_nats G, _, rfl, ?_⟩
      by_cases c0 : j ∈ G
      · refine ifF ?_ ⟨s2.trans s3, ?_⟩
        · rw [if_pos rfl]
          show (!inV (V.int (j : Int)) (G.map fun k : Nat => V.int (k : Int))) = false
          rw [v1, dT c0]
          rfl
        · rw [s3 _ _ e2, List.filter_cons_of_neg (by simp [c0]), List.filter_nil, List.append_nil]
      · refine ifT ?_ ?_
        · rw [if_pos rfl]
          show (!inV (V.int (j : Int)) (G.map fun k : Nat => V.int (k : Int))) = true
          rw [v1, dF c0]
          rfl
        refine ⟨_, rfl, _, rfl, _, .inl (j : Int), rfl, s3 _ _ e2, ?_, ⟨?_, ?_⟩⟩
        · have h3 := List.length_filter_le (fun i => decide (i ∉ G)) (M.take i)
          rw [List.length_take] at h3
          show ((List.map _ _ : List (Key × V))).length < _
          rw [List.length_map, sizeLine_eq]
          omega
        · exact same_putG fD (s2.trans s3)
        · rw [upd_same, dM_new (fun z => hjn (List.mem_filter.mp z).1), List.filter_cons_of_pos (by simp [c0]), List.filter_nil]
          refine congrArg (fun x => some (HO.dK x)) (dM_congr fun x _ => ?_)
          show (if x = j then mb j else mb x) = mb x
          by_cases e : x = j
          · rw [if_pos e, e]
          · rw [if_neg e]
    · rintro H2 ⟨s2, e2⟩
      rw [show (dM M mb).length = M.length from List.length_map .., List.take_length] at e2
      refine ⟨s2 _ _ ea, ?_⟩
      refine q D _ (fun x o e => ?_) ?_ ?_
      · by_cases c : x = a
        · rw [c, upd_same, ← h1, ← c, e]
        · rw [upd_ne c]
          exact s2 _ _ (en x o c e)
      · exact Fr.mk (by
          have z := nD
          rw [← hF, upd_ne (Ne.symm (ne_of_none ea nD))] at z
          exact z)
      · rw [upd_ne (Ne.symm (ne_of_none ea nD))]
        exact e2
end
end Ob

set_option Elab.async false
set_option linter.all false
set_option maxRecDepth 100000
set_option maxHeartbeats 1000000
namespace Ob
open PySem PySem.Spec PyProof.Rows L2
open LamX (Tabs TabB TabS ExtN)

set_option hygiene false in
local macro_rules
  | `(tactic| kp_flats) => `(tactic| first
    | assumption
    | exact upd_same
    | (apply atNew; assumption; kp_flats)
    | (apply atNe; (next => kbo_bools); kp_flats)
    | (apply atSame; assumption; kp_flats)
    | (apply atKp; assumption; (next => kaf_pre); kp_flats))
set_option hygiene false in
local macro_rules
  | `(tactic| kaf_pre) => `(tactic| first
    | assumption
    | exact not_nil
    | (apply not_cons; (next => kbo_bools); kaf_pre)
    | (apply not_app; (next => kaf_pre); kaf_pre))
set_option hygiene false in
local macro_rules
  | `(tactic| kbo_bools) => `(tactic| first
    | assumption
    | (apply Ne.symm; assumption)
    | (apply neN; assumption; kp_flats)
    | (apply neN'; assumption; kp_flats))
set_option hygiene false in
local macro_rules
  | `(tactic| o_reads) => `(tactic| first
    | with_reducible rfl
    | assumption
    | rfl
    | kp_flats
    | (show SqL _ _ _ _; first | assumption | (apply sqlOf; kp_flats) | (apply sqlSame; assumption; o_reads))
    | (show SqT _ _ _ _; first | assumption | (apply sqtOf; kp_flats) | (apply sqtAll; assumption) | (apply sqtSame; assumption; o_reads))
    | (show Cls _ _; first | exact T.cl_Calls | exact T.cl_Outer | exact T.cl_Timed)
    | (show NoAttr _ _ _; first | exact T.n_Calls_entries | exact T.n_Calls_running | exact T.n_Outer_calls | exact T.n_Outer_push_call | exact T.n_Outer_pop_call | exact T.n_Outer_ask_call | exact T.n_Outer_order | exact T.n_Outer_broken | exact T.n_Timed_outer | exact T.n_Timed_given | exact T.n_Timed_now | exact T.n_Timed_held | exact T.n_Timed_limits | exact T.n_Timed_ends)
    | (apply Or.inl; o_reads)
    | (apply Or.inr; o_reads)
    | (apply And.intro; (next => o_reads); o_reads)
    | (apply Exists.intro; o_reads)
    | exact Nat.le_of_ble_eq_true rfl
    | exact Nat.succ_ne_zero _
    | (show Fr _ _; kba_ints)
    | (show Same _ _; kd_subs)
    | (show Kp _ _ _; kxs_still)
    | (show (_ : Nat) ≤ _; simp only [List.length_append, List.length_map, List.length_cons, List.length_nil, List.length_take, List.length_drop, List.length_replicate, List.length_range, sizeLine_eq]; omega)
    | (show _ = none; apply Fr.h; kba_ints)
    | (show Bag _ _; first | assumption | (apply bag_putF; assumption; o_reads) | (apply bag_neF; (next => kbo_bools); o_reads) | (apply bag_kpR; assumption; (next => kaf_pre); o_reads))
    | omega
    | decide)
local macro_rules
  | `(tactic| o_readsAll) => `(tactic| repeat (first
    | (refine fun (pNew : Addr) (nNew : _ = none) => ?_; replace nNew := Fr.mk nNew)
    | (refine fun (xNew dNew : Addr) (nNew : _ = none) (mNew : _ = none) (eNew : dNew ≠ xNew) => ?_; replace nNew := Fr.mk nNew; replace mNew := Fr.mk mNew)
    | (apply And.intro; next => o_reads)
    | apply Exists.intro (α := V)
    | apply Exists.intro (α := Addr)
    | apply Exists.intro (α := Int)
    | apply Exists.intro (α := Bool)
    | apply Exists.intro (α := List V)
    | apply Exists.intro (α := List Nat)
    | apply Exists.intro (α := List (Str × V))
    | apply Exists.intro (α := List _)
    | apply Exists.intro (α := Str)
    | apply Exists.intro (α := HO)
    | apply Exists.intro (α := Sp)
    | apply Exists.intro (α := VK)))
set_option hygiene false in
local macro_rules
  | `(tactic| kba_ints) => `(tactic| first
    | assumption
    | (apply frUp; (first | assumption | (apply Ne.symm; assumption)); kba_ints)
    | (apply noneOf; assumption; intro oF eF; apply Exists.intro; kp_flats)
    | (apply frUp; (next => kbo_bools); kba_ints))
set_option hygiene false in
local macro_rules
  | `(tactic| kxs_still) => `(tactic| first
    | assumption
    | exact kp_refl _ _
    | (apply kp_newF; assumption; kxs_still)
    | (apply kp_new; assumption; kxs_still)
    | (apply kp_up; (next => o_fieldsN); kxs_still)
    | (apply kp_new; (next => kba_ints); kxs_still)
    | (apply kp_sameR; assumption; kxs_still)
    | (apply kp_transR; assumption; kxs_still)
    | (apply kp_freshR; assumption; (next => kaf_suf); kxs_still))
set_option hygiene false in
local macro_rules
  | `(tactic| kaf_suf) => `(tactic| first
    | assumption
    | exact subNil
    | (apply subCons; (first | (apply Or.inl; o_fieldsN) | (apply Or.inr; kba_ints)); kaf_suf)
    | (apply subApp; (next => kaf_suf); kaf_suf))
set_option hygiene false in
local macro_rules
  | `(tactic| o_fieldsN) => `(tactic| first
    | assumption
    | exact memA
    | (apply memB; o_fieldsN)
    | (apply memL; o_fieldsN)
    | (apply memR; o_fieldsN))
set_option hygiene false in
local macro_rules
  | `(tactic| kd_subs) => `(tactic| first
    | assumption
    | exact Same.refl _
    | (apply same_putF; assumption; kd_subs)
    | (apply same_putG; assumption; kd_subs)
    | (apply same_putF; (next => kba_ints); kd_subs)
    | (apply same_transR; assumption; kd_subs))

set_option pp.maxSteps 900
/-- a field within a comprehension: the fragment is named -/
theorem pe_fldK {X : Cx} (K : PySem.W.Frag) (hK : X.K = K) {e : Expr} {f : Str} {pos : Pos} {ta : TE} (he : PE X e ta) (hb : attributeBase e f X.env (eval e X.env) = eval e X.env) : PE X (.Attribute e f pos) (tFld K ta f) := by
  subst hK
  exact pe_fld he hb
section
variable {P : Program} {w : World} {K : PySem.W.Frag} {mg : Str → Option Value} {base : Heap} {n : Nat}
def spLet (CT : Addr) : Sp := fun vs H Q _ => ∃ (t dx o hd lm en a : Addr) (given c : Nat) (M E : List Nat) (mb : Nat → V) (lim ends : Nat → Nat), vs = [.ref t, .ref a] ∧ H t = some (TO CT dx o given c hd lm en) ∧ H a = some (.lst (E.map nV)) ∧ H hd = some (.dK (dM M mb)) ∧ H lm = some (.dK (dM M (iV lim))) ∧ H en = some (.dK (dM M (iV ends))) ∧ (∀ i ∈ E, i ∈ M) ∧ E.Nodup ∧ M.Nodup ∧ M.length < 400000 ∧ E.length < 400000 ∧ lm ≠ en ∧ hd ≠ lm ∧ hd ≠ en ∧
  ∀ r hd2 H' (G : List Nat), Kp [t, lm, en] H H' → Fr H r → H' r = some (.lst (G.map nV)) → G.Perm (E.filter fun i => decide (lim i = c)) → G.Pairwise (· ≤ ·) → H' t = some (TO CT dx o given c hd2 lm en) → (hd2 = hd ∨ Fr H hd2) →
    H' hd2 = some (.dK (dM (M.filter fun i => decide (i ∉ G)) mb)) → H' lm = some (.dK (dM (M.filter fun i => decide (i ∉ G)) (iV lim))) → H' en = some (.dK (dM (M.filter fun i => decide (i ∉ G)) (iV ends))) → Q (.ref r) H'
theorem ok_let (T : Txt K mg) : FnOk P w K mg base CX0 4 T.f_let_go T.d_let_go ["timed", "ending"] (spLet T.C_Timed) := by
  have G_without := ok_wo (P := P) (w := w) (base := base) T
  refine T.F_let_go.ok sc_let_go (fun vs H Q E h => ?_) (fun cdv A outer s H vs Q E hr h => ?_)
  · obtain ⟨t, dx, o, hd, lm, en, a, given, c, M, E, mb, lim, ends, rfl, _⟩ := h
    rfl
  · obtain ⟨t, dx, o, hd, lm, en, a, given, c, M, E, mb, lim, ends, rfl, ht, ha, hhd, hlm, hen, hEM, hEn, hMn, hML, hEL, nle, nhl, nhe, q⟩ := h
    refine ⟨_, (pss_cons (ps_set (i := 2) sc_let_go.nd rfl (.inl rfl) (pe_callB (r := rSortedI K) cr_sortedI (by rfl) T.z_sorted (by decide +kernel) (pa_cons (pe_lc (own := [("number", 3)]) (g := gName 3)  rfl sc_let_go.nd (pi_list (pv 1)) (blkOk_by (N := n_let_go) (sc := defScope s_let_go) (by decide +kernel)) (fun _ _ _ _ _ => (pg_name (i := 3) sc_let_go.nd rfl (.inl rfl))) (fun _ _ _ _ _ => (pts_one (pt_cmpR op_eq (pe_dget (by exact hu_of hr) (pe_fldK K rfl (pv 0) rfl) (pv 3) (fun _ _ => rfl)) (pe_fldK K rfl (pv 0) rfl) (nomark _)))) (fun _ _ _ _ _ => (pv 3))) pa_nil)))
      (pss_cons (ps_if (pt_cmpR op_gt (pe_callB call_len_seq (by rfl) T.z_len (by decide +kernel) (pa_cons (pv 2) pa_nil)) pe_int (nomark _)) (pss_one (ps_fld (pv 0) (pe_call G_without (hr.mono (by omega)) rfl T.g_without T.F_without.kp T.b_without .nil pass0 (pa_cons (pe_fld (pv 0) rfl) (pa_cons (pv 2) pa_nil))) rfl)) pss_nil)
      (pss_cons (ps_for PassesOwn.never rfl (pi_list (pv 2)) (pg_name (i := 3) sc_let_go.nd rfl (.inl rfl)) (pss_cons (ps_ddel (pe_fld (pv 0) rfl) (pv 3))
        (pss_one (ps_ddel (pe_fld (pv 0) rfl) (pv 3)))))
      (pss_one (ps_ret (pv 2)))))), ?_⟩
    refine ⟨_, rfl, a, rfl, ⟨_, sqlOf ha⟩, fun D nD => ?_⟩
    have fD := Fr.mk nD
    refine lc_it (walk_list (K := K) (a := a) (xs := E.map nV)) (fun i H' => Same H H' ∧ H' D = some (.lst (((E.take i).filter fun i => decide (lim i = c)).map nV))) ⟨same_newF fD, upd_same⟩ (fun i H' _ z => sqlOf (z.1 _ _ ha)) ?_ ?_
    · rintro i x H2' H2 hi ⟨s2, eD⟩ ⟨rfl, hx⟩
      rw [List.length_map] at hi
      rw [List.getElem?_map] at hx
      obtain ⟨j, hj, rfl⟩ := Option.map_eq_some_iff.mp hx
      have hjM := hEM j (List.mem_of_getElem? hj)
      have hg : DGet H2 lm (.int (j : Int)) (some (iV lim j)) := by
        rw [← dM_val (f := iV lim) hjM]
        exact DGet.k (k := .inl (j : Int)) (s2 _ _ hlm)
      rw [List.take_succ, hj, List.filter_append]
      refine ⟨rfl, ?_⟩
      refine ⟨_, rfl, t, _, dx, _, _, rfl, s2 _ _ ht, T.cl_Timed, T.n_Timed_limits, rfl, _, rfl, lm, _, rfl, hg, _, rfl, t, _, dx, _, _, rfl, s2 _ _ ht, T.cl_Timed, T.n_Timed_now, rfl, rfl, _, rfl, ?_⟩
      by_cases e : lim j = c
      · refine ifT (decide_eq_true (by show V.int ((lim j : Nat) : Int) = V.int (c : Int); rw [e])) ?_
        have hfl : (some j).toList.filter (fun i => decide (lim i = c)) = [j] := List.filter_cons_of_pos (by simpa using e)
        rw [hfl, List.map_append]
        refine ⟨_, rfl, _, eD, ?_, same_putG fD s2, upd_same⟩
        rw [List.length_map, sizeLine_eq]
        have h3 := List.length_filter_le (fun i => decide (lim i = c)) (E.take i)
        rw [List.length_take] at h3
        omega
      · refine ifF (decide_eq_false fun z => e (by
          have z : V.int ((lim j : Nat) : Int) = V.int (c : Int) := z
          injection z with z
          omega)) ?_
        have hfl : (some j).toList.filter (fun i => decide (lim i = c)) = [] := List.filter_cons_of_neg (by simpa using e)
        rw [hfl, List.append_nil]
        exact ⟨s2, eD⟩
    · rintro H2 ⟨s2, eD⟩
      rw [List.take_of_length_le (by rw [List.length_map]; exact Nat.le_refl _)] at eD
      have eD2 : SqL K H2 D (((E.filter fun i => decide (lim i = c)).map fun i : Nat => (i : Int)).map V.int) := by
        have := sqlOf (K := K) eD
        rw [show (E.filter fun i => decide (lim i = c)).map nV = ((E.filter fun i => decide (lim i = c)).map fun i : Nat => (i : Int)).map V.int by rw [List.map_map]; rfl] at this
        exact this
      refine ⟨D, _, rfl, eD2, fun ns' r hpm hso nr => pGN ?_⟩
      simp only [List.set_cons_succ, List.set_cons_zero]
      obtain ⟨G, rfl⟩ : ∃ G : List Nat, ns' = G.map fun i : Nat => (i : Int) := ⟨ns'.map Int.toNat, by
        rw [List.map_map]
        refine (Eq.trans (List.map_congr_left fun z mz => ?_) (List.map_id _)).symm
        obtain ⟨i, _, rfl⟩ := List.mem_map.mp (hpm.mem_iff.mp mz)
        show (((i : Int)).toNat : Int) = (i : Int)
        rw [Int.toNat_natCast]⟩
      have hG : G.Perm (E.filter fun i => decide (lim i = c)) := by
        have h1 := hpm.map Int.toNat
        have hid : ∀ l : List Nat, (l.map fun i : Nat => (i : Int)).map Int.toNat = l := fun l => by
          rw [List.map_map]
          exact Eq.trans (List.map_congr_left fun i _ => Int.toNat_natCast i) (List.map_id _)
        rw [hid, hid] at h1
        exact h1
      have hGs : G.Pairwise (· ≤ ·) := List.Pairwise.imp (fun h => by omega) (List.pairwise_map.mp hso)
      have fr := Fr.mk nr
      have er : upd H2 r (.lst ((G.map fun i : Nat => (i : Int)).map V.int)) r = some (.lst (G.map nV)) := by
        rw [upd_same, List.map_map]
        rfl
      have s3 := s2.trans (same_newF (o := .lst ((G.map fun i : Nat => (i : Int)).map V.int)) fr)
      have fr0 : Fr H r := Fr.mk (s2.free nr)
      generalize upd H2 r (.lst ((G.map fun i : Nat => (i : Int)).map V.int)) = H3 at er s3 ⊢
      have hGn : G.Nodup := hG.nodup_iff.mpr (hEn.filter _)
      have hGM : ∀ j ∈ G, j ∈ M := fun j m => hEM j (List.mem_filter.mp (hG.mem_iff.mp m)).1
      have hGl : G.length < 400000 := by
        have h1 := hG.length_eq
        have h2 := List.length_filter_le (fun i => decide (lim i = c)) E
        omega
      have ntl : t ≠ lm := neO ht hlm (fun z => nomatch z)
      have nte : t ≠ en := neO ht hen (fun z => nomatch z)
      have nrl : r ≠ lm := (ne_of_none hlm fr0.h).symm
      have nre : r ≠ en := (ne_of_none hen fr0.h).symm
      have loop : ∀ (hd2 : Addr) (H4 : Hp), Kp [t] H3 H4 → H4 t = some (TO T.C_Timed dx o given c hd2 lm en) → H4 hd2 = some (.dK (dM (M.filter fun i => decide (i ∉ G)) mb)) → (hd2 = hd ∨ Fr H hd2) → hd2 ≠ lm → hd2 ≠ en → r ≠ t →
          tSeq (tFor (iList K (tVar 2)) (gName 3) (tSeq (sDDel (tFld K (tVar 0) "limits") (tVar 3)) (sDDel (tFld K (tVar 0) "ends") (tVar 3)))) (tRet (tVar 2)) { nx := fun _ H' => Q V.non H', rt := Q } [some (.ref t), some (.ref a), some (.ref r), none] H4 := by
        intro hd2 H4 k4 ht4 hh4 hor n1 n2 nrt
        have er4 := k4.at_ _ _ er (not_cons nrt not_nil)
        have hl4 := k4.at_ _ _ (s3 _ _ hlm) (not_cons ntl.symm not_nil)
        have he4 := k4.at_ _ _ (s3 _ _ hen) (not_cons nte.symm not_nil)
        have f0 : M.filter (fun i => decide (i ∉ G.take 0)) = M := List.filter_eq_self.mpr fun i _ => by simp
        refine ⟨_, rfl, r, rfl, ⟨_, sqlOf er4⟩, ?_⟩
        refine for_it (walk_list (K := K) (a := r) (xs := G.map nV)) (fun k σ H' => ∃ y3, σ = [some (.ref t), some (.ref a), some (.ref r), y3] ∧ Kp [lm, en] H4 H' ∧ H' lm = some (.dK (dM (M.filter fun i => decide (i ∉ G.take k)) (iV lim))) ∧ H' en = some (.dK (dM (M.filter fun i => decide (i ∉ G.take k)) (iV ends)))) ⟨_, rfl, kp_refl _ _, by rw [f0]; exact hl4, by rw [f0]; exact he4⟩ (fun k σ H' _ ⟨_, _, z, _⟩ => sqlOf (z.at_ _ _ er4 (not_cons nrl (not_cons nre not_nil)))) ?_ ?_
        · rintro k x σ H5' H5 hk ⟨y3, rfl, k5, hl5, he5⟩ ⟨rfl, hx⟩
          rw [List.getElem?_map] at hx
          obtain ⟨j, hj, rfl⟩ := Option.map_eq_some_iff.mp hx
          have htk : G.take (k + 1) = G.take k ++ [j] := by
            rw [List.take_succ, hj]
            rfl
          have hjn : j ∉ G.take k := fun z => by
            have h3 : (G.take (k + 1)).Nodup := (List.take_sublist _ _).nodup hGn
            rw [htk] at h3
            exact (List.nodup_append.mp h3).2.2 j z j (List.mem_singleton.mpr rfl) rfl
          have hjf : j ∈ M.filter (fun i => decide (i ∉ G.take k)) := List.mem_filter.mpr ⟨hGM j (List.mem_of_getElem? hj), decide_eq_true hjn⟩
          have hff : (M.filter fun i => decide (i ∉ G.take k)).filter (fun i => decide (i ≠ j)) = M.filter fun i => decide (i ∉ G.take (k + 1)) := by
            rw [List.filter_filter]
            refine List.filter_congr fun i _ => ?_
            rw [htk]
            simp [List.mem_append, and_comm]
          have ht5 := k5.at_ _ _ ht4 (not_cons ntl (not_cons nte not_nil))
          refine ⟨_, rfl, t, _, dx, _, _, rfl, ht5, T.cl_Timed, T.n_Timed_limits, rfl, _, rfl, lm, _, (Sum.inl (j : Int) : Key), rfl, hl5, rfl, by rw [dM_val hjf]; rfl, ?_⟩
          rw [dM_drop, hff]
          have ht6 : upd H5 lm (.dK (dM (M.filter fun i => decide (i ∉ G.take (k + 1))) (iV lim))) t = some (TO T.C_Timed dx o given c hd2 lm en) := by rw [upd_ne ntl]; exact ht5
          have he6 : upd H5 lm (.dK (dM (M.filter fun i => decide (i ∉ G.take (k + 1))) (iV lim))) en = some (.dK (dM (M.filter fun i => decide (i ∉ G.take k)) (iV ends))) := by rw [upd_ne nle.symm]; exact he5
          refine ⟨_, rfl, t, _, dx, _, _, rfl, ht6, T.cl_Timed, T.n_Timed_ends, rfl, _, rfl, en, _, (Sum.inl (j : Int) : Key), rfl, he6, rfl, by rw [dM_val hjf]; rfl, ?_⟩
          rw [dM_drop, hff]
          exact ⟨_, rfl, kp_up (memB memA) (kp_up memA k5), by rw [upd_ne nle]; exact upd_same, upd_same⟩
        · rintro σ H5 ⟨y3, rfl, k5, hl5, he5⟩
          rw [List.take_of_length_le (by rw [List.length_map]; exact Nat.le_refl _)] at hl5 he5
          refine ⟨_, rfl, q r hd2 H5 G (kp_trans (kp_same s3) (kp_trans (kp_more k4 (subCons memA subNil)) (kp_more k5 fun x m => memB m))) fr0 (k5.at_ _ _ er4 (not_cons nrl (not_cons nre not_nil))) hG hGs (k5.at_ _ _ ht4 (not_cons ntl (not_cons nte not_nil))) hor (k5.at_ _ _ hh4 (not_cons n1 (not_cons n2 not_nil))) hl5 he5⟩
      have nrt : r ≠ t := (ne_of_none ht fr0.h).symm
      have hGlm : (G.map nV).length = G.length := List.length_map ..
      refine ⟨_, rfl, r, _, rfl, .inl (sqlOf er), _, _, rfl, rfl, _, rfl, ?_⟩
      by_cases hz : 0 < G.length
      · refine ifT (decide_eq_true (by rw [hGlm]; omega)) ?_
        refine ⟨_, rfl, t, _, dx, _, _, rfl, s3 _ _ ht, T.cl_Timed, T.n_Timed_held, rfl, _, rfl, hd, r, M, G, mb, rfl, s3 _ _ hhd, er, hMn, hML, fun hd2 H4 s4 f4 e4 => ?_⟩
        have f40 : Fr H hd2 := Fr.mk (s3.free f4.h)
        have ht4 := s4 _ _ (s3 _ _ ht)
        refine ⟨_, rfl, t, _, dx, _, rfl, ht4, T.cl_Timed, T.n_Timed_held, (show 6 < 1000 by decide), ?_⟩
        exact loop hd2 _ (kp_trans (kp_same s4) (kp_up memA (kp_refl _ _))) upd_same (by rw [upd_ne (ne_of_none ht f40.h).symm]; exact e4) (.inr f40) (ne_of_none hlm f40.h).symm (ne_of_none hen f40.h).symm nrt
      · have hG0 : G = [] := List.length_eq_zero_iff.mp (by omega)
        refine ifF (decide_eq_false (by rw [hGlm]; omega)) ?_
        have f0 : M.filter (fun i => decide (i ∉ G)) = M := List.filter_eq_self.mpr fun i _ => by rw [hG0]; simp
        exact loop hd _ (kp_refl _ _) (s3 _ _ ht) (by rw [f0]; exact s3 _ _ hhd) (.inl rfl) nhl nhe nrt
end
end Ob

set_option Elab.async false
set_option linter.all false
set_option maxRecDepth 100000
set_option maxHeartbeats 1000000
namespace Ob
open PySem PySem.Spec PyProof.Rows L2
open LamX (Tabs TabB TabS ExtN)

set_option hygiene false in
local macro_rules
  | `(tactic| kp_flats) => `(tactic| first
    | assumption
    | exact upd_same
    | (apply atNew; assumption; kp_flats)
    | (apply atNe; (next => kbo_bools); kp_flats)
    | (apply atSame; assumption; kp_flats)
    | (apply atKp; assumption; (next => kaf_pre); kp_flats))
set_option hygiene false in
local macro_rules
  | `(tactic| kaf_pre) => `(tactic| first
    | assumption
    | exact not_nil
    | (apply not_cons; (next => kbo_bools); kaf_pre)
    | (apply not_app; (next => kaf_pre); kaf_pre))
set_option hygiene false in
local macro_rules
  | `(tactic| kbo_bools) => `(tactic| first
    | assumption
    | (apply Ne.symm; assumption)
    | (apply neN; assumption; kp_flats)
    | (apply neN'; assumption; kp_flats))
set_option hygiene false in
local macro_rules
  | `(tactic| o_reads) => `(tactic| first
    | with_reducible rfl
    | assumption
    | rfl
    | kp_flats
    | (show SqL _ _ _ _; first | assumption | (apply sqlOf; kp_flats) | (apply sqlSame; assumption; o_reads))
    | (show SqT _ _ _ _; first | assumption | (apply sqtOf; kp_flats) | (apply sqtAll; assumption) | (apply sqtSame; assumption; o_reads))
    | (show Cls _ _; first | exact T.cl_Calls | exact T.cl_Outer | exact T.cl_Timed)
    | (show NoAttr _ _ _; first | exact T.n_Calls_entries | exact T.n_Calls_running | exact T.n_Outer_calls | exact T.n_Outer_push_call | exact T.n_Outer_pop_call | exact T.n_Outer_ask_call | exact T.n_Outer_order | exact T.n_Outer_broken | exact T.n_Timed_outer | exact T.n_Timed_given | exact T.n_Timed_now | exact T.n_Timed_held | exact T.n_Timed_limits | exact T.n_Timed_ends)
    | (apply Or.inl; o_reads)
    | (apply Or.inr; o_reads)
    | (apply And.intro; (next => o_reads); o_reads)
    | (apply Exists.intro; o_reads)
    | exact Nat.le_of_ble_eq_true rfl
    | exact Nat.succ_ne_zero _
    | (show Fr _ _; kba_ints)
    | (show Same _ _; kd_subs)
    | (show Kp _ _ _; kxs_still)
    | (show (_ : Nat) ≤ _; simp only [List.length_append, List.length_map, List.length_cons, List.length_nil, List.length_take, List.length_drop, List.length_replicate, List.length_range, sizeLine_eq]; omega)
    | (show _ = none; apply Fr.h; kba_ints)
    | (show Bag _ _; first | assumption | (apply bag_putF; assumption; o_reads) | (apply bag_neF; (next => kbo_bools); o_reads) | (apply bag_kpR; assumption; (next => kaf_pre); o_reads))
    | omega
    | decide)
local macro_rules
  | `(tactic| o_readsAll) => `(tactic| repeat (first
    | (refine fun (pNew : Addr) (nNew : _ = none) => ?_; replace nNew := Fr.mk nNew)
    | (refine fun (xNew dNew : Addr) (nNew : _ = none) (mNew : _ = none) (eNew : dNew ≠ xNew) => ?_; replace nNew := Fr.mk nNew; replace mNew := Fr.mk mNew)
    | (apply And.intro; next => o_reads)
    | apply Exists.intro (α := V)
    | apply Exists.intro (α := Addr)
    | apply Exists.intro (α := Int)
    | apply Exists.intro (α := Bool)
    | apply Exists.intro (α := List V)
    | apply Exists.intro (α := List Nat)
    | apply Exists.intro (α := List (Str × V))
    | apply Exists.intro (α := List _)
    | apply Exists.intro (α := Str)
    | apply Exists.intro (α := HO)
    | apply Exists.intro (α := Sp)
    | apply Exists.intro (α := VK)))
set_option hygiene false in
local macro_rules
  | `(tactic| kba_ints) => `(tactic| first
    | assumption
    | (apply frUp; (first | assumption | (apply Ne.symm; assumption)); kba_ints)
    | (apply noneOf; assumption; intro oF eF; apply Exists.intro; kp_flats)
    | (apply frUp; (next => kbo_bools); kba_ints))
set_option hygiene false in
local macro_rules
  | `(tactic| kxs_still) => `(tactic| first
    | assumption
    | exact kp_refl _ _
    | (apply kp_newF; assumption; kxs_still)
    | (apply kp_new; assumption; kxs_still)
    | (apply kp_up; (next => o_fieldsN); kxs_still)
    | (apply kp_new; (next => kba_ints); kxs_still)
    | (apply kp_sameR; assumption; kxs_still)
    | (apply kp_transR; assumption; kxs_still)
    | (apply kp_freshR; assumption; (next => kaf_suf); kxs_still))
set_option hygiene false in
local macro_rules
  | `(tactic| kaf_suf) => `(tactic| first
    | assumption
    | exact subNil
    | (apply subCons; (first | (apply Or.inl; o_fieldsN) | (apply Or.inr; kba_ints)); kaf_suf)
    | (apply subApp; (next => kaf_suf); kaf_suf))
set_option hygiene false in
local macro_rules
  | `(tactic| o_fieldsN) => `(tactic| first
    | assumption
    | exact memA
    | (apply memB; o_fieldsN)
    | (apply memL; o_fieldsN)
    | (apply memR; o_fieldsN))
set_option hygiene false in
local macro_rules
  | `(tactic| kd_subs) => `(tactic| first
    | assumption
    | exact Same.refl _
    | (apply same_putF; assumption; kd_subs)
    | (apply same_putG; assumption; kd_subs)
    | (apply same_putF; (next => kba_ints); kd_subs)
    | (apply same_transR; assumption; kd_subs))

set_option pp.maxSteps 900
open NdefX (TabsN)
section
variable {P : Program} {w : World} {K : PySem.W.Frag} {mg : Str → Option Value} {base : Heap} {n : Nat}
/-- the calls of a tick: those that end are popped, the new pieces pushed -/
def tickW (E B : List Nat) : List (Str × Nat) := (E.reverse.map fun i => (("pop" : Str), i)) ++ B.map fun i => (("push" : Str), i)
theorem pops_revA : ∀ {R S : List Nat}, PopsOk (S ++ R.reverse) (R.map fun i => (("pop" : Str), i)) ∧ runW (S ++ R.reverse) (R.map fun i => (("pop" : Str), i)) = S
  | [], S => ⟨True.intro, List.append_nil S⟩
  | i :: R, S => by
    have ih := pops_revA (R := R) (S := S)
    have e : S ++ (i :: R).reverse = (S ++ R.reverse) ++ [i] := by rw [List.reverse_cons, List.append_assoc]
    have hs : stepS ((S ++ R.reverse) ++ [i]) (("pop" : Str), i) = S ++ R.reverse := by
      unfold stepS
      rw [if_neg wOP2, if_pos rfl, List.dropLast_concat]
    rw [e]
    refine ⟨⟨?_, ?_⟩, ?_⟩
    · rw [if_neg wOP2]
      exact ⟨rfl, S ++ R.reverse, rfl⟩
    · rw [hs]
      exact ih.1
    · show runW (stepS _ _) _ = _
      rw [hs]
      exact ih.2
theorem pops_rev {E S : List Nat} : PopsOk (S ++ E) (E.reverse.map fun i => (("pop" : Str), i)) ∧ runW (S ++ E) (E.reverse.map fun i => (("pop" : Str), i)) = S := by
  have := pops_revA (R := E.reverse) (S := S)
  rw [List.reverse_reverse] at this
  exact this
theorem push_ok : ∀ {B S : List Nat}, PopsOk S (B.map fun i => (("push" : Str), i)) ∧ runW S (B.map fun i => (("push" : Str), i)) = S ++ B
  | [], S => ⟨True.intro, (List.append_nil S).symm⟩
  | i :: B, S => by
    have hs : stepS S (("push" : Str), i) = S ++ [i] := by
      unfold stepS
      rw [if_pos rfl]
    have ih := push_ok (B := B) (S := S ++ [i])
    refine ⟨⟨?_, ?_⟩, ?_⟩
    · rw [if_pos rfl]
      exact True.intro
    · rw [hs]
      exact ih.1
    · show runW (stepS _ _) _ = _
      rw [hs, ih.2, List.append_assoc]
      rfl
theorem tick_ok {E B S : List Nat} : PopsOk (S ++ E) (tickW E B) ∧ runW (S ++ E) (tickW E B) = S ++ B := by
  obtain ⟨h1, h2⟩ := pops_rev (E := E) (S := S)
  obtain ⟨g1, g2⟩ := push_ok (B := B) (S := S)
  unfold tickW
  refine ⟨pops_app.mpr ⟨h1, by rw [h2]; exact g1⟩, by rw [run_app, h2, g2]⟩
end
end Ob

set_option Elab.async false
set_option linter.all false
set_option maxRecDepth 100000
set_option maxHeartbeats 1000000
namespace Ob
open PySem PySem.Spec PyProof.Rows L2
open LamX (Tabs TabB TabS ExtN)

set_option hygiene false in
local macro_rules
  | `(tactic| kp_flats) => `(tactic| first
    | assumption
    | exact upd_same
    | (apply atNew; assumption; kp_flats)
    | (apply atNe; (next => kbo_bools); kp_flats)
    | (apply atSame; assumption; kp_flats)
    | (apply atKp; assumption; (next => kaf_pre); kp_flats))
set_option hygiene false in
local macro_rules
  | `(tactic| kaf_pre) => `(tactic| first
    | assumption
    | exact not_nil
    | (apply not_cons; (next => kbo_bools); kaf_pre)
    | (apply not_app; (next => kaf_pre); kaf_pre))
set_option hygiene false in
local macro_rules
  | `(tactic| kbo_bools) => `(tactic| first
    | assumption
    | (apply Ne.symm; assumption)
    | (apply neN; assumption; kp_flats)
    | (apply neN'; assumption; kp_flats))
set_option hygiene false in
local macro_rules
  | `(tactic| o_reads) => `(tactic| first
    | with_reducible rfl
    | assumption
    | rfl
    | kp_flats
    | (show SqL _ _ _ _; first | assumption | (apply sqlOf; kp_flats) | (apply sqlSame; assumption; o_reads))
    | (show SqT _ _ _ _; first | assumption | (apply sqtOf; kp_flats) | (apply sqtAll; assumption) | (apply sqtSame; assumption; o_reads))
    | (show Cls _ _; first | exact T.cl_Calls | exact T.cl_Outer | exact T.cl_Timed)
    | (show NoAttr _ _ _; first | exact T.n_Calls_entries | exact T.n_Calls_running | exact T.n_Outer_calls | exact T.n_Outer_push_call | exact T.n_Outer_pop_call | exact T.n_Outer_ask_call | exact T.n_Outer_order | exact T.n_Outer_broken | exact T.n_Timed_outer | exact T.n_Timed_given | exact T.n_Timed_now | exact T.n_Timed_held | exact T.n_Timed_limits | exact T.n_Timed_ends)
    | (apply Or.inl; o_reads)
    | (apply Or.inr; o_reads)
    | (apply And.intro; (next => o_reads); o_reads)
    | (apply Exists.intro; o_reads)
    | exact Nat.le_of_ble_eq_true rfl
    | exact Nat.succ_ne_zero _
    | (show Fr _ _; kba_ints)
    | (show Same _ _; kd_subs)
    | (show Kp _ _ _; kxs_still)
    | (show (_ : Nat) ≤ _; simp only [List.length_append, List.length_map, List.length_cons, List.length_nil, List.length_take, List.length_drop, List.length_replicate, List.length_range, sizeLine_eq]; omega)
    | (show _ = none; apply Fr.h; kba_ints)
    | (show Bag _ _; first | assumption | (apply bag_putF; assumption; o_reads) | (apply bag_neF; (next => kbo_bools); o_reads) | (apply bag_kpR; assumption; (next => kaf_pre); o_reads))
    | omega
    | decide)
local macro_rules
  | `(tactic| o_readsAll) => `(tactic| repeat (first
    | (refine fun (pNew : Addr) (nNew : _ = none) => ?_; replace nNew := Fr.mk nNew)
    | (refine fun (xNew dNew : Addr) (nNew : _ = none) (mNew : _ = none) (eNew : dNew ≠ xNew) => ?_; replace nNew := Fr.mk nNew; replace mNew := Fr.mk mNew)
    | (apply And.intro; next => o_reads)
    | apply Exists.intro (α := V)
    | apply Exists.intro (α := Addr)
    | apply Exists.intro (α := Int)
    | apply Exists.intro (α := Bool)
    | apply Exists.intro (α := List V)
    | apply Exists.intro (α := List Nat)
    | apply Exists.intro (α := List (Str × V))
    | apply Exists.intro (α := List _)
    | apply Exists.intro (α := Str)
    | apply Exists.intro (α := HO)
    | apply Exists.intro (α := Sp)
    | apply Exists.intro (α := VK)))
set_option hygiene false in
local macro_rules
  | `(tactic| kba_ints) => `(tactic| first
    | assumption
    | (apply frUp; (first | assumption | (apply Ne.symm; assumption)); kba_ints)
    | (apply noneOf; assumption; intro oF eF; apply Exists.intro; kp_flats)
    | (apply frUp; (next => kbo_bools); kba_ints))
set_option hygiene false in
local macro_rules
  | `(tactic| kxs_still) => `(tactic| first
    | assumption
    | exact kp_refl _ _
    | (apply kp_newF; assumption; kxs_still)
    | (apply kp_new; assumption; kxs_still)
    | (apply kp_up; (next => o_fieldsN); kxs_still)
    | (apply kp_new; (next => kba_ints); kxs_still)
    | (apply kp_sameR; assumption; kxs_still)
    | (apply kp_transR; assumption; kxs_still)
    | (apply kp_freshR; assumption; (next => kaf_suf); kxs_still))
set_option hygiene false in
local macro_rules
  | `(tactic| kaf_suf) => `(tactic| first
    | assumption
    | exact subNil
    | (apply subCons; (first | (apply Or.inl; o_fieldsN) | (apply Or.inr; kba_ints)); kaf_suf)
    | (apply subApp; (next => kaf_suf); kaf_suf))
set_option hygiene false in
local macro_rules
  | `(tactic| o_fieldsN) => `(tactic| first
    | assumption
    | exact memA
    | (apply memB; o_fieldsN)
    | (apply memL; o_fieldsN)
    | (apply memR; o_fieldsN))
set_option hygiene false in
local macro_rules
  | `(tactic| kd_subs) => `(tactic| first
    | assumption
    | exact Same.refl _
    | (apply same_putF; assumption; kd_subs)
    | (apply same_putG; assumption; kd_subs)
    | (apply same_putF; (next => kba_ints); kd_subs)
    | (apply same_transR; assumption; kd_subs))

set_option pp.maxSteps 900
open NdefX (TabsN)
theorem tabsN_kpU {T : List NdefX.NTab} {cs : List Addr} {H H1 : Hp} (t : TabsN T H) (k : Kp cs H H1) (m : Mu H cs) (n : ∀ p ∈ T, p.1 ∉ cs) : TabsN T H1 := fun p hp => by
  obtain ⟨ps, h1, h2, h3⟩ := t p hp
  refine ⟨ps, k.at_ _ _ h1 (n p hp), h2, fun pos cv hc => ?_⟩
  obtain ⟨c, e1, e2⟩ := h3 pos cv hc
  exact ⟨c, e1, k.at_ _ _ e2 (m.ext e2)⟩
section
variable {P : Program} {w : World} {K : PySem.W.Frag} {mg : Str → Option Value} {base : Heap} {n : Nat}
def spTick (P : Program) (w : World) (K : PySem.W.Frag) (mg : Str → Option Value) (base : Heap) (T : Txt K mg) (n : Nat) : Sp := fun vs H Q _ => ∃ (t o c l lm en : Addr) (fp fo fa : V) (uv : List Addr) (PM : Nat → V → Prop) (PQ : V → Prop) (R : List Ca → Hp → Prop) (An : List Ca → V → V → Hp → Prop) (tr : List Ca) (given now : Nat) (M : List Nat) (mb : Nat → V) (lim ends : Nat → Nat),
  vs = [.ref t] ∧ OS P w K mg base n uv fp fo fa PM PQ R An ∧ TmAt T.C_Timed T.C_Outer T.C_Calls H t o c l lm en fp fo fa uv PM R tr given now M mb lim ends ∧ TabsN (TT T) H ∧ (∀ p ∈ TT T, p.1 ∉ uv) ∧ tr.length < 390000 ∧ M.length < 50000 ∧ (∀ i ∈ M, lim i ≤ 1000000000) ∧
  ∀ r H' (B G S1 : List Nat), Kp (T.p_next_pieces :: t :: lm :: en :: o :: c :: l :: uv) H H' → TabsN (TT T) H' → Fr H r → H' r = some (.lst (G.map nV)) → G.Pairwise (· ≤ ·) → (∀ i, i ∈ G ↔ i ∈ M ∧ lim i = now + 1) → stC [] tr = S1 ++ endS ends (now + 1) (stC [] tr) → B.Perm ((endS ends (now + 1) (stC [] tr)).filter fun i => decide (now + 1 < lim i)) →
    TmAt T.C_Timed T.C_Outer T.C_Calls H' t o c l lm en fp fo fa uv PM R (tr ++ (tickW (endS ends (now + 1) (stC [] tr)) B).map (caOf mb)) given (now + 1) (M.filter fun i => decide (lim i ≠ now + 1)) mb lim (enT lim ends (now + 1)) → Q (.ref r) H'
theorem ok_tick (T : Txt K mg) (TB : LamX.TabB base mg T.c_next_pieces T.p_next_pieces) : FnOk P w K mg base CX0 (n + 14) T.f_Timed_tick T.d_Timed_tick ["self"] (spTick P w K mg base T n) := by
  have G_Outer_check := ok_oc (P := P) (w := w) (base := base) T
  have G_ending_numbers := ok_end (P := P) (w := w) (base := base) T
  have G_next_pieces := ok_next (P := P) (w := w) T TB
  have G_plan_moves := ok_moves (P := P) (w := w) (base := base) T
  have G_Outer_change := ok_change (P := P) (w := w) (base := base) (n := n) T
  have G_let_go := ok_let (P := P) (w := w) (base := base) T
  refine T.F_Timed_tick.ok sc_Timed_tick (fun vs H Q E h => ?_) (fun cdv A outer s H vs Q E hr h => ?_)
  · obtain ⟨t, o, c, l, lm, en, fp, fo, fa, uv, PM, PQ, R, An, tr, given, now, M, mb, lim, ends, rfl, _⟩ := h
    rfl
  · obtain ⟨t, o, c, l, lm, en, fp, fo, fa, uv, PM, PQ, R, An, tr, given, now, M, mb, lim, ends, rfl, OA, hT, t0, npt, htl, hML, hLB, q⟩ := h
    refine ⟨_, (pss_cons (ps_expr (pe_meth0 (pe_fld (pv 0) rfl) T.cl_Outer ⟨T.m_Outer_check, T.t_Outer_check, T.k_Outer_check⟩ G_Outer_check (hr.mono (by omega)) T.b_Outer_check .nil pass0))
      (pss_cons (ps_set (i := 1) sc_Timed_tick.nd rfl (.inl rfl) (pe_call G_ending_numbers (hr.mono (by omega)) rfl T.g_ending_numbers T.F_ending_numbers.kp T.b_ending_numbers .nil pass0 (pa_cons (pv 0) pa_nil)))
      (pss_cons (ps_set (i := 2) sc_Timed_tick.nd rfl (.inl rfl) (pe_call G_next_pieces (hr.mono (by omega)) rfl T.g_next_pieces T.F_next_pieces.kp T.b_next_pieces .nil pass0 (pa_cons (pv 0) (pa_cons (pv 1) pa_nil))))
      (pss_cons (ps_expr (pe_meth (pe_fld (pv 0) rfl) T.cl_Outer ⟨T.m_Outer_change, T.t_Outer_change, T.k_Outer_change⟩ G_Outer_change (hr.mono (by omega)) T.b_Outer_change .nil pass0 (pa_cons (pe_call G_plan_moves (hr.mono (by omega)) rfl T.g_plan_moves T.F_plan_moves.kp T.b_plan_moves .nil pass0 (pa_cons (pv 1) (pa_cons (pv 2) pa_nil))) (pa_cons (pe_fld (pv 0) rfl) pa_nil))))
      (pss_cons (ps_fldaug (pv 0) pe_int in_add)
      (pss_cons (ps_for PassesOwn.never rfl (pi_list (pv 2)) (pg_tup (by rfl) (pgs_cons (pg_name (i := 3) sc_Timed_tick.nd rfl (.inl rfl)) (pgs_cons (pg_name (i := 4) sc_Timed_tick.nd rfl (.inl rfl)) pgs_nil))) (pss_one (ps_dput (hu_of hr) (pe_fld (pv 0) rfl) (pv 3) (pe_op op_add (pe_fld (pv 0) rfl) (pv 4)) rfl)))
      (pss_one (ps_ret (pe_call G_let_go (hr.mono (by omega)) rfl T.g_let_go T.F_let_go.kp T.b_let_go .nil pass0 (pa_cons (pv 0) (pa_cons (pv 1) pa_nil))))))))))), ?_⟩
    obtain ⟨⟨dx, hd, ht, hhd, nhd⟩, ⟨od, hO⟩, hlm, hen, hti, hgv, ⟨nto, ntc⟩, nle, nuv⟩ := id hT
    obtain ⟨⟨d1, ho⟩, ⟨d2, hc⟩, ⟨xs, hl, hlg⟩, hod, hR, nlod, noc, nu⟩ := id hO
    have npu : T.p_next_pieces ∉ uv := npt _ (hm_next_pieces T)
    have hM : ∀ i ∈ stC [] tr, i ∈ M := fun i m => hti.pm.mem_iff.mp m
    have lS : (stC [] tr).length = M.length := hti.pm.length_eq
    have hsp : stC [] tr = lowS ends (now + 1) (stC [] tr) ++ endS ends (now + 1) (stC [] tr) := top_split (c := now + 1) hti.dn fun i m => (hti.lo i (hM i m)).1
    refine ⟨_, rfl, t, _, dx, _, _, rfl, ht, T.cl_Timed, T.n_Timed_outer, rfl, o, d1, _, rfl, ho, rfl, o, c, l, od, fp, fo, fa, rfl, ⟨d1, ho⟩, ⟨d2, hc⟩, ?_⟩
    refine ⟨_, rfl, t, dx, o, d1, c, hd, lm, en, od, fp, fo, fa, given, now, M, stC [] tr, lim, ends, rfl, ht, ho, hod, hen, hti, by omega, fun r1 H1 s1 fr1 e1 => pGN ?_⟩
    simp only [List.set_cons_succ, List.set_cons_zero]
    have hEl : (endS ends (now + 1) (stC [] tr)).length ≤ M.length := by
      rw [← lS]
      exact List.length_filter_le _ _
    have hEM : ∀ i ∈ endS ends (now + 1) (stC [] tr), i ∈ M ∧ ends i = now + 1 := fun i m => ⟨hM i (List.mem_filter.mp m).1, of_decide_eq_true (List.mem_filter.mp m).2⟩
    refine ⟨_, rfl, _, rfl, t, dx, o, hd, lm, en, r1, given, now, M, endS ends (now + 1) (stC [] tr), lim, rfl, s1 _ _ ht, e1, s1 _ _ hlm, fun i m => ⟨(hEM i m).1, hLB i (hEM i m).1, by have := hti.lo i (hEM i m).1; omega⟩, by omega, tabs_same t0 s1, fun r2 H2 ts B k2 t2 fr2 e2 hpr hBp hBs => pGN ?_⟩
    simp only [List.set_cons_succ, List.set_cons_zero]
    have t1 := tabs_same t0 s1
    have nt : ∀ {a : Addr} {x : HO}, H1 a = some x → (∀ ps, x ≠ .tbl ps) → a ∉ [T.p_next_pieces] := fun e n => not_cons (tab_ne t1 (hm_next_pieces T) e n) not_nil
    have up : ∀ {a : Addr} {x : HO}, H a = some x → (∀ ps, x ≠ .tbl ps) → H2 a = some x := fun e n => k2.at_ _ _ (s1 _ _ e) (nt (s1 _ _ e) n)
    have mt : Mu H1 [T.p_next_pieces] := by
      obtain ⟨ps, h, _⟩ := t1 _ (hm_next_pieces T)
      exact mu_cons h (fun _ z => nomatch z) (fun _ z => nomatch z) mu_nil
    have O2 := (hO.kp OA (kp_same (cs := []) s1) mu_nil not_nil not_nil not_nil not_nil (fun _ _ => not_nil)).kp OA k2 mt (nt (s1 _ _ ho) (fun _ z => nomatch z)) (nt (s1 _ _ hc) (fun _ z => nomatch z)) (nt (s1 _ _ hl) (fun _ z => nomatch z)) (nt (s1 _ _ hod) (fun _ z => nomatch z)) (fun a m => not_cons (fun z => npu (by rw [← z]; exact m)) not_nil)
    have e12 := k2.at_ _ _ e1 (nt e1 (fun _ z => nomatch z))
    have hBl : B.length ≤ M.length := by
      have h1 := hBp.length_eq
      have h2 := List.length_filter_le (fun i => decide (now + 1 < lim i)) (endS ends (now + 1) (stC [] tr))
      omega
    refine ⟨_, rfl, t, _, dx, _, _, rfl, up ht (fun _ z => nomatch z), T.cl_Timed, T.n_Timed_outer, rfl, o, d1, _, rfl, up ho (fun _ z => nomatch z), rfl, _, rfl, _, rfl, r1, r2, endS ends (now + 1) (stC [] tr), ts, B, (fun i => szP (now + 1) (lim i - (now + 1))), rfl, e12, e2, hpr, by omega, by omega, fun r3 ys H3 s3 fr3 e3 w3 => ?_⟩
    generalize hE0 : endS ends (now + 1) (stC [] tr) = E at *
    generalize hL0 : lowS ends (now + 1) (stC [] tr) = L at *
    have up3 : ∀ {a : Addr} {x : HO}, H a = some x → (∀ ps, x ≠ .tbl ps) → H3 a = some x := fun e n => s3 _ _ (up e n)
    have O3 := O2.kp OA (kp_same (cs := []) s3) mu_nil not_nil not_nil not_nil not_nil (fun _ _ => not_nil)
    have m2 : Mu H2 [T.p_next_pieces] := by
      obtain ⟨ps, h, _⟩ := t2 _ (hm_next_pieces T)
      exact mu_cons h (fun _ z => nomatch z) (fun _ z => nomatch z) mu_nil
    have fr30 : Fr H r3 := Fr.mk (s1.free (fr_kp k2 m2 fr3).h)
    have mu0 := OA.mu hR
    have hBM : ∀ i ∈ B, i ∈ M := fun i m => (hEM i (List.mem_filter.mp (hBp.mem_iff.mp m)).1).1
    have htw : (tickW E B).length = E.length + B.length := by
      unfold tickW
      rw [List.length_append, List.length_map, List.length_map, List.length_reverse]
    have hpo : PopsOk (stC [] tr) (tickW E B) := by
      have := (tick_ok (E := E) (B := B) (S := L)).1
      rw [← hsp] at this
      exact this
    have hdU : hd ≠ o ∧ hd ≠ c ∧ hd ≠ l ∧ hd ∉ uv := by
      refine ⟨fun z => nhd (by rw [z]; exact memB (memB (memB memA))), fun z => nhd (by rw [z]; exact memB (memB (memB (memB memA)))), fun z => nhd (by rw [z]; exact memB (memB (memB (memB (memB memA))))), fun z => nhd (memB (memB (memB (memB (memB (memB z))))))⟩
    refine ⟨_, rfl, t, _, dx, _, _, rfl, up3 ht (fun _ z => nomatch z), T.cl_Timed, T.n_Timed_held, rfl, o, c, l, od, r3, hd, fp, fo, fa, uv, PM, PQ, R, An, tr, ys, tickW E B, dM M mb, mb, rfl, OA, O3, e3, w3, up3 hhd (fun _ z => nomatch z), fun e me ew => ?_, hpo, by omega, by omega, fun a ma => ?_, fun od2 H4 k4 fod2 O4 => ?_⟩
    · have heB : e.2 ∈ B := by
        rcases List.mem_append.mp me with me | me
        · obtain ⟨i, _, rfl⟩ := List.mem_map.mp me
          exact absurd ew wOP2
        · obtain ⟨i, mi, rfl⟩ := List.mem_map.mp me
          exact mi
      exact ⟨dM_val (hBM _ heB), (hgv _ (hBM _ heB)).2⟩
    · rcases List.mem_cons.mp ma with rfl | ma
      · exact ⟨(ne_of_none ho fr30.h).symm, (ne_of_none hc fr30.h).symm, (ne_of_none hl fr30.h).symm, mu0.fr fr30⟩
      · rw [List.mem_singleton.mp ma]
        exact hdU
    have ntl : t ≠ l := neO ht hl (fun z => nomatch z)
    have ut : t ∉ uv := fun z => (nuv t z).1 rfl
    have tU : t ∉ o :: c :: l :: uv := not_cons nto (not_cons ntc (not_cons ntl ut))
    have nlmU : lm ∉ o :: c :: l :: uv := not_cons (neO hlm ho (fun z => nomatch z)) (not_cons (neO hlm hc (fun z => nomatch z)) (not_cons (neO hlm hl (fun z => nomatch z)) (fun z => (nuv lm z).2.1 rfl)))
    have nenU : en ∉ o :: c :: l :: uv := not_cons (neO hen ho (fun z => nomatch z)) (not_cons (neO hen hc (fun z => nomatch z)) (not_cons (neO hen hl (fun z => nomatch z)) (fun z => (nuv en z).2.2 rfl)))
    have hdU2 : hd ∉ o :: c :: l :: uv := not_cons hdU.1 (not_cons hdU.2.1 (not_cons hdU.2.2.1 hdU.2.2.2))
    have ht4 := k4.at_ _ _ (up3 ht (fun _ z => nomatch z)) tU
    have hlm4 := k4.at_ _ _ (up3 hlm (fun _ z => nomatch z)) nlmU
    have hen4 := k4.at_ _ _ (up3 hen (fun _ z => nomatch z)) nenU
    have hhd4 := k4.at_ _ _ (up3 hhd (fun _ z => nomatch z)) hdU2
    have fr20 : Fr H r2 := Fr.mk (s1.free fr2.h)
    have r2U : r2 ∉ o :: c :: l :: uv := not_cons (ne_of_none ho fr20.h).symm (not_cons (ne_of_none hc fr20.h).symm (not_cons (ne_of_none hl fr20.h).symm (mu0.fr fr20)))
    have r1U : r1 ∉ o :: c :: l :: uv := not_cons (ne_of_none ho fr1.h).symm (not_cons (ne_of_none hc fr1.h).symm (not_cons (ne_of_none hl fr1.h).symm (mu0.fr fr1)))
    have e24 := k4.at_ _ _ (s3 _ _ e2) r2U
    have e14 := k4.at_ _ _ (s3 _ _ e12) r1U
    obtain ⟨⟨d3, ho3⟩, ⟨d4, hc3⟩, ⟨zs3, hl3, _⟩, _, hR3, _⟩ := id O3
    have mU3 : Mu H3 (o :: c :: l :: uv) := mu_ins ho3 (mu_ins hc3 (mu_lst hl3 (OA.mu hR3)))
    have hpr4 : ∀ (q : Nat) (u : Addr) (i : Nat), ts[q]? = some u → B[q]? = some i → H4 u = some (.tup [.int (i : Int), .int ((szP (now + 1) (lim i - (now + 1)) : Nat) : Int)]) := fun q u i a b => kp_tup k4 mU3 (s3 _ _ (hpr.at_ q u i a b))
    have ntlm : t ≠ lm := neO ht hlm (fun z => nomatch z)
    have nten : t ≠ en := neO ht hen (fun z => nomatch z)
    have nth : t ≠ hd := neO ht hhd (fun z => nomatch z)
    have nr2t : t ≠ r2 := ne_of_none ht fr20.h
    have nr1t : t ≠ r1 := ne_of_none ht fr1.h
    have nhl : hd ≠ lm := fun z => nhd (by rw [z]; exact memB memA)
    have nhe : hd ≠ en := fun z => nhd (by rw [z]; exact memB (memB memA))
    dsimp only []
    refine pSeq ⟨_, rfl, t, _, dx, _, _, rfl, ht4, T.cl_Timed, T.n_Timed_now, rfl, _, _, rfl, rfl, dx, _, ht4, (show 6 < 1000 by decide), ?_⟩
    show tSeq _ _ _ _ (upd H4 t (TO T.C_Timed dx o given (now + 1) hd lm en))
    have k45 : Kp [t, lm, en] H4 (upd H4 t (TO T.C_Timed dx o given (now + 1) hd lm en)) := kp_up memA (kp_refl _ _)
    have kt : Kp [t] H4 (upd H4 t (TO T.C_Timed dx o given (now + 1) hd lm en)) := kp_up memA (kp_refl _ _)
    have m4t : Mu H4 [t] := mu_ins ht4 mu_nil
    have ht5 : upd H4 t (TO T.C_Timed dx o given (now + 1) hd lm en) t = some (TO T.C_Timed dx o given (now + 1) hd lm en) := upd_same
    have hlm5 := kt.at_ _ _ hlm4 (not_cons ntlm.symm not_nil)
    have hen5 := kt.at_ _ _ hen4 (not_cons nten.symm not_nil)
    have hhd5 := kt.at_ _ _ hhd4 (not_cons nth.symm not_nil)
    have e25 := kt.at_ _ _ e24 (not_cons nr2t.symm not_nil)
    have e15 := kt.at_ _ _ e14 (not_cons nr1t.symm not_nil)
    have hpr5 : ∀ (q : Nat) (u : Addr) (i : Nat), ts[q]? = some u → B[q]? = some i → upd H4 t (TO T.C_Timed dx o given (now + 1) hd lm en) u = some (.tup [.int (i : Int), .int ((szP (now + 1) (lim i - (now + 1)) : Nat) : Int)]) := fun q u i a b => kp_tup kt m4t (hpr4 q u i a b)
    generalize upd H4 t (TO T.C_Timed dx o given (now + 1) hd lm en) = H5 at k45 kt ht5 hlm5 hen5 hhd5 e25 e15 hpr5 ⊢
    have nr2e : r2 ≠ en := (ne_of_none hen fr20.h).symm
    have nr1e : r1 ≠ en := (ne_of_none hen fr1.h).symm
    have hpl := hpr.len
    have men : Mu H5 [en] := mu_cons hen5 (fun _ z => nomatch z) (fun _ z => nomatch z) mu_nil
    refine pSeq ⟨_, rfl, r2, rfl, ⟨_, sqlOf e25⟩, ?_⟩
    refine for_it (walk_list (K := K) (a := r2) (xs := ts.map V.ref)) (fun k σ H' => ∃ y3 y4, σ = [some (.ref t), some (.ref r1), some (.ref r2), y3, y4] ∧ Kp [en] H5 H' ∧ H' en = some (.dK (dM M (iV fun i => if i ∈ B.take k then now + 1 + szP (now + 1) (lim i - (now + 1)) else ends i)))) ⟨_, _, rfl, kp_refl _ _, by rw [hen5]; exact congrArg (fun x => some (HO.dK x)) (dM_congr fun i _ => by unfold iV; dsimp only; rw [List.take_zero, if_neg (fun z => nomatch z)])⟩ (fun k σ H' _ ⟨_, _, _, z, _⟩ => sqlOf (z.at_ _ _ e25 (not_cons nr2e not_nil))) ?_ ?_
    · rintro k x σ H6' H6 hk ⟨y3, y4, rfl, k6, he6⟩ ⟨rfl, hx⟩
      rw [List.length_map] at hk
      rw [List.getElem?_map] at hx
      obtain ⟨u, hu, rfl⟩ := Option.map_eq_some_iff.mp hx
      obtain ⟨j, hj⟩ : ∃ j, B[k]? = some j := ⟨_, List.getElem?_eq_getElem (by omega)⟩
      have hu6 := kp_tup k6 men (hpr5 k u j hu hj)
      have ht6 := k6.at_ _ _ ht5 (not_cons nten not_nil)
      have hjM := hBM j (List.mem_of_getElem? hj)
      have hP := DPut.k (k := .inl (j : Int)) (v := .int (((now + 1 : Nat) : Int) + ((szP (now + 1) (lim j - (now + 1)) : Nat) : Int))) he6 (by rw [show ∀ f, (dM M f).length = M.length from fun f => List.length_map .., sizeLine_eq]; omega)
      rw [dM_old hjM] at hP
      refine ⟨u, _, rfl, sqtOf hu6, rfl, _, _, rfl, _, _, rfl, rfl, ?_⟩
      refine ⟨_, rfl, t, _, dx, _, _, rfl, ht6, T.cl_Timed, T.n_Timed_now, rfl, _, rfl, _, _, rfl, rfl, _, rfl, t, _, dx, _, _, rfl, ht6, T.cl_Timed, T.n_Timed_ends, rfl, _, rfl, en, _, rfl, hP, ?_⟩
      refine ⟨_, _, rfl, kp_up memA k6, ?_⟩
      rw [upd_same]
      refine congrArg (fun x => some (HO.dK x)) (dM_congr fun i _ => ?_)
      have htk : B.take (k + 1) = B.take k ++ [j] := by
        rw [List.take_succ, hj]
        rfl
      rw [htk]
      unfold iV
      dsimp only
      by_cases e : i = j
      · subst e
        rw [if_pos rfl, if_pos (List.mem_append.mpr (.inr (List.mem_singleton.mpr rfl)))]
        rfl
      · rw [if_neg e]
        by_cases m : i ∈ B.take k
        · rw [if_pos m, if_pos (List.mem_append.mpr (.inl m))]
        · rw [if_neg m, if_neg (fun z => (List.mem_append.mp z).elim m fun z => e (List.mem_singleton.mp z))]
    · rintro σ H6 ⟨y3, y4, rfl, k6, he6⟩
      rw [List.take_of_length_le (by rw [List.length_map, hpl]; exact Nat.le_refl _)] at he6
      have inE : ∀ i, i ∈ E ↔ i ∈ M ∧ ends i = now + 1 := fun i => by
        rw [← hE0]
        exact ⟨fun z => ⟨hM i (List.mem_filter.mp z).1, of_decide_eq_true (List.mem_filter.mp z).2⟩, fun z => List.mem_filter.mpr ⟨hti.pm.mem_iff.mpr z.1, decide_eq_true z.2⟩⟩
      have inB : ∀ i, i ∈ B ↔ i ∈ M ∧ ends i = now + 1 ∧ now + 1 < lim i := fun i => by
        rw [hBp.mem_iff, List.mem_filter, inE]
        exact ⟨fun z => ⟨z.1.1, z.1.2, of_decide_eq_true z.2⟩, fun z => ⟨⟨z.1, z.2.1⟩, decide_eq_true z.2.2⟩⟩
      have hends : dM M (iV fun i => if i ∈ B then now + 1 + szP (now + 1) (lim i - (now + 1)) else ends i) = dM M (iV (enT lim ends (now + 1))) := dM_congr fun i mi => by
        unfold iV enT
        dsimp only
        by_cases z : ends i = now + 1 ∧ now + 1 < lim i
        · rw [if_pos z, if_pos ((inB i).mpr ⟨mi, z.1, z.2⟩)]
        · rw [if_neg z, if_neg (fun y => z ((inB i).mp y).2)]
      rw [hends] at he6
      have ht6 := k6.at_ _ _ ht5 (not_cons nten not_nil)
      have hMn : M.Nodup := hti.inc.imp fun h => Nat.ne_of_lt h
      have hEn : E.Nodup := by
        rw [← hE0]
        exact (hti.pm.nodup_iff.mpr hMn).filter _
      have hlm6 := k6.at_ _ _ hlm5 (not_cons nle not_nil)
      have hhd6 := k6.at_ _ _ hhd5 (not_cons nhe not_nil)
      have m4 : Mu H4 [t, lm, en] := mu_ins ht4 (mu_cons hlm4 (fun _ z => nomatch z) (fun _ z => nomatch z) (mu_cons hen4 (fun _ z => nomatch z) (fun _ z => nomatch z) mu_nil))
      refine ⟨_, rfl, _, rfl, t, dx, o, hd, lm, en, r1, given, now + 1, M, E, mb, lim, enT lim ends (now + 1), rfl, ht6, k6.at_ _ _ e15 (not_cons nr1e not_nil), hhd6, hlm6, he6, fun i m => ((inE i).mp m).1, hEn, hMn, by omega, by omega, nle, nhl, nhe, fun r hd2 H7 G k7 frr err hGp hGs ht7 hor hh7 hl7 he7 => ?_⟩
      have inG : ∀ i, i ∈ G ↔ i ∈ M ∧ lim i = now + 1 := fun i => by
        rw [hGp.mem_iff, List.mem_filter, inE]
        refine ⟨fun z => ⟨z.1.1, of_decide_eq_true z.2⟩, fun z => ⟨⟨z.1, ?_⟩, decide_eq_true z.2⟩⟩
        have := hti.lo i z.1
        omega
      have hMf : (M.filter fun i => decide (i ∉ G)) = M.filter fun i => decide (lim i ≠ now + 1) := List.filter_congr fun i mi => by
        exact decide_eq_decide.mpr ⟨fun y z => y ((inG i).mpr ⟨mi, z⟩), fun y z => y ((inG i).mp z).2⟩
      rw [hMf] at hh7 hl7 he7
      have k47 : Kp [t, lm, en] H4 H7 := kp_trans k45 (kp_trans (kp_more k6 (subCons (memB (memB memA)) subNil)) k7)
      have O7 := O4.kp OA k47 m4 (not_cons nto.symm (not_cons (neO ho hlm (fun z => nomatch z)) (not_cons (neO ho hen (fun z => nomatch z)) not_nil))) (not_cons ntc.symm (not_cons (neO hc hlm (fun z => nomatch z)) (not_cons (neO hc hen (fun z => nomatch z)) not_nil))) (not_cons ntl.symm (not_cons (neO hl hlm (fun z => nomatch z)) (not_cons (neO hl hen (fun z => nomatch z)) not_nil))) (not_cons (fun z => ne_of_none (up3 ht (fun _ z => nomatch z)) fod2.h (by rw [z])) (not_cons (fun z => ne_of_none (up3 hlm (fun _ z => nomatch z)) fod2.h (by rw [z])) (not_cons (fun z => ne_of_none (up3 hen (fun _ z => nomatch z)) fod2.h (by rw [z])) not_nil))) (fun a m => not_cons (nuv a m).1 (not_cons (nuv a m).2.1 (not_cons (nuv a m).2.2 not_nil)))
      have hst : stC [] (tr ++ (tickW E B).map (caOf mb)) = L ++ B := by
        rw [stC_app, st_run hpo]
        have := (tick_ok (E := E) (B := B) (S := L)).2
        rw [← hsp] at this
        exact this
      have kA : Kp (T.p_next_pieces :: t :: lm :: en :: o :: c :: l :: uv) H H7 := kp_trans (kp_same s1) (kp_trans (kp_more k2 (subCons memA subNil)) (kp_trans (kp_same s3) (kp_trans (kp_more k4 fun a m => memB (memB (memB (memB m)))) (kp_more k47 (subCons (memB memA) (subCons (memB (memB memA)) (subCons (memB (memB (memB memA))) subNil)))))))
      have tne : ∀ {a : Addr} {x : HO}, H3 a = some x → (∀ ps, x ≠ .tbl ps) → ∀ p ∈ TT T, p.1 ≠ a := fun {a x} e n p hp z => by
        obtain ⟨ps, h, _⟩ := (tabs_same t2 s3) p hp
        rw [z, e] at h
        exact n ps (Option.some.inj h)
      have t4 : TabsN (TT T) H4 := tabsN_kpU (tabs_same t2 s3) k4 mU3 fun p hp => not_cons (tne ho3 (fun _ z => nomatch z) p hp) (not_cons (tne hc3 (fun _ z => nomatch z) p hp) (not_cons (tne hl3 (fun _ z => nomatch z) p hp) (npt p hp)))
      have t7 : TabsN (TT T) H7 := tabsN_kpU t4 k47 m4 fun p hp => not_cons (tne (up3 ht (fun _ z => nomatch z)) (fun _ z => nomatch z) p hp) (not_cons (tne (up3 hlm (fun _ z => nomatch z)) (fun _ z => nomatch z) p hp) (not_cons (tne (up3 hen (fun _ z => nomatch z)) (fun _ z => nomatch z) p hp) not_nil))
      have hTI := TI.tick (B := B) hti (by rw [hE0]; exact hBp) hBs
      rw [hL0] at hTI
      have k46 : Kp [t, lm, en] H4 H6 := kp_trans k45 (kp_more k6 (subCons (memB (memB memA)) subNil))
      have nod2 : od2 ∉ [t, lm, en] := not_cons (fun z => ne_of_none (up3 ht (fun _ z => nomatch z)) fod2.h (by rw [z])) (not_cons (fun z => ne_of_none (up3 hlm (fun _ z => nomatch z)) fod2.h (by rw [z])) (not_cons (fun z => ne_of_none (up3 hen (fun _ z => nomatch z)) fod2.h (by rw [z])) not_nil))
      have O6 := O4.kp OA k46 m4 (not_cons nto.symm (not_cons (neO ho hlm (fun z => nomatch z)) (not_cons (neO ho hen (fun z => nomatch z)) not_nil))) (not_cons ntc.symm (not_cons (neO hc hlm (fun z => nomatch z)) (not_cons (neO hc hen (fun z => nomatch z)) not_nil))) (not_cons ntl.symm (not_cons (neO hl hlm (fun z => nomatch z)) (not_cons (neO hl hen (fun z => nomatch z)) not_nil))) nod2 (fun a m => not_cons (nuv a m).1 (not_cons (nuv a m).2.1 (not_cons (nuv a m).2.2 not_nil)))
      obtain ⟨⟨d5, ho6⟩, ⟨d6, hc6⟩, ⟨zs6, hl6, _⟩, _, hR6, _⟩ := O6
      have t6 : TabsN (TT T) H6 := tabsN_kpU t4 k46 m4 fun p hp => not_cons (tne (up3 ht (fun _ z => nomatch z)) (fun _ z => nomatch z) p hp) (not_cons (tne (up3 hlm (fun _ z => nomatch z)) (fun _ z => nomatch z) p hp) (not_cons (tne (up3 hen (fun _ z => nomatch z)) (fun _ z => nomatch z) p hp) not_nil))
      have m6 : Mu H6 (T.p_next_pieces :: t :: lm :: en :: o :: c :: l :: uv) := by
        obtain ⟨ps, hps, _⟩ := t6 _ (hm_next_pieces T)
        exact mu_cons hps (fun _ z => nomatch z) (fun _ z => nomatch z) (mu_ins ht6 (mu_cons hlm6 (fun _ z => nomatch z) (fun _ z => nomatch z) (mu_cons he6 (fun _ z => nomatch z) (fun _ z => nomatch z) (mu_ins ho6 (mu_ins hc6 (mu_lst hl6 (OA.mu hR6)))))))
      have kA6 : Kp (T.p_next_pieces :: t :: lm :: en :: o :: c :: l :: uv) H H6 := kp_trans (kp_same s1) (kp_trans (kp_more k2 (subCons memA subNil)) (kp_trans (kp_same s3) (kp_trans (kp_more k4 fun a m => memB (memB (memB (memB m)))) (kp_more k46 (subCons (memB memA) (subCons (memB (memB memA)) (subCons (memB (memB (memB memA))) subNil)))))))
      have nh2 : hd2 ∉ t :: lm :: en :: o :: c :: l :: uv := by
        rcases hor with rfl | f
        · exact nhd
        · exact fun z => m6.fr f (memB z)
      exact q r H7 B G L kA t7 (fr_kp kA6 m6 frr) err hGs inG hsp hBp ⟨⟨dx, hd2, ht7, hh7, nh2⟩, ⟨od2, O7⟩, hl7, he7, by rw [hst]; exact hTI, fun i mi => hgv i (List.mem_filter.mp mi).1, ⟨nto, ntc⟩, nle, nuv⟩
end
end Ob

set_option Elab.async false
set_option linter.all false
set_option maxRecDepth 100000
set_option maxHeartbeats 1000000
namespace Ob
open PySem PySem.Spec PyProof.Rows L2
open LamX (Tabs TabB TabS ExtN)

set_option hygiene false in
local macro_rules
  | `(tactic| kp_flats) => `(tactic| first
    | assumption
    | exact upd_same
    | (apply atNew; assumption; kp_flats)
    | (apply atNe; (next => kbo_bools); kp_flats)
    | (apply atSame; assumption; kp_flats)
    | (apply atKp; assumption; (next => kaf_pre); kp_flats))
set_option hygiene false in
local macro_rules
  | `(tactic| kaf_pre) => `(tactic| first
    | assumption
    | exact not_nil
    | (apply not_cons; (next => kbo_bools); kaf_pre)
    | (apply not_app; (next => kaf_pre); kaf_pre))
set_option hygiene false in
local macro_rules
  | `(tactic| kbo_bools) => `(tactic| first
    | assumption
    | (apply Ne.symm; assumption)
    | (apply neN; assumption; kp_flats)
    | (apply neN'; assumption; kp_flats))
set_option hygiene false in
local macro_rules
  | `(tactic| o_reads) => `(tactic| first
    | with_reducible rfl
    | assumption
    | rfl
    | kp_flats
    | (show SqL _ _ _ _; first | assumption | (apply sqlOf; kp_flats) | (apply sqlSame; assumption; o_reads))
    | (show SqT _ _ _ _; first | assumption | (apply sqtOf; kp_flats) | (apply sqtAll; assumption) | (apply sqtSame; assumption; o_reads))
    | (show Cls _ _; first | exact T.cl_Calls | exact T.cl_Outer | exact T.cl_Timed)
    | (show NoAttr _ _ _; first | exact T.n_Calls_entries | exact T.n_Calls_running | exact T.n_Outer_calls | exact T.n_Outer_push_call | exact T.n_Outer_pop_call | exact T.n_Outer_ask_call | exact T.n_Outer_order | exact T.n_Outer_broken | exact T.n_Timed_outer | exact T.n_Timed_given | exact T.n_Timed_now | exact T.n_Timed_held | exact T.n_Timed_limits | exact T.n_Timed_ends)
    | (apply Or.inl; o_reads)
    | (apply Or.inr; o_reads)
    | (apply And.intro; (next => o_reads); o_reads)
    | (apply Exists.intro; o_reads)
    | exact Nat.le_of_ble_eq_true rfl
    | exact Nat.succ_ne_zero _
    | (show Fr _ _; kba_ints)
    | (show Same _ _; kd_subs)
    | (show Kp _ _ _; kxs_still)
    | (show (_ : Nat) ≤ _; simp only [List.length_append, List.length_map, List.length_cons, List.length_nil, List.length_take, List.length_drop, List.length_replicate, List.length_range, sizeLine_eq]; omega)
    | (show _ = none; apply Fr.h; kba_ints)
    | (show Bag _ _; first | assumption | (apply bag_putF; assumption; o_reads) | (apply bag_neF; (next => kbo_bools); o_reads) | (apply bag_kpR; assumption; (next => kaf_pre); o_reads))
    | omega
    | decide)
local macro_rules
  | `(tactic| o_readsAll) => `(tactic| repeat (first
    | (refine fun (pNew : Addr) (nNew : _ = none) => ?_; replace nNew := Fr.mk nNew)
    | (refine fun (xNew dNew : Addr) (nNew : _ = none) (mNew : _ = none) (eNew : dNew ≠ xNew) => ?_; replace nNew := Fr.mk nNew; replace mNew := Fr.mk mNew)
    | (apply And.intro; next => o_reads)
    | apply Exists.intro (α := V)
    | apply Exists.intro (α := Addr)
    | apply Exists.intro (α := Int)
    | apply Exists.intro (α := Bool)
    | apply Exists.intro (α := List V)
    | apply Exists.intro (α := List Nat)
    | apply Exists.intro (α := List (Str × V))
    | apply Exists.intro (α := List _)
    | apply Exists.intro (α := Str)
    | apply Exists.intro (α := HO)
    | apply Exists.intro (α := Sp)
    | apply Exists.intro (α := VK)))
set_option hygiene false in
local macro_rules
  | `(tactic| kba_ints) => `(tactic| first
    | assumption
    | (apply frUp; (first | assumption | (apply Ne.symm; assumption)); kba_ints)
    | (apply noneOf; assumption; intro oF eF; apply Exists.intro; kp_flats)
    | (apply frUp; (next => kbo_bools); kba_ints))
set_option hygiene false in
local macro_rules
  | `(tactic| kxs_still) => `(tactic| first
    | assumption
    | exact kp_refl _ _
    | (apply kp_newF; assumption; kxs_still)
    | (apply kp_new; assumption; kxs_still)
    | (apply kp_up; (next => o_fieldsN); kxs_still)
    | (apply kp_new; (next => kba_ints); kxs_still)
    | (apply kp_sameR; assumption; kxs_still)
    | (apply kp_transR; assumption; kxs_still)
    | (apply kp_freshR; assumption; (next => kaf_suf); kxs_still))
set_option hygiene false in
local macro_rules
  | `(tactic| kaf_suf) => `(tactic| first
    | assumption
    | exact subNil
    | (apply subCons; (first | (apply Or.inl; o_fieldsN) | (apply Or.inr; kba_ints)); kaf_suf)
    | (apply subApp; (next => kaf_suf); kaf_suf))
set_option hygiene false in
local macro_rules
  | `(tactic| o_fieldsN) => `(tactic| first
    | assumption
    | exact memA
    | (apply memB; o_fieldsN)
    | (apply memL; o_fieldsN)
    | (apply memR; o_fieldsN))
set_option hygiene false in
local macro_rules
  | `(tactic| kd_subs) => `(tactic| first
    | assumption
    | exact Same.refl _
    | (apply same_putF; assumption; kd_subs)
    | (apply same_putG; assumption; kd_subs)
    | (apply same_putF; (next => kba_ints); kd_subs)
    | (apply same_transR; assumption; kd_subs))

set_option pp.maxSteps 900
section
variable {P : Program} {w : World} {K : PySem.W.Frag} {mg : Str → Option Value} {base : Heap} {n : Nat}
def spTQ (P : Program) (w : World) (K : PySem.W.Frag) (mg : Str → Option Value) (base : Heap) (CT C CC : Addr) (n : Nat) : Sp := fun vs H Q _ => ∃ (t o c l lm en : Addr) (fp fo fa qv : V) (uv : List Addr) (PM : Nat → V → Prop) (PQ : V → Prop) (R : List Ca → Hp → Prop) (An : List Ca → V → V → Hp → Prop) (tr : List Ca) (given now : Nat) (M : List Nat) (mb : Nat → V) (lim ends : Nat → Nat),
  vs = [.ref t, qv] ∧ OS P w K mg base n uv fp fo fa PM PQ R An ∧ TmAt CT C CC H t o c l lm en fp fo fa uv PM R tr given now M mb lim ends ∧ PQ qv ∧ tr.length < 400000 ∧
  ∀ u H', Kp (o :: c :: l :: uv) H H' → TmAt CT C CC H' t o c l lm en fp fo fa uv PM R (tr ++ [.ask qv]) given now M mb lim ends → An tr qv u H' → (∀ r, u = .ref r → H r = none) → Q u H'
theorem ok_tq (T : Txt K mg) : FnOk P w K mg base CX0 (n + 8) T.f_Timed_query T.d_Timed_query ["self", "question"] (spTQ P w K mg base T.C_Timed T.C_Outer T.C_Calls n) := by
  have G_Outer_check := ok_oc (P := P) (w := w) (base := base) T
  have G_Outer_answer := ok_answ (P := P) (w := w) (base := base) (n := n) T
  refine T.F_Timed_query.ok sc_Timed_query (fun vs H Q E h => ?_) (fun cdv A outer s H vs Q E hr h => ?_)
  · obtain ⟨t, o, c, l, lm, en, fp, fo, fa, qv, uv, PM, PQ, R, An, tr, given, now, M, mb, lim, ends, rfl, _⟩ := h
    rfl
  · obtain ⟨t, o, c, l, lm, en, fp, fo, fa, qv, uv, PM, PQ, R, An, tr, given, now, M, mb, lim, ends, rfl, OA, hT, hpq, htl, q⟩ := h
    refine ⟨_, (pss_cons (ps_expr (pe_meth0 (pe_fld (pv 0) rfl) T.cl_Outer ⟨T.m_Outer_check, T.t_Outer_check, T.k_Outer_check⟩ G_Outer_check (hr.mono (by omega)) T.b_Outer_check .nil pass0))
      (pss_one (ps_ret (pe_meth (pe_fld (pv 0) rfl) T.cl_Outer ⟨T.m_Outer_answer, T.t_Outer_answer, T.k_Outer_answer⟩ G_Outer_answer (hr.mono (by omega)) T.b_Outer_answer .nil pass0 (pa_cons (pv 1) pa_nil))))), ?_⟩
    obtain ⟨⟨dx, hd, ht, hhd, nhd⟩, ⟨od, hO⟩, hlm, hen, hti, hgv, ⟨nto, ntc⟩, nle, nuv⟩ := id hT
    obtain ⟨⟨d1, ho⟩, ⟨d2, hc⟩, ⟨xs, hl, hlg⟩, hod, hR, nlod, noc, nu⟩ := id hO
    have ntl : t ≠ l := neO ht hl (fun z => nomatch z)
    have tU : t ∉ o :: c :: l :: uv := not_cons nto (not_cons ntc (not_cons ntl fun z => (nuv t z).1 rfl))
    have nlmU : lm ∉ o :: c :: l :: uv := not_cons (neO hlm ho (fun z => nomatch z)) (not_cons (neO hlm hc (fun z => nomatch z)) (not_cons (neO hlm hl (fun z => nomatch z)) (fun z => (nuv lm z).2.1 rfl)))
    have nenU : en ∉ o :: c :: l :: uv := not_cons (neO hen ho (fun z => nomatch z)) (not_cons (neO hen hc (fun z => nomatch z)) (not_cons (neO hen hl (fun z => nomatch z)) (fun z => (nuv en z).2.2 rfl)))
    have hdU : hd ∉ o :: c :: l :: uv := fun z => nhd (memB (memB (memB z)))
    refine ⟨_, rfl, t, _, dx, _, _, rfl, ht, T.cl_Timed, T.n_Timed_outer, rfl, o, d1, _, rfl, ho, rfl, o, c, l, od, fp, fo, fa, rfl, ⟨d1, ho⟩, ⟨d2, hc⟩, ?_⟩
    refine ⟨_, rfl, t, _, dx, _, _, rfl, ht, T.cl_Timed, T.n_Timed_outer, rfl, o, d1, _, rfl, ho, rfl, _, rfl, o, c, l, od, fp, fo, fa, qv, uv, PM, PQ, R, An, tr, rfl, OA, hO, hpq, by omega, fun u H1 k1 O1 a1 f1 => ?_⟩
    have hst : stC [] (tr ++ [.ask qv]) = stC [] tr := by
      rw [stC_app]
      rfl
    exact q u H1 k1 ⟨⟨dx, hd, k1.at_ _ _ ht tU, k1.at_ _ _ hhd hdU, nhd⟩, ⟨od, O1⟩, k1.at_ _ _ hlm nlmU, k1.at_ _ _ hen nenU, by rw [hst]; exact hti, hgv, ⟨nto, ntc⟩, nle, nuv⟩ a1 f1
def spTL (CT C CC : Addr) : Sp := fun vs H Q _ => ∃ (t o c l lm en : Addr) (fp fo fa : V) (uv : List Addr) (PM : Nat → V → Prop) (R : List Ca → Hp → Prop) (tr : List Ca) (given now : Nat) (M : List Nat) (mb : Nat → V) (lim ends : Nat → Nat), vs = [.ref t] ∧ TmAt CT C CC H t o c l lm en fp fo fa uv PM R tr given now M mb lim ends ∧
  ∀ r es H', Same H H' → Fr H r → H' r = some (.lst es) → LogC H' es tr → Q (.ref r) H'
theorem ok_tl (T : Txt K mg) : FnOk P w K mg base CX0 1 T.f_Timed_log T.d_Timed_log ["self"] (spTL T.C_Timed T.C_Outer T.C_Calls) := by
  refine T.F_Timed_log.ok sc_Timed_log (fun vs H Q E h => ?_) (fun cdv A outer s H vs Q E hr h => ?_)
  · obtain ⟨t, o, c, l, lm, en, fp, fo, fa, uv, PM, R, tr, given, now, M, mb, lim, ends, rfl, _⟩ := h
    rfl
  · obtain ⟨t, o, c, l, lm, en, fp, fo, fa, uv, PM, R, tr, given, now, M, mb, lim, ends, rfl, hT, q⟩ := h
    refine ⟨_, (pss_one (ps_ret (pe_callTy call_list_of (by rfl) T.z_list (by decide +kernel) (pa_cons (pe_fld (pe_fld (pe_fld (pv 0) rfl) rfl) rfl) pa_nil)))), ?_⟩
    obtain ⟨⟨dx, hd, ht, hhd, nhd⟩, ⟨od, hO⟩, hlm, hen, hti, hgv, ⟨nto, ntc⟩, nle, nuv⟩ := id hT
    obtain ⟨⟨d1, ho⟩, ⟨d2, hc⟩, ⟨xs, hl, hlg⟩, hod, hR, nlod, noc, nu⟩ := id hO
    refine ⟨_, rfl, t, _, dx, _, _, rfl, ht, T.cl_Timed, T.n_Timed_outer, rfl, o, _, d1, _, _, rfl, ho, T.cl_Outer, T.n_Outer_calls, rfl, c, _, d2, _, _, rfl, hc, T.cl_Calls, T.n_Calls_entries, rfl, l, _, rfl, .inl (sqlOf hl), fun r nr => ?_⟩
    have sr := same_newF (o := .lst xs) (Fr.mk nr)
    exact q r xs _ sr (Fr.mk nr) upd_same (hlg.kp (cs := []) (kp_same sr) mu_nil)
end
end Ob

set_option Elab.async false
set_option linter.all false
set_option maxRecDepth 100000
set_option maxHeartbeats 1000000
namespace Ob
open PySem PySem.Spec PyProof.Rows L2
open LamX (Tabs TabB TabS ExtN)

set_option hygiene false in
local macro_rules
  | `(tactic| kp_flats) => `(tactic| first
    | assumption
    | exact upd_same
    | (apply atNew; assumption; kp_flats)
    | (apply atNe; (next => kbo_bools); kp_flats)
    | (apply atSame; assumption; kp_flats)
    | (apply atKp; assumption; (next => kaf_pre); kp_flats))
set_option hygiene false in
local macro_rules
  | `(tactic| kaf_pre) => `(tactic| first
    | assumption
    | exact not_nil
    | (apply not_cons; (next => kbo_bools); kaf_pre)
    | (apply not_app; (next => kaf_pre); kaf_pre))
set_option hygiene false in
local macro_rules
  | `(tactic| kbo_bools) => `(tactic| first
    | assumption
    | (apply Ne.symm; assumption)
    | (apply neN; assumption; kp_flats)
    | (apply neN'; assumption; kp_flats))
set_option hygiene false in
local macro_rules
  | `(tactic| o_reads) => `(tactic| first
    | with_reducible rfl
    | assumption
    | rfl
    | kp_flats
    | (show SqL _ _ _ _; first | assumption | (apply sqlOf; kp_flats) | (apply sqlSame; assumption; o_reads))
    | (show SqT _ _ _ _; first | assumption | (apply sqtOf; kp_flats) | (apply sqtAll; assumption) | (apply sqtSame; assumption; o_reads))
    | (show Cls _ _; first | exact T.cl_Calls | exact T.cl_Outer | exact T.cl_Timed)
    | (show NoAttr _ _ _; first | exact T.n_Calls_entries | exact T.n_Calls_running | exact T.n_Outer_calls | exact T.n_Outer_push_call | exact T.n_Outer_pop_call | exact T.n_Outer_ask_call | exact T.n_Outer_order | exact T.n_Outer_broken | exact T.n_Timed_outer | exact T.n_Timed_given | exact T.n_Timed_now | exact T.n_Timed_held | exact T.n_Timed_limits | exact T.n_Timed_ends)
    | (apply Or.inl; o_reads)
    | (apply Or.inr; o_reads)
    | (apply And.intro; (next => o_reads); o_reads)
    | (apply Exists.intro; o_reads)
    | exact Nat.le_of_ble_eq_true rfl
    | exact Nat.succ_ne_zero _
    | (show Fr _ _; kba_ints)
    | (show Same _ _; kd_subs)
    | (show Kp _ _ _; kxs_still)
    | (show (_ : Nat) ≤ _; simp only [List.length_append, List.length_map, List.length_cons, List.length_nil, List.length_take, List.length_drop, List.length_replicate, List.length_range, sizeLine_eq]; omega)
    | (show _ = none; apply Fr.h; kba_ints)
    | (show Bag _ _; first | assumption | (apply bag_putF; assumption; o_reads) | (apply bag_neF; (next => kbo_bools); o_reads) | (apply bag_kpR; assumption; (next => kaf_pre); o_reads))
    | omega
    | decide)
local macro_rules
  | `(tactic| o_readsAll) => `(tactic| repeat (first
    | (refine fun (pNew : Addr) (nNew : _ = none) => ?_; replace nNew := Fr.mk nNew)
    | (refine fun (xNew dNew : Addr) (nNew : _ = none) (mNew : _ = none) (eNew : dNew ≠ xNew) => ?_; replace nNew := Fr.mk nNew; replace mNew := Fr.mk mNew)
    | (apply And.intro; next => o_reads)
    | apply Exists.intro (α := V)
    | apply Exists.intro (α := Addr)
    | apply Exists.intro (α := Int)
    | apply Exists.intro (α := Bool)
    | apply Exists.intro (α := List V)
    | apply Exists.intro (α := List Nat)
    | apply Exists.intro (α := List (Str × V))
    | apply Exists.intro (α := List _)
    | apply Exists.intro (α := Str)
    | apply Exists.intro (α := HO)
    | apply Exists.intro (α := Sp)
    | apply Exists.intro (α := VK)))
set_option hygiene false in
local macro_rules
  | `(tactic| kba_ints) => `(tactic| first
    | assumption
    | (apply frUp; (first | assumption | (apply Ne.symm; assumption)); kba_ints)
    | (apply noneOf; assumption; intro oF eF; apply Exists.intro; kp_flats)
    | (apply frUp; (next => kbo_bools); kba_ints))
set_option hygiene false in
local macro_rules
  | `(tactic| kxs_still) => `(tactic| first
    | assumption
    | exact kp_refl _ _
    | (apply kp_newF; assumption; kxs_still)
    | (apply kp_new; assumption; kxs_still)
    | (apply kp_up; (next => o_fieldsN); kxs_still)
    | (apply kp_new; (next => kba_ints); kxs_still)
    | (apply kp_sameR; assumption; kxs_still)
    | (apply kp_transR; assumption; kxs_still)
    | (apply kp_freshR; assumption; (next => kaf_suf); kxs_still))
set_option hygiene false in
local macro_rules
  | `(tactic| kaf_suf) => `(tactic| first
    | assumption
    | exact subNil
    | (apply subCons; (first | (apply Or.inl; o_fieldsN) | (apply Or.inr; kba_ints)); kaf_suf)
    | (apply subApp; (next => kaf_suf); kaf_suf))
set_option hygiene false in
local macro_rules
  | `(tactic| o_fieldsN) => `(tactic| first
    | assumption
    | exact memA
    | (apply memB; o_fieldsN)
    | (apply memL; o_fieldsN)
    | (apply memR; o_fieldsN))
set_option hygiene false in
local macro_rules
  | `(tactic| kd_subs) => `(tactic| first
    | assumption
    | exact Same.refl _
    | (apply same_putF; assumption; kd_subs)
    | (apply same_putG; assumption; kd_subs)
    | (apply same_putF; (next => kba_ints); kd_subs)
    | (apply same_transR; assumption; kd_subs))

set_option pp.maxSteps 900
/-! ### how many pieces -/
theorem pc_down : ∀ {u a r m : Nat}, a % 2 ^ m = 0 → r < 2 ^ m → 2 ^ (pcF u a r).length ≤ r + 1
  | 0, a, r, m, _, _ => by
    show 2 ^ 0 ≤ r + 1
    omega
  | u + 1, a, r, m, ha, hr => by
    by_cases c : r = 0
    · subst c
      exact Nat.le_refl _
    · have lo := log_lo c
      have rl := rest_lt c
      have ll := log_lt c hr
      have hp := Nat.two_pow_pos r.log2
      have es : szP a r = 2 ^ r.log2 := by
        unfold szP
        by_cases z : a = 0
        · rw [if_pos z]
        · rw [if_neg z]
          obtain ⟨e, e1, e2, e3⟩ := low_spec a z
          rw [e1]
          have : m ≤ e := Nat.le_of_not_lt fun q => e3 (mod_le ha (by omega))
          exact Nat.min_eq_left (Nat.pow_le_pow_right (by decide) (by omega))
      rw [show pcF (u + 1) a r = (a, szP a r) :: pcF u (a + szP a r) (r - szP a r) from if_neg c, es, List.length_cons, Nat.pow_succ]
      have ih := pc_down (u := u) (a := a + 2 ^ r.log2) (r := r - 2 ^ r.log2) (m := r.log2) (mod_add (mod_le ha (by omega)) (Nat.mod_self _)) rl
      omega
theorem pc_two : ∀ {u a r j : Nat}, a % 2 ^ j = 0 → ∃ x y, (pcF u a r).length = x + y ∧ 2 ^ j * 2 ^ x + 2 ^ y ≤ r + 1 + 2 ^ j
  | 0, a, r, j, _ => ⟨0, 0, rfl, by rw [Nat.pow_zero, Nat.mul_one]; omega⟩
  | u + 1, a, r, j, ha => by
    by_cases c : r = 0
    · subst c
      exact ⟨0, 0, rfl, by rw [Nat.pow_zero, Nat.mul_one]; omega⟩
    · have lo := log_lo c
      have rl := rest_lt c
      have hp := Nat.two_pow_pos r.log2
      have hcons : pcF (u + 1) a r = (a, szP a r) :: pcF u (a + szP a r) (r - szP a r) := if_neg c
      have down : a % 2 ^ r.log2 = 0 → szP a r = 2 ^ r.log2 → ∃ x y, (pcF (u + 1) a r).length = x + y ∧ 2 ^ j * 2 ^ x + 2 ^ y ≤ r + 1 + 2 ^ j := fun h1 es => by
        rw [hcons, es, List.length_cons]
        have ih := pc_down (u := u) (a := a + 2 ^ r.log2) (r := r - 2 ^ r.log2) (m := r.log2) (mod_add h1 (Nat.mod_self _)) rl
        refine ⟨0, (pcF u (a + 2 ^ r.log2) (r - 2 ^ r.log2)).length + 1, by omega, ?_⟩
        rw [Nat.pow_zero, Nat.mul_one, Nat.pow_succ]
        omega
      by_cases z : a = 0
      · exact down (by rw [z]; exact Nat.zero_mod _) (by unfold szP; rw [if_pos z])
      · obtain ⟨e, e1, e2, e3⟩ := low_spec a z
        by_cases hle : r.log2 ≤ e
        · refine down (mod_le e2 hle) ?_
          unfold szP
          rw [if_neg z, e1]
          exact Nat.min_eq_left (Nat.pow_le_pow_right (by decide) hle)
        · have hlt : e < r.log2 := by omega
          have es : szP a r = 2 ^ e := by
            unfold szP
            rw [if_neg z, e1]
            exact Nat.min_eq_right (Nat.pow_le_pow_right (by decide) (by omega))
          have hje : j ≤ e := Nat.le_of_not_lt fun q => e3 (mod_le ha (by omega))
          have her : 2 ^ e ≤ r := Nat.le_trans (Nat.pow_le_pow_right (by decide) (by omega)) lo
          rw [hcons, es, List.length_cons]
          obtain ⟨x, y, i1, i2⟩ := pc_two (u := u) (a := a + 2 ^ e) (r := r - 2 ^ e) (j := e + 1) (odd_up e2 e3)
          refine ⟨x + 1, y, by omega, ?_⟩
          obtain ⟨d, hd⟩ := Nat.le.dest (Nat.pow_le_pow_right (show 0 < 2 by decide) hje)
          have hX : 1 ≤ 2 ^ (x + 1) := Nat.two_pow_pos _
          have h2 : 2 ^ (e + 1) * 2 ^ x = 2 ^ e * 2 ^ (x + 1) := by
            rw [Nat.pow_succ, Nat.pow_succ, Nat.mul_assoc, Nat.mul_comm 2 (2 ^ x)]
          have h3 : 2 ^ (e + 1) = 2 ^ e + 2 ^ e := by rw [Nat.pow_succ]; omega
          rw [h2] at i2
          have h4 : 2 ^ e * 2 ^ (x + 1) = 2 ^ j * 2 ^ (x + 1) + d * 2 ^ (x + 1) := by rw [← hd, Nat.add_mul]
          have h5 : d ≤ d * 2 ^ (x + 1) := Nat.le_mul_of_pos_right d hX
          omega
def pcs (a e : Nat) : Nat := (pcF 201 a (e - a)).length
theorem pc_log {u a r : Nat} : (pcF u a r).length ≤ 2 * (r + 1).log2 := by
  obtain ⟨x, y, h1, h2⟩ := pc_two (u := u) (a := a) (r := r) (j := 0) (Nat.mod_one _)
  rw [Nat.pow_zero, Nat.one_mul] at h2
  have hx := Nat.two_pow_pos x
  have hy := Nat.two_pow_pos y
  have key : ∀ z : Nat, 2 ^ z ≤ r + 1 → z ≤ (r + 1).log2 := fun z h => (Nat.le_log2 (by omega)).mpr h
  have := key x (by omega)
  have := key y (by omega)
  omega
theorem pc_most {u a r : Nat} (h : r ≤ 1000000000) : (pcF u a r).length ≤ 60 := by
  have h1 := pc_log (u := u) (a := a) (r := r)
  have h2 : (r + 1).log2 < 31 := (Nat.log2_lt (by omega)).mpr (by omega)
  omega
theorem pcF_fuel : ∀ {u a r : Nat}, (pcF u a r).length < u → pcF (u + 1) a r = pcF u a r
  | 0, a, r, h => absurd h (Nat.not_lt_zero _)
  | u + 1, a, r, h => by
    by_cases c : r = 0
    · subst c
      rfl
    · show (if r = 0 then [] else (a, szP a r) :: pcF (u + 1) (a + szP a r) (r - szP a r)) = if r = 0 then [] else (a, szP a r) :: pcF u (a + szP a r) (r - szP a r)
      rw [show pcF (u + 1) a r = (a, szP a r) :: pcF u (a + szP a r) (r - szP a r) from if_neg c, List.length_cons] at h
      rw [if_neg c, if_neg c, pcF_fuel (by omega)]
theorem pcs_step {a e : Nat} (h : a < e) (he : e ≤ 1000000000) : pcs a e = 1 + pcs (a + szP a (e - a)) e := by
  have hr : e - a ≠ 0 := by omega
  have hp := szP_pos (a := a) hr
  have hl := szP_le (a := a) hr
  have hm := pc_most (u := 200) (a := a + szP a (e - a)) (r := e - a - szP a (e - a)) (by omega)
  unfold pcs
  rw [show pcF 201 a (e - a) = (a, szP a (e - a)) :: pcF 200 (a + szP a (e - a)) (e - a - szP a (e - a)) from if_neg hr, List.length_cons, ← pcF_fuel (by omega), Nat.sub_sub, Nat.add_comm]
theorem pcs_none {a : Nat} : pcs a a = 0 := by
  unfold pcs
  rw [Nat.sub_self]
  rfl
def isPu (i : Nat) : Ca → Bool
  | .push j _ => decide (j = i)
  | _ => false
def cntC (i : Nat) (tr : List Ca) : Nat := (tr.filter (isPu i)).length
theorem cntC_app {i : Nat} {a b : List Ca} : cntC i (a ++ b) = cntC i a + cntC i b := by
  unfold cntC
  rw [List.filter_append, List.length_append]
theorem cntC_push {i j : Nat} {m : V} : cntC i [.push j m] = if j = i then 1 else 0 := by
  unfold cntC
  rw [List.filter_cons, List.filter_nil]
  show (if decide (j = i) = true then [_] else []).length = _
  by_cases c : j = i
  · rw [if_pos c, if_pos (decide_eq_true c)]
    rfl
  · rw [if_neg c, if_neg (by simp [c])]
    rfl
theorem cntC_ask {i : Nat} {m : V} : cntC i [.ask m] = 0 := rfl
theorem cntC_pops {i : Nat} {mb : Nat → V} : ∀ {l : List Nat}, cntC i ((l.map fun x => (("pop" : Str), x)).map (caOf mb)) = 0
  | [] => rfl
  | x :: l => by
    have ih := cntC_pops (i := i) (mb := mb) (l := l)
    show cntC i ([caOf mb ("pop", x)] ++ _) = 0
    rw [cntC_app, ih]
    have : caOf mb ("pop", x) = .pop x := if_neg wOP2
    rw [this]
    rfl
theorem cntC_pushes {i : Nat} {mb : Nat → V} : ∀ {l : List Nat}, l.Nodup → cntC i ((l.map fun x => (("push" : Str), x)).map (caOf mb)) = if i ∈ l then 1 else 0
  | [], _ => rfl
  | x :: l, h => by
    obtain ⟨h1, h2⟩ := List.nodup_cons.mp h
    have ih := cntC_pushes (i := i) (mb := mb) h2
    show cntC i ([caOf mb ("push", x)] ++ _) = _
    rw [cntC_app, ih]
    have : caOf mb ("push", x) = .push x (mb x) := if_pos rfl
    rw [this, cntC_push]
    by_cases c : x = i
    · subst c
      rw [if_pos rfl, if_neg h1, if_pos List.mem_cons_self]
    · rw [if_neg c, Nat.zero_add]
      by_cases d : i ∈ l
      · rw [if_pos d, if_pos (List.mem_cons_of_mem _ d)]
      · rw [if_neg d, if_neg (fun z => (List.mem_cons.mp z).elim (fun e => c e.symm) d)]
theorem cntC_tick {i : Nat} {mb : Nat → V} {E B : List Nat} (h : B.Nodup) : cntC i ((tickW E B).map (caOf mb)) = if i ∈ B then 1 else 0 := by
  unfold tickW
  rw [List.map_append, cntC_app, cntC_pops, cntC_pushes h, Nat.zero_add]
structure CkT (A L : Nat → Nat) (now given : Nat) (M : List Nat) (tr : List Ca) (lim ends : Nat → Nat) : Prop where
  mm : ∀ i, i ∈ M ↔ i < given ∧ now < L i
  lm : ∀ i ∈ M, lim i = L i
  ct : ∀ i, i < given → cntC i tr + (if i ∈ M then pcs (ends i) (L i) else 0) = 1 + pcs (A i + 1) (L i)
  c0 : ∀ i, given ≤ i → cntC i tr = 0
theorem CkT.nil {A L : Nat → Nat} {lim ends : Nat → Nat} : CkT A L 0 0 [] [] lim ends := ⟨fun i => ⟨fun z => (nomatch z), fun z => absurd z.1 (Nat.not_lt_zero _)⟩, fun i z => (nomatch z), fun i z => absurd z (Nat.not_lt_zero _), fun i _ => rfl⟩
theorem CkT.ask {A L : Nat → Nat} {now given : Nat} {M : List Nat} {tr : List Ca} {lim ends : Nat → Nat} {v : V} (h : CkT A L now given M tr lim ends) : CkT A L now given M (tr ++ [.ask v]) lim ends := ⟨h.mm, h.lm, fun i z => by rw [cntC_app, cntC_ask]; exact h.ct i z, fun i z => by rw [cntC_app, cntC_ask]; exact h.c0 i z⟩
theorem CkT.add {A L : Nat → Nat} {now given : Nat} {M : List Nat} {tr : List Ca} {lim ends : Nat → Nat} {m : V} (h : CkT A L now given M tr lim ends) (ha : A given = now) (hl : now < L given) :
    CkT A L now (given + 1) (M ++ [given]) (tr ++ [.push given m]) (fun x => if x = given then L given else lim x) (fun x => if x = given then now + 1 else ends x) := by
  have nM : given ∉ M := fun z => absurd ((h.mm given).mp z).1 (Nat.lt_irrefl _)
  refine ⟨fun i => ?_, fun i m => ?_, fun i hi => ?_, fun i hi => ?_⟩
  · rw [List.mem_append, List.mem_singleton, h.mm]
    constructor
    · rintro (⟨h1, h2⟩ | rfl)
      · exact ⟨by omega, h2⟩
      · exact ⟨by omega, hl⟩
    · rintro ⟨h1, h2⟩
      by_cases c : i = given
      · exact .inr c
      · exact .inl ⟨by omega, h2⟩
  · by_cases c : i = given
    · rw [if_pos c, c]
    · rw [if_neg c]
      exact h.lm i ((List.mem_append.mp m).resolve_right fun z => c (List.mem_singleton.mp z))
  · rw [cntC_app, cntC_push]
    by_cases c : i = given
    · subst c
      rw [if_pos (List.mem_append.mpr (.inr (List.mem_singleton.mpr rfl))), if_pos rfl, if_pos rfl, h.c0 i (Nat.le_refl _), ha]
    · rw [if_neg (fun z => c z.symm), if_neg c, Nat.add_zero]
      have hm : (i ∈ M ++ [given]) ↔ i ∈ M := ⟨fun z => (List.mem_append.mp z).resolve_right fun y => c (List.mem_singleton.mp y), fun z => List.mem_append.mpr (.inl z)⟩
      have := h.ct i (by omega)
      by_cases d : i ∈ M
      · rw [if_pos (hm.mpr d)]
        rw [if_pos d] at this
        exact this
      · rw [if_neg (fun z => d (hm.mp z))]
        rw [if_neg d] at this
        exact this
  · rw [cntC_app, cntC_push, if_neg (by omega)]
    exact h.c0 i (by omega)
theorem CkT.tick {A L : Nat → Nat} {now given : Nat} {M S B : List Nat} {tr : List Ca} {lim ends : Nat → Nat} {mb : Nat → V} {E : List Nat} (hb : ∀ i, i < given → L i ≤ 1000000000) (h : CkT A L now given M tr lim ends) (ti : TI now M S lim ends) (hB : B.Perm ((endS ends (now + 1) S).filter fun i => decide (now + 1 < lim i))) :
    CkT A L (now + 1) given (M.filter fun i => decide (lim i ≠ now + 1)) (tr ++ (tickW E B).map (caOf mb)) lim (enT lim ends (now + 1)) := by
  have ndM : M.Nodup := ti.inc.imp Nat.ne_of_lt
  have ndS : S.Nodup := ti.pm.nodup_iff.mpr ndM
  have ndB : B.Nodup := hB.nodup_iff.mpr ((ndS.filter _).filter _)
  have inB : ∀ i, i ∈ B ↔ i ∈ M ∧ ends i = now + 1 ∧ now + 1 < lim i := fun i => by
    rw [hB.mem_iff, List.mem_filter]
    unfold endS
    rw [List.mem_filter, ti.pm.mem_iff]
    constructor
    · rintro ⟨⟨h1, h2⟩, h3⟩
      exact ⟨h1, of_decide_eq_true h2, of_decide_eq_true h3⟩
    · rintro ⟨h1, h2, h3⟩
      exact ⟨⟨h1, decide_eq_true h2⟩, decide_eq_true h3⟩
  have inM : ∀ i, i ∈ (M.filter fun i => decide (lim i ≠ now + 1)) ↔ i ∈ M ∧ lim i ≠ now + 1 := fun i => by
    rw [List.mem_filter]
    exact ⟨fun z => ⟨z.1, of_decide_eq_true z.2⟩, fun z => ⟨z.1, decide_eq_true z.2⟩⟩
  refine ⟨fun i => ?_, fun i m => h.lm i ((inM i).mp m).1, fun i hi => ?_, fun i hi => ?_⟩
  · rw [inM]
    constructor
    · rintro ⟨h1, h2⟩
      have h3 := (h.mm i).mp h1
      rw [h.lm i h1] at h2
      exact ⟨h3.1, by omega⟩
    · rintro ⟨h1, h2⟩
      have h3 := (h.mm i).mpr ⟨h1, by omega⟩
      exact ⟨h3, by rw [h.lm i h3]; omega⟩
  · rw [cntC_app, cntC_tick ndB]
    have h0 := h.ct i hi
    by_cases c : i ∈ M
    · have hlo := ti.lo i c
      have hlm := h.lm i c
      have hbd := hb i hi
      rw [if_pos c] at h0
      by_cases d : ends i = now + 1
      · by_cases e : now + 1 < lim i
        · rw [if_pos ((inB i).mpr ⟨c, d, e⟩), if_pos ((inM i).mpr ⟨c, by omega⟩)]
          have he : enT lim ends (now + 1) i = now + 1 + szP (now + 1) (lim i - (now + 1)) := if_pos ⟨d, e⟩
          rw [d, pcs_step (by omega) (by omega)] at h0
          rw [he, hlm]
          omega
        · rw [if_neg (fun z => e ((inB i).mp z).2.2), if_neg (fun z => ((inM i).mp z).2 (by omega))]
          have : L i = now + 1 := by omega
          have hz : pcs (ends i) (L i) = 0 := by
            rw [d, this]
            exact pcs_none
          omega
      · rw [if_neg (fun z => d ((inB i).mp z).2.1), if_pos ((inM i).mpr ⟨c, by omega⟩)]
        have he : enT lim ends (now + 1) i = ends i := if_neg fun z => d z.1
        rw [he]
        exact h0
    · rw [if_neg c] at h0
      rw [if_neg (fun z => c ((inB i).mp z).1), if_neg (fun z => c ((inM i).mp z).1)]
      exact h0
  · rw [cntC_app, cntC_tick ndB, if_neg (fun z => ?_)]
    · exact h.c0 i hi
    · have := ((h.mm i).mp ((inB i).mp z).1).1
      omega
/-! ### the counts of the pushes, in a dict -/
def kvS (kv : List (Key × V)) : Ca → List (Key × V)
  | .push i _ => putK kv (.inl (i : Int)) (match valV kv (.inl (i : Int)) with | some (.int c) => .int (c + 1) | _ => .int 1)
  | _ => kv
def KV (tr : List Ca) : List (Key × V) := tr.foldl kvS []
theorem kv_app {a : List Ca} {e : Ca} : KV (a ++ [e]) = kvS (KV a) e := by
  unfold KV
  rw [List.foldl_append]
  rfl
def cV (tr : List Ca) (i : Nat) : V := .int ((cntC i tr : Nat) : Int)
/-- each of the first n members was pushed, no other one -/
structure KvN (n : Nat) (tr : List Ca) : Prop where
  kv : KV tr = dM (List.range n) (cV tr)
  c0 : ∀ i, n ≤ i → cntC i tr = 0
theorem KvN.nil : KvN 0 [] := ⟨rfl, fun _ _ => rfl⟩
theorem KvN.ask {n : Nat} {tr : List Ca} {v : V} (h : KvN n tr) : KvN n (tr ++ [.ask v]) := by
  refine ⟨?_, fun i z => by rw [cntC_app, cntC_ask]; exact h.c0 i z⟩
  rw [kv_app]
  show KV tr = _
  rw [h.kv]
  refine dM_congr fun i _ => ?_
  unfold cV
  rw [cntC_app, cntC_ask, Nat.add_zero]
theorem KvN.pop {n : Nat} {tr : List Ca} {j : Nat} (h : KvN n tr) : KvN n (tr ++ [.pop j]) := by
  have e0 : ∀ i, cntC i (tr ++ [.pop j]) = cntC i tr := fun i => by rw [cntC_app]; rfl
  refine ⟨?_, fun i z => by rw [e0]; exact h.c0 i z⟩
  rw [kv_app]
  show KV tr = _
  rw [h.kv]
  refine dM_congr fun i _ => ?_
  unfold cV
  rw [e0]
theorem KvN.add {n : Nat} {tr : List Ca} {v : V} (h : KvN n tr) : KvN (n + 1) (tr ++ [.push n v]) := by
  have hn : n ∉ List.range n := by simp
  refine ⟨?_, fun i z => ?_⟩
  · rw [kv_app]
    show putK (KV tr) _ (match valV (KV tr) (.inl (n : Int)) with | some (.int c) => .int (c + 1) | _ => .int 1) = _
    rw [h.kv, dM_none hn, dM_new hn, List.range_succ]
    refine dM_congr fun i _ => ?_
    unfold cV
    rw [cntC_app, cntC_push]
    by_cases c : i = n
    · subst c
      rw [if_pos rfl, if_pos rfl, h.c0 i (Nat.le_refl _)]
      rfl
    · rw [if_neg c, if_neg (fun z => c z.symm)]
      rfl
  · rw [cntC_app, cntC_push, if_neg (by omega)]
    exact h.c0 i (by omega)
theorem KvN.old {n j : Nat} {tr : List Ca} {v : V} (hj : j < n) (h : KvN n tr) : KvN n (tr ++ [.push j v]) := by
  have hm : j ∈ List.range n := List.mem_range.mpr hj
  refine ⟨?_, fun i z => ?_⟩
  · rw [kv_app]
    show putK (KV tr) _ (match valV (KV tr) (.inl (j : Int)) with | some (.int c) => .int (c + 1) | _ => .int 1) = _
    rw [h.kv, dM_val hm]
    show putK _ _ (.int (((cntC j tr : Nat) : Int) + 1)) = _
    rw [dM_old hm]
    refine dM_congr fun i _ => ?_
    unfold cV
    rw [cntC_app, cntC_push]
    by_cases c : i = j
    · subst c
      rw [if_pos rfl, if_pos rfl]
      rfl
    · rw [if_neg c, if_neg (fun z => c z.symm)]
      rfl
  · rw [cntC_app, cntC_push, if_neg (by omega)]
    exact h.c0 i z
theorem KvN.more {n : Nat} {mb : Nat → V} : ∀ {l : List (Str × Nat)} {tr : List Ca}, (∀ e ∈ l, e.2 < n) → KvN n tr → KvN n (tr ++ l.map (caOf mb))
  | [], tr, _, h => by
    show KvN n (tr ++ [])
    rw [List.append_nil]
    exact h
  | e :: l, tr, hl, h => by
    have h1 : KvN n (tr ++ [caOf mb e]) := by
      unfold caOf
      split
      · exact h.old (hl e List.mem_cons_self)
      · exact h.pop
    have := KvN.more (mb := mb) (l := l) (fun x m => hl x (List.mem_cons_of_mem _ m)) h1
    rw [List.append_assoc] at this
    exact this
theorem putK_le {kv : List (Key × V)} {k : Key} {v : V} : (putK kv k v).length ≤ kv.length + 1 := by
  unfold putK
  split
  · rw [List.length_map]
    omega
  · rw [List.length_append]
    exact Nat.le_refl _
theorem kv_len {tr : List Ca} : (KV tr).length ≤ tr.length := by
  have key : ∀ {l : List Ca} {kv : List (Key × V)}, (l.foldl kvS kv).length ≤ kv.length + l.length := by
    intro l
    induction l with
    | nil => exact fun {kv} => Nat.le_refl _
    | cons e l ih =>
      intro kv
      have h1 := ih (kv := kvS kv e)
      have h2 : (kvS kv e).length ≤ kv.length + 1 := by
        cases e with
        | push i v => exact putK_le
        | pop i => exact Nat.le_succ _
        | ask v => exact Nat.le_succ _
      show (l.foldl kvS (kvS kv e)).length ≤ _
      rw [List.length_cons]
      omega
  have := key (l := tr) (kv := [])
  unfold KV
  rw [List.length_nil, Nat.zero_add] at this
  exact this
end Ob

set_option Elab.async false
set_option linter.all false
set_option maxRecDepth 100000
set_option maxHeartbeats 1000000
namespace Ob
open PySem PySem.Spec PyProof.Rows L2
open LamX (Tabs TabB TabS ExtN)

set_option hygiene false in
local macro_rules
  | `(tactic| kp_flats) => `(tactic| first
    | assumption
    | exact upd_same
    | (apply atNew; assumption; kp_flats)
    | (apply atNe; (next => kbo_bools); kp_flats)
    | (apply atSame; assumption; kp_flats)
    | (apply atKp; assumption; (next => kaf_pre); kp_flats))
set_option hygiene false in
local macro_rules
  | `(tactic| kaf_pre) => `(tactic| first
    | assumption
    | exact not_nil
    | (apply not_cons; (next => kbo_bools); kaf_pre)
    | (apply not_app; (next => kaf_pre); kaf_pre))
set_option hygiene false in
local macro_rules
  | `(tactic| kbo_bools) => `(tactic| first
    | assumption
    | (apply Ne.symm; assumption)
    | (apply neN; assumption; kp_flats)
    | (apply neN'; assumption; kp_flats))
set_option hygiene false in
local macro_rules
  | `(tactic| o_reads) => `(tactic| first
    | with_reducible rfl
    | assumption
    | rfl
    | kp_flats
    | (show SqL _ _ _ _; first | assumption | (apply sqlOf; kp_flats) | (apply sqlSame; assumption; o_reads))
    | (show SqT _ _ _ _; first | assumption | (apply sqtOf; kp_flats) | (apply sqtAll; assumption) | (apply sqtSame; assumption; o_reads))
    | (show Cls _ _; first | exact T.cl_Calls | exact T.cl_Outer | exact T.cl_Timed)
    | (show NoAttr _ _ _; first | exact T.n_Calls_entries | exact T.n_Calls_running | exact T.n_Outer_calls | exact T.n_Outer_push_call | exact T.n_Outer_pop_call | exact T.n_Outer_ask_call | exact T.n_Outer_order | exact T.n_Outer_broken | exact T.n_Timed_outer | exact T.n_Timed_given | exact T.n_Timed_now | exact T.n_Timed_held | exact T.n_Timed_limits | exact T.n_Timed_ends)
    | (apply Or.inl; o_reads)
    | (apply Or.inr; o_reads)
    | (apply And.intro; (next => o_reads); o_reads)
    | (apply Exists.intro; o_reads)
    | exact Nat.le_of_ble_eq_true rfl
    | exact Nat.succ_ne_zero _
    | (show Fr _ _; kba_ints)
    | (show Same _ _; kd_subs)
    | (show Kp _ _ _; kxs_still)
    | (show (_ : Nat) ≤ _; simp only [List.length_append, List.length_map, List.length_cons, List.length_nil, List.length_take, List.length_drop, List.length_replicate, List.length_range, sizeLine_eq]; omega)
    | (show _ = none; apply Fr.h; kba_ints)
    | (show Bag _ _; first | assumption | (apply bag_putF; assumption; o_reads) | (apply bag_neF; (next => kbo_bools); o_reads) | (apply bag_kpR; assumption; (next => kaf_pre); o_reads))
    | omega
    | decide)
local macro_rules
  | `(tactic| o_readsAll) => `(tactic| repeat (first
    | (refine fun (pNew : Addr) (nNew : _ = none) => ?_; replace nNew := Fr.mk nNew)
    | (refine fun (xNew dNew : Addr) (nNew : _ = none) (mNew : _ = none) (eNew : dNew ≠ xNew) => ?_; replace nNew := Fr.mk nNew; replace mNew := Fr.mk mNew)
    | (apply And.intro; next => o_reads)
    | apply Exists.intro (α := V)
    | apply Exists.intro (α := Addr)
    | apply Exists.intro (α := Int)
    | apply Exists.intro (α := Bool)
    | apply Exists.intro (α := List V)
    | apply Exists.intro (α := List Nat)
    | apply Exists.intro (α := List (Str × V))
    | apply Exists.intro (α := List _)
    | apply Exists.intro (α := Str)
    | apply Exists.intro (α := HO)
    | apply Exists.intro (α := Sp)
    | apply Exists.intro (α := VK)))
set_option hygiene false in
local macro_rules
  | `(tactic| kba_ints) => `(tactic| first
    | assumption
    | (apply frUp; (first | assumption | (apply Ne.symm; assumption)); kba_ints)
    | (apply noneOf; assumption; intro oF eF; apply Exists.intro; kp_flats)
    | (apply frUp; (next => kbo_bools); kba_ints))
set_option hygiene false in
local macro_rules
  | `(tactic| kxs_still) => `(tactic| first
    | assumption
    | exact kp_refl _ _
    | (apply kp_newF; assumption; kxs_still)
    | (apply kp_new; assumption; kxs_still)
    | (apply kp_up; (next => o_fieldsN); kxs_still)
    | (apply kp_new; (next => kba_ints); kxs_still)
    | (apply kp_sameR; assumption; kxs_still)
    | (apply kp_transR; assumption; kxs_still)
    | (apply kp_freshR; assumption; (next => kaf_suf); kxs_still))
set_option hygiene false in
local macro_rules
  | `(tactic| kaf_suf) => `(tactic| first
    | assumption
    | exact subNil
    | (apply subCons; (first | (apply Or.inl; o_fieldsN) | (apply Or.inr; kba_ints)); kaf_suf)
    | (apply subApp; (next => kaf_suf); kaf_suf))
set_option hygiene false in
local macro_rules
  | `(tactic| o_fieldsN) => `(tactic| first
    | assumption
    | exact memA
    | (apply memB; o_fieldsN)
    | (apply memL; o_fieldsN)
    | (apply memR; o_fieldsN))
set_option hygiene false in
local macro_rules
  | `(tactic| kd_subs) => `(tactic| first
    | assumption
    | exact Same.refl _
    | (apply same_putF; assumption; kd_subs)
    | (apply same_putG; assumption; kd_subs)
    | (apply same_putF; (next => kba_ints); kd_subs)
    | (apply same_transR; assumption; kd_subs))

/-! ### len(o), o of an own class with its own __len__ -/
theorem call_lenO {X : Cx} {k : Nat} {C f : Addr} {sp : Sp} (F : FnR X.prog X.w X.K X.mg X.base CX0 k f sp) (hr : Room (k + 1) X.A) (hs : PySem.W.findIn X.K (.ref C) "__len__" = some (some (.ref f))) (hf : PySem.W.typeIn X.K (.ref f) = some (.type "function")) :
    CallR X (.builtin "len") (fun xs H Q => ∃ (a dx : Addr) (fs : List (Str × V)), xs = [.ref a] ∧ H a = some (.ins C dx fs) ∧ sp [.ref a] H (fun v H' => ∃ m : Nat, v = .int (m : Int) ∧ m < 2 ^ 62 ∧ Q (.int (m : Int)) H') E0) := by
  intro pins s σ H xs us Q I r h
  obtain ⟨a, dx, fs, rfl, ha, h⟩ := h
  obtain ⟨u, rfl, ru⟩ := vals1 r
  obtain rfl : u = Value.ref a := ru
  obtain ⟨ox, od, J, _⟩ := StX.insC_at I (.inr ⟨dx, fs, ha⟩)
  refine PySem.Calls.call_function_entry kind_len plain_len entry_len (args_len1 _) ?_
  unfold Builtin.«len»
  refine wpAny_bind (m := oneArg "len" _) (wpAny_pure ?_)
  refine wpAny_bind (m := callSpecial? (.ref a) (Str.ofString "__len__")) (PySem.W.special_fn I.kIn J hs hf ?_)
  refine wpAny_call (codeAny_mono (F X.A.in1 X.stack s H _ _ _ E0 hr.in1 I.env0.in1 r h) fun res s' hq => ?_)
  match res, hq with
  | .error e, z => exact z.elim
  | .ok .next, z => exact z.elim
  | .ok .brk, z => exact z.elim
  | .ok .cont, z => exact z.elim
  | .ok (.ret v), z =>
    obtain ⟨y, H1, I1, ry, m, rfl, hm, q⟩ := I.after z
    obtain ⟨t, rfl⟩ := ry
    refine wpAny_bind (wpAny_holding (wpAny_pure ?_))
    refine wpAny_bind (wpAny_letGo ?_)
    show wpAny _ _ (if (m : Int) < 0 then _ else _) _ _ _
    rw [if_neg (by omega)]
    show wpAny _ _ (if (m : Int) ≥ 2 ^ 63 then _ else _) _ _ _
    rw [if_neg (by omega)]
    exact wpAny_bind (wpAny_mkInt (wpAny_pure ⟨_, rfl, ⟨.int (m : Int), H1, I1.tok _, ⟨_, rfl⟩, q⟩⟩))

set_option pp.maxSteps 900
section
variable {P : Program} {w : World} {K : PySem.W.Frag} {mg : Str → Option Value} {base : Heap} {n : Nat}
def spTC (CT C CC : Addr) : Sp := fun vs H Q _ => ∃ (t o c l lm en : Addr) (fp fo fa : V) (uv : List Addr) (PM : Nat → V → Prop) (R : List Ca → Hp → Prop) (tr : List Ca) (given now : Nat) (M : List Nat) (mb : Nat → V) (lim ends : Nat → Nat), vs = [.ref t] ∧ TmAt CT C CC H t o c l lm en fp fo fa uv PM R tr given now M mb lim ends ∧ Q (.int (now : Int)) H
theorem ok_tc (T : Txt K mg) : FnOk P w K mg base CX0 4 T.f_Timed_clock T.d_Timed_clock ["self"] (spTC T.C_Timed T.C_Outer T.C_Calls) := by
  have G_Outer_check := ok_oc (P := P) (w := w) (base := base) T
  refine T.F_Timed_clock.ok sc_Timed_clock (fun vs H Q E h => ?_) (fun cdv A outer s H vs Q E hr h => ?_)
  · obtain ⟨t, o, c, l, lm, en, fp, fo, fa, uv, PM, R, tr, given, now, M, mb, lim, ends, rfl, _⟩ := h
    rfl
  · obtain ⟨t, o, c, l, lm, en, fp, fo, fa, uv, PM, R, tr, given, now, M, mb, lim, ends, rfl, hT, q⟩ := h
    refine ⟨_, (pss_cons (ps_expr (pe_meth0 (pe_fld (pv 0) rfl) T.cl_Outer ⟨T.m_Outer_check, T.t_Outer_check, T.k_Outer_check⟩ G_Outer_check (hr.mono (by omega)) T.b_Outer_check .nil pass0))
      (pss_one (ps_ret (pe_fld (pv 0) rfl)))), ?_⟩
    obtain ⟨⟨dx, hd, ht, hhd, nhd⟩, ⟨od, hO⟩, _⟩ := id hT
    obtain ⟨⟨d1, ho⟩, ⟨d2, hc⟩, _⟩ := id hO
    refine ⟨_, rfl, t, _, dx, _, _, rfl, ht, T.cl_Timed, T.n_Timed_outer, rfl, o, d1, _, rfl, ho, rfl, o, c, l, od, fp, fo, fa, rfl, ⟨d1, ho⟩, ⟨d2, hc⟩, ?_⟩
    exact ⟨_, rfl, t, _, dx, _, _, rfl, ht, T.cl_Timed, T.n_Timed_now, rfl, q⟩
def spTLn (CT C CC : Addr) : Sp := fun vs H Q _ => ∃ (t o c l lm en : Addr) (fp fo fa : V) (uv : List Addr) (PM : Nat → V → Prop) (R : List Ca → Hp → Prop) (tr : List Ca) (given now : Nat) (M : List Nat) (mb : Nat → V) (lim ends : Nat → Nat), vs = [.ref t] ∧ TmAt CT C CC H t o c l lm en fp fo fa uv PM R tr given now M mb lim ends ∧ Q (.int (M.length : Int)) H
theorem ok_tln (T : Txt K mg) : FnOk P w K mg base CX0 1 T.f_Timed_len T.d_Timed_len ["self"] (spTLn T.C_Timed T.C_Outer T.C_Calls) := by
  refine T.F_Timed_len.ok sc_Timed_len (fun vs H Q E h => ?_) (fun cdv A outer s H vs Q E hr h => ?_)
  · obtain ⟨t, o, c, l, lm, en, fp, fo, fa, uv, PM, R, tr, given, now, M, mb, lim, ends, rfl, _⟩ := h
    rfl
  · obtain ⟨t, o, c, l, lm, en, fp, fo, fa, uv, PM, R, tr, given, now, M, mb, lim, ends, rfl, hT, q⟩ := h
    refine ⟨_, (pss_one (ps_ret (pe_callB call_lenD (by rfl) T.z_len (by decide +kernel) (pa_cons (pe_fld (pv 0) rfl) pa_nil)))), ?_⟩
    obtain ⟨⟨dx, hd, ht, hhd, nhd⟩, _⟩ := id hT
    refine ⟨_, rfl, t, _, dx, _, _, rfl, ht, T.cl_Timed, T.n_Timed_held, rfl, hd, _, rfl, hhd, ?_⟩
    rw [dM_len]
    exact q
end
end Ob

set_option Elab.async false
set_option linter.all false
set_option maxRecDepth 100000
set_option maxHeartbeats 1000000
namespace Ob
open PySem PySem.Spec PyProof.Rows L2
open LamX (Tabs TabB TabS ExtN)

set_option hygiene false in
local macro_rules
  | `(tactic| kp_flats) => `(tactic| first
    | assumption
    | exact upd_same
    | (apply atNew; assumption; kp_flats)
    | (apply atNe; (next => kbo_bools); kp_flats)
    | (apply atSame; assumption; kp_flats)
    | (apply atKp; assumption; (next => kaf_pre); kp_flats))
set_option hygiene false in
local macro_rules
  | `(tactic| kaf_pre) => `(tactic| first
    | assumption
    | exact not_nil
    | (apply not_cons; (next => kbo_bools); kaf_pre)
    | (apply not_app; (next => kaf_pre); kaf_pre))
set_option hygiene false in
local macro_rules
  | `(tactic| kbo_bools) => `(tactic| first
    | assumption
    | (apply Ne.symm; assumption)
    | (apply neN; assumption; kp_flats)
    | (apply neN'; assumption; kp_flats))
set_option hygiene false in
local macro_rules
  | `(tactic| o_reads) => `(tactic| first
    | with_reducible rfl
    | assumption
    | rfl
    | kp_flats
    | (show SqL _ _ _ _; first | assumption | (apply sqlOf; kp_flats) | (apply sqlSame; assumption; o_reads))
    | (show SqT _ _ _ _; first | assumption | (apply sqtOf; kp_flats) | (apply sqtAll; assumption) | (apply sqtSame; assumption; o_reads))
    | (show Cls _ _; first | exact T.cl_Calls | exact T.cl_Outer | exact T.cl_Timed)
    | (show NoAttr _ _ _; first | exact T.n_Calls_entries | exact T.n_Calls_running | exact T.n_Outer_calls | exact T.n_Outer_push_call | exact T.n_Outer_pop_call | exact T.n_Outer_ask_call | exact T.n_Outer_order | exact T.n_Outer_broken | exact T.n_Timed_outer | exact T.n_Timed_given | exact T.n_Timed_now | exact T.n_Timed_held | exact T.n_Timed_limits | exact T.n_Timed_ends)
    | (apply Or.inl; o_reads)
    | (apply Or.inr; o_reads)
    | (apply And.intro; (next => o_reads); o_reads)
    | (apply Exists.intro; o_reads)
    | exact Nat.le_of_ble_eq_true rfl
    | exact Nat.succ_ne_zero _
    | (show Fr _ _; kba_ints)
    | (show Same _ _; kd_subs)
    | (show Kp _ _ _; kxs_still)
    | (show (_ : Nat) ≤ _; simp only [List.length_append, List.length_map, List.length_cons, List.length_nil, List.length_take, List.length_drop, List.length_replicate, List.length_range, sizeLine_eq]; omega)
    | (show _ = none; apply Fr.h; kba_ints)
    | (show Bag _ _; first | assumption | (apply bag_putF; assumption; o_reads) | (apply bag_neF; (next => kbo_bools); o_reads) | (apply bag_kpR; assumption; (next => kaf_pre); o_reads))
    | omega
    | decide)
local macro_rules
  | `(tactic| o_readsAll) => `(tactic| repeat (first
    | (refine fun (pNew : Addr) (nNew : _ = none) => ?_; replace nNew := Fr.mk nNew)
    | (refine fun (xNew dNew : Addr) (nNew : _ = none) (mNew : _ = none) (eNew : dNew ≠ xNew) => ?_; replace nNew := Fr.mk nNew; replace mNew := Fr.mk mNew)
    | (apply And.intro; next => o_reads)
    | apply Exists.intro (α := V)
    | apply Exists.intro (α := Addr)
    | apply Exists.intro (α := Int)
    | apply Exists.intro (α := Bool)
    | apply Exists.intro (α := List V)
    | apply Exists.intro (α := List Nat)
    | apply Exists.intro (α := List (Str × V))
    | apply Exists.intro (α := List _)
    | apply Exists.intro (α := Str)
    | apply Exists.intro (α := HO)
    | apply Exists.intro (α := Sp)
    | apply Exists.intro (α := VK)))
set_option hygiene false in
local macro_rules
  | `(tactic| kba_ints) => `(tactic| first
    | assumption
    | (apply frUp; (first | assumption | (apply Ne.symm; assumption)); kba_ints)
    | (apply noneOf; assumption; intro oF eF; apply Exists.intro; kp_flats)
    | (apply frUp; (next => kbo_bools); kba_ints))
set_option hygiene false in
local macro_rules
  | `(tactic| kxs_still) => `(tactic| first
    | assumption
    | exact kp_refl _ _
    | (apply kp_newF; assumption; kxs_still)
    | (apply kp_new; assumption; kxs_still)
    | (apply kp_up; (next => o_fieldsN); kxs_still)
    | (apply kp_new; (next => kba_ints); kxs_still)
    | (apply kp_sameR; assumption; kxs_still)
    | (apply kp_transR; assumption; kxs_still)
    | (apply kp_freshR; assumption; (next => kaf_suf); kxs_still))
set_option hygiene false in
local macro_rules
  | `(tactic| kaf_suf) => `(tactic| first
    | assumption
    | exact subNil
    | (apply subCons; (first | (apply Or.inl; o_fieldsN) | (apply Or.inr; kba_ints)); kaf_suf)
    | (apply subApp; (next => kaf_suf); kaf_suf))
set_option hygiene false in
local macro_rules
  | `(tactic| o_fieldsN) => `(tactic| first
    | assumption
    | exact memA
    | (apply memB; o_fieldsN)
    | (apply memL; o_fieldsN)
    | (apply memR; o_fieldsN))
set_option hygiene false in
local macro_rules
  | `(tactic| kd_subs) => `(tactic| first
    | assumption
    | exact Same.refl _
    | (apply same_putF; assumption; kd_subs)
    | (apply same_putG; assumption; kd_subs)
    | (apply same_putF; (next => kba_ints); kd_subs)
    | (apply same_transR; assumption; kd_subs))

/-! ### == and != of lists that hold the very same objects -/
def NoTok (v : V) : Prop := v = .non ∨ ∃ a, v = .ref a
theorem noTok_val {v : V} {u u' : Value} (h : NoTok v) (r : RelV v u) (r' : RelV v u') : u = u' := by
  rcases h with rfl | ⟨a, rfl⟩
  · exact (show u = Value.none from r).trans (show u' = Value.none from r').symm
  · exact (show u = Value.ref a from r).trans (show u' = Value.ref a from r').symm
theorem noTok_all : ∀ {xs : List V} {us us' : List Value}, (∀ x ∈ xs, NoTok x) → Vals xs us → Vals xs us' → us = us'
  | [], _, _, _, r, r' => by
    cases r
    cases r'
    rfl
  | x :: xs, _, _, h, r, r' => by
    cases r with
    | cons r1 r2 =>
      cases r' with
      | cons q1 q2 => rw [noTok_val (h x (List.mem_cons_self ..)) r1 q1, noTok_all (fun y hy => h y (List.mem_cons_of_mem _ hy)) r2 q2]
/-- both lists hold the objects xs -/
def rSame (K : PySem.W.Frag) (b : Bool) : R2 := fun x y H Q => ∃ (p q : Addr) (xs : List V), x = .ref p ∧ y = .ref q ∧ SqL K H p xs ∧ SqL K H q xs ∧ (∀ v ∈ xs, NoTok v) ∧ Q (.bl b) H
theorem all_yes (n : Nat) : (List.range n).all (fun _ => true) = true := List.all_eq_true.mpr fun _ _ => rfl
section
variable {X : Cx} {pins : List (Addr × Obj)} {σ : L2.St} {H : Hp} {s : Shared} {p q : Addr} {xs : List V}
theorem same_lists (I : Inv X pins σ H s) (hp : SqL X.K H p xs) (hq : SqL X.K H q xs) (hn : ∀ v ∈ xs, NoTok v) : ∃ its : Array Value, s.heap.IsList p its ∧ s.heap.IsList q its := by
  obtain ⟨its, rv, ⟨o, n, h1, h2, _, h3⟩, _⟩ := I.list hp
  obtain ⟨its', rv', ⟨o', n', h1', h2', _, h3'⟩, _⟩ := I.list hq
  obtain rfl := noTok_all hn rv rv'
  exact ⟨its.toArray, ⟨o, h1, h2, n, h3⟩, ⟨o', h1', h2', n', h3'⟩⟩
end
theorem op_eqS {X : Cx} (hu : X.A.units + 64 < cLine) : OpR X (compareOp .Eq) (rSame X.K true) := by
  intro pins s σ H x y v u Q I rx ry h
  obtain ⟨p, q, xs, rfl, rfl, hp, hq, hn, k⟩ := h
  obtain rfl : v = Value.ref p := rx
  obtain rfl : u = Value.ref q := ry
  obtain ⟨its, h1, h2⟩ := same_lists I hp hq hn
  have z := SeqAt.RcAt.lists (A := X.A) (e := fun _ => true) h1 h2 rfl (by omega) (fun j j1 j2 => SeqAt.EqAt.same _)
  rw [all_yes] at z
  exact z _ _ _ _ ⟨.bl true, H, I, rfl, k⟩
theorem op_neS {X : Cx} (hu : X.A.units + 64 < cLine) : OpR X (compareOp .NotEq) (rSame X.K false) := by
  intro pins s σ H x y v u Q I rx ry h
  obtain ⟨p, q, xs, rfl, rfl, hp, hq, hn, k⟩ := h
  obtain rfl : v = Value.ref p := rx
  obtain rfl : u = Value.ref q := ry
  obtain ⟨its, h1, h2⟩ := same_lists I hp hq hn
  have z := SeqAt.RcNeAt.lists (A := X.A) (e := fun _ => true) h1 h2 rfl (by omega) (fun j j1 j2 => SeqAt.EqAt.same _)
  rw [all_yes] at z
  exact z _ _ _ _ ⟨.bl false, H, I, rfl, k⟩
/-- a list against the empty one -/
def rNeNil (K : PySem.W.Frag) : R2 := fun x y H Q => ∃ (p q : Addr) (xs : List V), x = .ref p ∧ y = .ref q ∧ SqL K H p xs ∧ SqL K H q [] ∧ Q (.bl (!xs.isEmpty)) H
theorem is_list {X : Cx} {pins : List (Addr × Obj)} {σ : L2.St} {H : Hp} {s : Shared} {p : Addr} {xs : List V} (I : Inv X pins σ H s) (hp : SqL X.K H p xs) : ∃ its : Array Value, its.size = xs.length ∧ s.heap.IsList p its := by
  obtain ⟨its, rv, ⟨o, n, h1, h2, _, h3⟩, _⟩ := I.list hp
  exact ⟨its.toArray, by rw [List.size_toArray, rv.length], ⟨o, h1, h2, n, h3⟩⟩
theorem op_neNil {X : Cx} (hu : X.A.units + 64 < cLine) : OpR X (compareOp .NotEq) (rNeNil X.K) := by
  intro pins s σ H x y v u Q I rx ry h
  obtain ⟨p, q, xs, rfl, rfl, hp, hq, k⟩ := h
  cases xs with
  | nil => exact op_neS hu pins s σ H _ _ v u Q I rx ry ⟨p, q, [], rfl, rfl, hp, hq, (fun _ z => nomatch z), k⟩
  | cons a l =>
    obtain rfl : v = Value.ref p := rx
    obtain rfl : u = Value.ref q := ry
    obtain ⟨i1, e1, h1⟩ := is_list I hp
    obtain ⟨i2, e2, h2⟩ := is_list I hq
    have z := SeqAt.RcNeAt.lists_lengths (A := X.A) h1 h2 (by rw [e1, e2]; rfl) (by omega)
    exact z _ _ _ _ ⟨.bl true, H, I, rfl, k⟩

def rEqNil (K : PySem.W.Frag) : R2 := fun x y H Q => ∃ (p q : Addr) (xs : List V), x = .ref p ∧ y = .ref q ∧ SqL K H p xs ∧ SqL K H q [] ∧ Q (.bl xs.isEmpty) H
theorem op_eqNil {X : Cx} (hu : X.A.units + 64 < cLine) : OpR X (compareOp .Eq) (rEqNil X.K) := by
  intro pins s σ H x y v u Q I rx ry h
  obtain ⟨p, q, xs, rfl, rfl, hp, hq, k⟩ := h
  cases xs with
  | nil => exact op_eqS hu pins s σ H _ _ v u Q I rx ry ⟨p, q, [], rfl, rfl, hp, hq, (fun _ z => nomatch z), k⟩
  | cons a l =>
    obtain rfl : v = Value.ref p := rx
    obtain rfl : u = Value.ref q := ry
    obtain ⟨i1, e1, h1⟩ := is_list I hp
    obtain ⟨i2, e2, h2⟩ := is_list I hq
    have z := SeqAt.RcAt.lists_lengths (A := X.A) h1 h2 (by rw [e1, e2]; rfl) (by omega)
    exact z _ _ _ _ ⟨.bl false, H, I, rfl, k⟩

set_option pp.maxSteps 900
open NdefX (TabsN)
open Inf (Clo LClo cut mend cellsOf cut_at mend_at)
/-! ### the callables of the law: they count the pushes, and hold a pile -/
abbrev qH (x : Str) : Str := ("_law_counting" : Str) ++ ".<locals>." ++ x
abbrev FP (cl : List (Str × Addr)) (c : Addr) : NdefX.NF := NdefX.NF.of s_l_counting_pushes "_law_pushes" (qH "_law_pushes") cl c
def retLam : Stmt → Nat → Expr
  | .Return (some (.Call _ es _ _)) _, i => es.getD i (.Constant .none 0 ⟨0, 0, 0, 0⟩)
  | _, _ => .Constant .none 0 ⟨0, 0, 0, 0⟩
def LO (cl : List (Str × Addr)) (c : Addr) : Inf.LF := lamF (qH "<lambda>") cl c (retLam ((defBody s_l_counting).getD 1 (.Pass ⟨0, 0, 0, 0⟩)) 1)
def LA (cl : List (Str × Addr)) (c : Addr) : Inf.LF := lamF (qH "<lambda>") cl c (retLam ((defBody s_l_counting).getD 1 (.Pass ⟨0, 0, 0, 0⟩)) 2)
abbrev frN : List Str := ["_law_held"]
theorem cellN : ∀ y ∈ frN, (defScope s_l_counting).names.lookup y = some .cell := by decide +kernel
theorem scO : NdefX.NScope ["_law_held"] [] frN (LO [] 0).scope := NdefX.nscope_by (by decide +kernel)
theorem scA : NdefX.NScope ["_law_topic", "_law_held"] ["_law_topic"] frN (LA [] 0).scope := NdefX.nscope_by (by decide +kernel)
theorem clo_kp {cs : List Addr} {H H1 : Hp} {f : Addr} {F : NdefX.NF} {fr : List Str} {ws : List V} (h : Clo H f F fr ws) (k : Kp cs H H1) (m : Mu H cs) : Clo H1 f F fr ws :=
  ⟨kp_ext k m h.fn, kp_ext k m h.code, h.len, h.dom, h.inj, fun i y e => by
    obtain ⟨c, v, a, b, d⟩ := h.at_ i y e
    exact ⟨c, v, a, b, kp_ext k m d⟩⟩
theorem kp_mend {cs ds : List Addr} {H H1 : Hp} (k : Kp ds (cut cs H) H1) : Kp ds H (mend cs H H1) := ⟨fun b o e n => by
  by_cases hb : b ∈ cs
  · rw [Inf.mend_in hb]
    exact e
  · rw [Inf.mend_out hb]
    exact k.at_ _ _ ((Inf.cut_out hb).trans e) n⟩
def intN (i : Nat) : Int := (i : Int)
def pileA (A : Nat → Nat) (S : List Nat) : List V := (S.map fun i => intN (A i)).map V.int
theorem pileA_app {A : Nat → Nat} {a b : List Nat} : pileA A (a ++ b) = pileA A a ++ pileA A b := by
  unfold pileA
  rw [List.map_append, List.map_append]
theorem pileA_len {A : Nat → Nat} {a : List Nat} : (pileA A a).length = a.length := by
  unfold pileA
  rw [List.length_map, List.length_map]
theorem stC_len : ∀ {l : List Ca} {S : List Nat}, (stC S l).length ≤ S.length + l.length
  | [], S => Nat.le_refl _
  | .push i v :: l, S => by
    have h := stC_len (l := l) (S := S ++ [i])
    rw [List.length_append, List.length_singleton] at h
    show (stC (S ++ [i]) l).length ≤ _
    rw [List.length_cons]
    omega
  | .pop i :: l, S => by
    have h := stC_len (l := l) (S := S.dropLast)
    rw [List.length_dropLast] at h
    show (stC S.dropLast l).length ≤ _
    rw [List.length_cons]
    omega
  | .ask v :: l, S => by
    have h := stC_len (l := l) (S := S)
    show (stC S l).length ≤ _
    rw [List.length_cons]
    omega
def toW (F : Inf.LF) (sp : List (Option V) → Sp) (f : Addr) : Sp := fun vs H Q E => ∃ ws, LClo H f F frN ws ∧ sp (ws.map some) vs (cut (cellsOf F.nf frN) H) (fun v H1 => (∀ b, b ∈ cellsOf F.nf frN → H1 b = Option.none) → Q v (mend (cellsOf F.nf frN) H H1)) E
def spP1 : List (Option V) → Sp := fun ws vs H Q _ => ∃ (pc ph : Addr) (i : Nat) (kv : List (Key × V)) (xs : List V), ws = [some (.ref pc), some (.ref ph)] ∧ vs = [.int (i : Int)] ∧ H pc = some (.dK kv) ∧ H ph = some (.lst xs) ∧ (∀ v, valV kv (.inl (i : Int)) = some v → ∃ c : Int, v = .int c) ∧ kv.length < 2000000 ∧ xs.length < 2000000 ∧
  ∀ H', Kp [pc, ph] H H' → H' pc = some (.dK (kvS kv (.push i .non))) → H' ph = some (.lst (xs ++ [.int (i : Int)])) → Q .non H'
def spLO : List (Option V) → Sp := fun ws vs H Q _ => ∃ (pp : Addr) (m : V) (xs : List V), ws = [some (.ref pp)] ∧ vs = [] ∧ H pp = some (.lst (xs ++ [m])) ∧ ∀ H', Kp [pp] H H' → H' pp = some (.lst xs) → Q m H'
def spLA : List (Option V) → Sp := fun ws vs H Q _ => ∃ (pp : Addr) (v : V) (xs : List V), ws = [some (.ref pp)] ∧ vs = [v] ∧ H pp = some (.lst xs) ∧ Q (.int (xs.length : Int)) H
section
variable {P : Program} {w : World} {K : PySem.W.Frag} {mg : Str → Option Value} {base : Heap}
theorem nok_pushes (T : Txt K mg) {f c : Addr} {cl : List (Str × Addr)} : NdefX.NOk P w K mg base CX0 1 f (FP cl c) ["_law_one"] fr_l_counting_pushes spP1 := by
  refine NdefX.nok_of (F := FP cl c) sc_l_counting_pushes (fun _ _ _ us hl => match us, hl with | [_], _ => rfl) (fun ws vs H Q E h => ?_) (fun A outer s H vs ws Q E hr hf hc hl h => ?_)
  · obtain ⟨pc, ph, i, kv, xs, _, rfl, _⟩ := h
    rfl
  · obtain ⟨pc, ph, i, kv, xs, rfl, rfl, h1, h2, hcv, hl1, hl2, q⟩ := h
    refine ⟨_, (pss_cons (ps_dput (hu_of hr) (pv 1) (pv 0) (pe_op op_add (pe_dget2 (hu_of hr) (pv 1) (pv 0) pe_int ⟨rfl, rfl, rfl, rfl⟩) pe_int) rfl)
      (pss_one (ps_expr (pe_bm PySem.F.plainAttrs_list PySem.F.slot_list_append PySem.F.type_list_append mt_append (pv 2) (pa_cons (pv 0) pa_nil))))), ?_⟩
    have hv : ∃ cv : Int, DGet H pc (.int (i : Int)) (valV kv (.inl (i : Int))) ∧ ((valV kv (.inl (i : Int))).getD (.int 0)) = .int cv ∧ kvS kv (.push i .non) = putK kv (.inl (i : Int)) (.int (cv + 1)) := by
      cases e : valV kv (.inl (i : Int)) with
      | none => exact ⟨0, by rw [← e]; exact DGet.k (k := .inl (i : Int)) h1, rfl, by show putK _ _ (match valV kv (.inl (i : Int)) with | some (.int c) => .int (c + 1) | _ => .int 1) = _; rw [e]; rfl⟩
      | some v =>
        obtain ⟨cv, rfl⟩ := hcv v e
        exact ⟨cv, by rw [← e]; exact DGet.k (k := .inl (i : Int)) h1, rfl, by show putK _ _ (match valV kv (.inl (i : Int)) with | some (.int c) => .int (c + 1) | _ => .int 1) = _; rw [e]⟩
    obtain ⟨cv, g1, g2, g3⟩ := hv
    rw [g3] at q
    have nch : pc ≠ ph := neO h1 h2 (fun z => nomatch z)
    refine ⟨_, rfl, pc, rfl, .inl ⟨_, .inl h1⟩, _, rfl, _, g1, ?_⟩
    rw [g2]
    refine ⟨_, _, rfl, rfl, _, rfl, _, rfl, pc, _, rfl, DPut.k (k := .inl (i : Int)) h1 (by rw [sizeLine_eq]; omega), ?_⟩
    have e2 : (upd H pc (.dK (putK kv (.inl (i : Int)) (.int (cv + 1))))) ph = some (.lst xs) := by
      rw [upd_ne nch.symm]
      exact h2
    refine ⟨_, rfl, .inl ⟨rfl, _, sqlOf e2⟩, _, rfl, ph, _, _, rfl, rfl, e2, by rw [sizeLine_eq]; omega, ?_⟩
    exact q _ (kp_up (memB memA) (kp_up memA (kp_refl _ _))) (by rw [upd_ne nch]; exact upd_same) upd_same
theorem lamO (T : Txt K mg) {cl : List (Str × Addr)} {c f : Addr} : FnR P w K mg base CX0 2 f (toW (LO cl c) spLO f) := by
  refine Inf.lam_cloR (k := 1) (N := ["_law_held"]) (ps := []) scO (fun _ _ us hl => match us, hl with | [], _ => rfl) (fun ws vs H Q E h => ?_) (fun A outer s H vs ws Q E hr hl h => ?_)
  · obtain ⟨pp, m, xs, rfl, rfl, _⟩ := h
    rfl
  · obtain ⟨pp, m, xs, rfl, rfl, h1, q⟩ := h
    have hlast : (xs ++ [m])[(xs ++ [m]).length - 1]? = some m := by
      rw [List.length_append, List.length_singleton, Nat.add_sub_cancel, List.getElem?_append_right (Nat.le_refl _), Nat.sub_self]
      rfl
    refine ⟨_, pe_bm0 PySem.F.plainAttrs_list PySem.F.slot_list_pop PySem.F.type_list_pop mt_pop (pv 0), ?_⟩
    refine ⟨_, rfl, .inl ⟨rfl, _, sqlOf h1⟩, pp, _, _, rfl, rfl, h1, hlast, ?_⟩
    refine q _ (kp_up memA (kp_refl _ _)) ?_
    rw [upd_same, List.dropLast_concat]
theorem lamA (T : Txt K mg) {cl : List (Str × Addr)} {c f : Addr} : FnR P w K mg base CX0 2 f (toW (LA cl c) spLA f) := by
  refine Inf.lam_cloR (k := 1) (N := ["_law_topic", "_law_held"]) (ps := ["_law_topic"]) scA (fun _ _ us hl => match us, hl with | [_], _ => rfl) (fun ws vs H Q E h => ?_) (fun A outer s H vs ws Q E hr hl h => ?_)
  · obtain ⟨pp, v, xs, rfl, rfl, _⟩ := h
    rfl
  · obtain ⟨pp, v, xs, rfl, rfl, h1, q⟩ := h
    refine ⟨_, pe_callB call_len_seq (by rfl) T.z_len (by decide +kernel) (pa_cons (pv 1) pa_nil), ?_⟩
    exact ⟨_, rfl, pp, _, rfl, .inl (sqlOf h1), q⟩
/-- the three callables stand -/
def CN (clp clo cla : List (Str × Addr)) (fp cp fo co fa ca pc ph : Addr) (H : Hp) : Prop := Clo H fp (FP clp cp) fr_l_counting_pushes [.ref pc, .ref ph] ∧ LClo H fo (LO clo co) frN [.ref ph] ∧ LClo H fa (LA cla ca) frN [.ref ph]
theorem CN.kp {clp clo cla : List (Str × Addr)} {fp cp fo co fa ca pc ph : Addr} {cs : List Addr} {H H1 : Hp} (h : CN clp clo cla fp cp fo co fa ca pc ph H) (k : Kp cs H H1) (m : Mu H cs) : CN clp clo cla fp cp fo co fa ca pc ph H1 := ⟨clo_kp h.1 k m, lclo_kp h.2.1 k m, lclo_kp h.2.2 k m⟩
def RN (clp clo cla : List (Str × Addr)) (fp cp fo co fa ca pc ph : Addr) (tr : List Ca) (H : Hp) : Prop := CN clp clo cla fp cp fo co fa ca pc ph H ∧ H pc = some (.dK (KV tr)) ∧ H ph = some (.lst (pileA id (stC [] tr)))
def PMn : Nat → V → Prop := fun i v => v = .int (intN i)
def AnN : List Ca → V → V → Hp → Prop := fun tr _ u _ => u = .int (((stC [] tr).length : Nat) : Int)
theorem kv_int {tr : List Ca} : ∀ {k : Key} {v : V}, valV (KV tr) k = some v → ∃ c : Int, v = .int c := by
  have key : ∀ {l : List Ca} {kv : List (Key × V)}, (∀ (k : Key) (v : V), valV kv k = some v → ∃ c : Int, v = .int c) → ∀ (k : Key) (v : V), valV (l.foldl kvS kv) k = some v → ∃ c : Int, v = .int c := by
    intro l
    induction l with
    | nil => exact fun h => h
    | cons e l ih =>
      intro kv h
      refine ih (kv := kvS kv e) ?_
      cases e with
      | push i v0 =>
        intro k v hv
        have hv : valV (putK kv (.inl (i : Int)) (match valV kv (.inl (i : Int)) with | some (.int c) => .int (c + 1) | _ => .int 1)) k = some v := hv
        by_cases c : k = .inl (i : Int)
        · subst c
          rw [valV_put, if_pos rfl] at hv
          cases hv
          split
          · exact ⟨_, rfl⟩
          · exact ⟨_, rfl⟩
        · rw [valV_put, if_neg c] at hv
          exact h k v hv
      | pop i => exact h
      | ask v0 => exact h
  exact fun {k v} h => key (l := tr) (kv := []) (fun k v z => by cases z) k v h
theorem osN (T : Txt K mg) {clp clo cla : List (Str × Addr)} {fp cp fo co fa ca pc ph : Addr} : OS P w K mg base 2 [pc, ph] (.ref fp) (.ref fo) (.ref fa) PMn (fun _ => True) (RN clp clo cla fp cp fo co fa ca pc ph) AnN where
  rk := fun h k m n => ⟨h.1.kp k m, k.at_ _ _ h.2.1 (n pc memA), k.at_ _ _ h.2.2 (n ph (memB memA))⟩
  ak := fun h _ _ _ => h
  mu := fun h => mu_cons h.2.1 (fun _ z => nomatch z) (fun _ z => nomatch z) (mu_lst h.2.2 mu_nil)
  push := fun {tr i v H Q} hv ht h q => by
    have hv : v = .int (intN i) := hv
    subst hv
    have hl := stC_len (l := tr) (S := [])
    have h0 : ([] : List Nat).length = 0 := rfl
    have hk := kv_len (tr := tr)
    have m0 : Mu H [pc, ph] := mu_cons h.2.1 (fun _ z => nomatch z) (fun _ z => nomatch z) (mu_lst h.2.2 mu_nil)
    have g := h.1.1
    refine ⟨fp, _, _, rfl, g.fn, Inf.fnHO_of, (Inf.clo_fnR (nok_pushes T)).mono (by omega), _, g, pc, ph, i, KV tr, pileA id (stC [] tr), rfl, rfl, cut_at (g.out h.2.1 (fun _ z => nomatch z)) h.2.1, cut_at (g.out h.2.2 (fun _ z => nomatch z)) h.2.2, fun v z => kv_int z, by omega, by rw [pileA_len]; omega, fun H1 k1 e1 e2 gg => ?_⟩
    have kk := kp_mend k1
    refine q _ _ kk ⟨h.1.kp kk m0, ?_, ?_⟩
    · rw [mend_at gg e1, kv_app]
      rfl
    · rw [mend_at gg e2, stC_app]
      show _ = some (HO.lst (pileA id (stC [] tr ++ [i])))
      rw [pileA_app]
      rfl
  pop := fun {tr i S H Q} hs ht h q => by
    have h5 := h.2.2
    rw [hs, pileA_app] at h5
    have g := h.1.2.1
    refine ⟨fo, _, _, rfl, g.fn, Inf.lamHO, lamO T, [.ref ph], g, ph, .int (intN i), pileA id S, rfl, rfl, (Inf.cut_out (g.out h5 (fun _ z => nomatch z))).trans h5, fun H1 k1 e1 no => ?_⟩
    have k2 : Kp [ph] H (mend (cellsOf (LO clo co).nf frN) H H1) := mend_kp (fun b m => by obtain ⟨v, φ, e, _⟩ := g.cell m; exact ⟨φ, e⟩) k1 no
    have nph : pc ≠ ph := neO h.2.1 h5 (fun z => nomatch z)
    refine q _ _ (kp_more k2 (subCons (memB memA) subNil)) ⟨h.1.kp k2 (mu_lst h5 mu_nil), ?_, ?_⟩
    · rw [kv_app]
      exact k2.at_ _ _ h.2.1 (not_cons nph not_nil)
    · have ho : ph ∉ cellsOf (LO clo co).nf frN := fun m => by
        rw [no _ m] at e1
        cases e1
      rw [Inf.mend_out ho, e1, stC_app, hs]
      show _ = some (HO.lst (pileA id (S ++ [i]).dropLast))
      rw [List.dropLast_concat]
  ask := fun {tr v H Q} _ ht h q => by
    have g := h.1.2.2
    refine ⟨fa, _, _, rfl, g.fn, Inf.lamHO, lamA T, [.ref ph], g, ph, v, pileA id (stC [] tr), rfl, rfl, (Inf.cut_out (g.out h.2.2 (fun _ z => nomatch z))).trans h.2.2, fun no => ?_⟩
    have e0 : mend (cellsOf (LA cla ca).nf frN) H (cut (cellsOf (LA cla ca).nf frN) H) = H := Inf.mend_cut
    rw [e0, pileA_len]
    refine q _ _ (kp_refl _ _) ⟨h.1, ?_, ?_⟩ rfl (fun r z => by cases z)
    · rw [kv_app]
      exact h.2.1
    · rw [stC_app]
      exact h.2.2
end
end Ob

set_option Elab.async false
set_option linter.all false
set_option maxRecDepth 100000
set_option maxHeartbeats 1000000
namespace Ob
open PySem PySem.Spec PyProof.Rows L2
open LamX (Tabs TabB TabS ExtN)

set_option hygiene false in
local macro_rules
  | `(tactic| kp_flats) => `(tactic| first
    | assumption
    | exact upd_same
    | (apply atNew; assumption; kp_flats)
    | (apply atNe; (next => kbo_bools); kp_flats)
    | (apply atSame; assumption; kp_flats)
    | (apply atKp; assumption; (next => kaf_pre); kp_flats))
set_option hygiene false in
local macro_rules
  | `(tactic| kaf_pre) => `(tactic| first
    | assumption
    | exact not_nil
    | (apply not_cons; (next => kbo_bools); kaf_pre)
    | (apply not_app; (next => kaf_pre); kaf_pre))
set_option hygiene false in
local macro_rules
  | `(tactic| kbo_bools) => `(tactic| first
    | assumption
    | (apply Ne.symm; assumption)
    | (apply neN; assumption; kp_flats)
    | (apply neN'; assumption; kp_flats))
set_option hygiene false in
local macro_rules
  | `(tactic| o_reads) => `(tactic| first
    | with_reducible rfl
    | assumption
    | rfl
    | kp_flats
    | (show SqL _ _ _ _; first | assumption | (apply sqlOf; kp_flats) | (apply sqlSame; assumption; o_reads))
    | (show SqT _ _ _ _; first | assumption | (apply sqtOf; kp_flats) | (apply sqtAll; assumption) | (apply sqtSame; assumption; o_reads))
    | (show Cls _ _; first | exact T.cl_Calls | exact T.cl_Outer | exact T.cl_Timed)
    | (show NoAttr _ _ _; first | exact T.n_Calls_entries | exact T.n_Calls_running | exact T.n_Outer_calls | exact T.n_Outer_push_call | exact T.n_Outer_pop_call | exact T.n_Outer_ask_call | exact T.n_Outer_order | exact T.n_Outer_broken | exact T.n_Timed_outer | exact T.n_Timed_given | exact T.n_Timed_now | exact T.n_Timed_held | exact T.n_Timed_limits | exact T.n_Timed_ends)
    | (apply Or.inl; o_reads)
    | (apply Or.inr; o_reads)
    | (apply And.intro; (next => o_reads); o_reads)
    | (apply Exists.intro; o_reads)
    | exact Nat.le_of_ble_eq_true rfl
    | exact Nat.succ_ne_zero _
    | (show Fr _ _; kba_ints)
    | (show Same _ _; kd_subs)
    | (show Kp _ _ _; kxs_still)
    | (show (_ : Nat) ≤ _; simp only [List.length_append, List.length_map, List.length_cons, List.length_nil, List.length_take, List.length_drop, List.length_replicate, List.length_range, sizeLine_eq]; omega)
    | (show _ = none; apply Fr.h; kba_ints)
    | (show Bag _ _; first | assumption | (apply bag_putF; assumption; o_reads) | (apply bag_neF; (next => kbo_bools); o_reads) | (apply bag_kpR; assumption; (next => kaf_pre); o_reads))
    | omega
    | decide)
local macro_rules
  | `(tactic| o_readsAll) => `(tactic| repeat (first
    | (refine fun (pNew : Addr) (nNew : _ = none) => ?_; replace nNew := Fr.mk nNew)
    | (refine fun (xNew dNew : Addr) (nNew : _ = none) (mNew : _ = none) (eNew : dNew ≠ xNew) => ?_; replace nNew := Fr.mk nNew; replace mNew := Fr.mk mNew)
    | (apply And.intro; next => o_reads)
    | apply Exists.intro (α := V)
    | apply Exists.intro (α := Addr)
    | apply Exists.intro (α := Int)
    | apply Exists.intro (α := Bool)
    | apply Exists.intro (α := List V)
    | apply Exists.intro (α := List Nat)
    | apply Exists.intro (α := List (Str × V))
    | apply Exists.intro (α := List _)
    | apply Exists.intro (α := Str)
    | apply Exists.intro (α := HO)
    | apply Exists.intro (α := Sp)
    | apply Exists.intro (α := VK)))
set_option hygiene false in
local macro_rules
  | `(tactic| kba_ints) => `(tactic| first
    | assumption
    | (apply frUp; (first | assumption | (apply Ne.symm; assumption)); kba_ints)
    | (apply noneOf; assumption; intro oF eF; apply Exists.intro; kp_flats)
    | (apply frUp; (next => kbo_bools); kba_ints))
set_option hygiene false in
local macro_rules
  | `(tactic| kxs_still) => `(tactic| first
    | assumption
    | exact kp_refl _ _
    | (apply kp_newF; assumption; kxs_still)
    | (apply kp_new; assumption; kxs_still)
    | (apply kp_up; (next => o_fieldsN); kxs_still)
    | (apply kp_new; (next => kba_ints); kxs_still)
    | (apply kp_sameR; assumption; kxs_still)
    | (apply kp_transR; assumption; kxs_still)
    | (apply kp_freshR; assumption; (next => kaf_suf); kxs_still))
set_option hygiene false in
local macro_rules
  | `(tactic| kaf_suf) => `(tactic| first
    | assumption
    | exact subNil
    | (apply subCons; (first | (apply Or.inl; o_fieldsN) | (apply Or.inr; kba_ints)); kaf_suf)
    | (apply subApp; (next => kaf_suf); kaf_suf))
set_option hygiene false in
local macro_rules
  | `(tactic| o_fieldsN) => `(tactic| first
    | assumption
    | exact memA
    | (apply memB; o_fieldsN)
    | (apply memL; o_fieldsN)
    | (apply memR; o_fieldsN))
set_option hygiene false in
local macro_rules
  | `(tactic| kd_subs) => `(tactic| first
    | assumption
    | exact Same.refl _
    | (apply same_putF; assumption; kd_subs)
    | (apply same_putG; assumption; kd_subs)
    | (apply same_putF; (next => kba_ints); kd_subs)
    | (apply same_transR; assumption; kd_subs))

set_option pp.maxSteps 900
open NdefX (TabsN)
open Inf (Clo LClo cut mend cellsOf cut_at mend_at)
open NdefX LamX L2 Inf in
/-- a lambda that the def made, behind its return: its captured cells are told -/
theorem lclo_fin {cells : List (Str × Addr)} {names : List (Str × NameKind)} {N NL psL fr : List Str} {σ : L2.St} {H H' : Hp} {f : Addr} {F : Inf.LF} {ws : List V} (X : Inf.Fin cells names N σ H H') (S : NdefX.NScope NL psL fr F.scope) (hc : ∀ y, names.lookup y = some .cell → (cells.lookup y).isSome = true) (hcl : F.cl = cloFrom cells F.scope.names []) (hfree : ∀ y ∈ fr, names.lookup y = some .cell)
    (hf : H f = some (Inf.LamO f F)) (hco : H F.c = some (LamX.CodeO F.c F.qual)) (len : ws.length = fr.length) (at_ : ∀ (i : Nat) (y : Str), fr[i]? = some y → ∃ (j : Nat) (v : V), N[j]? = some y ∧ ws[i]? = some v ∧ σ[j]? = some (some v)) : LClo H' f F fr ws := by
  have hfr : ∀ y ∈ F.scope.names, y.2 = .free → ∃ c, cells.lookup y.1 = some c := fun y hy e => Option.isSome_iff_exists.mp (hc _ (hfree _ (S.free y hy e)))
  refine ⟨X.same _ _ hf, X.same _ _ hco, len, fun y c e => ?_, fun x y c e1 e2 => ?_, fun i y e => ?_⟩
  · rw [hcl] at e
    rcases cloFrom_mem (PySem.mem_of_lookup e) with h | ⟨h, _⟩
    · cases h
    · exact S.free _ h rfl
  · rw [hcl] at e1 e2
    exact X.inj x y c (clo_cm hfr e1) (clo_cm hfr e2)
  · have my : y ∈ fr := List.mem_of_getElem? e
    obtain ⟨c, hcc⟩ := Option.isSome_iff_exists.mp (hc y (hfree y my))
    obtain ⟨j, v, h1, h2, h3⟩ := at_ i y e
    exact ⟨c, v, by rw [hcl]; exact clo_has hfr (PySem.mem_of_lookup (S.frk y my)) hcc, h2, .of (X.at_ j y c v h1 (hfree y my) hcc h3)⟩
section
variable {P : Program} {w : World} {K : PySem.W.Frag} {mg : Str → Option Value} {base : Heap} {n : Nat}
def spCnt (T : Txt K mg) : Sp := fun vs H Q _ => ∃ (pc ph : Addr), vs = [.ref pc, .ref ph] ∧ H pc = some (.dK []) ∧ H ph = some (.lst []) ∧ TabsN (TT T) H ∧
  ∀ (t o c l lm en fp cp fo co fa ca : Addr) (clp clo cla : List (Str × Addr)) (H' : Hp), ExtN H H' → (∀ x, H' x = none → H x = none) → TabsN (TT T) H' → Fr H t → Fr H o → Fr H c → Fr H l → Fr H lm → Fr H en → CN clp clo cla fp cp fo co fa ca pc ph H' →
    (∀ (ex : List Addr) (R1 : List Ca → Hp → Prop), (∀ a ∈ ex, ∃ x, H a = some x ∧ ∀ ps, x ≠ .tbl ps) → R1 [] H' → TmAt T.C_Timed T.C_Outer T.C_Calls H' t o c l lm en (.ref fp) (.ref fo) (.ref fa) (pc :: ph :: ex) PMn R1 [] 0 0 [] (fun _ => .non) (fun _ => 0) (fun _ => 0)) → Q (.ref t) H'
theorem ok_cnt (T : Txt K mg) (TB : LamX.TabB base mg T.c_l_counting T.p_l_counting) : FnOk P w K mg base CX0 10 T.f_l_counting T.d_l_counting ["_law_counts", "_law_held"] (spCnt T) := by
  have G_Timed_init := ok_tmi (P := P) (w := w) (base := base) T
  refine T.F_l_counting.okC sc_l_counting (fun vs H Q E h => ?_) (fun A outer s H vs Q E hr h => ?_)
  · obtain ⟨pc, ph, rfl, _⟩ := h
    rfl
  · obtain ⟨pc, ph, rfl, hpc, hph, hT, q⟩ := h
    refine ⟨_, (Inf.psr_cons (NdefX.ps_ndefMS (st := s_l_counting_pushes) (i := 2) (T := TT T) (nm := nm_l_counting) (c := T.c_l_counting) (P := T.p_l_counting) (name := "_law_pushes") rfl TB rfl (hm_l_counting T) rfl (hu_l_counting T) (NdefX.ndef_free (sc := defScope s_l_counting) (nsc := C8.fnScope s_l_counting_pushes) (fr := ["_law_counts", "_law_held"]) (by decide +kernel)) rfl rfl rfl sc_l_counting.nd rfl (.inl rfl) (.inr rfl))
      (Inf.psr_ret (pe_make ⟨T.mk_Timed, T.m_Timed_init, T.t_Timed_init, T.kp_Timed⟩ G_Timed_init (hr.mono (by omega)) rfl T.gc_Timed T.b_Timed_init .nil pass0 (pa_cons (pv 2) (pa_cons (Inf.pe_lamP (T := TT T) (nm := nm_l_counting) (c := T.c_l_counting) (P := T.p_l_counting) TB rfl (hm_l_counting T) rfl (hu_l_counting T) rfl (NdefX.ndef_free (sc := defScope s_l_counting) (fr := ["_law_held"]) (by decide +kernel))) (pa_cons (Inf.pe_lamP (T := TT T) (nm := nm_l_counting) (c := T.c_l_counting) (P := T.p_l_counting) TB rfl (hm_l_counting T) rfl (hu_l_counting T) rfl (NdefX.ndef_free (sc := defScope s_l_counting) (fr := ["_law_held"]) (by decide +kernel))) pa_nil)))))), ?_⟩
    refine ⟨hT, fun fp cp H1 x1 y1 t1 nfp hfp hcp => ?_⟩
    refine ⟨_, rfl, t1, fun fo co H2 x2 y2 t2 nfo hfo hco => ⟨t2, fun fa ca H3 x3 y3 t3 nfa hfa hca => fun t dx nt ndx nxt => ?_⟩⟩
    refine ⟨t, dx, .ref fp, .ref fo, .ref fa, rfl, upd_same, fun o c l od lm en hd H4 fo4 fc4 fl4 fod4 flm4 fen4 fhd4 k4 n1 n2 n3 n4 n5 et eo ec el eod ehd elm een => ⟨rfl, fun H5 X5 => ?_⟩⟩
    have s34 : Same H3 (upd (upd H3 dx (.own t)) t (.ins T.C_Timed dx [])) := same_putG (Fr.mk nt) (same_newF (Fr.mk ndx))
    have up4 : ∀ {a : Addr} {x : HO}, H3 a = some x → H4 a = some x := fun e => k4.at_ _ _ (s34 _ _ e) (not_cons (ne_of_none e nt) not_nil)
    have up23 : ∀ {a : Addr} {x : HO}, H2 a = some x → (∀ ps, x ≠ .tbl ps) → H3 a = some x := fun e n => x3 _ _ e (tab_ne t2 (hm_l_counting T) e n)
    have up12 : ∀ {a : Addr} {x : HO}, H1 a = some x → (∀ ps, x ≠ .tbl ps) → H2 a = some x := fun e n => x2 _ _ e (tab_ne t1 (hm_l_counting T) e n)
    have eH3 : ∀ {a : Addr} {x : HO}, H a = some x → (∀ ps, x ≠ .tbl ps) → H3 a = some x := fun e n => up23 (up12 (x1 _ _ e n) n) n
    have eH : ∀ {a : Addr} {x : HO}, H a = some x → (∀ ps, x ≠ .tbl ps) → H5 a = some x := fun e n => X5.same _ _ (up4 (eH3 e n))
    have nH : ∀ {a : Addr}, H3 a = none → Fr H a := fun e => Fr.mk (y1 _ (y2 _ (y3 _ e)))
    have nH4 : ∀ {a : Addr}, Fr (upd (upd H3 dx (.own t)) t (.ins T.C_Timed dx [])) a → Fr H a := fun f => nH (s34.free f.h)
    have hfp4 := up4 (up23 (up12 hfp (fun ps => NdefX.fnO_ne ps)) (fun ps => NdefX.fnO_ne ps))
    have hcp4 := up4 (up23 (up12 hcp (fun ps => LamX.codeO_ne ps)) (fun ps => LamX.codeO_ne ps))
    have hfo4 := up4 (up23 hfo (fun _ z => nomatch z))
    have hco4 := up4 (up23 hco (fun _ z => nomatch z))
    have hfa4 := up4 hfa
    have hca4 := up4 hca
    have cells : ∀ y, (defScope s_l_counting).names.lookup y = some .cell → (((envOfC "_law_counting" (defScope s_l_counting) s.heap.objs.size T.f_l_counting (Value.ref T.c_l_counting)).cells).lookup y).isSome = true := fun y e => PySem.W.cellsFrom_some _ _ _ (.inl e)
    have g5 : Clo H5 fp (FP _ cp) fr_l_counting_pushes [.ref pc, .ref ph] := Inf.clo_fin (nn := (C8.fnScope s_l_counting_pushes).names) X5 cells rfl (by decide +kernel) (by decide +kernel) (by decide +kernel) hfp4 hcp4 rfl (fun i y e => by
      match i, e with
      | 0, e => exact ⟨0, _, e, rfl, rfl⟩
      | 1, e => exact ⟨1, _, e, rfl, rfl⟩)
    have go5 : LClo H5 fo (LO _ co) frN [.ref ph] := lclo_fin X5 scO cells rfl cellN hfo4 hco4 rfl (fun i y e => by
      match i, e with
      | 0, e => exact ⟨1, _, e, rfl, rfl⟩)
    have ga5 : LClo H5 fa (LA _ ca) frN [.ref ph] := lclo_fin X5 scA cells rfl cellN hfa4 hca4 rfl (fun i y e => by
      match i, e with
      | 0, e => exact ⟨1, _, e, rfl, rfl⟩)
    have nch : pc ≠ ph := neO hpc hph (fun z => nomatch z)
    have S5 : ∀ {a : Addr} {x : HO}, H4 a = some x → H5 a = some x := fun e => X5.same _ _ e
    have hpc3 := eH3 hpc (fun _ z => nomatch z)
    have hph3 := eH3 hph (fun _ z => nomatch z)
    have npl : ∀ {a x : Addr} {y : HO}, H3 a = some y → Fr (upd (upd H3 dx (.own t)) t (.ins T.C_Timed dx [])) x → a ≠ x := fun e f => ne_of_none (s34 _ _ e) f.h
    obtain ⟨d1, eo⟩ := eo
    obtain ⟨d2, ec⟩ := ec
    have nto : t ≠ o := ne_of_none upd_same fo4.h
    have ntc : t ≠ c := ne_of_none upd_same fc4.h
    have epc5 := eH hpc (fun _ z => nomatch z)
    have eph5 := eH hph (fun _ z => nomatch z)
    have tb5 : TabsN (TT T) H5 := fun p hp => (t3.ext fun a x e => X5.same _ _ (up4 e)) p hp
    refine q t o c l lm en fp cp fo co fa ca _ _ _ H5 (fun a x e n => eH e n) (fun x e => ?_) tb5 (nH nt) (nH4 fo4) (nH4 fc4) (nH4 fl4) (nH4 flm4) (nH4 fen4) ⟨g5, go5, ga5⟩ fun ex R1 hex r1 => ?_
    · have e4 := X5.gone _ e
      refine y1 _ (y2 _ (y3 _ ?_))
      cases e3 : H3 x with
      | none => rfl
      | some u =>
        rw [up4 e3] at e4
        cases e4
    · have hall : ∀ a ∈ pc :: ph :: ex, ∃ x, H3 a = some x := fun a ma => by
        rcases List.mem_cons.mp ma with rfl | ma
        · exact ⟨_, hpc3⟩
        · rcases List.mem_cons.mp ma with rfl | ma
          · exact ⟨_, hph3⟩
          · obtain ⟨x, e, n⟩ := hex a ma
            exact ⟨x, eH3 e n⟩
      have far : ∀ {x : Addr}, Fr (upd (upd H3 dx (.own t)) t (.ins T.C_Timed dx [])) x → ∀ a ∈ pc :: ph :: ex, a ≠ x := fun f a ma => by
        obtain ⟨y, e⟩ := hall a ma
        exact npl e f
      refine ⟨⟨dx, hd, S5 et, S5 ehd, ?_⟩, ⟨od, ⟨d1, S5 eo⟩, ⟨d2, S5 ec⟩, ⟨[], S5 el, LogC.nil⟩, S5 eod, r1, n1, n5, fun a ma => ⟨far fo4 a ma, far fc4 a ma, far fl4 a ma, far fod4 a ma⟩⟩, S5 elm, S5 een, ⟨.nil, .nil, .nil, (fun _ z => nomatch z), (fun _ z => nomatch z)⟩, (fun _ z => nomatch z), ⟨nto, ntc⟩, n2, fun a ma => ?_⟩
      · exact not_cons (neO ehd et (fun z => nomatch z)) (not_cons n3 (not_cons n4 (not_cons (neO ehd eo (fun z => nomatch z)) (not_cons (neO ehd ec (fun z => nomatch z)) (not_cons (neO ehd el (fun z => nomatch z)) fun m => far fhd4 _ m rfl)))))
      · obtain ⟨y, e⟩ := hall a ma
        exact ⟨ne_of_none e nt, far flm4 a ma, far fen4 a ma⟩
end
end Ob

set_option Elab.async false
set_option linter.all false
set_option maxRecDepth 100000
set_option maxHeartbeats 1000000
namespace Ob
open PySem PySem.Spec PyProof.Rows L2
open LamX (Tabs TabB TabS ExtN)

set_option hygiene false in
local macro_rules
  | `(tactic| kp_flats) => `(tactic| first
    | assumption
    | exact upd_same
    | (apply atNew; assumption; kp_flats)
    | (apply atNe; (next => kbo_bools); kp_flats)
    | (apply atSame; assumption; kp_flats)
    | (apply atKp; assumption; (next => kaf_pre); kp_flats))
set_option hygiene false in
local macro_rules
  | `(tactic| kaf_pre) => `(tactic| first
    | assumption
    | exact not_nil
    | (apply not_cons; (next => kbo_bools); kaf_pre)
    | (apply not_app; (next => kaf_pre); kaf_pre))
set_option hygiene false in
local macro_rules
  | `(tactic| kbo_bools) => `(tactic| first
    | assumption
    | (apply Ne.symm; assumption)
    | (apply neN; assumption; kp_flats)
    | (apply neN'; assumption; kp_flats))
set_option hygiene false in
local macro_rules
  | `(tactic| o_reads) => `(tactic| first
    | with_reducible rfl
    | assumption
    | rfl
    | kp_flats
    | (show SqL _ _ _ _; first | assumption | (apply sqlOf; kp_flats) | (apply sqlSame; assumption; o_reads))
    | (show SqT _ _ _ _; first | assumption | (apply sqtOf; kp_flats) | (apply sqtAll; assumption) | (apply sqtSame; assumption; o_reads))
    | (show Cls _ _; first | exact T.cl_Calls | exact T.cl_Outer | exact T.cl_Timed)
    | (show NoAttr _ _ _; first | exact T.n_Calls_entries | exact T.n_Calls_running | exact T.n_Outer_calls | exact T.n_Outer_push_call | exact T.n_Outer_pop_call | exact T.n_Outer_ask_call | exact T.n_Outer_order | exact T.n_Outer_broken | exact T.n_Timed_outer | exact T.n_Timed_given | exact T.n_Timed_now | exact T.n_Timed_held | exact T.n_Timed_limits | exact T.n_Timed_ends)
    | (apply Or.inl; o_reads)
    | (apply Or.inr; o_reads)
    | (apply And.intro; (next => o_reads); o_reads)
    | (apply Exists.intro; o_reads)
    | exact Nat.le_of_ble_eq_true rfl
    | exact Nat.succ_ne_zero _
    | (show Fr _ _; kba_ints)
    | (show Same _ _; kd_subs)
    | (show Kp _ _ _; kxs_still)
    | (show (_ : Nat) ≤ _; simp only [List.length_append, List.length_map, List.length_cons, List.length_nil, List.length_take, List.length_drop, List.length_replicate, List.length_range, sizeLine_eq]; omega)
    | (show _ = none; apply Fr.h; kba_ints)
    | (show Bag _ _; first | assumption | (apply bag_putF; assumption; o_reads) | (apply bag_neF; (next => kbo_bools); o_reads) | (apply bag_kpR; assumption; (next => kaf_pre); o_reads))
    | omega
    | decide)
local macro_rules
  | `(tactic| o_readsAll) => `(tactic| repeat (first
    | (refine fun (pNew : Addr) (nNew : _ = none) => ?_; replace nNew := Fr.mk nNew)
    | (refine fun (xNew dNew : Addr) (nNew : _ = none) (mNew : _ = none) (eNew : dNew ≠ xNew) => ?_; replace nNew := Fr.mk nNew; replace mNew := Fr.mk mNew)
    | (apply And.intro; next => o_reads)
    | apply Exists.intro (α := V)
    | apply Exists.intro (α := Addr)
    | apply Exists.intro (α := Int)
    | apply Exists.intro (α := Bool)
    | apply Exists.intro (α := List V)
    | apply Exists.intro (α := List Nat)
    | apply Exists.intro (α := List (Str × V))
    | apply Exists.intro (α := List _)
    | apply Exists.intro (α := Str)
    | apply Exists.intro (α := HO)
    | apply Exists.intro (α := Sp)
    | apply Exists.intro (α := VK)))
set_option hygiene false in
local macro_rules
  | `(tactic| kba_ints) => `(tactic| first
    | assumption
    | (apply frUp; (first | assumption | (apply Ne.symm; assumption)); kba_ints)
    | (apply noneOf; assumption; intro oF eF; apply Exists.intro; kp_flats)
    | (apply frUp; (next => kbo_bools); kba_ints))
set_option hygiene false in
local macro_rules
  | `(tactic| kxs_still) => `(tactic| first
    | assumption
    | exact kp_refl _ _
    | (apply kp_newF; assumption; kxs_still)
    | (apply kp_new; assumption; kxs_still)
    | (apply kp_up; (next => o_fieldsN); kxs_still)
    | (apply kp_new; (next => kba_ints); kxs_still)
    | (apply kp_sameR; assumption; kxs_still)
    | (apply kp_transR; assumption; kxs_still)
    | (apply kp_freshR; assumption; (next => kaf_suf); kxs_still))
set_option hygiene false in
local macro_rules
  | `(tactic| kaf_suf) => `(tactic| first
    | assumption
    | exact subNil
    | (apply subCons; (first | (apply Or.inl; o_fieldsN) | (apply Or.inr; kba_ints)); kaf_suf)
    | (apply subApp; (next => kaf_suf); kaf_suf))
set_option hygiene false in
local macro_rules
  | `(tactic| o_fieldsN) => `(tactic| first
    | assumption
    | exact memA
    | (apply memB; o_fieldsN)
    | (apply memL; o_fieldsN)
    | (apply memR; o_fieldsN))
set_option hygiene false in
local macro_rules
  | `(tactic| kd_subs) => `(tactic| first
    | assumption
    | exact Same.refl _
    | (apply same_putF; assumption; kd_subs)
    | (apply same_putG; assumption; kd_subs)
    | (apply same_putF; (next => kba_ints); kd_subs)
    | (apply same_transR; assumption; kd_subs))

set_option pp.maxSteps 900
def isMv : Ca → Bool
  | .ask _ => false
  | _ => true
section
variable {P : Program} {w : World} {K : PySem.W.Frag} {mg : Str → Option Value} {base : Heap} {n : Nat}
def spMvs (CT C CC : Addr) : Sp := fun vs H Q _ => ∃ (t o c l lm en : Addr) (fp fo fa : V) (uv : List Addr) (PM : Nat → V → Prop) (R : List Ca → Hp → Prop) (tr : List Ca) (given now : Nat) (M : List Nat) (mb : Nat → V) (lim ends : Nat → Nat), vs = [.ref t] ∧ TmAt CT C CC H t o c l lm en fp fo fa uv PM R tr given now M mb lim ends ∧ tr.length < 1000000 ∧
  ∀ r zs H', Same H H' → Fr H r → H' r = some (.lst zs) → LogC H' zs (tr.filter isMv) → Q (.ref r) H'
theorem ent_get (e : Ca) : ∃ wd : Str, e.ent[0]? = some (.str wd) ∧ (!decide (V.str wd = V.str "ask")) = isMv e := by
  cases e with
  | push i v => exact ⟨"push", rfl, by show (!decide (V.str "push" = V.str "ask")) = true; decide +kernel⟩
  | pop i => exact ⟨"pop", rfl, by show (!decide (V.str "pop" = V.str "ask")) = true; decide +kernel⟩
  | ask v => exact ⟨"ask", rfl, by show (!decide (V.str "ask" = V.str "ask")) = false; decide +kernel⟩
theorem ok_mvs (T : Txt K mg) : FnOk P w K mg base CX0 3 T.f_l_moves T.d_l_moves ["_law_house"] (spMvs T.C_Timed T.C_Outer T.C_Calls) := by
  have G_Timed_log := ok_tl (P := P) (w := w) (base := base) T
  refine T.F_l_moves.ok sc_l_moves (fun vs H Q E h => ?_) (fun cdv A outer s H vs Q E hr h => ?_)
  · obtain ⟨t, o, c, l, lm, en, fp, fo, fa, uv, PM, R, tr, given, now, M, mb, lim, ends, rfl, _⟩ := h
    rfl
  · obtain ⟨t, o, c, l, lm, en, fp, fo, fa, uv, PM, R, tr, given, now, M, mb, lim, ends, rfl, hT, hl, q⟩ := h
    refine ⟨_, (pss_one (ps_ret (pe_lc (own := [("_law_entry", 1)]) (g := gName 1)  rfl sc_l_moves.nd (pi_list (pe_meth0 (pv 0) T.cl_Timed ⟨T.m_Timed_log, T.t_Timed_log, T.k_Timed_log⟩ G_Timed_log (hr.mono (by omega)) T.b_Timed_log .nil pass0)) (blkOk_by (N := n_l_moves) (sc := defScope s_l_moves) (by decide +kernel)) (fun _ _ _ _ _ => (pg_name (i := 1) sc_l_moves.nd rfl (.inl rfl))) (fun _ _ _ _ _ => (pts_one (pt_cmpR op_ne (pe_ix (r := rIxT K) ix_tup (pv 1) pe_int (fun _ _ => rfl)) pe_str (nomark _)))) (fun _ _ _ _ _ => (pv 1))))), ?_⟩
    obtain ⟨dx, hd, ht, _⟩ := hT.ht
    refine ⟨_, rfl, t, dx, _, rfl, ht, rfl, t, o, c, l, lm, en, fp, fo, fa, uv, PM, R, tr, given, now, M, mb, lim, ends, rfl, hT, fun r es H4 s4 fr4 er4 lg4 => ⟨r, rfl, ⟨_, sqlOf er4⟩, fun D nD => ?_⟩⟩
    have fD := Fr.mk nD
    have hel := lg4.len
    refine lc_it (walk_list (K := K) (a := r) (xs := es)) (fun q H' => Same H4 H' ∧ ∃ zs, H' D = some (.lst zs) ∧ LogC H' zs ((tr.take q).filter isMv)) ⟨same_newF fD, [], upd_same, LogC.nil⟩ (fun q H' _ z => sqlOf (z.1 _ _ er4)) ?_ ?_
    · rintro q2 x H16z H16 hq2 ⟨s16, zs, eD2, lz⟩ ⟨rfl, hx2⟩
      have hql : q2 < tr.length := by rw [← hel]; exact hq2
      have hee : tr[q2]? = some (tr[q2]'hql) := List.getElem?_eq_getElem hql
      generalize tr[q2]'hql = e at hee
      obtain ⟨p2, rfl, hp2⟩ := lg4.at_ q2 x e hx2 hee
      have hp2 := s16 _ _ hp2
      obtain ⟨wd, hw, hb⟩ := ent_get e
      have hzl : zs.length ≤ q2 := by
        rw [lz.len]
        exact Nat.le_trans (List.length_filter_le _ _) (List.length_take_le _ _)
      have hstep : (tr.take (q2 + 1)).filter isMv = (tr.take q2).filter isMv ++ (if isMv e = true then [e] else []) := by
        rw [List.take_succ, hee, List.filter_append]
        congr 1
        show ([e]).filter isMv = _
        rw [List.filter_cons, List.filter_nil]
      refine pGN ⟨rfl, ⟨_, rfl, p2, _, 0, _, rfl, rfl, sqtOf hp2, atI_nat (j := 0) hw, rfl, _, rfl, ?_⟩⟩
      rw [hb]
      by_cases ce : isMv e = true
      · refine ifT ce ⟨_, rfl, zs, eD2, by rw [sizeLine_eq]; omega, same_putG fD s16, _, upd_same, ?_⟩
        rw [hstep, if_pos ce]
        exact (lz.kp (kp_up memA (kp_refl [D] _)) (mu_lst eD2 mu_nil)).add (kp_tup (kp_up memA (kp_refl [D] _)) (mu_lst eD2 mu_nil) hp2)
      · refine ifF (by cases h : isMv e; rfl; exact absurd h ce) ⟨s16, zs, eD2, ?_⟩
        rw [hstep, if_neg ce, List.append_nil]
        exact lz
    · rintro H16 ⟨s16, zs, eD2, lz⟩
      rw [List.take_of_length_le (by rw [hel]; exact Nat.le_refl _)] at lz
      exact q D zs H16 (s4.trans s16) (Fr.mk (s4.free nD)) eD2 lz
end
end Ob

set_option Elab.async false
set_option linter.all false
set_option maxRecDepth 100000
set_option maxHeartbeats 1000000
namespace Ob
open PySem PySem.Spec PyProof.Rows L2
open LamX (Tabs TabB TabS ExtN)

set_option hygiene false in
local macro_rules
  | `(tactic| kp_flats) => `(tactic| first
    | assumption
    | exact upd_same
    | (apply atNew; assumption; kp_flats)
    | (apply atNe; (next => kbo_bools); kp_flats)
    | (apply atSame; assumption; kp_flats)
    | (apply atKp; assumption; (next => kaf_pre); kp_flats))
set_option hygiene false in
local macro_rules
  | `(tactic| kaf_pre) => `(tactic| first
    | assumption
    | exact not_nil
    | (apply not_cons; (next => kbo_bools); kaf_pre)
    | (apply not_app; (next => kaf_pre); kaf_pre))
set_option hygiene false in
local macro_rules
  | `(tactic| kbo_bools) => `(tactic| first
    | assumption
    | (apply Ne.symm; assumption)
    | (apply neN; assumption; kp_flats)
    | (apply neN'; assumption; kp_flats))
set_option hygiene false in
local macro_rules
  | `(tactic| o_reads) => `(tactic| first
    | with_reducible rfl
    | assumption
    | rfl
    | kp_flats
    | (show SqL _ _ _ _; first | assumption | (apply sqlOf; kp_flats) | (apply sqlSame; assumption; o_reads))
    | (show SqT _ _ _ _; first | assumption | (apply sqtOf; kp_flats) | (apply sqtAll; assumption) | (apply sqtSame; assumption; o_reads))
    | (show Cls _ _; first | exact T.cl_Calls | exact T.cl_Outer | exact T.cl_Timed)
    | (show NoAttr _ _ _; first | exact T.n_Calls_entries | exact T.n_Calls_running | exact T.n_Outer_calls | exact T.n_Outer_push_call | exact T.n_Outer_pop_call | exact T.n_Outer_ask_call | exact T.n_Outer_order | exact T.n_Outer_broken | exact T.n_Timed_outer | exact T.n_Timed_given | exact T.n_Timed_now | exact T.n_Timed_held | exact T.n_Timed_limits | exact T.n_Timed_ends)
    | (apply Or.inl; o_reads)
    | (apply Or.inr; o_reads)
    | (apply And.intro; (next => o_reads); o_reads)
    | (apply Exists.intro; o_reads)
    | exact Nat.le_of_ble_eq_true rfl
    | exact Nat.succ_ne_zero _
    | (show Fr _ _; kba_ints)
    | (show Same _ _; kd_subs)
    | (show Kp _ _ _; kxs_still)
    | (show (_ : Nat) ≤ _; simp only [List.length_append, List.length_map, List.length_cons, List.length_nil, List.length_take, List.length_drop, List.length_replicate, List.length_range, sizeLine_eq]; omega)
    | (show _ = none; apply Fr.h; kba_ints)
    | (show Bag _ _; first | assumption | (apply bag_putF; assumption; o_reads) | (apply bag_neF; (next => kbo_bools); o_reads) | (apply bag_kpR; assumption; (next => kaf_pre); o_reads))
    | omega
    | decide)
local macro_rules
  | `(tactic| o_readsAll) => `(tactic| repeat (first
    | (refine fun (pNew : Addr) (nNew : _ = none) => ?_; replace nNew := Fr.mk nNew)
    | (refine fun (xNew dNew : Addr) (nNew : _ = none) (mNew : _ = none) (eNew : dNew ≠ xNew) => ?_; replace nNew := Fr.mk nNew; replace mNew := Fr.mk mNew)
    | (apply And.intro; next => o_reads)
    | apply Exists.intro (α := V)
    | apply Exists.intro (α := Addr)
    | apply Exists.intro (α := Int)
    | apply Exists.intro (α := Bool)
    | apply Exists.intro (α := List V)
    | apply Exists.intro (α := List Nat)
    | apply Exists.intro (α := List (Str × V))
    | apply Exists.intro (α := List _)
    | apply Exists.intro (α := Str)
    | apply Exists.intro (α := HO)
    | apply Exists.intro (α := Sp)
    | apply Exists.intro (α := VK)))
set_option hygiene false in
local macro_rules
  | `(tactic| kba_ints) => `(tactic| first
    | assumption
    | (apply frUp; (first | assumption | (apply Ne.symm; assumption)); kba_ints)
    | (apply noneOf; assumption; intro oF eF; apply Exists.intro; kp_flats)
    | (apply frUp; (next => kbo_bools); kba_ints))
set_option hygiene false in
local macro_rules
  | `(tactic| kxs_still) => `(tactic| first
    | assumption
    | exact kp_refl _ _
    | (apply kp_newF; assumption; kxs_still)
    | (apply kp_new; assumption; kxs_still)
    | (apply kp_up; (next => o_fieldsN); kxs_still)
    | (apply kp_new; (next => kba_ints); kxs_still)
    | (apply kp_sameR; assumption; kxs_still)
    | (apply kp_transR; assumption; kxs_still)
    | (apply kp_freshR; assumption; (next => kaf_suf); kxs_still))
set_option hygiene false in
local macro_rules
  | `(tactic| kaf_suf) => `(tactic| first
    | assumption
    | exact subNil
    | (apply subCons; (first | (apply Or.inl; o_fieldsN) | (apply Or.inr; kba_ints)); kaf_suf)
    | (apply subApp; (next => kaf_suf); kaf_suf))
set_option hygiene false in
local macro_rules
  | `(tactic| o_fieldsN) => `(tactic| first
    | assumption
    | exact memA
    | (apply memB; o_fieldsN)
    | (apply memL; o_fieldsN)
    | (apply memR; o_fieldsN))
set_option hygiene false in
local macro_rules
  | `(tactic| kd_subs) => `(tactic| first
    | assumption
    | exact Same.refl _
    | (apply same_putF; assumption; kd_subs)
    | (apply same_putG; assumption; kd_subs)
    | (apply same_putF; (next => kba_ints); kd_subs)
    | (apply same_transR; assumption; kd_subs))

set_option pp.maxSteps 900
def rV (ts : Nat → Addr) (i : Nat) : V := .ref (ts i)
theorem len_range {n : Nat} {f : Nat → V} : (dM (List.range n) f).length = n := by
  rw [dM_len, List.length_range]
section
variable {P : Program} {w : World} {K : PySem.W.Frag} {mg : Str → Option Value} {base : Heap} {n : Nat}
def spCR : Sp := fun vs H Q _ => ∃ (pc sp : Addr) (n : Nat) (cn lo hi : Nat → Nat) (ts : Nat → Addr), vs = [.ref pc, .ref sp] ∧ pc ≠ sp ∧ H pc = some (.dK (dM (List.range n) (iV cn))) ∧ H sp = some (.dK (dM (List.range n) (rV ts))) ∧ n ≤ 300 ∧
  (∀ i, i < n → H (ts i) = some (.tup [.int (lo i : Int), .int (hi i : Int)]) ∧ lo i < hi i ∧ hi i ≤ 1000000000 ∧ cn i = 1 + pcs (lo i + 1) (hi i)) ∧ ∀ H', Same H H' → Q (.bl true) H'
theorem ok_cr (T : Txt K mg) : FnOk P w K mg base CX0 8 T.f_l_counts_right T.d_l_counts_right ["_law_counts", "_law_spans"] spCR := by
  have G_pieces := ok_pieces (P := P) (w := w) (base := base) T
  refine T.F_l_counts_right.ok sc_l_counts_right (fun vs H Q E h => ?_) (fun cdv A outer s H vs Q E hr h => ?_)
  · obtain ⟨pc, sp, n, cn, lo, hi, ts, rfl, _⟩ := h
    rfl
  · obtain ⟨pc, sp, n, cn, lo, hi, ts, rfl, nps, hpc, hsp, hn, hts, q⟩ := h
    refine ⟨_, (pss_cons (ps_lock (ps_for PassesOwn.never rfl (pi_keys (pv 1)) (pg_name (i := 2) sc_l_counts_right.nd rfl (.inl rfl)) (pss_cons (ps_asg (pe_dget (hu_of hr) (pv 1) (pv 2) (fun _ _ => rfl)) (pg_tup (by rfl) (pgs_cons (pg_name (i := 3) sc_l_counts_right.nd rfl (.inl rfl)) (pgs_cons (pg_name (i := 4) sc_l_counts_right.nd rfl (.inl rfl)) pgs_nil))))
        (pss_cons (ps_set (i := 5) sc_l_counts_right.nd rfl (.inl rfl) (pe_op op_sub (pe_bits (pe_op op_sub (pv 4) (pv 3))) pe_int))
        (pss_one (ps_if (PW.pt (pw_or (pt_cmpR op_ne (pe_dget (hu_of hr) (pv 0) (pv 2) (fun _ _ => rfl)) (pe_op op_add pe_int (pe_callB call_len_seq (by rfl) T.z_len (by decide +kernel) (pa_cons (pe_call G_pieces (hr.mono (by omega)) rfl T.g_pieces T.F_pieces.kp T.b_pieces .nil pass0 (pa_cons (pe_op op_add (pv 3) pe_int) (pa_cons (pv 4) pa_nil))) pa_nil))) (nomark _)) (pw_or1 (pt_cmpR op_gt (pe_dget (hu_of hr) (pv 0) (pv 2) (fun _ _ => rfl)) (pe_op op_add pe_int (pe_op op_mul pe_int (pv 5))) (nomark _))))) (pss_one (ps_ret pe_bl)) pss_nil))))))
      (pss_one (ps_ret (pe_cmpR op_eq (pe_callB call_lenD (by rfl) T.z_len (by decide +kernel) (pa_cons (pv 0) pa_nil)) (pe_callB call_lenD (by rfl) T.z_len (by decide +kernel) (pa_cons (pv 1) pa_nil)) (nomark _))))), ?_⟩
    refine ⟨sp, .dK (dM (List.range n) (rV ts)), hsp, True.intro, fun od => ?_⟩
    have ez : upd H sp (.frz od (.dK (dM (List.range n) (rV ts)))) sp = some (.frz od (.dK (dM (List.range n) (rV ts)))) := upd_same
    have up : ∀ {a : Addr} {x : HO}, H a = some x → a ≠ sp → upd H sp (.frz od (.dK (dM (List.range n) (rV ts)))) a = some x := fun e ne => by
      rw [upd_ne ne]
      exact e
    have hpcz := up hpc nps
    refine ⟨_, rfl, sp, od, rfl, .inl ⟨_, ez, ?_⟩⟩
    refine for_it walk_keys (fun i σ H' => ∃ y2 y3 y4 y5, σ = [some (.ref pc), some (.ref sp), y2, y3, y4, y5] ∧ Same (upd H sp (.frz od (.dK (dM (List.range n) (rV ts))))) H') ⟨_, _, _, _, rfl, Same.refl _⟩ (fun i σ H' _ ⟨_, _, _, _, _, z⟩ => z _ _ ez) ?_ ?_
    · rintro i x σ H1z H1 hi' ⟨y2, y3, y4, y5, rfl, s1⟩ ⟨rfl, k, v, hkv, rfl⟩
      rw [len_range] at hi'
      obtain ⟨j, hj, rfl, rfl⟩ := dM_at hkv
      rw [List.getElem?_range hi'] at hj
      cases hj
      have hm : i ∈ List.range n := List.mem_range.mpr hi'
      obtain ⟨ht, hlt, hle, hcn⟩ := hts i hi'
      have ht1 := s1 _ _ (up ht (neO ht hsp (fun z => nomatch z)))
      have g1 : DGet H1 sp (.int (i : Int)) (some (rV ts i)) := .inl ⟨_, .inl (i : Int), .inr ⟨od, s1 _ _ ez⟩, rfl, (dM_val hm).symm⟩
      have g0 : DGet H1 pc (.int (i : Int)) (some (iV cn i)) := by
        rw [← dM_val (f := iV cn) hm]
        exact DGet.k (k := .inl (i : Int)) (s1 _ _ hpcz)
      refine pGN ?_
      refine ⟨_, rfl, _, rfl, sp, _, rfl, g1, ts i, _, rfl, sqtOf ht1, rfl, _, _, rfl, _, _, rfl, rfl, ?_⟩
      simp only [List.set_cons_succ, List.set_cons_zero]
      have hb : ((Builtin.Int.intBits ((hi i : Int) - (lo i : Int)) : Nat) : Int) - 1 = (((hi i - lo i).log2 : Nat) : Int) := by
        rw [show (hi i : Int) - (lo i : Int) = ((hi i - lo i : Nat) : Int) by omega, bits_nat (by omega)]
        omega
      refine ⟨_, rfl, _, rfl, _, _, rfl, rfl, _, rfl, _, _, rfl, rfl, pGN ?_⟩
      simp only [List.set_cons_succ, List.set_cons_zero]
      rw [hb]
      refine ⟨_, rfl, _, rfl, pc, _, rfl, g0, _, rfl, _, _, rfl, rfl, _, rfl, lo i + 1, hi i - (lo i + 1), ?_, ?_, fun pp H2 np s2 pl => ?_⟩
      · rw [show lo i + 1 + (hi i - (lo i + 1)) = hi i by omega]
        rfl
      · rw [show lo i + 1 + (hi i - (lo i + 1)) = hi i by omega]
        exact Nat.le_trans hle (by decide)
      obtain ⟨tt, ett, htt, _⟩ := pl
      have htt : tt.length = pcs (lo i + 1) (hi i) := htt
      have g02 : DGet H2 pc (.int (i : Int)) (some (iV cn i)) := by
        rw [← dM_val (f := iV cn) hm]
        exact DGet.k (k := .inl (i : Int)) (s2 _ _ (s1 _ _ hpcz))
      have hlog := pc_log (u := 201) (a := lo i + 1) (r := hi i - (lo i + 1))
      rw [show hi i - (lo i + 1) + 1 = hi i - lo i by omega] at hlog
      have hlog : pcs (lo i + 1) (hi i) ≤ 2 * (hi i - lo i).log2 := hlog
      have e0 : iV cn i = V.int (1 + ((tt.map V.ref).length : Int)) := by
        unfold iV
        rw [List.length_map, htt, hcn, Int.natCast_add]
        rfl
      refine ⟨pp, _, rfl, .inl (sqlOf ett), _, _, rfl, rfl, rfl, _, rfl, ifF ?_ ?_⟩
      · rw [decide_eq_true e0]
        rfl
      refine ⟨_, rfl, _, rfl, pc, _, rfl, g02, _, rfl, _, _, rfl, rfl, .inl ⟨by decide, by decide⟩, _, _, rfl, rfl, _, _, rfl, rfl, _, rfl, ifF (decide_eq_false ?_) ?_⟩
      · rw [hcn]
        omega
      · exact ⟨_, _, _, _, rfl, s1.trans s2⟩
    · rintro σ H1 ⟨y2, y3, y4, y5, rfl, s1⟩
      refine ⟨s1 _ _ ez, ?_⟩
      have hb : Same H (upd H1 sp (.dK (dM (List.range n) (rV ts)))) := fun b x e => by
        by_cases c : b = sp
        · rw [c] at e ⊢
          rw [upd_same, ← e, hsp]
        · rw [upd_ne c]
          exact s1 _ _ (up e c)
      refine ⟨_, rfl, pc, _, rfl, hb _ _ hpc, _, rfl, sp, _, rfl, hb _ _ hsp, rfl, ?_⟩
      rw [len_range, len_range, decide_eq_true rfl]
      exact q _ hb
end
end Ob

set_option Elab.async false
set_option linter.all false
set_option maxRecDepth 100000
/-! the values of a dict, and a list of them -/
namespace L2
open PySem PySem.Spec PyProof.Rows
/-- the view d.values() at p -/
def valsO (p d : Addr) : HO := .ext fun h => h.IsValuesView p d
theorem valsO_ok {P : Program} {w : World} {H : Hp} {h : Heap} {p d : Addr} (e : h.get? p = some { cls := .type "dict_values", data := .fields #[.ref d] }) : ObjOk P w H h p (valsO p d) :=
  ⟨⟨_, e, rfl, rfl⟩, ⟨_, e⟩, fun h1 h2 x k => let ⟨o, ho, r⟩ := x; ⟨o, k o ho, r⟩⟩
section
variable {X : Cx}
def rVals : V → List V → Hp → VK → Prop := fun x xs H Q => ∃ (a : Addr) (kvs : List (Key × V)), x = .ref a ∧ xs = [] ∧ H a = some (.dK kvs) ∧ ∀ p, H p = none → Q (.ref p) (upd H p (valsO p a))
theorem mt_vals : MtR X "dict.values" rVals := by
  intro pins s σ H x xs v us Q I rx rxs h
  obtain ⟨a, kvs, rfl, rfl, ha, q⟩ := h
  cases rx
  cases rxs
  obtain ⟨z, hd, vs, rel, dd⟩ := dk_of I.hok ha
  refine call_meetsIn PySem.F.slot_dict_values dd.typeIs PySem.F.entry_dict_values (PySem.F.args_dict_values_1 _) (meets_dict_values (mixKind X.prog X.w) a hd) ⟨⟨_, dd⟩, ?_⟩
  have hf : H s.heap.objs.size = none := I.hok.fresh (Nat.le_refl _)
  exact ⟨.ref s.heap.objs.size, upd H s.heap.objs.size (valsO s.heap.objs.size a), I.laid (t' := s.toks) (fun b u e => Heap.get?_push_of_some _ e) (Nat.le_refl _) (valsO_ok (Heap.get?_push_size _ rfl)), rfl, q _ hf⟩
def rListV : List V → Hp → VK → Prop := fun xs H Q => ∃ (p d : Addr) (kvs : List (Key × V)), xs = [.ref p] ∧ H p = some (valsO p d) ∧ H d = some (.dK kvs) ∧ ∀ q, H q = none → Q (.ref q) (upd H q (.lst (kvs.map Prod.snd)))
theorem call_listV (hc : X.calm = true) : CallR X (.type "list") rListV := by
  intro pins s σ H xs us Q I r h
  obtain ⟨p, d, kvs, rfl, hp, hd, q⟩ := h
  obtain ⟨u, rfl, rx⟩ := vals1 r
  obtain rfl : u = Value.ref p := rx
  obtain ⟨z, lo, vs, rk, hdd⟩ := dk_of I.hok hd
  obtain ⟨ep, hat⟩ := hdd.dictAt
  have hv : s.heap.IsValuesView p d := (show ObjOk X.prog X.w H s.heap p (valsO p d) from I.hok p _ hp).1
  have hl : kvs.length = vs.length := Paired.length rk
  refine PySem.W.kdl_call (PySem.W.kdl_values (knd := mixKind X.prog X.w) (kvs := vs) (ep := ep)) (I.ok.hd hc) ⟨hv, hat⟩ (by rw [← hl]; exact z) fun h' tk acc' c' hkeep hS hacc => ?_
  refine ⟨.ref s.heap.objs.size, upd H s.heap.objs.size (.lst (kvs.map Prod.snd)), I.laid hkeep (Nat.le_refl _) (show ObjOk X.prog X.w _ _ _ (.lst (kvs.map Prod.snd)) from ⟨?_, acc'.toList, c', ?_, ?_⟩), rfl, q _ (I.hok.fresh (Nat.le_refl _))⟩
  · rw [List.length_map]
    exact z
  · have el : acc'.toList.length = acc'.size := by simp
    refine vals_of_at (by rw [List.length_map, el, hacc.1, hl]) fun j x w h1 h2 => ?_
    obtain ⟨k, hky⟩ := hacc.2 j w (by rw [← Array.getElem?_toList]; exact h2)
    rw [List.getElem?_map] at h1
    cases e1 : kvs[j]? with
    | none =>
      rw [e1] at h1
      cases h1
    | some kv =>
      rw [e1] at h1
      cases h1
      obtain ⟨k2, y⟩ := kv
      obtain ⟨u, hu, ru⟩ := kv_get rk e1
      rw [hky] at hu
      cases hu
      exact ru
  · rw [Array.toArray_toList]
    exact hS
end
end L2

set_option Elab.async false
set_option linter.all false
set_option maxRecDepth 100000
set_option maxHeartbeats 1000000
namespace Ob
open PySem PySem.Spec PyProof.Rows L2
open LamX (Tabs TabB TabS ExtN)

set_option hygiene false in
local macro_rules
  | `(tactic| kp_flats) => `(tactic| first
    | assumption
    | exact upd_same
    | (apply atNew; assumption; kp_flats)
    | (apply atNe; (next => kbo_bools); kp_flats)
    | (apply atSame; assumption; kp_flats)
    | (apply atKp; assumption; (next => kaf_pre); kp_flats))
set_option hygiene false in
local macro_rules
  | `(tactic| kaf_pre) => `(tactic| first
    | assumption
    | exact not_nil
    | (apply not_cons; (next => kbo_bools); kaf_pre)
    | (apply not_app; (next => kaf_pre); kaf_pre))
set_option hygiene false in
local macro_rules
  | `(tactic| kbo_bools) => `(tactic| first
    | assumption
    | (apply Ne.symm; assumption)
    | (apply neN; assumption; kp_flats)
    | (apply neN'; assumption; kp_flats))
set_option hygiene false in
local macro_rules
  | `(tactic| o_reads) => `(tactic| first
    | with_reducible rfl
    | assumption
    | rfl
    | kp_flats
    | (show SqL _ _ _ _; first | assumption | (apply sqlOf; kp_flats) | (apply sqlSame; assumption; o_reads))
    | (show SqT _ _ _ _; first | assumption | (apply sqtOf; kp_flats) | (apply sqtAll; assumption) | (apply sqtSame; assumption; o_reads))
    | (show Cls _ _; first | exact T.cl_Calls | exact T.cl_Outer | exact T.cl_Timed)
    | (show NoAttr _ _ _; first | exact T.n_Calls_entries | exact T.n_Calls_running | exact T.n_Outer_calls | exact T.n_Outer_push_call | exact T.n_Outer_pop_call | exact T.n_Outer_ask_call | exact T.n_Outer_order | exact T.n_Outer_broken | exact T.n_Timed_outer | exact T.n_Timed_given | exact T.n_Timed_now | exact T.n_Timed_held | exact T.n_Timed_limits | exact T.n_Timed_ends)
    | (apply Or.inl; o_reads)
    | (apply Or.inr; o_reads)
    | (apply And.intro; (next => o_reads); o_reads)
    | (apply Exists.intro; o_reads)
    | exact Nat.le_of_ble_eq_true rfl
    | exact Nat.succ_ne_zero _
    | (show Fr _ _; kba_ints)
    | (show Same _ _; kd_subs)
    | (show Kp _ _ _; kxs_still)
    | (show (_ : Nat) ≤ _; simp only [List.length_append, List.length_map, List.length_cons, List.length_nil, List.length_take, List.length_drop, List.length_replicate, List.length_range, sizeLine_eq]; omega)
    | (show _ = none; apply Fr.h; kba_ints)
    | (show Bag _ _; first | assumption | (apply bag_putF; assumption; o_reads) | (apply bag_neF; (next => kbo_bools); o_reads) | (apply bag_kpR; assumption; (next => kaf_pre); o_reads))
    | omega
    | decide)
local macro_rules
  | `(tactic| o_readsAll) => `(tactic| repeat (first
    | (refine fun (pNew : Addr) (nNew : _ = none) => ?_; replace nNew := Fr.mk nNew)
    | (refine fun (xNew dNew : Addr) (nNew : _ = none) (mNew : _ = none) (eNew : dNew ≠ xNew) => ?_; replace nNew := Fr.mk nNew; replace mNew := Fr.mk mNew)
    | (apply And.intro; next => o_reads)
    | apply Exists.intro (α := V)
    | apply Exists.intro (α := Addr)
    | apply Exists.intro (α := Int)
    | apply Exists.intro (α := Bool)
    | apply Exists.intro (α := List V)
    | apply Exists.intro (α := List Nat)
    | apply Exists.intro (α := List (Str × V))
    | apply Exists.intro (α := List _)
    | apply Exists.intro (α := Str)
    | apply Exists.intro (α := HO)
    | apply Exists.intro (α := Sp)
    | apply Exists.intro (α := VK)))
set_option hygiene false in
local macro_rules
  | `(tactic| kba_ints) => `(tactic| first
    | assumption
    | (apply frUp; (first | assumption | (apply Ne.symm; assumption)); kba_ints)
    | (apply noneOf; assumption; intro oF eF; apply Exists.intro; kp_flats)
    | (apply frUp; (next => kbo_bools); kba_ints))
set_option hygiene false in
local macro_rules
  | `(tactic| kxs_still) => `(tactic| first
    | assumption
    | exact kp_refl _ _
    | (apply kp_newF; assumption; kxs_still)
    | (apply kp_new; assumption; kxs_still)
    | (apply kp_up; (next => o_fieldsN); kxs_still)
    | (apply kp_new; (next => kba_ints); kxs_still)
    | (apply kp_sameR; assumption; kxs_still)
    | (apply kp_transR; assumption; kxs_still)
    | (apply kp_freshR; assumption; (next => kaf_suf); kxs_still))
set_option hygiene false in
local macro_rules
  | `(tactic| kaf_suf) => `(tactic| first
    | assumption
    | exact subNil
    | (apply subCons; (first | (apply Or.inl; o_fieldsN) | (apply Or.inr; kba_ints)); kaf_suf)
    | (apply subApp; (next => kaf_suf); kaf_suf))
set_option hygiene false in
local macro_rules
  | `(tactic| o_fieldsN) => `(tactic| first
    | assumption
    | exact memA
    | (apply memB; o_fieldsN)
    | (apply memL; o_fieldsN)
    | (apply memR; o_fieldsN))
set_option hygiene false in
local macro_rules
  | `(tactic| kd_subs) => `(tactic| first
    | assumption
    | exact Same.refl _
    | (apply same_putF; assumption; kd_subs)
    | (apply same_putG; assumption; kd_subs)
    | (apply same_putF; (next => kba_ints); kd_subs)
    | (apply same_transR; assumption; kd_subs))

set_option pp.maxSteps 900
open NdefX (TabsN)
open Inf (Clo LClo cut mend cellsOf)
theorem tabs_ext {Ts : List NdefX.NTab} {H H1 : Hp} (t : TabsN Ts H) (k : Kp [] H H1) : TabsN Ts H1 := tabsN_kpU t k mu_nil fun _ _ => not_nil
theorem same_kp {cs : List Addr} {H0 H H1 : Hp} (s : Same H0 H) (k : Kp cs H H1) (f : ∀ x ∈ cs, Fr H0 x) : Same H0 H1 := fun b o e => k.at_ b o (s b o e) fun m => ne_of_none e (f b m).h rfl
theorem tick_len {E B : List Nat} : (tickW E B).length = E.length + B.length := by
  unfold tickW
  rw [List.length_append, List.length_map, List.length_map, List.length_reverse]
theorem inc_len {M : List Nat} {n : Nat} (h : M.Pairwise (· < ·)) (hl : ∀ x ∈ M, x < n) : M.length ≤ n := by
  have e : M.Perm ((List.range n).filter fun x => decide (x ∈ M)) := (List.perm_ext_iff_of_nodup (h.imp Nat.ne_of_lt) (List.nodup_range.filter _)).mpr fun x => by
    rw [List.mem_filter, List.mem_range]
    exact ⟨fun m => ⟨hl x m, decide_eq_true m⟩, fun m => of_decide_eq_true m.2⟩
  rw [e.length_eq]
  refine Nat.le_trans (List.length_filter_le _ _) ?_
  rw [List.length_range]
  exact Nat.le_refl _
/-- all that is no thing by a word of its own, and stands not in ds, stands in the other heap, too -/
def Kq (ds : List Addr) (H H1 : Hp) : Prop := ∀ b o, H b = some o → (∀ φ, o ≠ .ext φ) → b ∉ ds → H1 b = some o
theorem kq_same {H H1 : Hp} (s : Same H H1) : Kq [] H H1 := fun b o e _ _ => s b o e
theorem kq_kp {ds : List Addr} {H H1 : Hp} (s : Kp ds H H1) : Kq ds H H1 := fun b o e _ n => s.at_ b o e n
theorem LogC.kq {ds : List Addr} {H H1 : Hp} {xs : List V} {tr : List Ca} (h : LogC H xs tr) (k : Kq ds H H1) (m : Mu H ds) : LogC H1 xs tr := ⟨h.len, fun q x e a b => by
  obtain ⟨p, h1, h2⟩ := h.at_ q x e a b
  exact ⟨p, h1, k _ _ h2 (fun _ z => nomatch z) (m.tup h2)⟩⟩
theorem TmAt.kq {CT C CC : Addr} {H H1 : Hp} {t o c l lm en : Addr} {fp fo fa : V} {uv ds : List Addr} {PM : Nat → V → Prop} {R R1 : List Ca → Hp → Prop} {tr : List Ca} {given now : Nat} {M : List Nat} {mb : Nat → V} {lim ends : Nat → Nat} (h : TmAt CT C CC H t o c l lm en fp fo fa uv PM R tr given now M mb lim ends) (k : Kq ds H H1) (m : Mu H ds) (s : ∀ a ∈ ds, a ∈ uv) (hr : R1 tr H1) : TmAt CT C CC H1 t o c l lm en fp fo fa uv PM R1 tr given now M mb lim ends := by
  obtain ⟨⟨dx, hd, ht, hhd, nhd⟩, ⟨od, hO⟩, hlm, hen, hti, hgv, nt, nle, nuv⟩ := h
  obtain ⟨⟨d1, ho⟩, ⟨d2, hc⟩, ⟨xs, hl, hlg⟩, hod, hR, nlod, noc, nu⟩ := hO
  refine ⟨⟨dx, hd, k _ _ ht (fun _ z => nomatch z) fun z => (nuv t (s _ z)).1 rfl, k _ _ hhd (fun _ z => nomatch z) fun z => nhd (memB (memB (memB (memB (memB (memB (s _ z))))))), nhd⟩, ⟨od, ⟨d1, k _ _ ho (fun _ z => nomatch z) fun z => (nu o (s _ z)).1 rfl⟩, ⟨d2, k _ _ hc (fun _ z => nomatch z) fun z => (nu c (s _ z)).2.1 rfl⟩, ⟨xs, k _ _ hl (fun _ z => nomatch z) fun z => (nu l (s _ z)).2.2.1 rfl, hlg.kq k m⟩, k _ _ hod (fun _ z => nomatch z) fun z => (nu od (s _ z)).2.2.2 rfl, hr, nlod, noc, nu⟩, k _ _ hlm (fun _ z => nomatch z) fun z => (nuv lm (s _ z)).2.1 rfl, k _ _ hen (fun _ z => nomatch z) fun z => (nuv en (s _ z)).2.2 rfl, hti, hgv, nt, nle, nuv⟩
/-- callables beside things of the law's own, which they leave as they are -/
theorem OS.ext {P : Program} {w : World} {K : PySem.W.Frag} {mg : Str → Option Value} {base : Heap} {n : Nat} {uv ex : List Addr} {fp fo fa : V} {PM : Nat → V → Prop} {PQ : V → Prop} {R : List Ca → Hp → Prop} {An : List Ca → V → V → Hp → Prop} {X : Hp → Prop} (A : OS P w K mg base n uv fp fo fa PM PQ R An) (hx : ∀ {cs : List Addr} {H H1 : Hp}, X H → Kp cs H H1 → Mu H cs → (∀ a ∈ ex, a ∉ cs) → X H1) (mx : ∀ {H : Hp}, X H → Mu H ex) (d : ∀ a ∈ ex, a ∉ uv) : OS P w K mg base n (uv ++ ex) fp fo fa PM PQ (fun tr H => R tr H ∧ X H) An where
  rk := fun h k m n => ⟨A.rk h.1 k m (fun a ma => n a (memL ma)), hx h.2 k m fun a ma => n a (memR ma)⟩
  ak := A.ak
  mu := fun h => mu_app (A.mu h.1) (mx h.2)
  push := fun hv ht h q => A.push hv ht h.1 fun u H' k r => q u H' (kp_more k fun _ m => memL m) ⟨r, hx h.2 k (A.mu h.1) d⟩
  pop := fun hs ht h q => A.pop hs ht h.1 fun u H' k r => q u H' (kp_more k fun _ m => memL m) ⟨r, hx h.2 k (A.mu h.1) d⟩
  ask := fun hv ht h q => A.ask hv ht h.1 fun u H' k r a f => q u H' (kp_more k fun _ m => memL m) ⟨r, hx h.2 k (A.mu h.1) d⟩ a f
def XL (p sp : Addr) (kv : List (Key × V)) (H : Hp) : Prop := Bag H p ∧ H sp = some (.dK kv)
theorem XL.kp {p sp : Addr} {kv : List (Key × V)} {cs : List Addr} {H H1 : Hp} (h : XL p sp kv H) (k : Kp cs H H1) (n : ∀ a ∈ [p, sp], a ∉ cs) : XL p sp kv H1 := ⟨bag_kpR k (n p memA) h.1, k.at_ _ _ h.2 (n sp (memB memA))⟩
theorem XL.mu {p sp : Addr} {kv : List (Key × V)} {H : Hp} (h : XL p sp kv H) : Mu H [p, sp] := by
  obtain ⟨xs, e⟩ := bag_lst h.1
  exact mu_lst e (mu_cons h.2 (fun _ z => nomatch z) (fun _ z => nomatch z) mu_nil)
/-! ### pushes and pops in numbers -/
def isPush : Ca → Bool
  | .push _ _ => true
  | _ => false
def nPu (tr : List Ca) : Nat := (tr.filter isPush).length
def nMv (tr : List Ca) : Nat := (tr.filter isMv).length
theorem nPu_app {a b : List Ca} : nPu (a ++ b) = nPu a + nPu b := by
  unfold nPu
  rw [List.filter_append, List.length_append]
theorem nMv_app {a b : List Ca} : nMv (a ++ b) = nMv a + nMv b := by
  unfold nMv
  rw [List.filter_append, List.length_append]
theorem sum_add2 {f g : Nat → Nat} : ∀ {l : List Nat}, (l.map fun i => f i + g i).sum = (l.map f).sum + (l.map g).sum
  | [] => rfl
  | x :: l => by
    rw [List.map_cons, List.map_cons, List.map_cons, List.sum_cons, List.sum_cons, List.sum_cons, sum_add2]
    omega
theorem sum_one {j : Nat} : ∀ {n : Nat}, ((List.range n).map fun i => if j = i then 1 else 0).sum = if j < n then 1 else 0
  | 0 => rfl
  | n + 1 => by
    rw [List.range_succ, List.map_append, List.sum_append, sum_one]
    show _ + ((if j = n then 1 else 0) + 0) = _
    by_cases c : j = n
    · rw [if_pos c, if_neg (by omega), if_pos (by omega)]
      rfl
    · rw [if_neg c]
      by_cases d : j < n
      · rw [if_pos d, if_pos (by omega)]
        rfl
      · rw [if_neg d, if_neg (by omega)]
        rfl
theorem sum_cnt {n : Nat} : ∀ {tr : List Ca}, (∀ i, n ≤ i → cntC i tr = 0) → ((List.range n).map fun i => cntC i tr).sum = nPu tr
  | [], _ => by
    have : ∀ n, ((List.range n).map fun i => cntC i []).sum = 0 := fun n => by
      induction n with
      | zero => rfl
      | succ n ih =>
        rw [List.range_succ, List.map_append, List.sum_append, ih]
        rfl
    exact this n
  | e :: tr, h => by
    have hc : ∀ i, cntC i (e :: tr) = cntC i [e] + cntC i tr := fun i => cntC_app (a := [e])
    have h2 : ∀ i, n ≤ i → cntC i tr = 0 := fun i z => by
      have := h i z
      rw [hc] at this
      omega
    have hn : nPu (e :: tr) = nPu [e] + nPu tr := nPu_app (a := [e])
    rw [hn, ← sum_cnt h2, show (fun i => cntC i (e :: tr)) = fun i => cntC i [e] + cntC i tr from funext hc, sum_add2]
    congr 1
    cases e with
    | push j v =>
      have hj : j < n := Nat.lt_of_not_le fun z => by
        have := h j z
        rw [hc, cntC_push, if_pos rfl] at this
        omega
      rw [show (fun i => cntC i [.push j v]) = fun i => if j = i then 1 else 0 from funext fun i => cntC_push, sum_one, if_pos hj]
      rfl
    | pop j =>
      have : ∀ n : Nat, ((List.range n).map fun i => cntC i [.pop j]).sum = 0 := fun n => by
        induction n with
        | zero => rfl
        | succ n ih =>
          rw [List.range_succ, List.map_append, List.sum_append, ih]
          rfl
      exact this n
    | ask v =>
      have : ∀ n : Nat, ((List.range n).map fun i => cntC i [.ask v]).sum = 0 := fun n => by
        induction n with
        | zero => rfl
        | succ n ih =>
          rw [List.range_succ, List.map_append, List.sum_append, ih]
          rfl
      exact this n
/-- moves are the pushes twice, but for those that stand on the stack -/
def Bal (tr : List Ca) : Prop := nMv tr + (stC [] tr).length = 2 * nPu tr
theorem moves_pops {mb : Nat → V} : ∀ {l : List Nat}, nPu ((l.map fun x => (("pop" : Str), x)).map (caOf mb)) = 0 ∧ nMv ((l.map fun x => (("pop" : Str), x)).map (caOf mb)) = l.length
  | [] => ⟨rfl, rfl⟩
  | x :: l => by
    obtain ⟨h1, h2⟩ := moves_pops (mb := mb) (l := l)
    have e : caOf mb ("pop", x) = .pop x := if_neg wOP2
    have e1 : ((x :: l).map fun x => (("pop" : Str), x)).map (caOf mb) = [Ca.pop x] ++ (l.map fun x => (("pop" : Str), x)).map (caOf mb) := by
      rw [List.map_cons, List.map_cons, e]
      rfl
    rw [e1, nPu_app, nMv_app, h1, h2, List.length_cons]
    exact ⟨rfl, Nat.add_comm ..⟩
theorem moves_pushes {mb : Nat → V} : ∀ {l : List Nat}, nPu ((l.map fun x => (("push" : Str), x)).map (caOf mb)) = l.length ∧ nMv ((l.map fun x => (("push" : Str), x)).map (caOf mb)) = l.length
  | [] => ⟨rfl, rfl⟩
  | x :: l => by
    obtain ⟨h1, h2⟩ := moves_pushes (mb := mb) (l := l)
    have e : caOf mb ("push", x) = .push x (mb x) := if_pos rfl
    have e1 : ((x :: l).map fun x => (("push" : Str), x)).map (caOf mb) = [Ca.push x (mb x)] ++ (l.map fun x => (("push" : Str), x)).map (caOf mb) := by
      rw [List.map_cons, List.map_cons, e]
      rfl
    rw [e1, nPu_app, nMv_app, h1, h2, List.length_cons]
    exact ⟨Nat.add_comm .., Nat.add_comm ..⟩
theorem Bal.tick {tr : List Ca} {S E B : List Nat} {mb : Nat → V} (h : Bal tr) (hs : stC [] tr = S ++ E) : Bal (tr ++ (tickW E B).map (caOf mb)) := by
  obtain ⟨h1, h2⟩ := tick_ok (E := E) (B := B) (S := S)
  have hst : stC [] (tr ++ (tickW E B).map (caOf mb)) = S ++ B := by
    rw [stC_app, hs, st_run h1, h2]
  have e1 : nPu ((tickW E B).map (caOf mb)) = B.length := by
    unfold tickW
    rw [List.map_append, nPu_app, moves_pops.1, moves_pushes.1, Nat.zero_add]
  have e2 : nMv ((tickW E B).map (caOf mb)) = E.length + B.length := by
    unfold tickW
    rw [List.map_append, nMv_app, moves_pops.2, moves_pushes.2, List.length_reverse]
  have h3 : nMv tr + (stC [] tr).length = 2 * nPu tr := h
  rw [hs, List.length_append] at h3
  show nMv _ + (stC [] _).length = 2 * nPu _
  rw [hst, nPu_app, nMv_app, e1, e2, List.length_append]
  omega
theorem Bal.add {tr : List Ca} {i : Nat} {v : V} (h : Bal tr) : Bal (tr ++ [.push i v]) := by
  have h3 : nMv tr + (stC [] tr).length = 2 * nPu tr := h
  show nMv _ + (stC [] _).length = 2 * nPu _
  rw [nPu_app, nMv_app, stC_app]
  show nMv tr + 1 + (stC [] tr ++ [i]).length = 2 * (nPu tr + 1)
  rw [List.length_append, List.length_singleton]
  omega
theorem Bal.ask {tr : List Ca} {v : V} (h : Bal tr) : Bal (tr ++ [.ask v]) := by
  show nMv _ + (stC [] _).length = 2 * nPu _
  rw [nPu_app, nMv_app, stC_app]
  exact h
theorem mv_len {tr : List Ca} : ((tr.filter isMv).filter isPush).length = nPu tr := by
  unfold nPu
  rw [List.filter_filter]
  refine congrArg List.length (List.filter_congr fun e _ => ?_)
  cases e <;> rfl
theorem CkT.cong {A L A2 L2 : Nat → Nat} {now given : Nat} {M : List Nat} {tr : List Ca} {lim ends : Nat → Nat} (h : CkT A L now given M tr lim ends) (e : ∀ i, i < given → A i = A2 i ∧ L i = L2 i) : CkT A2 L2 now given M tr lim ends := by
  refine ⟨fun i => ?_, fun i m => ?_, fun i hi => ?_, h.c0⟩
  · rw [h.mm]
    constructor
    · rintro ⟨h1, h2⟩
      exact ⟨h1, by rw [← (e i h1).2]; exact h2⟩
    · rintro ⟨h1, h2⟩
      exact ⟨h1, by rw [(e i h1).2]; exact h2⟩
  · rw [h.lm i m, (e i ((h.mm i).mp m).1).2]
  · rw [← (e i hi).1, ← (e i hi).2]
    exact h.ct i hi
theorem mv_ent {e : Ca} (h : isMv e = true) : ∃ (wd : Str) (ix : Int), e.ent = [.str wd, .int ix] ∧ decide (V.str wd = V.str "push") = isPush e := by
  cases e with
  | push i v => exact ⟨"push", (i : Int), rfl, decide_eq_true rfl⟩
  | pop i => exact ⟨"pop", (i : Int), rfl, by show decide (V.str "pop" = V.str "push") = false; decide +kernel⟩
  | ask v => cases h
theorem sum_cast {f : Nat → Nat} : ∀ {l : List Nat}, (l.map fun i => ((f i : Nat) : Int)).sum = (((l.map f).sum : Nat) : Int)
  | [] => rfl
  | x :: l => by
    rw [List.map_cons, List.map_cons, List.sum_cons, List.sum_cons, sum_cast, Int.natCast_add]
theorem dM_snd {M : List Nat} {f : Nat → Nat} : (dM M (iV f)).map Prod.snd = (M.map fun i => ((f i : Nat) : Int)).map V.int := by
  unfold dM
  rw [List.map_map, List.map_map]
  rfl
structure JL {K : PySem.W.Frag} {mg : Str → Option Value} (T : Txt K mg) (Hb : Hp) (W : List Addr) (p sp t o c l lm en fp cp fo co fa ca pc ph : Addr) (clp clo cla : List (Str × Addr)) (now n bound : Nat) (lo hi : Nat → Nat) (ts : Nat → Addr) (tr : List Ca) (M : List Nat) (mb : Nat → V) (lim ends : Nat → Nat) (H' : Hp) : Prop where
  tm : TmAt T.C_Timed T.C_Outer T.C_Calls H' t o c l lm en (.ref fp) (.ref fo) (.ref fa) [pc, ph, p, sp] PMn (fun tr H => RN clp clo cla fp cp fo co fa ca pc ph tr H ∧ XL p sp (dM (List.range n) (rV ts)) H) tr n now M mb lim ends
  tb : TabsN (TT T) H'
  kp : Kp W Hb H'
  tu : ∀ i, i < n → H' (ts i) = some (.tup [.int (lo i : Int), .int (hi i : Int)])
  ck : CkT lo hi now n M tr lim ends
  kv : KvN n tr
  bd : ∀ i, i < n → lo i < hi i ∧ hi i ≤ 700
  tl : tr.length ≤ bound
  bl : Bal tr
section
variable {K : PySem.W.Frag} {mg : Str → Option Value} {T : Txt K mg} {Hb : Hp} {W : List Addr} {p sp t o c l lm en fp cp fo co fa ca pc ph : Addr} {clp clo cla : List (Str × Addr)} {now n bound : Nat} {lo hi : Nat → Nat} {ts : Nat → Addr} {tr : List Ca} {M : List Nat} {mb : Nat → V} {lim ends : Nat → Nat} {H' H2 : Hp}
theorem JL.r (h : JL T Hb W p sp t o c l lm en fp cp fo co fa ca pc ph clp clo cla now n bound lo hi ts tr M mb lim ends H') : RN clp clo cla fp cp fo co fa ca pc ph tr H' ∧ XL p sp (dM (List.range n) (rV ts)) H' := by
  obtain ⟨od, hO⟩ := h.tm.out
  exact hO.r
theorem RN.kp {H H1 : Hp} {cs : List Addr} (h : RN clp clo cla fp cp fo co fa ca pc ph tr H) (k : Kp cs H H1) (m : Mu H cs) (n : ∀ a ∈ [pc, ph], a ∉ cs) : RN clp clo cla fp cp fo co fa ca pc ph tr H1 := ⟨h.1.kp k m, k.at_ _ _ h.2.1 (n pc memA), k.at_ _ _ h.2.2 (n ph (memB memA))⟩
theorem JL.same (h : JL T Hb W p sp t o c l lm en fp cp fo co fa ca pc ph clp clo cla now n bound lo hi ts tr M mb lim ends H') (s : Same H' H2) : JL T Hb W p sp t o c l lm en fp cp fo co fa ca pc ph clp clo cla now n bound lo hi ts tr M mb lim ends H2 :=
  ⟨h.tm.kq (kq_same s) mu_nil (fun _ z => nomatch z) ⟨h.r.1.kp (kp_same (cs := []) s) mu_nil (fun _ _ => not_nil), h.r.2.kp (kp_same (cs := []) s) (fun _ _ => not_nil)⟩, tabs_same h.tb s, kp_trans h.kp (kp_same s), fun i z => s _ _ (h.tu i z), h.ck, h.kv, h.bd, h.tl, h.bl⟩
/-- the bag was drawn from -/
theorem JL.take (h : JL T Hb W p sp t o c l lm en fp cp fo co fa ca pc ph clp clo cla now n bound lo hi ts tr M mb lim ends H') (hp : p ∈ W) (np : p ∉ [pc, ph, sp]) (k : Kp [p] H' H2) (b : Bag H2 p) : JL T Hb W p sp t o c l lm en fp cp fo co fa ca pc ph clp clo cla now n bound lo hi ts tr M mb lim ends H2 := by
  have m := bag_mu h.r.2.1
  have n1 : ∀ a ∈ [pc, ph], a ∉ [p] := subCons (not_cons (fun z => np (by rw [← z]; exact memA)) not_nil) (subCons (not_cons (fun z => np (by rw [← z]; exact memB memA)) not_nil) subNil)
  refine ⟨h.tm.kq (kq_kp k) m (subCons (memB (memB memA)) subNil) ⟨h.r.1.kp k m n1, b, k.at_ _ _ h.r.2.2 (not_cons (fun z => np (by rw [← z]; exact memB (memB memA))) not_nil)⟩, tabsN_kpU h.tb k m (fun pT hp' => ?_), kp_trans h.kp (kp_more k (subCons hp subNil)), fun i z => kp_tup k m (h.tu i z), h.ck, h.kv, h.bd, h.tl, h.bl⟩
  obtain ⟨ps, z, _⟩ := h.tb pT hp'
  obtain ⟨xs, e⟩ := bag_lst h.r.2.1
  exact not_cons (neO z e (fun z => nomatch z)) not_nil
theorem JL.ml (h : JL T Hb W p sp t o c l lm en fp cp fo co fa ca pc ph clp clo cla now n bound lo hi ts tr M mb lim ends H') : M.length ≤ n :=
  inc_len h.tm.ti.inc fun x m => (h.tm.gv x m).1
theorem JL.lst (h : JL T Hb W p sp t o c l lm en fp cp fo co fa ca pc ph clp clo cla now n bound lo hi ts tr M mb lim ends H') : (∀ a ∈ [t, lm, en, o, c, l, pc, ph, p, sp], ∃ x, H' a = some x ∧ ∀ ps, x ≠ .tbl ps) ∧ Mu H' (T.p_next_pieces :: [t, lm, en, o, c, l, pc, ph, p, sp]) := by
  obtain ⟨ps, z, _⟩ := h.tb _ (hm_next_pieces T)
  obtain ⟨⟨dx, hd, ht, _, _⟩, ⟨od, hO⟩, hlm, hen, _⟩ := h.tm
  obtain ⟨⟨d1, ho⟩, ⟨d2, hc⟩, ⟨xs, hl, _⟩, _, hR, _⟩ := hO
  obtain ⟨ys, e⟩ := bag_lst hR.2.1
  refine ⟨subCons ⟨_, ht, fun _ z => nomatch z⟩ (subCons ⟨_, hlm, fun _ z => nomatch z⟩ (subCons ⟨_, hen, fun _ z => nomatch z⟩ (subCons ⟨_, ho, fun _ z => nomatch z⟩ (subCons ⟨_, hc, fun _ z => nomatch z⟩ (subCons ⟨_, hl, fun _ z => nomatch z⟩ (subCons ⟨_, hR.1.2.1, fun _ z => nomatch z⟩ (subCons ⟨_, hR.1.2.2, fun _ z => nomatch z⟩ (subCons ⟨_, e, fun _ z => nomatch z⟩ (subCons ⟨_, hR.2.2, fun _ z => nomatch z⟩ subNil))))))))), ?_⟩
  exact mu_cons z (fun _ z => nomatch z) (fun _ z => nomatch z) (mu_ins ht (mu_cons hlm (fun _ z => nomatch z) (fun _ z => nomatch z) (mu_cons hen (fun _ z => nomatch z) (fun _ z => nomatch z) (mu_ins ho (mu_ins hc (mu_lst hl (mu_cons hR.1.2.1 (fun _ z => nomatch z) (fun _ z => nomatch z) (mu_lst hR.1.2.2 (mu_lst e (mu_cons hR.2.2 (fun _ z => nomatch z) (fun _ z => nomatch z) mu_nil))))))))))
theorem JL.tabW (h : JL T Hb W p sp t o c l lm en fp cp fo co fa ca pc ph clp clo cla now n bound lo hi ts tr M mb lim ends H') : ∀ pT ∈ TT T, pT.1 ∉ [t, lm, en, o, c, l, pc, ph, p, sp] := fun pT hp m => by
  obtain ⟨ps, z, _⟩ := h.tb pT hp
  obtain ⟨x, e, n⟩ := h.lst.1 _ m
  rw [e] at z
  exact n ps (Option.some.inj z)
end
theorem mid_seq {t u : TS} {D : Ends} {σ : L2.St} {H : Hp} (I : L2.St → Hp → Prop) (h1 : ∀ N : L2.St → Hp → Prop, (∀ σ' H', I σ' H' → N σ' H') → t { D with nx := N } σ H) (h2 : ∀ σ' H', I σ' H' → u D σ' H') : tSeq t u D σ H := h1 _ h2
section
variable {P : Program} {w : World} {K : PySem.W.Frag} {mg : Str → Option Value} {base : Heap}
theorem osL (T : Txt K mg) {clp clo cla : List (Str × Addr)} {fp cp fo co fa ca pc ph p sp : Addr} {kv : List (Key × V)} (d : ∀ a ∈ [p, sp], a ∉ [pc, ph]) : OS P w K mg base 2 [pc, ph, p, sp] (.ref fp) (.ref fo) (.ref fa) PMn (fun _ => True) (fun tr H => RN clp clo cla fp cp fo co fa ca pc ph tr H ∧ XL p sp kv H) AnN :=
  OS.ext (uv := [pc, ph]) (ex := [p, sp]) (osN T) (fun h k _ n => h.kp k n) (fun h => h.mu) d
theorem JL.tick {T : Txt K mg} {Hb : Hp} {W : List Addr} {p sp t o c l lm en fp cp fo co fa ca pc ph : Addr} {clp clo cla : List (Str × Addr)} {now n bound : Nat} {lo hi : Nat → Nat} {ts : Nat → Addr} {tr : List Ca} {M : List Nat} {mb : Nat → V} {lim ends : Nat → Nat} {H' : Hp} {Q : VK} (j : JL T Hb W p sp t o c l lm en fp cp fo co fa ca pc ph clp clo cla now n bound lo hi ts tr M mb lim ends H') (hW : W = T.p_next_pieces :: [t, lm, en, o, c, l, pc, ph, p, sp]) (hn : n ≤ 201) (hb : bound ≤ 380000) (dps : ∀ a ∈ [p, sp], a ∉ [pc, ph])
    (q : ∀ r H2 tr2 M2 lim2 ends2, JL T Hb W p sp t o c l lm en fp cp fo co fa ca pc ph clp clo cla (now + 1) n (bound + 2 * n) lo hi ts tr2 M2 mb lim2 ends2 H2 → Q (.ref r) H2) : spTick P w K mg base T 2 [.ref t] H' Q E0 := by
  have ml := j.ml
  have tl := j.tl
  refine ⟨t, o, c, l, lm, en, .ref fp, .ref fo, .ref fa, [pc, ph, p, sp], PMn, (fun _ => True), _, AnN, tr, n, now, M, mb, lim, ends, rfl, osL T dps, j.tm, j.tb, (fun pT hp m => j.tabW pT hp (memB (memB (memB (memB (memB (memB m))))))), by omega, by omega, (fun i mi => ?_), fun r H3 B G S1 k3 tb3 fr3 er3 hG hG2 hst hB tm3 => ?_⟩
  · rw [j.ck.lm i mi]
    have h1 := (j.ck.mm i).mp mi
    have h2 := (j.bd i h1.1).2
    omega
  · have k3' : Kp W H' H3 := kp_more k3 fun a m => by rw [hW]; exact m
    have mW : Mu H' W := by rw [hW]; exact j.lst.2
    have hSM := j.tm.ti.pm
    have hEs : ∀ i ∈ endS ends (now + 1) (stC [] tr), i < n := fun i m => (j.tm.gv i (hSM.mem_iff.mp (List.mem_filter.mp m).1)).1
    have hBs : ∀ i ∈ B, i < n := fun i m => hEs i (List.mem_filter.mp (hB.mem_iff.mp m)).1
    have hEl : (endS ends (now + 1) (stC [] tr)).length ≤ n := by
      have h1 : (endS ends (now + 1) (stC [] tr)).length ≤ (stC [] tr).length := List.length_filter_le _ _
      have h2 := hSM.length_eq
      omega
    have hBl : B.length ≤ n := by
      have h1 := hB.length_eq
      have h2 := List.length_filter_le (fun i => decide (now + 1 < lim i)) (endS ends (now + 1) (stC [] tr))
      omega
    refine q r H3 _ _ _ _ ⟨tm3, tb3, kp_trans j.kp k3', fun i z => kp_tup k3' mW (j.tu i z), j.ck.tick (fun i z => Nat.le_trans (j.bd i z).2 (by decide)) j.tm.ti hB, j.kv.more fun e me => ?_, j.bd, ?_, j.bl.tick hst⟩
    · unfold tickW at me
      rcases List.mem_append.mp me with me | me
      · obtain ⟨x, mx, rfl⟩ := List.mem_map.mp me
        exact hEs x (List.mem_reverse.mp mx)
      · obtain ⟨x, mx, rfl⟩ := List.mem_map.mp me
        exact hBs x mx
    · rw [List.length_append, List.length_map, tick_len]
      omega
def spLaw (T : Txt K mg) : Sp := fun vs H Q _ => ∃ (a : Addr) (ns : List Int), vs = [.ref a] ∧ SqL K H a (ns.map V.int) ∧ ns.length ≤ 63 ∧ H T.p_next_pieces = some (.tbl #[]) ∧ H T.p_l_counting = some (.tbl #[]) ∧ ∀ H', Q (.bl true) H'
theorem ok_law (T : Txt K mg) (TB2 : LamX.TabB base mg T.c_next_pieces T.p_next_pieces) (TB1 : LamX.TabB base mg T.c_l_counting T.p_l_counting) {f : Addr} {d : FuncData} (F : Fun K "law" "law" s_law f d) : FnOk P w K mg base CX0 40 f d ["_law_script"] (spLaw T) := by
  have G_l_bag := ok_bag (P := P) (w := w) (base := base) T
  have G_l_take := ok_takeK (P := P) (w := w) (base := base) T
  have G_l_counting := ok_cnt (P := P) (w := w) T TB1
  have G_Timed_clock := ok_tc (P := P) (w := w) (base := base) T
  have G_Timed_add := ok_tadd (P := P) (w := w) (base := base) (n := 2) T
  have G_Timed_tick := ok_tick (P := P) (w := w) (base := base) (n := 2) T TB2
  have G_Timed_query := ok_tq (P := P) (w := w) (base := base) (n := 2) T
  have FLT := FnOk.raw (ok_tln (P := P) (w := w) (base := base) T) T.b_Timed_len .nil
  have G_l_counts_right := ok_cr (P := P) (w := w) (base := base) T
  have G_l_moves := ok_mvs (P := P) (w := w) (base := base) T
  have KB_Timed_add := kb_add T.F_Timed_add
  refine F.ok sc_law (fun vs H Q E h => ?_) (fun cdv A outer s H vs Q E hr h => ?_)
  · obtain ⟨a, ns, rfl, _⟩ := h
    rfl
  · obtain ⟨a0, ns0, rfl, hS, hlen, hp1, hp2, q⟩ := h
    have t0 : TabsN (TT T) H := fun p hp => by
      rcases List.mem_cons.mp hp with rfl | hp
      · exact NdefX.TabN.nil hp1
      · rw [List.mem_singleton.mp hp]
        exact NdefX.TabN.nil hp2
    refine ⟨_, (pss_cons (ps_for PassesOwn.never rfl (pi_range1 (by rfl) T.z_range (pa_cons (pe_op op_add pe_int (pe_callB (call_min2 rfl) (by rfl) T.z_min (by decide +kernel) (pa_cons pe_int (pa_cons (pe_callB call_len_seq (by rfl) T.z_len (by decide +kernel) (pa_cons (pv 0) pa_nil)) pa_nil)))) pa_nil)) (pg_name (i := 1) sc_law.nd rfl (.inl rfl)) (pss_cons (ps_asg (pe_tup (pa_cons (pe_call G_l_bag (hr.mono (by omega)) rfl T.g_l_bag T.F_l_bag.kp T.b_l_bag .nil pass0 (pa_cons (pv 0) (pa_cons (pv 1) pa_nil))) (pa_cons pe_dnewK (pa_cons (pe_lst pa_nil) (pa_cons pe_dnewK pa_nil))))) (pg_tup (by rfl) (pgs_cons (pg_name (i := 2) sc_law.nd rfl (.inl rfl)) (pgs_cons (pg_name (i := 3) sc_law.nd rfl (.inl rfl)) (pgs_cons (pg_name (i := 4) sc_law.nd rfl (.inl rfl)) (pgs_cons (pg_name (i := 5) sc_law.nd rfl (.inl rfl)) pgs_nil))))))
        (pss_cons (ps_set (i := 6) sc_law.nd rfl (.inl rfl) (pe_call G_l_counting (hr.mono (by omega)) rfl T.g_l_counting T.F_l_counting.kp T.b_l_counting .nil pass0 (pa_cons (pv 3) (pa_cons (pv 4) pa_nil))))
        (pss_cons (ps_for PassesOwn.never rfl (pi_range1 (by rfl) T.z_range (pa_cons (pe_call G_l_take (hr.mono (by omega)) rfl T.g_l_take T.F_l_take.kp T.b_l_take .nil pass0 (pa_cons (pv 2) (pa_cons pe_int pa_nil))) pa_nil)) (pg_name (i := 7) sc_law.nd rfl (.inl rfl)) (pss_cons (ps_if (pt_cmpR op_eq (pe_call G_l_take (hr.mono (by omega)) rfl T.g_l_take T.F_l_take.kp T.b_l_take .nil pass0 (pa_cons (pv 2) (pa_cons pe_int pa_nil))) pe_int (nomark _)) (pss_cons (ps_set (i := 8) sc_law.nd rfl (.inl rfl) (pe_meth0 (pv 6) T.cl_Timed ⟨T.m_Timed_clock, T.t_Timed_clock, T.k_Timed_clock⟩ G_Timed_clock (hr.mono (by omega)) T.b_Timed_clock .nil pass0))
            (pss_cons (ps_set (i := 9) sc_law.nd rfl (.inl rfl) (pe_op op_add (pe_op op_add (pv 8) pe_int) (pe_call G_l_take (hr.mono (by omega)) rfl T.g_l_take T.F_l_take.kp T.b_l_take .nil pass0 (pa_cons (pv 2) (pa_cons (pe_ix (r := rIxL K) ix_list (pe_lst (pa_cons pe_int (pa_cons pe_int (pa_cons pe_int pa_nil)))) (pe_call G_l_take (hr.mono (by omega)) rfl T.g_l_take T.F_l_take.kp T.b_l_take .nil pass0 (pa_cons (pv 2) (pa_cons pe_int pa_nil))) (fun _ _ => rfl)) pa_nil)))))
            (pss_one (ps_dput (hu_of hr) (pv 5) (Inf.pe_methK (pv 6) T.cl_Timed ⟨T.m_Timed_add, T.t_Timed_add, T.k_Timed_add⟩ G_Timed_add (hr.mono (by omega)) KB_Timed_add pass0 (pa_cons (pe_callB call_lenD (by rfl) T.z_len (by decide +kernel) (pa_cons (pv 5) pa_nil)) pa_nil) (pk_cons (pv 9) pk_nil)) (pe_tup (pa_cons (pv 8) (pa_cons (pv 9) pa_nil))) rfl)))) (pss_one (ps_expr (pe_meth0 (pv 6) T.cl_Timed ⟨T.m_Timed_tick, T.t_Timed_tick, T.k_Timed_tick⟩ G_Timed_tick (hr.mono (by omega)) T.b_Timed_tick .nil pass0))))
          (pss_one (ps_if (PW.pt (pw_or (pt_cmpR op_ne (pe_callB call_len_seq (by rfl) T.z_len (by decide +kernel) (pa_cons (pv 4) pa_nil)) (pe_callB (call_lenO FLT (hr.mono (by omega)) T.m_Timed_len T.y_Timed_len) (by rfl) T.z_len (by decide +kernel) (pa_cons (pv 6) pa_nil)) (nomark _)) (pw_or1 (pt_cmpR op_ne (pe_meth (pv 6) T.cl_Timed ⟨T.m_Timed_query, T.t_Timed_query, T.k_Timed_query⟩ G_Timed_query (hr.mono (by omega)) T.b_Timed_query .nil pass0 (pa_cons pe_int pa_nil)) (pe_callB (call_lenO FLT (hr.mono (by omega)) T.m_Timed_len T.y_Timed_len) (by rfl) T.z_len (by decide +kernel) (pa_cons (pv 6) pa_nil)) (nomark _))))) (pss_one (ps_ret pe_bl)) pss_nil))))
        (pss_cons (ps_while PassesOwn.never (pt_cmpR op_gt (pe_callB (call_lenO FLT (hr.mono (by omega)) T.m_Timed_len T.y_Timed_len) (by rfl) T.z_len (by decide +kernel) (pa_cons (pv 6) pa_nil)) pe_int (nomark _)) (pss_one (ps_expr (pe_meth0 (pv 6) T.cl_Timed ⟨T.m_Timed_tick, T.t_Timed_tick, T.k_Timed_tick⟩ G_Timed_tick (hr.mono (by omega)) T.b_Timed_tick .nil pass0))))
        (pss_cons (ps_if (PW.pt (pw_or (pt_cmpR (op_neNil hr.units) (pv 4) (pe_lst pa_nil) (nomark _)) (pw_or1 (pt_not (pt_val (pe_call G_l_counts_right (hr.mono (by omega)) rfl T.g_l_counts_right T.F_l_counts_right.kp T.b_l_counts_right .nil pass0 (pa_cons (pv 3) (pa_cons (pv 5) pa_nil)))))))) (pss_one (ps_ret pe_bl)) pss_nil)
        (pss_cons (ps_set (i := 10) sc_law.nd rfl (.inl rfl) (pe_callB call_len_seq (by rfl) T.z_len (by decide +kernel) (pa_cons (pe_lc (own := [("_law_word", 12), ("_law_number", 11)]) (g := (gTup K 2 (gCons (gName 12) (gCons (gName 11) gNil))))  rfl sc_law.nd (pi_list (pe_call G_l_moves (hr.mono (by omega)) rfl T.g_l_moves T.F_l_moves.kp T.b_l_moves .nil pass0 (pa_cons (pv 6) pa_nil))) (blkOk_by (N := n_law) (sc := defScope s_law) (by decide +kernel)) (fun _ _ _ _ _ => (pg_tup (by rfl) (pgs_cons (pg_name (i := 12) sc_law.nd rfl (.inl rfl)) (pgs_cons (pg_name (i := 11) sc_law.nd rfl (.inl rfl)) pgs_nil)))) (fun _ _ _ _ _ => (pts_one (pt_cmpR op_eq (pv 12) pe_str (nomark _)))) (fun _ _ _ _ _ => (pv 12))) pa_nil)))
        (pss_one (ps_if (PW.pt (pw_or (pt_cmpR op_ne (pv 10) (pe_callB (cr_sum rfl) (by rfl) T.z_sum (by decide +kernel) (pa_cons (pe_callTy (call_listV rfl) (by rfl) T.z_list (by decide +kernel) (pa_cons (pe_bm0 PySem.F.plainAttrs_dict PySem.F.slot_dict_values PySem.F.type_dict_values mt_vals (pv 3)) pa_nil)) pa_nil)) (nomark _)) (pw_or1 (pt_cmpR op_ne (pe_callB call_len_seq (by rfl) T.z_len (by decide +kernel) (pa_cons (pe_call G_l_moves (hr.mono (by omega)) rfl T.g_l_moves T.F_l_moves.kp T.b_l_moves .nil pass0 (pa_cons (pv 6) pa_nil)) pa_nil)) (pe_op op_mul pe_int (pv 10)) (nomark _))))) (pss_one (ps_ret pe_bl)) pss_nil)))))))))
      (pss_one (ps_ret pe_bl))), ?_⟩
    refine pSeq ⟨_, rfl, a0, _, rfl, .inl hS, 2, _, rfl, 1, _, rfl, rfl, _, rfl, ?_, ?_, ?_⟩
    · split <;> omega
    · split <;> omega
    generalize hN : ((1 : Int) + (if (((ns0.map V.int).length : Nat) : Int) < 2 then (((ns0.map V.int).length : Nat) : Int) else 2)).toNat = N
    have hN2 : N ≤ 3 := by
      rw [← hN]
      split <;> omega
    refine for_range (n := N) (fun i σ H' => ∃ y1 y2 y3 y4 y5 y6 y7 y8 y9 y10 y11 y12, σ = [some (.ref a0), y1, y2, y3, y4, y5, y6, y7, y8, y9, y10, y11, y12] ∧ TabsN (TT T) H' ∧ SqL K H' a0 (ns0.map V.int)) ⟨_, _, _, _, _, _, _, _, _, _, _, _, rfl, t0, hS⟩ ?_ ?_
    · rintro i σ Hz hi ⟨y1, y2, y3, y4, y5, y6, y7, y8, y9, y10, y11, y12, rfl, tz, sz⟩
      refine pGN (pSeq (pAsg ⟨_, rfl, _, rfl, a0, ns0, i, by rw [Int.zero_add]; rfl, sz, by omega, fun p H1 np s1 b1 => fun pc npc => ⟨Nat.zero_le _, fun ph nph => fun sp nsp => ⟨(by decide : 4 ≤ sizeLine), fun tt ntt => ⟨tt, _, rfl, sqtOf upd_same, rfl, _, _, rfl, _, _, rfl, _, _, rfl, _, _, rfl, rfl, ?_⟩⟩⟩⟩))
      have fpc := Fr.mk npc
      have fph := Fr.mk nph
      have fsp := Fr.mk nsp
      have ftt := Fr.mk ntt
      have s15 := (((same_newF (o := .dK []) fpc).trans (same_newF (o := .lst []) fph)).trans (same_newF (o := .dK []) fsp)).trans (same_newF (o := .tup [.ref p, .ref pc, .ref ph, .ref sp]) ftt)
      have epc : upd (upd (upd (upd H1 pc (.dK [])) ph (.lst [])) sp (.dK [])) tt (.tup [.ref p, .ref pc, .ref ph, .ref sp]) pc = some (.dK []) := atNew ftt (atNew fsp (atNew fph upd_same))
      have eph : upd (upd (upd (upd H1 pc (.dK [])) ph (.lst [])) sp (.dK [])) tt (.tup [.ref p, .ref pc, .ref ph, .ref sp]) ph = some (.lst []) := atNew ftt (atNew fsp upd_same)
      have esp : upd (upd (upd (upd H1 pc (.dK [])) ph (.lst [])) sp (.dK [])) tt (.tup [.ref p, .ref pc, .ref ph, .ref sp]) sp = some (.dK []) := atNew ftt upd_same
      have ncs : pc ≠ sp := ne_of_none (H := upd (upd H1 pc (.dK [])) ph (.lst [])) (atNew fph upd_same) nsp
      have b5 : Bag (upd (upd (upd (upd H1 pc (.dK [])) ph (.lst [])) sp (.dK [])) tt (.tup [.ref p, .ref pc, .ref ph, .ref sp])) p := bag_kpR (kp_same (cs := []) s15) not_nil b1
      have t5 := tabs_same (tabs_same tz s1) s15
      have sz5 := s1.trans s15
      obtain ⟨bx, ebx⟩ := bag_lst b1
      have nphp : ph ≠ p := (ne_of_none (same_newF (o := .dK []) fpc _ _ ebx) nph).symm
      dsimp only []
      generalize upd (upd (upd (upd H1 pc (.dK [])) ph (.lst [])) sp (.dK [])) tt (.tup [.ref p, .ref pc, .ref ph, .ref sp]) = H5 at s15 epc eph esp b5 t5 sz5 ⊢
      obtain ⟨bx5, ebx5⟩ := bag_lst b5
      have npp : p ∉ [pc, ph, sp] := not_cons (neO ebx5 epc (fun z => nomatch z)) (not_cons nphp.symm (not_cons (neO ebx5 esp (fun z => nomatch z)) not_nil))
      refine pSeq (pAsg ⟨_, rfl, _, rfl, pc, ph, rfl, epc, eph, t5, fun t o c l lm en fp cp fo co fa ca clp clo cla Hb x6 y6 t6 ft fo' fc fl flm fen cn tm0 => pGN ?_⟩)
      simp only [List.set_cons_succ, List.set_cons_zero]
      have up6 : ∀ {a : Addr} {x : HO}, H5 a = some x → (∀ ps, x ≠ .tbl ps) → Hb a = some x := fun e n => x6 _ _ e n
      have b6 : Bag Hb p := by
        obtain ⟨g, m, c', e, z⟩ := b5
        exact ⟨g, m, c', up6 e (fun _ z => nomatch z), z⟩
      have esp6 := up6 esp (fun _ z => nomatch z)
      have epc6 := up6 epc (fun _ z => nomatch z)
      have eph6 := up6 eph (fun _ z => nomatch z)
      have sz6 : SqL K Hb a0 (ns0.map V.int) := by
        rcases sqlSame sz5 sz with (h | ⟨o, h⟩) | h
        · exact .inl (.inl (up6 h (fun _ z => nomatch z)))
        · exact .inl (.inr ⟨o, up6 h (fun _ z => nomatch z)⟩)
        · exact .inr h
      obtain ⟨W, hW⟩ : ∃ W, W = T.p_next_pieces :: [t, lm, en, o, c, l, pc, ph, p, sp] := ⟨_, rfl⟩
      have a0W : ∀ {x : HO}, Hz a0 = some x → (∀ ps, x ≠ .tbl ps) → a0 ∉ W := fun {x} e n => by
        have e1 := s1 _ _ e
        have e5 := sz5 _ _ e
        have n5 : ∀ {a : Addr}, Fr H5 a → a0 ≠ a := fun f => ne_of_none e5 f.h
        rw [hW]
        exact not_cons (tab_ne t6 (hm_next_pieces T) (up6 e5 n) n) (not_cons (n5 ft) (not_cons (n5 flm) (not_cons (n5 fen) (not_cons (n5 fo') (not_cons (n5 fc) (not_cons (n5 fl) (not_cons (ne_of_none e1 npc) (not_cons (ne_of_none (same_newF (o := .dK []) fpc _ _ e1) nph) (not_cons (ne_of_none e np) (not_cons (ne_of_none (((same_newF (o := .dK []) fpc).trans (same_newF (o := .lst []) fph)) _ _ e1) nsp) not_nil))))))))))
      have szW : ∀ {H' : Hp}, Kp W Hb H' → SqL K H' a0 (ns0.map V.int) := fun k => by
        rcases sz with (h | ⟨o, h⟩) | h
        · exact .inl (.inl (k.at_ _ _ (up6 (sz5 _ _ h) (fun _ z => nomatch z)) (a0W h (fun _ z => nomatch z))))
        · exact .inl (.inr ⟨o, k.at_ _ _ (up6 (sz5 _ _ h) (fun _ z => nomatch z)) (a0W h (fun _ z => nomatch z))⟩)
        · exact .inr h
      have dps : ∀ a ∈ [p, sp], a ∉ [pc, ph] := subCons (not_cons (fun z => npp (by rw [← z]; exact memA)) (not_cons nphp.symm not_nil)) (subCons (not_cons ncs.symm (not_cons (neO esp eph (fun z => nomatch z)) not_nil)) subNil)
      have pW : p ∈ W := by rw [hW]; exact memB (memB (memB (memB (memB (memB (memB (memB (memB memA))))))))
      have j0 : JL T Hb W p sp t o c l lm en fp cp fo co fa ca pc ph clp clo cla 0 0 0 (fun _ => 0) (fun _ => 0) (fun _ => 0) [] [] (fun _ => .non) (fun _ => 0) (fun _ => 0) Hb :=
        ⟨tm0 [p, sp] _ (subCons ⟨_, ebx5, fun _ z => nomatch z⟩ (subCons ⟨_, esp, fun _ z => nomatch z⟩ subNil)) ⟨⟨cn, epc6, eph6⟩, b6, esp6⟩, t6, kp_refl _ _, fun i z => absurd z (Nat.not_lt_zero _), CkT.nil, KvN.nil, fun i z => absurd z (Nat.not_lt_zero _), Nat.le_refl _, rfl⟩
      refine pSeq ⟨_, rfl, p, 201, rfl, b6, by decide, by decide, fun r Hc r0 r1 bc kc => ⟨_, rfl, by omega, by omega, ?_⟩⟩
      have jc := j0.take pW npp kc bc
      refine for_range (n := r.toNat) (fun turn σ H' => ∃ y7 y8 y9 now n lo hi ts tr M mb lim ends, σ = [some (.ref a0), some (.int (0 + (i : Int))), some (.ref p), some (.ref pc), some (.ref ph), some (.ref sp), some (.ref t), y7, y8, y9, y10, y11, y12] ∧ now ≤ turn ∧ n ≤ turn ∧ JL T Hb W p sp t o c l lm en fp cp fo co fa ca pc ph clp clo cla now n (402 * turn) lo hi ts tr M mb lim ends H') ⟨_, _, _, 0, 0, _, _, _, _, _, _, _, _, rfl, Nat.le_refl _, Nat.le_refl _, jc⟩ ?_ ?_
      · rintro turn σ H' hturn ⟨y7, y8, y9, now, n, lo, hi, ts, tr, M, mb, lim, ends, rfl, hnow, hn, j⟩
        have htu : turn < 201 := by omega
        refine pGN ?_
        simp only [List.set_cons_succ, List.set_cons_zero]
        refine mid_seq (fun σ' H' => ∃ y8 y9 now n lo hi ts tr M mb lim ends, σ' = [some (.ref a0), some (.int (0 + (i : Int))), some (.ref p), some (.ref pc), some (.ref ph), some (.ref sp), some (.ref t), some (.int (0 + (turn : Int))), y8, y9, y10, y11, y12] ∧ now ≤ turn + 1 ∧ n ≤ turn + 1 ∧ JL T Hb W p sp t o c l lm en fp cp fo co fa ca pc ph clp clo cla now n (402 * turn + 401) lo hi ts tr M mb lim ends H') (fun N hN' => ?_) ?_
        · obtain ⟨dx4, hd4, et4, _, _⟩ := j.tm.ht
          have ml4 := j.ml
          have tl4 := j.tl
          refine ⟨_, rfl, p, 3, rfl, j.r.2.1, by decide, by decide, fun r2 H4 r20 r21 b4 k4 => ⟨rfl, _, rfl, ?_⟩⟩
          have j4 := j.take pW npp k4 b4
          obtain ⟨dx4, hd4, et4, _, _⟩ := j4.tm.ht
          refine ite2 (fun _ => ?_) (fun _ => ?_)
          · refine pSeq (pAsg ⟨_, rfl, t, dx4, _, rfl, et4, rfl, t, o, c, l, lm, en, .ref fp, .ref fo, .ref fa, [pc, ph, p, sp], PMn, _, tr, n, now, M, mb, lim, ends, rfl, j4.tm, pGN ?_⟩)
            simp only [List.set_cons_succ, List.set_cons_zero]
            refine pSeq (pAsg ⟨_, rfl, _, _, rfl, rfl, _, rfl, le3, fun q3 nq3 => ⟨_, rfl, p, 3, rfl, bag_putF (Fr.mk nq3) b4, by decide, by decide, fun r3 H5 r30 r31 b5 k5 => ?_⟩⟩)
            obtain ⟨m3, rfl⟩ := Int.eq_ofNat_of_zero_le r30
            obtain ⟨v, hv, hv1, hv2⟩ : ∃ v : Int, [V.int 4, V.int 60, V.int 500][m3]? = some (.int v) ∧ 0 < v ∧ v ≤ 500 := by
              match m3, (show m3 < 3 by omega) with
              | 0, _ => exact ⟨4, rfl, by decide, by decide⟩
              | 1, _ => exact ⟨60, rfl, by decide, by decide⟩
              | 2, _ => exact ⟨500, rfl, by decide, by decide⟩
            have sq3 := same_newF (o := .lst [.int 4, .int 60, .int 500]) (Fr.mk nq3)
            have j4' := j4.same sq3
            have j5 := j4'.take pW npp k5 b5
            have nq3p : q3 ≠ p := fun z => by
              obtain ⟨bx, e⟩ := bag_lst b4
              rw [z, e] at nq3
              cases nq3
            have eq5 : H5 q3 = some (.lst [.int 4, .int 60, .int 500]) := k5.at_ _ _ upd_same (not_cons nq3p not_nil)
            refine ⟨q3, _, _, _, rfl, rfl, sqlOf eq5, atI_nat (j := m3) hv, p, v, rfl, b5, hv1, by omega, fun r4 H6 r40 r41 b6 k6 => ⟨_, _, rfl, rfl, pGN ?_⟩⟩
            simp only [List.set_cons_succ, List.set_cons_zero]
            have j6 := j5.take pW npp k6 b6
            obtain ⟨m4, rfl⟩ := Int.eq_ofNat_of_zero_le r40
            have eu : (now : Int) + 1 + (m4 : Int) = ((now + 1 + m4 : Nat) : Int) := by omega
            rw [eu]
            have hu : now + 1 + m4 ≤ 700 := by omega
            refine ⟨_, rfl, _, rfl, le2, fun t2 nt2 => ?_⟩
            have st2 := same_newF (o := .tup [.int (now : Int), .int ((now + 1 + m4 : Nat) : Int)]) (Fr.mk nt2)
            have et2 : upd H6 t2 (.tup [.int (now : Int), .int ((now + 1 + m4 : Nat) : Int)]) t2 = some (.tup [.int (now : Int), .int ((now + 1 + m4 : Nat) : Int)]) := upd_same
            have j7 := j6.same st2
            generalize upd H6 t2 (.tup [.int (now : Int), .int ((now + 1 + m4 : Nat) : Int)]) = H7 at st2 et2 j7 ⊢
            obtain ⟨dx7, hd7, et7, _, _⟩ := j7.tm.ht
            have ml7 := j7.ml
            have tl7 := j7.tl
            refine ⟨_, rfl, _, rfl, t, dx7, _, rfl, et7, rfl, _, rfl, sp, _, rfl, j7.r.2.2, _, rfl, rfl, rfl, t, o, c, l, lm, en, .ref fp, .ref fo, .ref fa, _, [pc, ph, p, sp], PMn, (fun _ => True), _, AnN, tr, n, now, now + 1 + m4, M, mb, lim, ends, rfl, osL T dps, j7.tm, ?_, by omega, by omega, by omega, by omega, fun H8 k8 tm8 => ?_⟩
            · show V.int _ = V.int (intN n)
              rw [len_range]
              rfl
            have mW7 : Mu H7 W := by rw [hW]; exact j7.lst.2
            have k8' : Kp W H7 H8 := kp_more k8 fun a m => by rw [hW]; exact memB m
            obtain ⟨od8, hO8⟩ := tm8.out
            have r8 := hO8.r
            have hes : H8 sp = some (.dK (dM (List.range n) (rV ts))) := r8.2.2
            refine ⟨sp, _, rfl, DPut.k (k := .inl (n : Int)) hes (by rw [len_range, sizeLine_eq]; omega), ?_⟩
            have hnr : n ∉ List.range n := by simp
            have edk : (upd H8 sp (.dK (putK (dM (List.range n) (rV ts)) (.inl (n : Int)) (.ref t2)))) sp = some (.dK (dM (List.range (n + 1)) (rV fun x => if x = n then t2 else ts x))) := by
              rw [upd_same, dM_new hnr, List.range_succ]
              refine congrArg (fun z => some (HO.dK z)) (dM_congr fun x _ => ?_)
              show (if x = n then V.ref t2 else V.ref (ts x)) = V.ref (if x = n then t2 else ts x)
              by_cases c : x = n
              · rw [if_pos c, if_pos c]
              · rw [if_neg c, if_neg c]
            have k9 : Kp [sp] H8 (upd H8 sp (.dK (putK (dM (List.range n) (rV ts)) (.inl (n : Int)) (.ref t2)))) := kp_up memA (kp_refl _ _)
            have m9 : Mu H8 [sp] := mu_cons hes (fun _ z => nomatch z) (fun _ z => nomatch z) mu_nil
            generalize upd H8 sp (.dK (putK (dM (List.range n) (rV ts)) (.inl (n : Int)) (.ref t2))) = H9 at edk k9 ⊢
            have nsp' : ∀ a ∈ [pc, ph], a ∉ [sp] := subCons (not_cons ncs not_nil) (subCons (not_cons (fun z => dps sp (memB memA) (by rw [← z]; exact memB memA)) not_nil) subNil)
            have nps : p ≠ sp := fun z => npp (by rw [z]; exact memB (memB memA))
            have spW : sp ∈ W := by rw [hW]; exact memB (memB (memB (memB (memB (memB (memB (memB (memB (memB memA)))))))))
            have tb8 : TabsN (TT T) H8 := tabsN_kpU j7.tb k8 (fun a m => j7.lst.2 a (memB m)) j7.tabW
            have tb9 : TabsN (TT T) H9 := tabsN_kpU tb8 k9 m9 fun pT hp' => by
              obtain ⟨ps, z, _⟩ := tb8 pT hp'
              exact not_cons (neO z hes (fun z => nomatch z)) not_nil
            refine hN' _ _ ⟨_, _, now, n + 1, (fun x => if x = n then now else lo x), (fun x => if x = n then now + 1 + m4 else hi x), (fun x => if x = n then t2 else ts x), _, _, _, _, _, rfl, by omega, by omega, ⟨tm8.kq (kq_kp k9) m9 (subCons (memB (memB (memB memA))) subNil) ⟨r8.1.kp k9 m9 nsp', bag_kpR k9 (not_cons nps not_nil) r8.2.1, edk⟩, tb9, kp_trans j7.kp (kp_trans k8' (kp_more k9 (subCons spW subNil))), fun x hx => ?_, ?_, j7.kv.add, fun x hx => ?_, ?_, j7.bl.add⟩⟩
            · by_cases c : x = n
              · rw [if_pos c, if_pos c, if_pos c]
                exact kp_tup k9 m9 (kp_tup k8' mW7 et2)
              · rw [if_neg c, if_neg c, if_neg c]
                exact kp_tup k9 m9 (kp_tup k8' mW7 (j7.tu x (by omega)))
            · have hck := (j7.ck.cong (A2 := fun x => if x = n then now else lo x) (L2 := fun x => if x = n then now + 1 + m4 else hi x) fun x hx => ⟨(if_neg (by omega)).symm, (if_neg (by omega)).symm⟩).add (m := V.int ((dM (List.range n) (rV ts)).length : Int)) (if_pos rfl) (by show now < if n = n then now + 1 + m4 else hi n; rw [if_pos rfl]; omega)
              have e0 : (fun x => if x = n then (fun x => if x = n then now + 1 + m4 else hi x) n else lim x) = fun x => if x = n then now + 1 + m4 else lim x := funext fun x => by
                by_cases c : x = n
                · rw [if_pos c, if_pos c]
                  exact if_pos rfl
                · rw [if_neg c, if_neg c]
              rw [e0] at hck
              exact hck
            · by_cases c : x = n
              · rw [if_pos c, if_pos c]
                omega
              · rw [if_neg c, if_neg c]
                exact j7.bd x (by omega)
            · rw [List.length_append]
              show _ + 1 ≤ _
              omega
          · refine ⟨_, rfl, t, dx4, _, rfl, et4, rfl, ?_⟩
            unfold tNil
            dsimp only []
            refine j4.tick hW (by omega) (by omega) dps fun r H2 tr2 M2 lim2 ends2 j5 => ?_
            exact hN' _ _ ⟨_, _, now + 1, n, lo, hi, ts, tr2, M2, mb, lim2, ends2, rfl, by omega, by omega, ⟨j5.tm, j5.tb, j5.kp, j5.tu, j5.ck, j5.kv, j5.bd, Nat.le_trans j5.tl (by omega), j5.bl⟩⟩
        · rintro σ' H5' ⟨y8, y9, now, n, lo, hi, ts, tr, M, mb, lim, ends, rfl, hnow, hn, j⟩
          obtain ⟨dx4, hd4, et4, _, _⟩ := j.tm.ht
          have ml4 := j.ml
          have tl4 := j.tl
          have hst : (stC [] tr).length = M.length := j.tm.ti.pm.length_eq
          have eph4 := j.r.1.2.2
          refine pIf (pOr (pTest (pOp ⟨_, rfl, ph, _, rfl, .inl (sqlOf eph4), _, rfl, t, dx4, _, rfl, et4, t, o, c, l, lm, en, _, _, _, _, PMn, _, tr, n, now, M, mb, lim, ends, rfl, j.tm, M.length, rfl, by omega, rfl, _, rfl, ifF ?_ (pTest (pOp ⟨_, rfl, t, dx4, _, rfl, et4, rfl, t, o, c, l, lm, en, .ref fp, .ref fo, .ref fa, .int 0, [pc, ph, p, sp], PMn, (fun _ => True), _, AnN, tr, n, now, M, mb, lim, ends, rfl, osL T dps, j.tm, True.intro, by omega, fun u H6 k6 tm6 an6 fr6 => ?_⟩))⟩)))
          · rw [pileA_len, hst, decide_eq_true rfl]
            rfl
          · have k6' : Kp W H5' H6 := kp_more k6 fun a m => by rw [hW]; exact memB (memB (memB (memB m)))
            have mW5 : Mu H5' W := by rw [hW]; exact j.lst.2
            obtain ⟨dx6, hd6, et6, _, _⟩ := tm6.ht
            have an6 : u = .int (((stC [] tr).length : Nat) : Int) := an6
            refine ⟨_, rfl, t, dx6, _, rfl, et6, t, o, c, l, lm, en, _, _, _, _, PMn, _, _, n, now, M, mb, lim, ends, rfl, tm6, M.length, rfl, by omega, by rw [an6]; rfl, _, rfl, ifF ?_ (pNx ?_)⟩
            · rw [an6, hst, decide_eq_true rfl]
              rfl
            · have tb6 : TabsN (TT T) H6 := tabsN_kpU j.tb k6 (fun a m => j.lst.2 a (memB (memB (memB (memB m))))) fun pT hp m => j.tabW pT hp (memB (memB (memB m)))
              exact ⟨_, _, _, now, n, lo, hi, ts, _, M, mb, lim, ends, rfl, hnow, hn, ⟨tm6, tb6, kp_trans j.kp k6', fun x hx => kp_tup k6' mW5 (j.tu x hx), ⟨j.ck.mm, j.ck.lm, fun x hx => by rw [cntC_app, cntC_ask]; exact j.ck.ct x hx, fun x hx => by rw [cntC_app, cntC_ask]; exact j.ck.c0 x hx⟩, j.kv.ask, j.bd, by rw [List.length_append]; show _ + 1 ≤ _; omega, j.bl.ask⟩⟩
      · rintro σ H' ⟨y7, y8, y9, now, n, lo, hi, ts, tr, M, mb, lim, ends, rfl, hnow, hn, j⟩
        have hr200 : r.toNat ≤ 200 := by omega
        dsimp only []
        refine pSeq ⟨fun m σ' H2 => ∃ now tr M lim ends, m = 701 - now ∧ now ≤ 700 ∧ σ' = [some (.ref a0), some (.int (0 + (i : Int))), some (.ref p), some (.ref pc), some (.ref ph), some (.ref sp), some (.ref t), y7, y8, y9, y10, y11, y12] ∧ JL T Hb W p sp t o c l lm en fp cp fo co fa ca pc ph clp clo cla now n (80802 + 402 * now) lo hi ts tr M mb lim ends H2, ⟨_, now, tr, M, lim, ends, rfl, by omega, rfl, ⟨j.tm, j.tb, j.kp, j.tu, j.ck, j.kv, j.bd, Nat.le_trans j.tl (by omega), j.bl⟩⟩, ?_⟩
        clear j hnow
        rintro m σ' H2 ⟨now, tr, M, lim, ends, rfl, hnow, rfl, j⟩
        obtain ⟨dx4, hd4, et4, _, _⟩ := j.tm.ht
        have ml4 := j.ml
        have tl4 := j.tl
        refine pTest (pOp ⟨_, rfl, t, dx4, _, rfl, et4, t, o, c, l, lm, en, _, _, _, _, PMn, _, tr, n, now, M, mb, lim, ends, rfl, j.tm, M.length, rfl, by omega, _, _, rfl, rfl, _, rfl, ite2 (fun hpos => ?_) (fun hneg => ?_)⟩)
        · have hpos : 0 < M.length := by
            have := of_decide_eq_true hpos
            omega
          obtain ⟨x, hx⟩ : ∃ x, x ∈ M := List.exists_mem_of_length_pos hpos
          have h1 := (j.ck.mm x).mp hx
          have h2 := (j.bd x h1.1).2
          refine ⟨fun σ' H' => ∃ tr M lim ends, σ' = [some (.ref a0), some (.int (0 + (i : Int))), some (.ref p), some (.ref pc), some (.ref ph), some (.ref sp), some (.ref t), y7, y8, y9, y10, y11, y12] ∧ JL T Hb W p sp t o c l lm en fp cp fo co fa ca pc ph clp clo cla (now + 1) n (80802 + 402 * (now + 1)) lo hi ts tr M mb lim ends H', fun σ' H' ⟨tr, M, lim, ends, e, j'⟩ => ⟨701 - (now + 1), by omega, now + 1, tr, M, lim, ends, rfl, by omega, e, j'⟩, ?_⟩
          refine ⟨_, rfl, t, dx4, _, rfl, et4, rfl, ?_⟩
          unfold tNil
          dsimp only []
          refine j.tick hW (by omega) (by omega) dps fun r H3 tr2 M2 lim2 ends2 j5 => ?_
          exact ⟨tr2, M2, lim2, ends2, rfl, ⟨j5.tm, j5.tb, j5.kp, j5.tu, j5.ck, j5.kv, j5.bd, Nat.le_trans j5.tl (by omega), j5.bl⟩⟩
        · have hM : M = [] := List.length_eq_zero_iff.mp (by
            have : ¬ ((0 : Int) < (M.length : Int)) := fun z => hneg (decide_eq_true z)
            omega)
          subst hM
          have hst : stC [] tr = [] := List.Perm.eq_nil j.tm.ti.pm
          have eph2 : H2 ph = some (.lst []) := by
            have := j.r.1.2.2
            rw [hst] at this
            exact this
          have epc2 : H2 pc = some (.dK (dM (List.range n) (iV fun i => cntC i tr))) := by
            have := j.r.1.2.1
            rw [j.kv.kv] at this
            exact this
          have esp2 := j.r.2.2
          have hbal : nMv tr = 2 * nPu tr := by
            have := j.bl
            unfold Bal at this
            rw [hst] at this
            exact this
          dsimp only []
          refine pSeq (pIf (pOr (pTest (pOp ⟨_, rfl, Nat.zero_le _, fun z nz => ⟨ph, z, [], rfl, rfl, sqlOf (same_newF (Fr.mk nz) _ _ eph2), sqlOf upd_same, _, rfl, ifF rfl ?_⟩⟩))))
          have sz := same_newF (o := .lst []) (Fr.mk nz)
          refine ⟨_, rfl, _, rfl, pc, sp, n, (fun i => cntC i tr), lo, hi, ts, rfl, ncs, sz _ _ epc2, sz _ _ esp2, by omega, (fun x hx => ⟨sz _ _ (j.tu x hx), (j.bd x hx).1, Nat.le_trans (j.bd x hx).2 (by decide), ?_⟩), fun H3 s3 => ⟨true, rfl, ?_⟩⟩
          · have := j.ck.ct x hx
            rw [if_neg (fun z => nomatch z), Nat.add_zero] at this
            exact this
          refine ifF rfl (pNx ?_)
          have j3 := (j.same sz).same s3
          dsimp only []
          refine pSeq (pAsg ⟨_, rfl, t, o, c, l, lm, en, .ref fp, .ref fo, .ref fa, [pc, ph, p, sp], PMn, _, tr, n, now, [], mb, lim, ends, rfl, j3.tm, by omega, fun r4 zs H4 s4 fr4 er4 lg4 => ⟨r4, rfl, ⟨_, sqlOf er4⟩, fun D nD => ?_⟩⟩)
          have fD := Fr.mk nD
          have hzl := lg4.len
          have hml : (tr.filter isMv).length ≤ tr.length := List.length_filter_le _ _
          refine lc_it (walk_list (K := K) (a := r4) (xs := zs)) (fun q H' => Same H4 H' ∧ ∃ ws, H' D = some (.lst ws) ∧ ws.length = (((tr.filter isMv).take q).filter isPush).length) ⟨same_newF fD, [], upd_same, rfl⟩ (fun q H' _ z => sqlOf (z.1 _ _ er4)) ?_ ?_
          · rintro q2 x H16z H16 hq2 ⟨s16, ws, eD2, hw2⟩ ⟨rfl, hx2⟩
            have hql : q2 < (tr.filter isMv).length := by rw [← hzl]; exact hq2
            have hee : (tr.filter isMv)[q2]? = some ((tr.filter isMv)[q2]'hql) := List.getElem?_eq_getElem hql
            have hme : isMv ((tr.filter isMv)[q2]'hql) = true := (List.mem_filter.mp (List.getElem_mem hql)).2
            generalize (tr.filter isMv)[q2]'hql = e at hee hme
            obtain ⟨p2, rfl, hp2⟩ := lg4.at_ q2 x e hx2 hee
            obtain ⟨wd, ix, hent, hb⟩ := mv_ent hme
            rw [hent] at hp2
            have hwl : ws.length ≤ q2 := by
              rw [hw2]
              exact Nat.le_trans (List.length_filter_le _ _) (List.length_take_le _ _)
            have hstep : (((tr.filter isMv).take (q2 + 1)).filter isPush).length = ws.length + (if isPush e = true then 1 else 0) := by
              rw [List.take_succ, hee, List.filter_append, List.length_append, ← hw2]
              congr 1
              show (([e]).filter isPush).length = _
              rw [List.filter_cons, List.filter_nil]
              split <;> rfl
            refine ⟨p2, _, rfl, sqtOf (s16 _ _ hp2), rfl, _, _, rfl, _, _, rfl, rfl, rfl, ⟨_, rfl, rfl, _, rfl, ?_⟩⟩
            rw [hb]
            by_cases ce : isPush e = true
            · refine ifT ce ⟨_, rfl, ws, eD2, by rw [sizeLine_eq]; omega, same_putG fD s16, _, upd_same, ?_⟩
              rw [hstep, if_pos ce, List.length_append]
              rfl
            · refine ifF (by cases h : isPush e; rfl; exact absurd h ce) ⟨s16, ws, eD2, ?_⟩
              rw [hstep, if_neg ce]
              rfl
          · rintro H16 ⟨s16, ws, eD2, hw2⟩
            rw [List.take_of_length_le (by rw [hzl]; exact Nat.le_refl _), mv_len] at hw2
            have j16 := j3.same (s4.trans s16)
            have epc16 : H16 pc = some (.dK (dM (List.range n) (iV fun i => cntC i tr))) := (s4.trans s16) _ _ (s3 _ _ (sz _ _ epc2))
            refine ⟨D, ws, rfl, .inl (sqlOf eD2), pGN ?_⟩
            simp only [List.set_cons_succ, List.set_cons_zero]
            refine pIf (pOr (pTest (pOp ⟨_, rfl, _, rfl, .inr (.inr (.inl ⟨rfl, .inl ⟨_, epc16⟩⟩)), pc, _, rfl, rfl, epc16, fun p1 np1 => ?_⟩)))
            have f1 := Fr.mk np1
            have s5 := same_newF (o := L2.valsO p1 pc) f1
            refine ⟨p1, pc, _, rfl, upd_same, s5 _ _ epc16, fun q1 nq1 => ?_⟩
            have f2 := Fr.mk nq1
            have s6 := same_newF (o := .lst ((dM (List.range n) (iV fun i => cntC i tr)).map Prod.snd)) f2
            have eq1 : upd (upd H16 p1 (L2.valsO p1 pc)) q1 (.lst ((dM (List.range n) (iV fun i => cntC i tr)).map Prod.snd)) q1 = some (.lst ((dM (List.range n) (iV fun i => cntC i tr)).map Prod.snd)) := upd_same
            rw [dM_snd] at s6 eq1 ⊢
            refine ⟨q1, _, rfl, sqlOf eq1, rfl, _, rfl, ifF ?_ ?_⟩
            · rw [sum_cast, sum_cnt j.kv.c0, hw2, decide_eq_true rfl]
              rfl
            have j17 := j16.same (s5.trans s6)
            generalize upd (upd H16 p1 (L2.valsO p1 pc)) q1 (.lst (((List.range n).map fun i => ((cntC i tr : Nat) : Int)).map V.int)) = H17 at j17 ⊢
            refine pTest (pOp ⟨_, rfl, t, o, c, l, lm, en, .ref fp, .ref fo, .ref fa, [pc, ph, p, sp], PMn, _, tr, n, now, [], mb, lim, ends, rfl, j17.tm, by omega, fun r5 zs5 H5 s5 fr5 er5 lg5 => ⟨r5, _, rfl, .inl (sqlOf er5), _, rfl, _, _, rfl, rfl, .inl ⟨by decide, by decide⟩, rfl, _, rfl, ifF ?_ (pNx ?_)⟩⟩)
            · have e0 : zs5.length = 2 * ws.length := by
                rw [lg5.len, hw2]
                exact hbal
              have e1 : V.int (zs5.length : Int) = V.int (2 * (ws.length : Int)) := by
                rw [e0, Int.natCast_mul]
                rfl
              show (!decide (V.int (zs5.length : Int) = V.int (2 * (ws.length : Int)))) = false
              rw [decide_eq_true e1]
              rfl
            · have j18 := j17.same s5
              exact ⟨_, _, _, _, _, _, _, _, _, _, _, _, rfl, j18.tb, szW j18.kp⟩
    · rintro σ H' ⟨y1, y2, y3, y4, y5, y6, y7, y8, y9, y10, y11, y12, rfl, t1, s1⟩
      exact q _
end
end Ob

set_option Elab.async false
set_option linter.all false
set_option maxRecDepth 100000
set_option maxHeartbeats 1000000
namespace Ob
open PySem PySem.Spec PyProof.Rows L2
open LamX (Tabs TabB TabS ExtN)

set_option hygiene false in
local macro_rules
  | `(tactic| kp_flats) => `(tactic| first
    | assumption
    | exact upd_same
    | (apply atNew; assumption; kp_flats)
    | (apply atNe; (next => kbo_bools); kp_flats)
    | (apply atSame; assumption; kp_flats)
    | (apply atKp; assumption; (next => kaf_pre); kp_flats))
set_option hygiene false in
local macro_rules
  | `(tactic| kaf_pre) => `(tactic| first
    | assumption
    | exact not_nil
    | (apply not_cons; (next => kbo_bools); kaf_pre)
    | (apply not_app; (next => kaf_pre); kaf_pre))
set_option hygiene false in
local macro_rules
  | `(tactic| kbo_bools) => `(tactic| first
    | assumption
    | (apply Ne.symm; assumption)
    | (apply neN; assumption; kp_flats)
    | (apply neN'; assumption; kp_flats))
set_option hygiene false in
local macro_rules
  | `(tactic| o_reads) => `(tactic| first
    | with_reducible rfl
    | assumption
    | rfl
    | kp_flats
    | (show SqL _ _ _ _; first | assumption | (apply sqlOf; kp_flats) | (apply sqlSame; assumption; o_reads))
    | (show SqT _ _ _ _; first | assumption | (apply sqtOf; kp_flats) | (apply sqtAll; assumption) | (apply sqtSame; assumption; o_reads))
    | (show Cls _ _; first | exact T.cl_Calls | exact T.cl_Outer | exact T.cl_Timed)
    | (show NoAttr _ _ _; first | exact T.n_Calls_entries | exact T.n_Calls_running | exact T.n_Outer_calls | exact T.n_Outer_push_call | exact T.n_Outer_pop_call | exact T.n_Outer_ask_call | exact T.n_Outer_order | exact T.n_Outer_broken | exact T.n_Timed_outer | exact T.n_Timed_given | exact T.n_Timed_now | exact T.n_Timed_held | exact T.n_Timed_limits | exact T.n_Timed_ends)
    | (apply Or.inl; o_reads)
    | (apply Or.inr; o_reads)
    | (apply And.intro; (next => o_reads); o_reads)
    | (apply Exists.intro; o_reads)
    | exact Nat.le_of_ble_eq_true rfl
    | exact Nat.succ_ne_zero _
    | (show Fr _ _; kba_ints)
    | (show Same _ _; kd_subs)
    | (show Kp _ _ _; kxs_still)
    | (show (_ : Nat) ≤ _; simp only [List.length_append, List.length_map, List.length_cons, List.length_nil, List.length_take, List.length_drop, List.length_replicate, List.length_range, sizeLine_eq]; omega)
    | (show _ = none; apply Fr.h; kba_ints)
    | (show Bag _ _; first | assumption | (apply bag_putF; assumption; o_reads) | (apply bag_neF; (next => kbo_bools); o_reads) | (apply bag_kpR; assumption; (next => kaf_pre); o_reads))
    | omega
    | decide)
local macro_rules
  | `(tactic| o_readsAll) => `(tactic| repeat (first
    | (refine fun (pNew : Addr) (nNew : _ = none) => ?_; replace nNew := Fr.mk nNew)
    | (refine fun (xNew dNew : Addr) (nNew : _ = none) (mNew : _ = none) (eNew : dNew ≠ xNew) => ?_; replace nNew := Fr.mk nNew; replace mNew := Fr.mk mNew)
    | (apply And.intro; next => o_reads)
    | apply Exists.intro (α := V)
    | apply Exists.intro (α := Addr)
    | apply Exists.intro (α := Int)
    | apply Exists.intro (α := Bool)
    | apply Exists.intro (α := List V)
    | apply Exists.intro (α := List Nat)
    | apply Exists.intro (α := List (Str × V))
    | apply Exists.intro (α := List _)
    | apply Exists.intro (α := Str)
    | apply Exists.intro (α := HO)
    | apply Exists.intro (α := Sp)
    | apply Exists.intro (α := VK)))
set_option hygiene false in
local macro_rules
  | `(tactic| kba_ints) => `(tactic| first
    | assumption
    | (apply frUp; (first | assumption | (apply Ne.symm; assumption)); kba_ints)
    | (apply noneOf; assumption; intro oF eF; apply Exists.intro; kp_flats)
    | (apply frUp; (next => kbo_bools); kba_ints))
set_option hygiene false in
local macro_rules
  | `(tactic| kxs_still) => `(tactic| first
    | assumption
    | exact kp_refl _ _
    | (apply kp_newF; assumption; kxs_still)
    | (apply kp_new; assumption; kxs_still)
    | (apply kp_up; (next => o_fieldsN); kxs_still)
    | (apply kp_new; (next => kba_ints); kxs_still)
    | (apply kp_sameR; assumption; kxs_still)
    | (apply kp_transR; assumption; kxs_still)
    | (apply kp_freshR; assumption; (next => kaf_suf); kxs_still))
set_option hygiene false in
local macro_rules
  | `(tactic| kaf_suf) => `(tactic| first
    | assumption
    | exact subNil
    | (apply subCons; (first | (apply Or.inl; o_fieldsN) | (apply Or.inr; kba_ints)); kaf_suf)
    | (apply subApp; (next => kaf_suf); kaf_suf))
set_option hygiene false in
local macro_rules
  | `(tactic| o_fieldsN) => `(tactic| first
    | assumption
    | exact memA
    | (apply memB; o_fieldsN)
    | (apply memL; o_fieldsN)
    | (apply memR; o_fieldsN))
set_option hygiene false in
local macro_rules
  | `(tactic| kd_subs) => `(tactic| first
    | assumption
    | exact Same.refl _
    | (apply same_putF; assumption; kd_subs)
    | (apply same_putG; assumption; kd_subs)
    | (apply same_putF; (next => kba_ints); kd_subs)
    | (apply same_transR; assumption; kd_subs))

open NdefX (TabsN)
set_option pp.maxSteps 700
theorem all_mk {QQ : Program} {l : PySem.W.OpenLaw} {w : World} {K : PySem.W.Frag} {h : Heap} {mg : Str → Option Value} {fa : Addr} (X : K.In h) (G : h.Ns mainGlobals mg) (hfa : mg "law" = some (.ref fa)) (tt : Inf.TopTabs QQ K mg h)
    {C_Calls : Addr} {C_Outer : Addr} {C_Timed : Addr} {a0 : Addr} {oc0 kV0 dc0 pm0 ct0 : Value} {od0 an0 : Option Addr} {sl0 : Array (Option Value)} {cd0 : Value} {a1 : Addr} {oc1 kV1 dc1 pm1 ct1 : Value} {od1 an1 : Option Addr} {sl1 : Array (Option Value)} {cd1 : Value} {a2 : Addr} {oc2 kV2 dc2 pm2 ct2 : Value} {od2 an2 : Option Addr} {sl2 : Array (Option Value)} {cd2 : Value} {a3 : Addr} {oc3 kV3 dc3 pm3 ct3 : Value} {od3 an3 : Option Addr} {sl3 : Array (Option Value)} {cd3 : Value} {a4 : Addr} {oc4 kV4 dc4 pm4 ct4 : Value} {od4 an4 : Option Addr} {sl4 : Array (Option Value)} {cd4 : Value} {a5 : Addr} {oc5 kV5 dc5 pm5 ct5 : Value} {od5 an5 : Option Addr} {sl5 : Array (Option Value)} {cd5 : Value} {a6 : Addr} {oc6 kV6 dc6 pm6 ct6 : Value} {od6 an6 : Option Addr} {sl6 : Array (Option Value)} {cd6 : Value} {a7 : Addr} {oc7 kV7 dc7 pm7 ct7 : Value} {od7 an7 : Option Addr} {sl7 : Array (Option Value)} {cd7 : Value} {a8 : Addr} {oc8 kV8 dc8 pm8 ct8 : Value} {od8 an8 : Option Addr} {sl8 : Array (Option Value)} {cd8 : Value} {a9 : Addr} {oc9 kV9 dc9 pm9 ct9 : Value} {od9 an9 : Option Addr} {sl9 : Array (Option Value)} {cd9 : Value} {a10 : Addr} {oc10 kV10 dc10 pm10 ct10 : Value} {od10 an10 : Option Addr} {sl10 : Array (Option Value)} {cd10 : Value} {a11 : Addr} {oc11 kV11 dc11 pm11 ct11 : Value} {od11 an11 : Option Addr} {sl11 : Array (Option Value)} {cd11 : Value} {a12 : Addr} {oc12 kV12 dc12 pm12 ct12 : Value} {od12 an12 : Option Addr} {sl12 : Array (Option Value)} {cd12 : Value} {a13 : Addr} {oc13 kV13 dc13 pm13 ct13 : Value} {od13 an13 : Option Addr} {sl13 : Array (Option Value)} {cd13 : Value} {a14 : Addr} {oc14 kV14 dc14 pm14 ct14 : Value} {od14 an14 : Option Addr} {sl14 : Array (Option Value)} {cd14 : Value} {a15 : Addr} {oc15 kV15 dc15 pm15 ct15 : Value} {od15 an15 : Option Addr} {sl15 : Array (Option Value)} {cd15 : Value} {a16 : Addr} {oc16 kV16 dc16 pm16 ct16 : Value} {od16 an16 : Option Addr} {sl16 : Array (Option Value)} {cd16 : Value} {a17 : Addr} {oc17 kV17 dc17 pm17 ct17 : Value} {od17 an17 : Option Addr} {sl17 : Array (Option Value)} {cd17 : Value} {a18 : Addr} {oc18 kV18 dc18 pm18 ct18 : Value} {od18 an18 : Option Addr} {sl18 : Array (Option Value)} {cd18 : Value} {a19 : Addr} {oc19 kV19 dc19 pm19 ct19 : Value} {od19 an19 : Option Addr} {sl19 : Array (Option Value)} {cd19 : Value} {a20 : Addr} {oc20 kV20 dc20 pm20 ct20 : Value} {od20 an20 : Option Addr} {sl20 : Array (Option Value)} {cd20 : Value} {a21 : Addr} {oc21 kV21 dc21 pm21 ct21 : Value} {od21 an21 : Option Addr} {sl21 : Array (Option Value)} {cd21 : Value} {a22 : Addr} {oc22 kV22 dc22 pm22 ct22 : Value} {od22 an22 : Option Addr} {sl22 : Array (Option Value)} {cd22 : Value} {a23 : Addr} {oc23 kV23 dc23 pm23 ct23 : Value} {od23 an23 : Option Addr} {sl23 : Array (Option Value)} {cd23 : Value} {a24 : Addr} {oc24 kV24 dc24 pm24 ct24 : Value} {od24 an24 : Option Addr} {sl24 : Array (Option Value)} {cd24 : Value} {a25 : Addr} {oc25 kV25 dc25 pm25 ct25 : Value} {od25 an25 : Option Addr} {sl25 : Array (Option Value)} {cd25 : Value} {a26 : Addr} {oc26 kV26 dc26 pm26 ct26 : Value} {od26 an26 : Option Addr} {sl26 : Array (Option Value)} {cd26 : Value} {a27 : Addr} {oc27 kV27 dc27 pm27 ct27 : Value} {od27 an27 : Option Addr} {sl27 : Array (Option Value)} {cd27 : Value} {a28 : Addr} {oc28 kV28 dc28 pm28 ct28 : Value} {od28 an28 : Option Addr} {sl28 : Array (Option Value)} {cc28 pp28 : Addr} {lv28 : Array Value} {lo28 : Value} {ld28 : Option Addr} {ls28 : Array (Option Value)} {a29 : Addr} {oc29 kV29 dc29 pm29 ct29 : Value} {od29 an29 : Option Addr} {sl29 : Array (Option Value)} {cd29 : Value} {a30 : Addr} {oc30 kV30 dc30 pm30 ct30 : Value} {od30 an30 : Option Addr} {sl30 : Array (Option Value)} {cd30 : Value} {a31 : Addr} {oc31 kV31 dc31 pm31 ct31 : Value} {od31 an31 : Option Addr} {sl31 : Array (Option Value)} {cd31 : Value} {a32 : Addr} {oc32 kV32 dc32 pm32 ct32 : Value} {od32 an32 : Option Addr} {sl32 : Array (Option Value)} {cd32 : Value} {a33 : Addr} {oc33 kV33 dc33 pm33 ct33 : Value} {od33 an33 : Option Addr} {sl33 : Array (Option Value)} {cc33 pp33 : Addr} {lv33 : Array Value} {lo33 : Value} {ld33 : Option Addr} {ls33 : Array (Option Value)} {a34 : Addr} {oc34 kV34 dc34 pm34 ct34 : Value} {od34 an34 : Option Addr} {sl34 : Array (Option Value)} {cd34 : Value} {a35 : Addr} {oc35 kV35 dc35 pm35 ct35 : Value} {od35 an35 : Option Addr} {sl35 : Array (Option Value)} {cd35 : Value} {a36 : Addr} {oc36 kV36 dc36 pm36 ct36 : Value} {od36 an36 : Option Addr} {sl36 : Array (Option Value)} {cd36 : Value} {t_GREATEST : Tok} {tLAST : Tok}
    (gc_Calls : PySem.W.nsIn K mainGlobals "Calls" = some (some (.ref C_Calls)))
    (gc_Outer : PySem.W.nsIn K mainGlobals "Outer" = some (some (.ref C_Outer)))
    (gc_Timed : PySem.W.nsIn K mainGlobals "Timed" = some (some (.ref C_Timed)))
    (ma0 : PySem.W.findIn K (.ref C_Calls) "__init__" = some (some (.ref a0)))
    (l0 : K.lookup a0 = some ⟨oc0, od0, .func (PySem.W.fnOf "__init__" "Calls.__init__" (defArgs s_Calls_init) (defBody s_Calls_init) (defScope s_Calls_init) .none kV0 dc0 pm0 an0 cd0 ct0), sl0⟩) (c0 : PySem.W.codeIn K cd0 "Calls.__init__" = true) (k0 : PySem.W.keepIn K (.ref a0) = true)
    (mt0 : PySem.W.isFn K (.ref a0) = true) (my0 : PySem.W.typeIn K (.ref a0) = some (.type "function"))
    (ma1 : PySem.W.findIn K (.ref C_Calls) "check" = some (some (.ref a1)))
    (l1 : K.lookup a1 = some ⟨oc1, od1, .func (PySem.W.fnOf "check" "Calls.check" (defArgs s_Calls_check) (defBody s_Calls_check) (defScope s_Calls_check) .none kV1 dc1 pm1 an1 cd1 ct1), sl1⟩) (c1 : PySem.W.codeIn K cd1 "Calls.check" = true) (k1 : PySem.W.keepIn K (.ref a1) = true)
    (mt1 : PySem.W.isFn K (.ref a1) = true) (my1 : PySem.W.typeIn K (.ref a1) = some (.type "function"))
    (ma2 : PySem.W.findIn K (.ref C_Calls) "run" = some (some (.ref a2)))
    (l2 : K.lookup a2 = some ⟨oc2, od2, .func (PySem.W.fnOf "run" "Calls.run" (defArgs s_Calls_run) (defBody s_Calls_run) (defScope s_Calls_run) .none kV2 dc2 pm2 an2 cd2 ct2), sl2⟩) (c2 : PySem.W.codeIn K cd2 "Calls.run" = true) (k2 : PySem.W.keepIn K (.ref a2) = true)
    (mt2 : PySem.W.isFn K (.ref a2) = true) (my2 : PySem.W.typeIn K (.ref a2) = some (.type "function"))
    (ma3 : PySem.W.findIn K (.ref C_Outer) "__init__" = some (some (.ref a3)))
    (l3 : K.lookup a3 = some ⟨oc3, od3, .func (PySem.W.fnOf "__init__" "Outer.__init__" (defArgs s_Outer_init) (defBody s_Outer_init) (defScope s_Outer_init) .none kV3 dc3 pm3 an3 cd3 ct3), sl3⟩) (c3 : PySem.W.codeIn K cd3 "Outer.__init__" = true) (k3 : PySem.W.keepIn K (.ref a3) = true)
    (mt3 : PySem.W.isFn K (.ref a3) = true) (my3 : PySem.W.typeIn K (.ref a3) = some (.type "function"))
    (ma4 : PySem.W.findIn K (.ref C_Outer) "check" = some (some (.ref a4)))
    (l4 : K.lookup a4 = some ⟨oc4, od4, .func (PySem.W.fnOf "check" "Outer.check" (defArgs s_Outer_check) (defBody s_Outer_check) (defScope s_Outer_check) .none kV4 dc4 pm4 an4 cd4 ct4), sl4⟩) (c4 : PySem.W.codeIn K cd4 "Outer.check" = true) (k4 : PySem.W.keepIn K (.ref a4) = true)
    (mt4 : PySem.W.isFn K (.ref a4) = true) (my4 : PySem.W.typeIn K (.ref a4) = some (.type "function"))
    (ma5 : PySem.W.findIn K (.ref C_Outer) "answer" = some (some (.ref a5)))
    (l5 : K.lookup a5 = some ⟨oc5, od5, .func (PySem.W.fnOf "answer" "Outer.answer" (defArgs s_Outer_answer) (defBody s_Outer_answer) (defScope s_Outer_answer) .none kV5 dc5 pm5 an5 cd5 ct5), sl5⟩) (c5 : PySem.W.codeIn K cd5 "Outer.answer" = true) (k5 : PySem.W.keepIn K (.ref a5) = true)
    (mt5 : PySem.W.isFn K (.ref a5) = true) (my5 : PySem.W.typeIn K (.ref a5) = some (.type "function"))
    (ma6 : PySem.W.findIn K (.ref C_Outer) "change" = some (some (.ref a6)))
    (l6 : K.lookup a6 = some ⟨oc6, od6, .func (PySem.W.fnOf "change" "Outer.change" (defArgs s_Outer_change) (defBody s_Outer_change) (defScope s_Outer_change) .none kV6 dc6 pm6 an6 cd6 ct6), sl6⟩) (c6 : PySem.W.codeIn K cd6 "Outer.change" = true) (k6 : PySem.W.keepIn K (.ref a6) = true)
    (mt6 : PySem.W.isFn K (.ref a6) = true) (my6 : PySem.W.typeIn K (.ref a6) = some (.type "function"))
    (ma7 : PySem.W.findIn K (.ref C_Outer) "follow" = some (some (.ref a7)))
    (l7 : K.lookup a7 = some ⟨oc7, od7, .func (PySem.W.fnOf "follow" "Outer.follow" (defArgs s_Outer_follow) (defBody s_Outer_follow) (defScope s_Outer_follow) .none kV7 dc7 pm7 an7 cd7 ct7), sl7⟩) (c7 : PySem.W.codeIn K cd7 "Outer.follow" = true) (k7 : PySem.W.keepIn K (.ref a7) = true)
    (mt7 : PySem.W.isFn K (.ref a7) = true) (my7 : PySem.W.typeIn K (.ref a7) = some (.type "function"))
    (ma8 : PySem.W.findIn K (.ref C_Timed) "__init__" = some (some (.ref a8)))
    (l8 : K.lookup a8 = some ⟨oc8, od8, .func (PySem.W.fnOf "__init__" "Timed.__init__" (defArgs s_Timed_init) (defBody s_Timed_init) (defScope s_Timed_init) .none kV8 dc8 pm8 an8 cd8 ct8), sl8⟩) (c8 : PySem.W.codeIn K cd8 "Timed.__init__" = true) (k8 : PySem.W.keepIn K (.ref a8) = true)
    (mt8 : PySem.W.isFn K (.ref a8) = true) (my8 : PySem.W.typeIn K (.ref a8) = some (.type "function"))
    (ma9 : PySem.W.findIn K (.ref C_Timed) "add" = some (some (.ref a9)))
    (l9 : K.lookup a9 = some ⟨oc9, od9, .func (PySem.W.fnOf "add" "Timed.add" (defArgs s_Timed_add) (defBody s_Timed_add) (defScope s_Timed_add) .none kV9 dc9 pm9 an9 cd9 ct9), sl9⟩) (c9 : PySem.W.codeIn K cd9 "Timed.add" = true) (k9 : PySem.W.keepIn K (.ref a9) = true)
    (mt9 : PySem.W.isFn K (.ref a9) = true) (my9 : PySem.W.typeIn K (.ref a9) = some (.type "function"))
    (ma10 : PySem.W.findIn K (.ref C_Timed) "tick" = some (some (.ref a10)))
    (l10 : K.lookup a10 = some ⟨oc10, od10, .func (PySem.W.fnOf "tick" "Timed.tick" (defArgs s_Timed_tick) (defBody s_Timed_tick) (defScope s_Timed_tick) .none kV10 dc10 pm10 an10 cd10 ct10), sl10⟩) (c10 : PySem.W.codeIn K cd10 "Timed.tick" = true) (k10 : PySem.W.keepIn K (.ref a10) = true)
    (mt10 : PySem.W.isFn K (.ref a10) = true) (my10 : PySem.W.typeIn K (.ref a10) = some (.type "function"))
    (ma11 : PySem.W.findIn K (.ref C_Timed) "clock" = some (some (.ref a11)))
    (l11 : K.lookup a11 = some ⟨oc11, od11, .func (PySem.W.fnOf "clock" "Timed.clock" (defArgs s_Timed_clock) (defBody s_Timed_clock) (defScope s_Timed_clock) .none kV11 dc11 pm11 an11 cd11 ct11), sl11⟩) (c11 : PySem.W.codeIn K cd11 "Timed.clock" = true) (k11 : PySem.W.keepIn K (.ref a11) = true)
    (mt11 : PySem.W.isFn K (.ref a11) = true) (my11 : PySem.W.typeIn K (.ref a11) = some (.type "function"))
    (ma12 : PySem.W.findIn K (.ref C_Timed) "query" = some (some (.ref a12)))
    (l12 : K.lookup a12 = some ⟨oc12, od12, .func (PySem.W.fnOf "query" "Timed.query" (defArgs s_Timed_query) (defBody s_Timed_query) (defScope s_Timed_query) .none kV12 dc12 pm12 an12 cd12 ct12), sl12⟩) (c12 : PySem.W.codeIn K cd12 "Timed.query" = true) (k12 : PySem.W.keepIn K (.ref a12) = true)
    (mt12 : PySem.W.isFn K (.ref a12) = true) (my12 : PySem.W.typeIn K (.ref a12) = some (.type "function"))
    (ma13 : PySem.W.findIn K (.ref C_Timed) "log" = some (some (.ref a13)))
    (l13 : K.lookup a13 = some ⟨oc13, od13, .func (PySem.W.fnOf "log" "Timed.log" (defArgs s_Timed_log) (defBody s_Timed_log) (defScope s_Timed_log) .none kV13 dc13 pm13 an13 cd13 ct13), sl13⟩) (c13 : PySem.W.codeIn K cd13 "Timed.log" = true) (k13 : PySem.W.keepIn K (.ref a13) = true)
    (mt13 : PySem.W.isFn K (.ref a13) = true) (my13 : PySem.W.typeIn K (.ref a13) = some (.type "function"))
    (ma14 : PySem.W.findIn K (.ref C_Timed) "__len__" = some (some (.ref a14)))
    (l14 : K.lookup a14 = some ⟨oc14, od14, .func (PySem.W.fnOf "__len__" "Timed.__len__" (defArgs s_Timed_len) (defBody s_Timed_len) (defScope s_Timed_len) .none kV14 dc14 pm14 an14 cd14 ct14), sl14⟩) (c14 : PySem.W.codeIn K cd14 "Timed.__len__" = true) (k14 : PySem.W.keepIn K (.ref a14) = true)
    (mt14 : PySem.W.isFn K (.ref a14) = true) (my14 : PySem.W.typeIn K (.ref a14) = some (.type "function"))
    (ga15 : PySem.W.nsIn K mainGlobals "without" = some (some (.ref a15)))
    (l15 : K.lookup a15 = some ⟨oc15, od15, .func (PySem.W.fnOf "without" "without" (defArgs s_without) (defBody s_without) (defScope s_without) .none kV15 dc15 pm15 an15 cd15 ct15), sl15⟩) (c15 : PySem.W.codeIn K cd15 "without" = true) (k15 : PySem.W.keepIn K (.ref a15) = true)
    (ga16 : PySem.W.nsIn K mainGlobals "plan_pushes" = some (some (.ref a16)))
    (l16 : K.lookup a16 = some ⟨oc16, od16, .func (PySem.W.fnOf "plan_pushes" "plan_pushes" (defArgs s_plan_pushes) (defBody s_plan_pushes) (defScope s_plan_pushes) .none kV16 dc16 pm16 an16 cd16 ct16), sl16⟩) (c16 : PySem.W.codeIn K cd16 "plan_pushes" = true) (k16 : PySem.W.keepIn K (.ref a16) = true)
    (ga17 : PySem.W.nsIn K mainGlobals "plan_pops" = some (some (.ref a17)))
    (l17 : K.lookup a17 = some ⟨oc17, od17, .func (PySem.W.fnOf "plan_pops" "plan_pops" (defArgs s_plan_pops) (defBody s_plan_pops) (defScope s_plan_pops) .none kV17 dc17 pm17 an17 cd17 ct17), sl17⟩) (c17 : PySem.W.codeIn K cd17 "plan_pops" = true) (k17 : PySem.W.keepIn K (.ref a17) = true)
    (ga18 : PySem.W.nsIn K mainGlobals "changed_order" = some (some (.ref a18)))
    (l18 : K.lookup a18 = some ⟨oc18, od18, .func (PySem.W.fnOf "changed_order" "changed_order" (defArgs s_changed_order) (defBody s_changed_order) (defScope s_changed_order) .none kV18 dc18 pm18 an18 cd18 ct18), sl18⟩) (c18 : PySem.W.codeIn K cd18 "changed_order" = true) (k18 : PySem.W.keepIn K (.ref a18) = true)
    (ga19 : PySem.W.nsIn K mainGlobals "pieces" = some (some (.ref a19)))
    (l19 : K.lookup a19 = some ⟨oc19, od19, .func (PySem.W.fnOf "pieces" "pieces" (defArgs s_pieces) (defBody s_pieces) (defScope s_pieces) .none kV19 dc19 pm19 an19 cd19 ct19), sl19⟩) (c19 : PySem.W.codeIn K cd19 "pieces" = true) (k19 : PySem.W.keepIn K (.ref a19) = true)
    (ga20 : PySem.W.nsIn K mainGlobals "piece_size" = some (some (.ref a20)))
    (l20 : K.lookup a20 = some ⟨oc20, od20, .func (PySem.W.fnOf "piece_size" "piece_size" (defArgs s_piece_size) (defBody s_piece_size) (defScope s_piece_size) .none kV20 dc20 pm20 an20 cd20 ct20), sl20⟩) (c20 : PySem.W.codeIn K cd20 "piece_size" = true) (k20 : PySem.W.keepIn K (.ref a20) = true)
    (ga21 : PySem.W.nsIn K mainGlobals "lowest_power" = some (some (.ref a21)))
    (l21 : K.lookup a21 = some ⟨oc21, od21, .func (PySem.W.fnOf "lowest_power" "lowest_power" (defArgs s_lowest_power) (defBody s_lowest_power) (defScope s_lowest_power) .none kV21 dc21 pm21 an21 cd21 ct21), sl21⟩) (c21 : PySem.W.codeIn K cd21 "lowest_power" = true) (k21 : PySem.W.keepIn K (.ref a21) = true)
    (ga22 : PySem.W.nsIn K mainGlobals "greatest_power" = some (some (.ref a22)))
    (l22 : K.lookup a22 = some ⟨oc22, od22, .func (PySem.W.fnOf "greatest_power" "greatest_power" (defArgs s_greatest_power) (defBody s_greatest_power) (defScope s_greatest_power) .none kV22 dc22 pm22 an22 cd22 ct22), sl22⟩) (c22 : PySem.W.codeIn K cd22 "greatest_power" = true) (k22 : PySem.W.keepIn K (.ref a22) = true)
    (ga23 : PySem.W.nsIn K mainGlobals "is_integer" = some (some (.ref a23)))
    (l23 : K.lookup a23 = some ⟨oc23, od23, .func (PySem.W.fnOf "is_integer" "is_integer" (defArgs s_is_integer) (defBody s_is_integer) (defScope s_is_integer) .none kV23 dc23 pm23 an23 cd23 ct23), sl23⟩) (c23 : PySem.W.codeIn K cd23 "is_integer" = true) (k23 : PySem.W.keepIn K (.ref a23) = true)
    (ga24 : PySem.W.nsIn K mainGlobals "check_integer" = some (some (.ref a24)))
    (l24 : K.lookup a24 = some ⟨oc24, od24, .func (PySem.W.fnOf "check_integer" "check_integer" (defArgs s_check_integer) (defBody s_check_integer) (defScope s_check_integer) .none kV24 dc24 pm24 an24 cd24 ct24), sl24⟩) (c24 : PySem.W.codeIn K cd24 "check_integer" = true) (k24 : PySem.W.keepIn K (.ref a24) = true)
    (ga25 : PySem.W.nsIn K mainGlobals "check_number" = some (some (.ref a25)))
    (l25 : K.lookup a25 = some ⟨oc25, od25, .func (PySem.W.fnOf "check_number" "check_number" (defArgs s_check_number) (defBody s_check_number) (defScope s_check_number) .none kV25 dc25 pm25 an25 cd25 ct25), sl25⟩) (c25 : PySem.W.codeIn K cd25 "check_number" = true) (k25 : PySem.W.keepIn K (.ref a25) = true)
    (ga26 : PySem.W.nsIn K mainGlobals "check_until" = some (some (.ref a26)))
    (l26 : K.lookup a26 = some ⟨oc26, od26, .func (PySem.W.fnOf "check_until" "check_until" (defArgs s_check_until) (defBody s_check_until) (defScope s_check_until) .none kV26 dc26 pm26 an26 cd26 ct26), sl26⟩) (c26 : PySem.W.codeIn K cd26 "check_until" = true) (k26 : PySem.W.keepIn K (.ref a26) = true)
    (ga27 : PySem.W.nsIn K mainGlobals "ending_numbers" = some (some (.ref a27)))
    (l27 : K.lookup a27 = some ⟨oc27, od27, .func (PySem.W.fnOf "ending_numbers" "ending_numbers" (defArgs s_ending_numbers) (defBody s_ending_numbers) (defScope s_ending_numbers) .none kV27 dc27 pm27 an27 cd27 ct27), sl27⟩) (c27 : PySem.W.codeIn K cd27 "ending_numbers" = true) (k27 : PySem.W.keepIn K (.ref a27) = true)
    (ga28 : PySem.W.nsIn K mainGlobals "next_pieces" = some (some (.ref a28)))
    (l28 : K.lookup a28 = some ⟨oc28, od28, .func (PySem.W.fnOf "next_pieces" "next_pieces" (defArgs s_next_pieces) (defBody s_next_pieces) (defScope s_next_pieces) .none kV28 dc28 pm28 an28 (.ref cc28) ct28), sl28⟩) (c28 : PySem.W.codeIn K (.ref cc28) "next_pieces" = true) (k28 : PySem.W.keepIn K (.ref a28) = true)
    (tl28 : K.lookup cc28 = some ⟨lo28, ld28, .fields lv28, ls28⟩) (tp28 : lv28[11]? = some (.ref pp28)) (tn28 : K.lookup pp28 = none) (tr28 : (PyProof.Rows.recsOf QQ).any (fun d => d.name == "next_pieces") = true)
    (ga29 : PySem.W.nsIn K mainGlobals "plan_moves" = some (some (.ref a29)))
    (l29 : K.lookup a29 = some ⟨oc29, od29, .func (PySem.W.fnOf "plan_moves" "plan_moves" (defArgs s_plan_moves) (defBody s_plan_moves) (defScope s_plan_moves) .none kV29 dc29 pm29 an29 cd29 ct29), sl29⟩) (c29 : PySem.W.codeIn K cd29 "plan_moves" = true) (k29 : PySem.W.keepIn K (.ref a29) = true)
    (ga30 : PySem.W.nsIn K mainGlobals "let_go" = some (some (.ref a30)))
    (l30 : K.lookup a30 = some ⟨oc30, od30, .func (PySem.W.fnOf "let_go" "let_go" (defArgs s_let_go) (defBody s_let_go) (defScope s_let_go) .none kV30 dc30 pm30 an30 cd30 ct30), sl30⟩) (c30 : PySem.W.codeIn K cd30 "let_go" = true) (k30 : PySem.W.keepIn K (.ref a30) = true)
    (ga31 : PySem.W.nsIn K mainGlobals "_law_bag" = some (some (.ref a31)))
    (l31 : K.lookup a31 = some ⟨oc31, od31, .func (PySem.W.fnOf "_law_bag" "_law_bag" (defArgs s_l_bag) (defBody s_l_bag) (defScope s_l_bag) .none kV31 dc31 pm31 an31 cd31 ct31), sl31⟩) (c31 : PySem.W.codeIn K cd31 "_law_bag" = true) (k31 : PySem.W.keepIn K (.ref a31) = true)
    (ga32 : PySem.W.nsIn K mainGlobals "_law_take" = some (some (.ref a32)))
    (l32 : K.lookup a32 = some ⟨oc32, od32, .func (PySem.W.fnOf "_law_take" "_law_take" (defArgs s_l_take) (defBody s_l_take) (defScope s_l_take) .none kV32 dc32 pm32 an32 cd32 ct32), sl32⟩) (c32 : PySem.W.codeIn K cd32 "_law_take" = true) (k32 : PySem.W.keepIn K (.ref a32) = true)
    (ga33 : PySem.W.nsIn K mainGlobals "_law_counting" = some (some (.ref a33)))
    (l33 : K.lookup a33 = some ⟨oc33, od33, .func (PySem.W.fnOf "_law_counting" "_law_counting" (defArgs s_l_counting) (defBody s_l_counting) (defScope s_l_counting) .none kV33 dc33 pm33 an33 (.ref cc33) ct33), sl33⟩) (c33 : PySem.W.codeIn K (.ref cc33) "_law_counting" = true) (k33 : PySem.W.keepIn K (.ref a33) = true)
    (tl33 : K.lookup cc33 = some ⟨lo33, ld33, .fields lv33, ls33⟩) (tp33 : lv33[11]? = some (.ref pp33)) (tn33 : K.lookup pp33 = none) (tr33 : (PyProof.Rows.recsOf QQ).any (fun d => d.name == "_law_counting") = true)
    (ga34 : PySem.W.nsIn K mainGlobals "_law_counts_right" = some (some (.ref a34)))
    (l34 : K.lookup a34 = some ⟨oc34, od34, .func (PySem.W.fnOf "_law_counts_right" "_law_counts_right" (defArgs s_l_counts_right) (defBody s_l_counts_right) (defScope s_l_counts_right) .none kV34 dc34 pm34 an34 cd34 ct34), sl34⟩) (c34 : PySem.W.codeIn K cd34 "_law_counts_right" = true) (k34 : PySem.W.keepIn K (.ref a34) = true)
    (ga35 : PySem.W.nsIn K mainGlobals "_law_moves" = some (some (.ref a35)))
    (l35 : K.lookup a35 = some ⟨oc35, od35, .func (PySem.W.fnOf "_law_moves" "_law_moves" (defArgs s_l_moves) (defBody s_l_moves) (defScope s_l_moves) .none kV35 dc35 pm35 an35 cd35 ct35), sl35⟩) (c35 : PySem.W.codeIn K cd35 "_law_moves" = true) (k35 : PySem.W.keepIn K (.ref a35) = true)
    (ga36 : PySem.W.nsIn K mainGlobals "law" = some (some (.ref a36)))
    (l36 : K.lookup a36 = some ⟨oc36, od36, .func (PySem.W.fnOf "law" "law" (defArgs s_law) (defBody s_law) (defScope s_law) .none kV36 dc36 pm36 an36 cd36 ct36), sl36⟩) (c36 : PySem.W.codeIn K cd36 "law" = true) (k36 : PySem.W.keepIn K (.ref a36) = true)
    (pne28_33 : pp28 ≠ pp33)
    (z_abs : PySem.W.nsIn K mainGlobals "abs" = some none)
    (z_any : PySem.W.nsIn K mainGlobals "any" = some none)
    (z_bool : PySem.W.nsIn K mainGlobals "bool" = some none)
    (z_int : PySem.W.nsIn K mainGlobals "int" = some none)
    (z_isinstance : PySem.W.nsIn K mainGlobals "isinstance" = some none)
    (z_len : PySem.W.nsIn K mainGlobals "len" = some none)
    (z_list : PySem.W.nsIn K mainGlobals "list" = some none)
    (z_min : PySem.W.nsIn K mainGlobals "min" = some none)
    (z_property : PySem.W.nsIn K mainGlobals "property" = some none)
    (z_range : PySem.W.nsIn K mainGlobals "range" = some none)
    (z_repr : PySem.W.nsIn K mainGlobals "repr" = some none)
    (z_reversed : PySem.W.nsIn K mainGlobals "reversed" = some none)
    (z_sorted : PySem.W.nsIn K mainGlobals "sorted" = some none)
    (z_sum : PySem.W.nsIn K mainGlobals "sum" = some none)
    (v_GREATEST : PySem.W.nsIn K mainGlobals "GREATEST" = some (some (.int (10 ^ (30 : Nat)) t_GREATEST)))
    (pg_Calls : PySem.W.plainGet K C_Calls Str.empty = true)
    (hd_Calls : PySem.W.hasDictIn K C_Calls = true)
    (po_Calls : PySem.W.plainOver K C_Calls = true)
    (sa_Calls : PySem.W.findIn K (.ref C_Calls) "__setattr__" = some (some (.builtin "object.__setattr__")))
    (mk_Calls : PySem.W.makesIn K C_Calls = true)
    (kp_Calls : PySem.W.keepIn K (.ref C_Calls) = true)
    (n_Calls_entries : PySem.W.findIn K (.ref C_Calls) "entries" = some none)
    (n_Calls_running : PySem.W.findIn K (.ref C_Calls) "running" = some none)
    (pg_Outer : PySem.W.plainGet K C_Outer Str.empty = true)
    (hd_Outer : PySem.W.hasDictIn K C_Outer = true)
    (po_Outer : PySem.W.plainOver K C_Outer = true)
    (sa_Outer : PySem.W.findIn K (.ref C_Outer) "__setattr__" = some (some (.builtin "object.__setattr__")))
    (mk_Outer : PySem.W.makesIn K C_Outer = true)
    (kp_Outer : PySem.W.keepIn K (.ref C_Outer) = true)
    (n_Outer_calls : PySem.W.findIn K (.ref C_Outer) "calls" = some none)
    (n_Outer_push_call : PySem.W.findIn K (.ref C_Outer) "push_call" = some none)
    (n_Outer_pop_call : PySem.W.findIn K (.ref C_Outer) "pop_call" = some none)
    (n_Outer_ask_call : PySem.W.findIn K (.ref C_Outer) "ask_call" = some none)
    (n_Outer_order : PySem.W.findIn K (.ref C_Outer) "order" = some none)
    (n_Outer_broken : PySem.W.findIn K (.ref C_Outer) "broken" = some none)
    (pg_Timed : PySem.W.plainGet K C_Timed Str.empty = true)
    (hd_Timed : PySem.W.hasDictIn K C_Timed = true)
    (po_Timed : PySem.W.plainOver K C_Timed = true)
    (sa_Timed : PySem.W.findIn K (.ref C_Timed) "__setattr__" = some (some (.builtin "object.__setattr__")))
    (mk_Timed : PySem.W.makesIn K C_Timed = true)
    (kp_Timed : PySem.W.keepIn K (.ref C_Timed) = true)
    (n_Timed_outer : PySem.W.findIn K (.ref C_Timed) "outer" = some none)
    (n_Timed_given : PySem.W.findIn K (.ref C_Timed) "given" = some none)
    (n_Timed_now : PySem.W.findIn K (.ref C_Timed) "now" = some none)
    (n_Timed_held : PySem.W.findIn K (.ref C_Timed) "held" = some none)
    (n_Timed_limits : PySem.W.findIn K (.ref C_Timed) "limits" = some none)
    (n_Timed_ends : PySem.W.findIn K (.ref C_Timed) "ends" = some none)
    (cdT : PySem.W.readsIn K C_Timed (.type "type") = true)
    (cgT : PySem.W.specialIn K (.ref C_Timed) "__getattribute__" = some (some (.builtin "type.__getattribute__")))
    (cvT : PySem.W.findCls K (.ref C_Timed) (.type "type") "LAST" = some (.val (.int 1000000000 tLAST))) : Inf.LawAtG l w K CX0 40 63 "_law_script" mg fa h := by
  have e := hfa.symm.trans (PySem.W.mg_of X G ga36)
  cases e
  have F0 := fun_mk (st := s_Calls_init) l0 c0 k0
  have F1 := fun_mk (st := s_Calls_check) l1 c1 k1
  have F2 := fun_mk (st := s_Calls_run) l2 c2 k2
  have F3 := fun_mk (st := s_Outer_init) l3 c3 k3
  have F4 := fun_mk (st := s_Outer_check) l4 c4 k4
  have F5 := fun_mk (st := s_Outer_answer) l5 c5 k5
  have F6 := fun_mk (st := s_Outer_change) l6 c6 k6
  have F7 := fun_mk (st := s_Outer_follow) l7 c7 k7
  have F8 := fun_mk (st := s_Timed_init) l8 c8 k8
  have F9 := fun_mk (st := s_Timed_add) l9 c9 k9
  have F10 := fun_mk (st := s_Timed_tick) l10 c10 k10
  have F11 := fun_mk (st := s_Timed_clock) l11 c11 k11
  have F12 := fun_mk (st := s_Timed_query) l12 c12 k12
  have F13 := fun_mk (st := s_Timed_log) l13 c13 k13
  have F14 := fun_mk (st := s_Timed_len) l14 c14 k14
  have F15 := fun_mk (st := s_without) l15 c15 k15
  have F16 := fun_mk (st := s_plan_pushes) l16 c16 k16
  have F17 := fun_mk (st := s_plan_pops) l17 c17 k17
  have F18 := fun_mk (st := s_changed_order) l18 c18 k18
  have F19 := fun_mk (st := s_pieces) l19 c19 k19
  have F20 := fun_mk (st := s_piece_size) l20 c20 k20
  have F21 := fun_mk (st := s_lowest_power) l21 c21 k21
  have F22 := fun_mk (st := s_greatest_power) l22 c22 k22
  have F23 := fun_mk (st := s_is_integer) l23 c23 k23
  have F24 := fun_mk (st := s_check_integer) l24 c24 k24
  have F25 := fun_mk (st := s_check_number) l25 c25 k25
  have F26 := fun_mk (st := s_check_until) l26 c26 k26
  have F27 := fun_mk (st := s_ending_numbers) l27 c27 k27
  have F28 : FunT K "next_pieces" "next_pieces" s_next_pieces a28 _ cc28 := ⟨⟨_, _, _, _, _, _, _, _, rfl, l28, c28⟩, k28⟩
  have B28 : Binds K _ ["timed", "ending"] [] := .all (fd := PySem.W.fnOf "next_pieces" "next_pieces" (defArgs s_next_pieces) (defBody s_next_pieces) (defScope s_next_pieces) .none kV28 dc28 pm28 an28 (.ref cc28) ct28) fun us hl => match us, hl with | [_, _], _ => rfl
  have F29 := fun_mk (st := s_plan_moves) l29 c29 k29
  have F30 := fun_mk (st := s_let_go) l30 c30 k30
  have F31 := fun_mk (st := s_l_bag) l31 c31 k31
  have F32 := fun_mk (st := s_l_take) l32 c32 k32
  have F33 : FunT K "_law_counting" "_law_counting" s_l_counting a33 _ cc33 := ⟨⟨_, _, _, _, _, _, _, _, rfl, l33, c33⟩, k33⟩
  have B33 : Binds K _ ["_law_counts", "_law_held"] [] := .all (fd := PySem.W.fnOf "_law_counting" "_law_counting" (defArgs s_l_counting) (defBody s_l_counting) (defScope s_l_counting) .none kV33 dc33 pm33 an33 (.ref cc33) ct33) fun us hl => match us, hl with | [_, _], _ => rfl
  have F34 := fun_mk (st := s_l_counts_right) l34 c34 k34
  have F35 := fun_mk (st := s_l_moves) l35 c35 k35
  have F36 := fun_mk (st := s_law) l36 c36 k36
  have T28 := tt "next_pieces" a28 cc28 pp28 _ _ _ _ _ _ tr28 (PySem.W.mg_of X G ga28) l28 rfl rfl tl28 tp28
  have T33 := tt "_law_counting" a33 cc33 pp33 _ _ _ _ _ _ tr33 (PySem.W.mg_of X G ga33) l33 rfl rfl tl33 tp33
  let T : Txt K mg := {
    C_Calls := C_Calls,
    gc_Calls := PySem.W.mg_of X G gc_Calls,
    C_Outer := C_Outer,
    gc_Outer := PySem.W.mg_of X G gc_Outer,
    C_Timed := C_Timed,
    gc_Timed := PySem.W.mg_of X G gc_Timed,
    f_Calls_init := a0,
    d_Calls_init := _,
    F_Calls_init := F0,
    b_Calls_init := (F0.binds (ps := ["self"]) fun _ _ _ _ _ _ us hl => match us, hl with | [_], _ => rfl),
    m_Calls_init := ma0,
    t_Calls_init := mt0,
    y_Calls_init := my0,
    k_Calls_init := k0,
    f_Calls_check := a1,
    d_Calls_check := _,
    F_Calls_check := F1,
    b_Calls_check := (F1.binds (ps := ["self"]) fun _ _ _ _ _ _ us hl => match us, hl with | [_], _ => rfl),
    m_Calls_check := ma1,
    t_Calls_check := mt1,
    y_Calls_check := my1,
    k_Calls_check := k1,
    f_Calls_run := a2,
    d_Calls_run := _,
    F_Calls_run := F2,
    m_Calls_run := ma2,
    t_Calls_run := mt2,
    y_Calls_run := my2,
    k_Calls_run := k2,
    f_Outer_init := a3,
    d_Outer_init := _,
    F_Outer_init := F3,
    b_Outer_init := (F3.binds (ps := ["self", "push", "pop", "ask"]) fun _ _ _ _ _ _ us hl => match us, hl with | [_, _, _, _], _ => rfl),
    m_Outer_init := ma3,
    t_Outer_init := mt3,
    y_Outer_init := my3,
    k_Outer_init := k3,
    f_Outer_check := a4,
    d_Outer_check := _,
    F_Outer_check := F4,
    b_Outer_check := (F4.binds (ps := ["self"]) fun _ _ _ _ _ _ us hl => match us, hl with | [_], _ => rfl),
    m_Outer_check := ma4,
    t_Outer_check := mt4,
    y_Outer_check := my4,
    k_Outer_check := k4,
    f_Outer_answer := a5,
    d_Outer_answer := _,
    F_Outer_answer := F5,
    b_Outer_answer := (F5.binds (ps := ["self", "question"]) fun _ _ _ _ _ _ us hl => match us, hl with | [_, _], _ => rfl),
    m_Outer_answer := ma5,
    t_Outer_answer := mt5,
    y_Outer_answer := my5,
    k_Outer_answer := k5,
    f_Outer_change := a6,
    d_Outer_change := _,
    F_Outer_change := F6,
    b_Outer_change := (F6.binds (ps := ["self", "entries", "held"]) fun _ _ _ _ _ _ us hl => match us, hl with | [_, _, _], _ => rfl),
    m_Outer_change := ma6,
    t_Outer_change := mt6,
    y_Outer_change := my6,
    k_Outer_change := k6,
    f_Outer_follow := a7,
    d_Outer_follow := _,
    F_Outer_follow := F7,
    b_Outer_follow := (F7.binds (ps := ["self", "entries", "held"]) fun _ _ _ _ _ _ us hl => match us, hl with | [_, _, _], _ => rfl),
    m_Outer_follow := ma7,
    t_Outer_follow := mt7,
    y_Outer_follow := my7,
    k_Outer_follow := k7,
    f_Timed_init := a8,
    d_Timed_init := _,
    F_Timed_init := F8,
    b_Timed_init := (F8.binds (ps := ["self", "push", "pop", "ask"]) fun _ _ _ _ _ _ us hl => match us, hl with | [_, _, _, _], _ => rfl),
    m_Timed_init := ma8,
    t_Timed_init := mt8,
    y_Timed_init := my8,
    k_Timed_init := k8,
    f_Timed_add := a9,
    d_Timed_add := _,
    F_Timed_add := F9,
    m_Timed_add := ma9,
    t_Timed_add := mt9,
    y_Timed_add := my9,
    k_Timed_add := k9,
    f_Timed_tick := a10,
    d_Timed_tick := _,
    F_Timed_tick := F10,
    b_Timed_tick := (F10.binds (ps := ["self"]) fun _ _ _ _ _ _ us hl => match us, hl with | [_], _ => rfl),
    m_Timed_tick := ma10,
    t_Timed_tick := mt10,
    y_Timed_tick := my10,
    k_Timed_tick := k10,
    f_Timed_clock := a11,
    d_Timed_clock := _,
    F_Timed_clock := F11,
    b_Timed_clock := (F11.binds (ps := ["self"]) fun _ _ _ _ _ _ us hl => match us, hl with | [_], _ => rfl),
    m_Timed_clock := ma11,
    t_Timed_clock := mt11,
    y_Timed_clock := my11,
    k_Timed_clock := k11,
    f_Timed_query := a12,
    d_Timed_query := _,
    F_Timed_query := F12,
    b_Timed_query := (F12.binds (ps := ["self", "question"]) fun _ _ _ _ _ _ us hl => match us, hl with | [_, _], _ => rfl),
    m_Timed_query := ma12,
    t_Timed_query := mt12,
    y_Timed_query := my12,
    k_Timed_query := k12,
    f_Timed_log := a13,
    d_Timed_log := _,
    F_Timed_log := F13,
    b_Timed_log := (F13.binds (ps := ["self"]) fun _ _ _ _ _ _ us hl => match us, hl with | [_], _ => rfl),
    m_Timed_log := ma13,
    t_Timed_log := mt13,
    y_Timed_log := my13,
    k_Timed_log := k13,
    f_Timed_len := a14,
    d_Timed_len := _,
    F_Timed_len := F14,
    b_Timed_len := (F14.binds (ps := ["self"]) fun _ _ _ _ _ _ us hl => match us, hl with | [_], _ => rfl),
    m_Timed_len := ma14,
    t_Timed_len := mt14,
    y_Timed_len := my14,
    k_Timed_len := k14,
    f_without := a15,
    d_without := _,
    F_without := F15,
    b_without := (F15.binds (ps := ["held", "numbers"]) fun _ _ _ _ _ _ us hl => match us, hl with | [_, _], _ => rfl),
    g_without := PySem.W.mg_of X G ga15,
    f_plan_pushes := a16,
    d_plan_pushes := _,
    F_plan_pushes := F16,
    b_plan_pushes := (F16.binds (ps := ["numbers"]) fun _ _ _ _ _ _ us hl => match us, hl with | [_], _ => rfl),
    g_plan_pushes := PySem.W.mg_of X G ga16,
    f_plan_pops := a17,
    d_plan_pops := _,
    F_plan_pops := F17,
    b_plan_pops := (F17.binds (ps := ["numbers"]) fun _ _ _ _ _ _ us hl => match us, hl with | [_], _ => rfl),
    g_plan_pops := PySem.W.mg_of X G ga17,
    f_changed_order := a18,
    d_changed_order := _,
    F_changed_order := F18,
    b_changed_order := (F18.binds (ps := ["order", "entries"]) fun _ _ _ _ _ _ us hl => match us, hl with | [_, _], _ => rfl),
    g_changed_order := PySem.W.mg_of X G ga18,
    f_pieces := a19,
    d_pieces := _,
    F_pieces := F19,
    b_pieces := (F19.binds (ps := ["begin", "end"]) fun _ _ _ _ _ _ us hl => match us, hl with | [_, _], _ => rfl),
    g_pieces := PySem.W.mg_of X G ga19,
    f_piece_size := a20,
    d_piece_size := _,
    F_piece_size := F20,
    b_piece_size := (F20.binds (ps := ["first", "room"]) fun _ _ _ _ _ _ us hl => match us, hl with | [_, _], _ => rfl),
    g_piece_size := PySem.W.mg_of X G ga20,
    f_lowest_power := a21,
    d_lowest_power := _,
    F_lowest_power := F21,
    b_lowest_power := (F21.binds (ps := ["number"]) fun _ _ _ _ _ _ us hl => match us, hl with | [_], _ => rfl),
    g_lowest_power := PySem.W.mg_of X G ga21,
    f_greatest_power := a22,
    d_greatest_power := _,
    F_greatest_power := F22,
    b_greatest_power := (F22.binds (ps := ["number"]) fun _ _ _ _ _ _ us hl => match us, hl with | [_], _ => rfl),
    g_greatest_power := PySem.W.mg_of X G ga22,
    f_is_integer := a23,
    d_is_integer := _,
    F_is_integer := F23,
    b_is_integer := (F23.binds (ps := ["value"]) fun _ _ _ _ _ _ us hl => match us, hl with | [_], _ => rfl),
    g_is_integer := PySem.W.mg_of X G ga23,
    f_check_integer := a24,
    d_check_integer := _,
    F_check_integer := F24,
    b_check_integer := (F24.binds (ps := ["value"]) fun _ _ _ _ _ _ us hl => match us, hl with | [_], _ => rfl),
    g_check_integer := PySem.W.mg_of X G ga24,
    f_check_number := a25,
    d_check_number := _,
    F_check_number := F25,
    b_check_number := (F25.binds (ps := ["value"]) fun _ _ _ _ _ _ us hl => match us, hl with | [_], _ => rfl),
    g_check_number := PySem.W.mg_of X G ga25,
    f_check_until := a26,
    d_check_until := _,
    F_check_until := F26,
    b_check_until := (F26.binds (ps := ["until", "clock"]) fun _ _ _ _ _ _ us hl => match us, hl with | [_, _], _ => rfl),
    g_check_until := PySem.W.mg_of X G ga26,
    f_ending_numbers := a27,
    d_ending_numbers := _,
    F_ending_numbers := F27,
    b_ending_numbers := (F27.binds (ps := ["timed"]) fun _ _ _ _ _ _ us hl => match us, hl with | [_], _ => rfl),
    g_ending_numbers := PySem.W.mg_of X G ga27,
    f_next_pieces := a28,
    d_next_pieces := _,
    c_next_pieces := cc28,
    p_next_pieces := pp28,
    F_next_pieces := F28,
    b_next_pieces := B28,
    g_next_pieces := PySem.W.mg_of X G ga28,
    f_plan_moves := a29,
    d_plan_moves := _,
    F_plan_moves := F29,
    b_plan_moves := (F29.binds (ps := ["ending", "begun"]) fun _ _ _ _ _ _ us hl => match us, hl with | [_, _], _ => rfl),
    g_plan_moves := PySem.W.mg_of X G ga29,
    f_let_go := a30,
    d_let_go := _,
    F_let_go := F30,
    b_let_go := (F30.binds (ps := ["timed", "ending"]) fun _ _ _ _ _ _ us hl => match us, hl with | [_, _], _ => rfl),
    g_let_go := PySem.W.mg_of X G ga30,
    f_l_bag := a31,
    d_l_bag := _,
    F_l_bag := F31,
    b_l_bag := (F31.binds (ps := ["_law_script", "_law_at"]) fun _ _ _ _ _ _ us hl => match us, hl with | [_, _], _ => rfl),
    g_l_bag := PySem.W.mg_of X G ga31,
    f_l_take := a32,
    d_l_take := _,
    F_l_take := F32,
    b_l_take := (F32.binds (ps := ["_law_bag_here", "_law_many"]) fun _ _ _ _ _ _ us hl => match us, hl with | [_, _], _ => rfl),
    g_l_take := PySem.W.mg_of X G ga32,
    f_l_counting := a33,
    d_l_counting := _,
    c_l_counting := cc33,
    p_l_counting := pp33,
    F_l_counting := F33,
    b_l_counting := B33,
    g_l_counting := PySem.W.mg_of X G ga33,
    f_l_counts_right := a34,
    d_l_counts_right := _,
    F_l_counts_right := F34,
    b_l_counts_right := (F34.binds (ps := ["_law_counts", "_law_spans"]) fun _ _ _ _ _ _ us hl => match us, hl with | [_, _], _ => rfl),
    g_l_counts_right := PySem.W.mg_of X G ga34,
    f_l_moves := a35,
    d_l_moves := _,
    F_l_moves := F35,
    b_l_moves := (F35.binds (ps := ["_law_house"]) fun _ _ _ _ _ _ us hl => match us, hl with | [_], _ => rfl),
    g_l_moves := PySem.W.mg_of X G ga35,
    pne_next_pieces_l_counting := pne28_33,
    z_abs := PySem.W.mg_none_of X G z_abs,
    z_any := PySem.W.mg_none_of X G z_any,
    z_bool := PySem.W.mg_none_of X G z_bool,
    z_int := PySem.W.mg_none_of X G z_int,
    z_isinstance := PySem.W.mg_none_of X G z_isinstance,
    z_len := PySem.W.mg_none_of X G z_len,
    z_list := PySem.W.mg_none_of X G z_list,
    z_min := PySem.W.mg_none_of X G z_min,
    z_property := PySem.W.mg_none_of X G z_property,
    z_range := PySem.W.mg_none_of X G z_range,
    z_repr := PySem.W.mg_none_of X G z_repr,
    z_reversed := PySem.W.mg_none_of X G z_reversed,
    z_sorted := PySem.W.mg_none_of X G z_sorted,
    z_sum := PySem.W.mg_none_of X G z_sum,
    u_GREATEST := _,
    v_GREATEST := PySem.W.mg_of X G v_GREATEST,
    r_GREATEST := ⟨_, rfl⟩,
    cl_Calls := ⟨pg_Calls, hd_Calls, po_Calls, sa_Calls⟩,
    mk_Calls := mk_Calls,
    kp_Calls := kp_Calls,
    n_Calls_entries := n_Calls_entries,
    n_Calls_running := n_Calls_running,
    cl_Outer := ⟨pg_Outer, hd_Outer, po_Outer, sa_Outer⟩,
    mk_Outer := mk_Outer,
    kp_Outer := kp_Outer,
    n_Outer_calls := n_Outer_calls,
    n_Outer_push_call := n_Outer_push_call,
    n_Outer_pop_call := n_Outer_pop_call,
    n_Outer_ask_call := n_Outer_ask_call,
    n_Outer_order := n_Outer_order,
    n_Outer_broken := n_Outer_broken,
    cl_Timed := ⟨pg_Timed, hd_Timed, po_Timed, sa_Timed⟩,
    mk_Timed := mk_Timed,
    kp_Timed := kp_Timed,
    n_Timed_outer := n_Timed_outer,
    n_Timed_given := n_Timed_given,
    n_Timed_now := n_Timed_now,
    n_Timed_held := n_Timed_held,
    n_Timed_limits := n_Timed_limits,
    n_Timed_ends := n_Timed_ends,
    cr_Timed := ⟨cdT, cgT⟩,
    uv_LAST := _,
    cv_LAST := ⟨cvT, ⟨_, rfl⟩⟩ }
  refine ⟨PySem.W.fnOf "law" "law" (defArgs s_law) (defBody s_law) (defScope s_law) .none kV36 dc36 pm36 an36 cd36 ct36, [(cc28, pp28), (cc33, pp33)], spLaw T, (all_cons T28.2 (all_cons T33.2 (fun _ z => nomatch z))), (all_cons tn28 (all_cons tn33 (fun _ z => nomatch z))), (all_cons T28.1 (all_cons T33.1 (fun _ z => nomatch z))), fun s v => .of_eq rfl, fun H a ns hl ht hS => ⟨a, ns, rfl, hS, hl, ht _ (List.mem_cons_self ..), ht _ (List.mem_cons_of_mem _ (List.mem_cons_self ..)), fun _ => rfl⟩, fun base _ _ tb => Inf.FnOkG.of (ok_law T (tb _ (List.mem_cons_self ..)) (tb _ (List.mem_cons_of_mem _ (List.mem_cons_self ..))) F36)⟩
end Ob
open PySem PySem.W PyProof.Rows
set_option maxHeartbeats 0 in
theorem PySem.Challenge.cw_oncebuilt_k52_whole_bounds_of_timed_holds : PySem.Challenge.rw_oncebuilt_k52_whole_bounds_of_timed.Holds := by
  w_on; o_law; k_head; (case hw => w_witness2)
  k_fill
  refine Inf.walk_topG (l := PySem.Challenge.rw_oncebuilt_k52_whole_bounds_of_timed) (n := 63) (k := 40) (x := "_law_script") (YP := _) (CX := fun _ => L2.CX0) rfl (by decide) rfl ⟨rfl, by decide, by decide⟩ (fun w h Y => by first | exact PySem.W.kIn_of Y | exact PySem.W.km_in_of Y) ?F (fun _ _ _ _ _ h => h)
  case F =>
    intro w mg fa h Y KX G hmg tt
    refine' Ob.all_mk KX G hmg tt ?gc_Calls ?gc_Outer ?gc_Timed ?ma0 ?l0 ?c0 ?k0 ?mt0 ?my0 ?ma1 ?l1 ?c1 ?k1 ?mt1 ?my1 ?ma2 ?l2 ?c2 ?k2 ?mt2 ?my2 ?ma3 ?l3 ?c3 ?k3 ?mt3 ?my3 ?ma4 ?l4 ?c4 ?k4 ?mt4 ?my4 ?ma5 ?l5 ?c5 ?k5 ?mt5 ?my5 ?ma6 ?l6 ?c6 ?k6 ?mt6 ?my6 ?ma7 ?l7 ?c7 ?k7 ?mt7 ?my7 ?ma8 ?l8 ?c8 ?k8 ?mt8 ?my8 ?ma9 ?l9 ?c9 ?k9 ?mt9 ?my9 ?ma10 ?l10 ?c10 ?k10 ?mt10 ?my10 ?ma11 ?l11 ?c11 ?k11 ?mt11 ?my11 ?ma12 ?l12 ?c12 ?k12 ?mt12 ?my12 ?ma13 ?l13 ?c13 ?k13 ?mt13 ?my13 ?ma14 ?l14 ?c14 ?k14 ?mt14 ?my14 ?ga15 ?l15 ?c15 ?k15 ?ga16 ?l16 ?c16 ?k16 ?ga17 ?l17 ?c17 ?k17 ?ga18 ?l18 ?c18 ?k18 ?ga19 ?l19 ?c19 ?k19 ?ga20 ?l20 ?c20 ?k20 ?ga21 ?l21 ?c21 ?k21 ?ga22 ?l22 ?c22 ?k22 ?ga23 ?l23 ?c23 ?k23 ?ga24 ?l24 ?c24 ?k24 ?ga25 ?l25 ?c25 ?k25 ?ga26 ?l26 ?c26 ?k26 ?ga27 ?l27 ?c27 ?k27 ?ga28 ?l28 ?c28 ?k28 ?tl28 ?tp28 ?tn28 ?tr28 ?ga29 ?l29 ?c29 ?k29 ?ga30 ?l30 ?c30 ?k30 ?ga31 ?l31 ?c31 ?k31 ?ga32 ?l32 ?c32 ?k32 ?ga33 ?l33 ?c33 ?k33 ?tl33 ?tp33 ?tn33 ?tr33 ?ga34 ?l34 ?c34 ?k34 ?ga35 ?l35 ?c35 ?k35 ?ga36 ?l36 ?c36 ?k36 ?pne28_33 ?z_abs ?z_any ?z_bool ?z_int ?z_isinstance ?z_len ?z_list ?z_min ?z_property ?z_range ?z_repr ?z_reversed ?z_sorted ?z_sum ?v_GREATEST ?pg_Calls ?hd_Calls ?po_Calls ?sa_Calls ?mk_Calls ?kp_Calls ?n_Calls_entries ?n_Calls_running ?pg_Outer ?hd_Outer ?po_Outer ?sa_Outer ?mk_Outer ?kp_Outer ?n_Outer_calls ?n_Outer_push_call ?n_Outer_pop_call ?n_Outer_ask_call ?n_Outer_order ?n_Outer_broken ?pg_Timed ?hd_Timed ?po_Timed ?sa_Timed ?mk_Timed ?kp_Timed ?n_Timed_outer ?n_Timed_given ?n_Timed_now ?n_Timed_held ?n_Timed_limits ?n_Timed_ends ?cdT ?cgT ?cvT
    (case gc_Calls => k_is); (case gc_Outer => k_is); (case gc_Timed => k_is); (case ma0 => k_is); (case l0 => k_is); (case c0 => k_is); (case k0 => k_is); (case mt0 => k_is); (case my0 => k_is); (case ma1 => k_is); (case l1 => k_is); (case c1 => k_is); (case k1 => k_is); (case mt1 => k_is); (case my1 => k_is); (case ma2 => k_is); (case l2 => k_is); (case c2 => k_is); (case k2 => k_is); (case mt2 => k_is); (case my2 => k_is); (case ma3 => k_is); (case l3 => k_is); (case c3 => k_is); (case k3 => k_is); (case mt3 => k_is); (case my3 => k_is); (case ma4 => k_is); (case l4 => k_is); (case c4 => k_is); (case k4 => k_is); (case mt4 => k_is); (case my4 => k_is); (case ma5 => k_is); (case l5 => k_is); (case c5 => k_is); (case k5 => k_is); (case mt5 => k_is); (case my5 => k_is); (case ma6 => k_is); (case l6 => k_is); (case c6 => k_is); (case k6 => k_is); (case mt6 => k_is); (case my6 => k_is); (case ma7 => k_is); (case l7 => k_is); (case c7 => k_is); (case k7 => k_is); (case mt7 => k_is); (case my7 => k_is); (case ma8 => k_is); (case l8 => k_is); (case c8 => k_is); (case k8 => k_is); (case mt8 => k_is); (case my8 => k_is); (case ma9 => k_is); (case l9 => k_is); (case c9 => k_is); (case k9 => k_is); (case mt9 => k_is); (case my9 => k_is); (case ma10 => k_is); (case l10 => k_is); (case c10 => k_is); (case k10 => k_is); (case mt10 => k_is); (case my10 => k_is); (case ma11 => k_is); (case l11 => k_is); (case c11 => k_is); (case k11 => k_is); (case mt11 => k_is); (case my11 => k_is); (case ma12 => k_is); (case l12 => k_is); (case c12 => k_is); (case k12 => k_is); (case mt12 => k_is); (case my12 => k_is); (case ma13 => k_is); (case l13 => k_is); (case c13 => k_is); (case k13 => k_is); (case mt13 => k_is); (case my13 => k_is); (case ma14 => k_is); (case l14 => k_is); (case c14 => k_is); (case k14 => k_is); (case mt14 => k_is); (case my14 => k_is); (case ga15 => k_is); (case l15 => k_is); (case c15 => k_is); (case k15 => k_is); (case ga16 => k_is); (case l16 => k_is); (case c16 => k_is); (case k16 => k_is); (case ga17 => k_is); (case l17 => k_is); (case c17 => k_is); (case k17 => k_is); (case ga18 => k_is); (case l18 => k_is); (case c18 => k_is); (case k18 => k_is); (case ga19 => k_is); (case l19 => k_is); (case c19 => k_is); (case k19 => k_is); (case ga20 => k_is); (case l20 => k_is); (case c20 => k_is); (case k20 => k_is); (case ga21 => k_is); (case l21 => k_is); (case c21 => k_is); (case k21 => k_is); (case ga22 => k_is); (case l22 => k_is); (case c22 => k_is); (case k22 => k_is); (case ga23 => k_is); (case l23 => k_is); (case c23 => k_is); (case k23 => k_is); (case ga24 => k_is); (case l24 => k_is); (case c24 => k_is); (case k24 => k_is); (case ga25 => k_is); (case l25 => k_is); (case c25 => k_is); (case k25 => k_is); (case ga26 => k_is); (case l26 => k_is); (case c26 => k_is); (case k26 => k_is); (case ga27 => k_is); (case l27 => k_is); (case c27 => k_is); (case k27 => k_is); (case ga28 => k_is); (case l28 => k_is); (case c28 => k_is); (case k28 => k_is); (case tl28 => k_is); (case tp28 => rfl); (case tn28 => kernel_rfl); (case tr28 => rfl); (case ga29 => k_is); (case l29 => k_is); (case c29 => k_is); (case k29 => k_is); (case ga30 => k_is); (case l30 => k_is); (case c30 => k_is); (case k30 => k_is); (case ga31 => k_is); (case l31 => k_is); (case c31 => k_is); (case k31 => k_is); (case ga32 => k_is); (case l32 => k_is); (case c32 => k_is); (case k32 => k_is); (case ga33 => k_is); (case l33 => k_is); (case c33 => k_is); (case k33 => k_is); (case tl33 => k_is); (case tp33 => rfl); (case tn33 => kernel_rfl); (case tr33 => rfl); (case ga34 => k_is); (case l34 => k_is); (case c34 => k_is); (case k34 => k_is); (case ga35 => k_is); (case l35 => k_is); (case c35 => k_is); (case k35 => k_is); (case ga36 => k_is); (case l36 => k_is); (case c36 => k_is); (case k36 => k_is); (case pne28_33 => decide); (case z_abs => k_is); (case z_any => k_is); (case z_bool => k_is); (case z_int => k_is); (case z_isinstance => k_is); (case z_len => k_is); (case z_list => k_is); (case z_min => k_is); (case z_property => k_is); (case z_range => k_is); (case z_repr => k_is); (case z_reversed => k_is); (case z_sorted => k_is); (case z_sum => k_is); (case v_GREATEST => k_is); (case pg_Calls => k_is); (case hd_Calls => k_is); (case po_Calls => k_is); (case sa_Calls => k_is); (case mk_Calls => k_is); (case kp_Calls => k_is); (case n_Calls_entries => k_is); (case n_Calls_running => k_is); (case pg_Outer => k_is); (case hd_Outer => k_is); (case po_Outer => k_is); (case sa_Outer => k_is); (case mk_Outer => k_is); (case kp_Outer => k_is); (case n_Outer_calls => k_is); (case n_Outer_push_call => k_is); (case n_Outer_pop_call => k_is); (case n_Outer_ask_call => k_is); (case n_Outer_order => k_is); (case n_Outer_broken => k_is); (case pg_Timed => k_is); (case hd_Timed => k_is); (case po_Timed => k_is); (case sa_Timed => k_is); (case mk_Timed => k_is); (case kp_Timed => k_is); (case n_Timed_outer => k_is); (case n_Timed_given => k_is); (case n_Timed_now => k_is); (case n_Timed_held => k_is); (case n_Timed_limits => k_is); (case n_Timed_ends => k_is); (case cdT => k_is); (case cgT => k_is); (case cvT => k_is)


import PyProof.Rows.All
import Wide.All
import OpenK.AllK
import Wide.FinOn
import HandS.ForMost
import HandS.ForExc
import HandS.Nested
import HandS.Star
import HandS.Finally
import HandS.EndTab
import HandS.Replace
import HandS.Defaults
import HandS.ClsMeth
import HandS.MakeKwOnly
import KE.KMinKey
import HandS.SortKw
import KE.KDictCopyH
import KE.KDictIter
import HandS.IterVal
import HandS.DictTup
import KE.SortUse
import HandS.Rev
import PyProof.ListNew
import HandS.Style
import HandS.GenYield
import HandS.GenList
import HandS.Walk
import KE.DatumOrd
import KE.KTupSum
import HandS.SortRule
import HandS.Wide
import HandS.WideBits
import HandS.IsInst
import HandS.Codes
import HandS.Comp
import HandS.Conv
import HandS.SortInts
import HandS.MethStar
import PySem.Challenge.RW_oncebuilt_k51_calls_of_timed
import HandS.TryOnly
import HandS.DictComp
set_option Elab.async false
set_option linter.all false
set_option maxRecDepth 100000
set_option maxHeartbeats 4000000
namespace Inf
open PySem PySem.Spec PyProof.Rows L2 NdefX LamX
/-! ### a cell that is told -/
def CellO (c : Addr) (v : V) : HO := .ext fun h => ∃ u, L2.RelV v u ∧ h.IsCell c (some u)
theorem cellO_at {P : Program} {w : World} {H : Hp} {h : Heap} {c : Addr} {v : V} (hok : HOk P w H h) (e : H c = some (CellO c v)) : ∃ u, L2.RelV v u ∧ h.IsCell c (some u) := by
  obtain ⟨z, _, _⟩ := hok c _ e
  exact z
theorem cellO_ok {P : Program} {w : World} {H : Hp} {h : Heap} {c : Addr} {v : V} (x : ∃ u, L2.RelV v u ∧ h.IsCell c (some u)) : ObjOk P w H h c (CellO c v) := by
  refine ⟨x, ?_, fun h1 h2 ⟨u, r, o, e, d⟩ k => ⟨u, r, o, k o e, d⟩⟩
  obtain ⟨u, _, o, e, _⟩ := x
  exact ⟨o, e⟩
/-! ### cells left out, and put back -/
def cut (cs : List Addr) (H : Hp) : Hp := fun b => if b ∈ cs then Option.none else H b
def mend (cs : List Addr) (H H1 : Hp) : Hp := fun b => if b ∈ cs then H b else H1 b
theorem cut_in {cs : List Addr} {H : Hp} {b : Addr} (h : b ∈ cs) : cut cs H b = Option.none := if_pos h
theorem cut_out {cs : List Addr} {H : Hp} {b : Addr} (h : b ∉ cs) : cut cs H b = H b := if_neg h
theorem mend_in {cs : List Addr} {H H1 : Hp} {b : Addr} (h : b ∈ cs) : mend cs H H1 b = H b := if_pos h
theorem mend_out {cs : List Addr} {H H1 : Hp} {b : Addr} (h : b ∉ cs) : mend cs H H1 b = H1 b := if_neg h
def cellsOf (F : NF) (fr : List Str) : List Addr := fr.filterMap fun y => F.cl.lookup y
theorem mem_cells {F : NF} {fr : List Str} {c : Addr} : c ∈ cellsOf F fr ↔ ∃ y ∈ fr, F.cl.lookup y = some c := List.mem_filterMap
/-- the function F stands at f, and its captured cells hold ws -/
structure Clo (H : Hp) (f : Addr) (F : NF) (fr : List Str) (ws : List V) : Prop where
  fn : H f = some (FnO f F)
  code : H F.c = some (CodeO F.c F.qual)
  len : ws.length = fr.length
  dom : ∀ y c, F.cl.lookup y = some c → y ∈ fr
  inj : ∀ x y c, F.cl.lookup x = some c → F.cl.lookup y = some c → x = y
  at_ : ∀ (i : Nat) (y : Str), fr[i]? = some y → ∃ c v, F.cl.lookup y = some c ∧ ws[i]? = some v ∧ H c = some (CellO c v)
theorem Clo.same {H H1 : Hp} {f : Addr} {F : NF} {fr : List Str} {ws : List V} (h : Clo H f F fr ws) (s : Same H H1) : Clo H1 f F fr ws :=
  ⟨s _ _ h.fn, s _ _ h.code, h.len, h.dom, h.inj, fun i y e => by
    obtain ⟨c, v, a, b, d⟩ := h.at_ i y e
    exact ⟨c, v, a, b, s _ _ d⟩⟩
theorem Clo.cell {H : Hp} {f : Addr} {F : NF} {fr : List Str} {ws : List V} (h : Clo H f F fr ws) {b : Addr} (hb : b ∈ cellsOf F fr) : ∃ v, H b = some (CellO b v) := by
  obtain ⟨y, hy, e⟩ := mem_cells.mp hb
  obtain ⟨i, hi⟩ := List.mem_iff_getElem?.mp hy
  obtain ⟨c, v, a, _, d⟩ := h.at_ i y hi
  rw [e] at a
  cases a
  exact ⟨v, d⟩
/-- what is no thing by a word of its own is no cell -/
theorem Clo.out {H : Hp} {f : Addr} {F : NF} {fr : List Str} {ws : List V} (h : Clo H f F fr ws) {b : Addr} {o : HO} (e : H b = some o) (n : ∀ φ, o ≠ .ext φ) : b ∉ cellsOf F fr := fun hb => by
  obtain ⟨v, d⟩ := h.cell hb
  rw [e] at d
  exact n _ (Option.some.inj d)
section
variable {P : Program} {w : World} {K : PySem.W.Frag} {mg : Str → Option Value} {base : Heap} {k : Nat} {f : Addr} {F : NF} {ps fr : List Str} {sp : List (Option V) → Sp}
/-- A FUNCTION THAT WAS MADE IN A DEF, called from anywhere: its cells are told; while it runs they are left out, behind it they are put back -/
theorem clo_fnR (N : NOk P w K mg base CX0 k f F ps fr sp) :
    FnR P w K mg base CX0 k f (fun vs H Q E => ∃ ws, Clo H f F fr ws ∧ sp (ws.map some) vs (cut (cellsOf F fr) H) (fun v H1 => (∀ b, b ∈ cellsOf F fr → H1 b = Option.none) → Q v (mend (cellsOf F fr) H H1)) E) := by
  intro A outer s H us vs Q E hr e0 r hsp
  obtain ⟨ws, hc, hsp⟩ := hsp
  have cellAt : ∀ b, b ∈ cellsOf F fr → ∃ v, H b = some (CellO b v) := fun b hb => hc.cell hb
  have fnout : f ∉ cellsOf F fr := fun hb => by
    obtain ⟨v, e⟩ := cellAt f hb
    obtain ⟨u, _, o, e1, e2⟩ := cellO_at e0.hok e
    obtain ⟨od, sl, doc, pm, ctv, e3⟩ := fnO_at e0.hok hc.fn
    rw [e1] at e3
    cases e3
    cases e2
  have cout : F.c ∉ cellsOf F fr := fun hb => by
    obtain ⟨v, e⟩ := cellAt F.c hb
    obtain ⟨u, _, o, e1, e2⟩ := cellO_at e0.hok e
    obtain ⟨⟨oc, vs', t, h1, h2, h3⟩, _, _⟩ := e0.hok F.c _ hc.code
    rw [e1] at h1
    cases h1
    rw [e2] at h2
    cases h2
  have hokc : HOk P w (cut (cellsOf F fr) H) s.heap := fun b o e => by
    by_cases hb : b ∈ cellsOf F fr
    · rw [cut_in hb] at e
      cases e
    · rw [cut_out hb] at e
      refine (e0.hok b o e).stay (fun c u _ q => q) (fun c q => ?_) fun c xs q => ?_
      · rw [cut_out (hc.out q (fun φ z => nomatch z))]
        exact q
      · rw [cut_out (hc.out q (fun φ z => nomatch z))]
        exact q
  have noneC : ∀ b, H b = Option.none → cut (cellsOf F fr) H b = Option.none := fun b e => by
    by_cases hb : b ∈ cellsOf F fr
    · exact cut_in hb
    · rw [cut_out hb]
      exact e
  have e1 : Env0 P w K mg base A outer s (cut (cellsOf F fr) H) := ⟨e0.frames, e0.mod, fun b o q => ⟨(e0.bs b o q).1, noneC b (e0.bs b o q).2⟩, e0.bsz, e0.funs, fun b hb => noneC b (e0.frf b hb), hokc, e0.bare⟩
  have C : CellsAt F.cl fr (ws.map some) s.heap (cut (cellsOf F fr) H) := by
    refine ⟨by rw [List.length_map]; exact hc.len, fun y c e => ?_, hc.inj, fun i y e => ?_⟩
    · have hb : c ∈ cellsOf F fr := mem_cells.mpr ⟨y, hc.dom y c e, e⟩
      obtain ⟨v, d⟩ := cellAt c hb
      obtain ⟨u, _, z⟩ := cellO_at e0.hok d
      exact ⟨cut_in hb, _, z⟩
    · obtain ⟨c, v, a, b, d⟩ := hc.at_ i y e
      refine ⟨c, a, fun v' e' => ?_⟩
      rw [List.getElem?_map, b] at e'
      cases e'
      obtain ⟨u, r', z⟩ := cellO_at e0.hok d
      exact ⟨u, r', z⟩
  refine codeAny_mono (N.run A outer s (cut (cellsOf F fr) H) us vs (ws.map some) _ E hr e1 (by rw [cut_out fnout]; exact hc.fn) (by rw [cut_out cout]; exact hc.code) C r hsp) fun res s' hq => ?_
  cases res with
  | error e => exact hq
  | ok fl =>
    cases fl with
    | next => exact hq
    | brk => exact hq
    | cont => exact hq
    | ret u =>
      obtain ⟨v, H1, os, bare, un, hok1, rv, q⟩ := hq
      have gone : ∀ b, b ∈ cellsOf F fr → H1 b = Option.none := fun b hb => by
        obtain ⟨v, d⟩ := cellAt b hb
        obtain ⟨u, _, o, z1, z2⟩ := cellO_at e0.hok d
        exact un.free b o z1 (cut_in hb) (by simp)
      have notfr : ∀ b, b ∈ cellsOf F fr → b ∉ frs outer := fun b hb z => by
        obtain ⟨v, d⟩ := cellAt b hb
        rw [e0.frf b z] at d
        cases d
      refine ⟨v, mend (cellsOf F fr) H H1, os, bare, ⟨fun b o a n h1 h2 => un.keep b o a (noneC b n) h1 h2, fun b o a n h1 h2 => un.slot b o a (noneC b n) h1 h2, fun b o a n h2 => ?_, un.there, fun b xs e => ?_, fun b o u e => ?_, fun b ps e => ?_⟩, fun b o e => ?_, rv, q gone⟩
      · by_cases hb : b ∈ cellsOf F fr
        · rw [mend_in hb]
          exact n
        · rw [mend_out hb]
          exact un.free b o a (noneC b n) h2
      · have hb := hc.out e (fun φ z => nomatch z)
        rw [mend_out hb]
        exact un.tups b xs (by rw [cut_out hb]; exact e)
      · have hb := hc.out e (fun φ z => nomatch z)
        rw [mend_out hb]
        exact un.frzs b o u (by rw [cut_out hb]; exact e)
      · have hb := hc.out e (fun φ z => nomatch z)
        rw [mend_out hb]
        exact un.tbls b ps (by rw [cut_out hb]; exact e)
      · by_cases hb : b ∈ cellsOf F fr
        · rw [mend_in hb] at e
          obtain ⟨v', d⟩ := cellAt b hb
          rw [d] at e
          cases e
          obtain ⟨u', r', o', z1, z2⟩ := cellO_at e0.hok d
          exact cellO_ok ⟨u', r', o', un.keep b o' z1 (cut_in hb) (notfr b hb) (by simp), z2⟩
        · rw [mend_out hb] at e
          refine (hok1 b o e).stay (fun c u _ q => q) (fun c q => ?_) fun c xs q => ?_
          · have hb' : c ∉ cellsOf F fr := fun z => by
              rw [gone c z] at q
              cases q
            rw [mend_out hb']
            exact q
          · have hb' : c ∉ cellsOf F fr := fun z => by
              rw [gone c z] at q
              cases q
            rw [mend_out hb']
            exact q
end
theorem mend_at {cs : List Addr} {H H1 : Hp} {a : Addr} {o : HO} (g : ∀ b, b ∈ cs → H1 b = Option.none) (e : H1 a = some o) : mend cs H H1 a = some o := by
  rw [mend_out fun z => by rw [g a z] at e; cases e]
  exact e
theorem cut_at {cs : List Addr} {H : Hp} {a : Addr} {o : HO} (n : a ∉ cs) (e : H a = some o) : cut cs H a = some o := (cut_out n).trans e
end Inf

set_option Elab.async false
set_option linter.all false
set_option maxRecDepth 100000
set_option maxHeartbeats 4000000
namespace Inf
open PySem PySem.Spec PyProof.Rows L2 NdefX LamX
/-! ### a body that ends in a return: what its names hold there is told -/
abbrev TSR := (L2.St → V → Hp → Prop) → L2.St → Hp → Prop
structure PSsR (X : Cx) (ss : List Stmt) (t : TSR) : Prop where
  run : ∀ (pins : List (Addr × Obj)) (s : Shared) (σ : L2.St) (H : Hp) (R : L2.St → V → Hp → Prop), Inv X pins σ H s → t R σ H →
    wpAny (model X.prog X.w) X.A (execs ss X.env) (fun fl s' => ∃ u v σ' H', fl = .ret u ∧ Inv X pins σ' H' s' ∧ L2.RelV v u ∧ R σ' v H') X.xe s
theorem psr_cons {X : Cx} {st : Stmt} {rest : List Stmt} {t : TS} {u : TSR} (h1 : PS X st t) (h2 : PSsR X rest u) : PSsR X (st :: rest) (fun R σ H => t { nx := fun σ' H' => u R σ' H', rt := fun _ _ => False } σ H) := by
  refine ⟨fun pins s σ H R I h => ?_⟩
  refine wpAny_execs_cons (thn (h1.run pins s σ H { nx := fun σ' H' => u R σ' H', rt := fun _ _ => False } I h) fun fl s1 q => ?_)
  cases fl with
  | next =>
    obtain ⟨σ1, H1, I1, q1⟩ := q
    exact h2.run pins s1 σ1 H1 R I1 q1
  | brk =>
    obtain ⟨_, _, _, q1⟩ := q
    exact False.elim q1
  | cont =>
    obtain ⟨_, _, _, q1⟩ := q
    exact False.elim q1
  | ret v =>
    obtain ⟨_, _, _, _, _, q1⟩ := q
    exact False.elim q1
theorem psr_ret {X : Cx} {e : Expr} {pos : Pos} {te : TE} (he : PE X e te) : PSsR X [.Return (some e) pos] (fun R σ H => te σ H (R σ)) := by
  refine ⟨fun pins s σ H R I h => ?_⟩
  refine wpAny_execs_cons (wpAny_Return_some (thn (he.run pins s σ H _ I h) fun v s1 ⟨x, H1, I1, r1, q1⟩ => ?_))
  exact ⟨v, x, σ, H1, rfl, I1, r1, q1⟩
/-! ### a def that returns things that hold its names -/
/-- the heap behind the return: the def's cells are told -/
structure Fin (cells : List (Str × Addr)) (names : List (Str × NameKind)) (N : List Str) (σ : L2.St) (H H' : Hp) : Prop where
  same : Same H H'
  gone : ∀ b, H' b = Option.none → H b = Option.none
  inj : ∀ x y c, cells.lookup x = some c → cells.lookup y = some c → x = y
  at_ : ∀ (i : Nat) (y : Str) (c : Addr) (v : V), N[i]? = some y → names.lookup y = some .cell → cells.lookup y = some c → σ[i]? = some (some v) → H' c = some (CellO c v)
theorem cells_big : ∀ (names : List (Str × NameKind)) (n lo : Nat) (acc : List (Str × Addr)), (∀ p ∈ acc, lo ≤ p.2) → lo ≤ n → ∀ p ∈ cellsFrom n names acc, lo ≤ p.2
  | [], n, lo, acc, h, _ => h
  | (x, kd) :: r, n, lo, acc, h, hn => by
    unfold cellsFrom
    split
    · exact cells_big r (n + 1) lo _ (fun p hp => by
        rcases List.mem_cons.mp hp with rfl | hp
        · exact hn
        · exact h p hp) (by omega)
    · exact cells_big r n lo acc h hn
section
variable {CX : CXT} {P : Program} {w : World} {K : PySem.W.Frag} {mg : Str → Option Value} {base : Heap} {N ps : List Str} {qual : Str} {scope : Scope} {f : Addr} {cdv : Value} {A : Around} {outer : List Env} {s s' : Shared} {H H' : Hp} {E : XK} {σ : L2.St} {Q : VK}
open Classical in
theorem fin_make (nd : N.Nodup) (J : Inv (cxOf CX P w K mg base N qual scope f cdv A outer s H E) [] σ H' s') :
    ∃ H'', Fin (envOfC qual scope s.heap.objs.size f cdv).cells scope.names N σ H' H'' ∧ Un (frs outer) [] H H'' s.heap s'.heap ∧ HOk P w H'' s'.heap := by
  have ge : ∀ (y : Str) (c : Addr), (envOfC qual scope s.heap.objs.size f cdv).cells.lookup y = some c → s.heap.objs.size ≤ c := fun y c e =>
    cells_big scope.names (s.heap.objs.size + 1) s.heap.objs.size [] (fun p hp => by cases hp) (Nat.le_succ _) (y, c) (PySem.mem_of_lookup e)
  have J0 : Un (frs outer) [] H H' s.heap s'.heap := J.base
  have inj := J.ok.inj
  let Pr : Addr → V → Prop := fun b v => ∃ (i : Nat) (y : Str), N[i]? = some y ∧ scope.names.lookup y = some .cell ∧ (envOfC qual scope s.heap.objs.size f cdv).cells.lookup y = some b ∧ σ[i]? = some (some v)
  have gone : ∀ b v, Pr b v → H' b = Option.none := fun b v ⟨i, y, _, _, e, _⟩ => J.freeC y b e
  have uniq : ∀ b v u, Pr b v → Pr b u → v = u := fun b v u ⟨i, y, a1, a2, a3, a4⟩ ⟨j, z, b1, b2, b3, b4⟩ => by
    have e1 : y = z := inj y z b a3 b3
    subst e1
    have e2 : i = j := by
      obtain ⟨h1, g1⟩ := List.getElem?_eq_some_iff.mp a1
      obtain ⟨h2, g2⟩ := List.getElem?_eq_some_iff.mp b1
      exact (List.getElem_inj nd).mp (g1.trans g2.symm)
    subst e2
    rw [a4] at b4
    exact Option.some.inj (Option.some.inj b4)
  let H'' : Hp := fun b => if h : ∃ v, Pr b v then some (CellO b (Classical.choose h)) else H' b
  have inC : ∀ b v, Pr b v → H'' b = some (CellO b v) := fun b v h => by
    have hx : ∃ v, Pr b v := ⟨v, h⟩
    show (if h : ∃ v, Pr b v then some (CellO b (Classical.choose h)) else H' b) = _
    rw [dif_pos hx, uniq b _ v (Classical.choose_spec hx) h]
  have outC : ∀ b, (¬ ∃ v, Pr b v) → H'' b = H' b := fun b h => dif_neg h
  have known : ∀ b o, H' b = some o → H'' b = some o := fun b o e => by
    rw [outC b fun ⟨v, h⟩ => by rw [gone b v h] at e; cases e]
    exact e
  refine ⟨H'', ⟨known, fun b e => ?_, inj, fun i y c v h1 h2 h3 h4 => inC c v ⟨i, y, h1, h2, h3, h4⟩⟩, ⟨J0.keep, J0.slot, fun b o a n h2 => ?_, J0.there, fun b xs e => known _ _ (J0.tups b xs e), fun b o u e => known _ _ (J0.frzs b o u e), fun b ps' e => ?_⟩, fun b o e => ?_⟩
  · by_cases hb : ∃ v, Pr b v
    · obtain ⟨v, h⟩ := hb
      rw [inC b v h] at e
      cases e
    · rw [outC b hb] at e
      exact e
  · rw [outC b fun ⟨v, i, y, _, _, e, _⟩ => by
      exact absurd (Heap.lt_size a) (Nat.not_lt.mpr (ge y b e))]
    exact J0.free b o a n h2
  · obtain ⟨more, e2⟩ := J0.tbls b ps' e
    exact ⟨more, known _ _ e2⟩
  · by_cases hb : ∃ v, Pr b v
    · obtain ⟨v, h⟩ := hb
      rw [inC b v h] at e
      cases e
      obtain ⟨i, y, a1, a2, a3, a4⟩ := h
      obtain ⟨m, hn, hl⟩ := J.loc
      obtain ⟨u, ru, lk⟩ := hl i y v a1 a4 (.inr (.inl a2))
      refine cellO_ok ⟨u, ru, ?_⟩
      rcases lk with ⟨z, _⟩ | ⟨_, c', hc', hcell⟩
      · have z' : scope.names.lookup y = some .local := z
        rw [a2] at z'
        cases z'
      · have hc2 : (envOfC qual scope s.heap.objs.size f cdv).cells.lookup y = some c' := hc'
        rw [a3] at hc2
        cases hc2
        exact hcell
    · rw [outC b hb] at e
      exact (J.hok b o e).stay (fun c u _ q => q) (fun c q => known _ _ q) fun c xs q => known _ _ q
end
/-- THE RULE for such a def -/
theorem Fun.okC {P : Program} {w : World} {K : PySem.W.Frag} {mg : Str → Option Value} {base : Heap} {x qual : Str} {st : Stmt} {f : Addr} {fd : FuncData} {N ps : List Str} {k : Nat} {sp : Sp} (F : L2.Fun K x qual st f fd) (S : FnScope N ps (defScope st)) (len : ∀ vs H Q E, sp vs H Q E → vs.length = ps.length)
    (hbody : ∀ (cdv : Value) (A : Around) (outer : List Env) (s : Shared) (H : Hp) (vs : List V) (Q : VK) (E : XK), Room k (A.deeper (envOfC qual (defScope st) s.heap.objs.size f cdv)) → PySem.W.codeIn K cdv qual = true → sp vs H Q E →
      ∃ t, PSsR (cxOf CX0 P w K mg base N qual (defScope st) f cdv A outer s H E).nox (defBody st) t ∧
        t (fun σ v H' => ∀ H'', Fin (envOfC qual (defScope st) s.heap.objs.size f cdv).cells (defScope st).names N σ H' H'' → Q v H'') (start N vs) H) : FnOk P w K mg base CX0 (k + 1) f fd ps sp := by
  obtain ⟨oc, od, kV, doc, pm, an, cdv, ct, osl, rfl, lk, hcd⟩ := F.ex
  refine ⟨len, fun A outer s H args us vs Q E hr e0 hb r hsp => ?_⟩
  have hl := len _ _ _ _ hsp
  have KX : K.In s.heap := e0.mod.kin.keeps fun b o e => (e0.bs b o e).1
  have lim : s.heap.NoLimit := e0.mod.nolimit.keeps fun b o e => (e0.bs b o e).1
  have hkind : ∀ y ∈ ps.zip us, (defScope st).names.lookup y.1 = some .local ∨ ((defScope st).names.lookup y.1 = some .cell ∧ ((cellsFrom (s.heap.objs.size + 1) (defScope st).names []).lookup y.1).isSome = true) := fun ⟨n, v⟩ hy => by
    rcases S.par n (List.of_mem_zip hy).1 with q | q
    · exact .inl q
    · exact .inr ⟨q, PySem.W.cellsFrom_some _ _ _ (.inl q)⟩
  refine codeAny_call_function hr.depth (KX _ _ lk) rfl S.co S.gen rfl (PySem.W.codeRec_of KX hcd) (hb _ _ _ _ ?_)
  refine wpAny_newFunctionEnv_cells S.kind hkind fun env he s1 xx => ?_
  subst he
  refine ⟨lim.keeps xx.toInCall.keep, codeAny_func ?_⟩
  obtain ⟨t, ht, hq⟩ := hbody cdv A outer s H vs Q E (hr.deeper _) hcd hsp
  have I : Inv (cxOf CX0 P w K mg base N qual (defScope st) f cdv A outer s H E) [] (start N vs) H s1 := inv_start S hr.hd e0 hl r xx
  refine wpAny_mono (ht.run [] s1 (start N vs) H _ (I.wish _) hq) (fun fl s' hs => ?_) fun e s' hs => False.elim hs
  obtain ⟨u, v, σ', H', rfl, J', rv, q⟩ := hs
  have J : Inv (cxOf CX0 P w K mg base N qual (defScope st) f cdv A outer s H E) [] σ' H' s' := J'.unwish
  obtain ⟨H'', hF, hU, hO⟩ := fin_make S.nd J
  exact ⟨v, H'', J.os, J.bare, hU, hO, rv, q H'' hF⟩
end Inf

set_option Elab.async false
set_option linter.all false
set_option maxRecDepth 100000
set_option maxHeartbeats 4000000
namespace Inf
open PySem PySem.Spec PyProof.Rows L2 NdefX LamX
/-! ### f( *values), f a name that holds a function that was made in a def -/
/-- such a thing is a function object -/
def FnHO (f : Addr) (o : HO) : Prop := ∀ (P : Program) (w : World) (H : Hp) (h : Heap), HOk P w H h → H f = some o → PySem.W.FnAt f h
theorem fnHO_of {f : Addr} {F : NF} : FnHO f (FnO f F) := fun P w H h hok e => by
  obtain ⟨od, sl, doc, pm, ctv, z⟩ := fnO_at hok e
  exact ⟨_, od, _, sl, z⟩
def tAct (P : Program) (w : World) (K : PySem.W.Frag) (mg : Str → Option Value) (base : Heap) (CX : CXT) (k i : Nat) (E : L2.St → XK) (te : TE) : TE := fun σ H Q => ∃ f, σ[i]? = some (some (.ref f)) ∧ te σ H fun y H1 => ∃ a xs o sp, y = V.ref a ∧ (SqT K H1 a xs ∨ SqL K H1 a xs) ∧ H1 f = some o ∧ FnHO f o ∧
  FnR P w K mg base CX k f sp ∧ sp xs H1 Q (E σ)
section
variable {X : Cx} {CX : CXT} {k i : Nat} {E : L2.St → XK} {x : Str} {e : Expr} {te : TE} {p sp_ pos : Pos}
theorem run_fnE {pins : List (Addr × Obj)} {σ : L2.St} {H : Hp} {s : Shared} {f : Addr} {sp : Sp} {Q : VK} {us : List Value} {vs : List V} (F : FnR X.prog X.w X.K X.mg X.base CX k f sp) (hr : Room k X.A) (hx : PassesAt CX X σ (E σ)) (I : Inv X pins σ H s) (r : Vals vs us) (h : sp vs H Q (E σ)) :
    wpAny (model X.prog X.w) X.A (call (.ref f) us) (EP X pins σ Q) X.xe s := by
  refine wpAny_call (codeAny_mono (F X.A X.stack s H us vs Q (E σ) hr I.env0 r h) fun r s' hq => ?_)
  match r, hq with
  | .error e, hq => exact hx pins H s e s' I hq
  | .ok (.ret u), hq => exact I.after hq
  | .ok .next, hq => exact False.elim hq
  | .ok .brk, hq => exact False.elim hq
  | .ok .cont, hq => exact False.elim hq
theorem pe_act (hN : X.N[i]? = some x) (hv : Vis X.env.scope x) (hr : Room k X.A) (hx : ∀ σ, PassesAt CX X σ (E σ)) (he : PE X e te) (hd : (x == ("__debug__" : Str)) = false := by decide) (hcd : (x == ("__classdict__" : Str)) = false := by decide)
    (hst : starEach [.Starred e sp_] X.env = [(true, eval e X.env)] := by rfl) : PE X (.Call (.Name x p) [.Starred e sp_] [] pos) (tAct X.prog X.w X.K X.mg X.base CX k i E te) := by
  refine ⟨fun pins s σ H Q I h => ?_⟩
  obtain ⟨f, hs, h⟩ := h
  refine wpAny_Call_Name_kw (thn ((pe_var (pos := p) hN hv hd hcd).run pins s σ H (fun v H1 => v = .ref f ∧ H1 = H) I ⟨.ref f, hs, rfl, rfl⟩) fun u s1 ⟨v, H1, I1, r1, ev, eH⟩ => ?_)
  subst ev
  rw [eH] at I1
  obtain rfl : u = Value.ref f := r1
  rw [show backTo pos (starEach [.Starred e sp_] X.env) = [(true, (do let v ← eval e X.env; standAt pos; pure v))] by rw [hst]; rfl]
  refine PySem.W.ks_call (P := PySem.W.FnAt f) rfl PySem.W.keeps_F (PySem.W.ks_lone ?_)
  refine thn (he.run pins s1 σ H _ I1 h) fun v s2 ⟨y, H2, I2, ry, a, xs, o, sp, ey, hxs, hf, ho, hF, q⟩ => ?_
  subst ey
  obtain rfl : v = Value.ref a := ry
  exact StX.star_any I2 hxs fun us s3 I3 rv => ⟨ho _ _ _ _ I3.hok hf, run_fnE hF hr (hx σ) I3 rv q⟩
end
/-! ### try: body finally: suite, where nothing is raised -/
section
variable {X : Cx} {body : List Stmt} {f₀ : Stmt} {fs : List Stmt} {pos : Pos} {tb tf : TS}
def tFin0 (tb tf : TS) : TS := fun D σ H => tb { nx := fun σ1 H1 => tf D σ1 H1, rt := fun _ _ => False } σ H
theorem ps_fin0 (hb : PSs X.nox body tb) (hf : PSs X.nox (f₀ :: fs) tf) : PS X (.Try body [] [] (f₀ :: fs) pos) (tFin0 tb tf) := by
  refine ⟨fun pins s σ H D I h => wpAny_Try_finally (wpAny_mono (hb.run pins s σ H _ (I.wish _) h) (fun g s1 z => ?_) fun _ _ z => False.elim z)⟩
  match g, z with
  | .ret u, z => exact (z.elim fun _ z => z.elim fun _ z => z.elim fun _ z => z.2.2).elim
  | .brk, z => exact (z.elim fun _ z => z.elim fun _ z => z.2).elim
  | .cont, z => exact (z.elim fun _ z => z.elim fun _ z => z.2).elim
  | .next, z =>
    obtain ⟨σ1, H1, J1, q1⟩ := z
    refine wpAny_execs_nil (wpAny_mono (hf.run pins s1 σ1 H1 D (J1.unwish.wish _) q1) (fun g2 s2 q2 => ?_) fun _ _ e => False.elim e)
    have q3 : SP X pins D g2 s2 := q2.unwish
    cases g2 <;> exact q3
end
end Inf

set_option Elab.async false
set_option linter.all false
set_option maxRecDepth 100000
set_option maxHeartbeats 4000000
namespace Inf
open PySem PySem.Spec PyProof.Rows L2 NdefX LamX
/-- the tables of the code objects of the top's defs, as the written part and the head tell them -/
def TopTabs (q : Program) (K : PySem.W.Frag) (mg : Str → Option Value) (h : Heap) : Prop := ∀ (x : Str) (f c P : Addr) (o1 : Obj) (fd1 : FuncData) (e : Value) (dd : Option Addr) (vs1 : Array Value) (sl : Array (Option Value)),
  (recsOf q).any (fun d => d.name == x) = true → mg x = some (.ref f) → K.lookup f = some o1 → o1.data = .func fd1 → fd1.code = .ref c → K.lookup c = some ⟨e, dd, .fields vs1, sl⟩ → vs1[11]? = some (.ref P) →
    PySem.W.CodeHd h c P ∧ h.get? P = some { cls := .none, data := .fields #[] }
theorem walk_top {l : PySem.W.OpenLaw} {n k : Nat} {q : Program} {loose : List Str} {XP : (Str → Option Value) → Heap → Prop} {YP : World → Heap → Prop} {d : DefRec} {K : Params → PySem.W.Frag} {CX : World → CXT} {x : Str}
    (hn : l.most = some n) (hn2 : n ≤ sizeLine) (hdf : d.params.defaults = []) (hr : Room k callerA) (hY : ∀ (w : World) (h : Heap), YP w h → (K w.params).In h)
    (F : ∀ (w : World) (mg : Str → Option Value) (fa : Addr) (h : Heap), YP w h → (K w.params).In h → h.Ns mainGlobals mg → mg d.name = some (.ref fa) → TopTabs q (K w.params) mg h → LawAtS l w (K w.params) (CX w) k n x mg fa h)
    (hCX : ∀ (w : World) (H : Hp) (s : Shared) (e : Value) (s' : Shared), CX w [] H s (fun _ _ _ => False) e s' → False) :
    PySem.W.WalkO q loose XP YP l.row.toRowW d [] (fun f vs => PySem.call f vs) :=
  Att.attach_callB hn hdf fun w s₀ s₁ mg mb fa o pm cd doc a vs ns G Y ho hd hcd hmg hobj hints hlen hbits hg => by
    have KX := hY w _ Y
    have tabs : TopTabs q (K w.params) mg s₁.heap := fun x f c P o1 fd1 e dd vs1 sl hrec hx k1 k2 k3 k4 k5 => by
      obtain ⟨dL, hm, hn1⟩ := List.any_eq_true.mp hrec
      have hn2 : dL.name = x := beq_iff_eq.mp hn1
      obtain ⟨a', o', fd', c', P', h1, h2, h3, h4, h5, h6⟩ := G.T.tab dL hm
      rw [hn2, hx] at h1
      cases h1
      have g1 := KX _ _ k1
      rw [g1] at h2
      cases h2
      rw [k2] at h3
      cases h3
      rw [k3] at h4
      cases h4
      have hC := PySem.W.CodeHd.of h5 h6
      obtain ⟨⟨oc, vc, e1, _, e3, e4⟩, hP⟩ := h6
      have g2 := KX _ _ k4
      rw [g2] at e1
      cases e1
      cases e3
      rw [k5] at e4
      cases e4
      exact ⟨hC, hP⟩
    obtain ⟨fd, cs, sp, hT, nT, C, hb, hsp, hF⟩ := F w mg fa _ Y KX G.T.g hmg tabs
    exact law_callTs KX G.T.g G.T.b G.T.builtins G.T.nolimit hg hT nT C G.T.bmain hobj hints (Nat.le_trans hlen hn2) hr hF hb (fun H hH hS => hsp H a ns hlen hbits hH hS) fun H e s' => hCX w H s₁ e s'
end Inf

set_option Elab.async false
set_option linter.all false
set_option maxRecDepth 100000
set_option maxHeartbeats 4000000
namespace Inf
open PySem PySem.Spec PyProof.Rows L2 NdefX LamX
/-! ### promises of defs that are called where no repr is under way -/
structure FnOkG (P : Program) (w : World) (K : PySem.W.Frag) (mg : Str → Option Value) (base : Heap) (CX : CXT) (k : Nat) (f : Addr) (fd : FuncData) (ps : List Str) (sp : Sp) : Prop where
  len : ∀ vs H Q E, sp vs H Q E → vs.length = ps.length
  run : ∀ (A : Around) (outer : List Env) (s : Shared) (H : Hp) (args : Args) (us : List Value) (vs : List V) (Q : VK) (E : XK), A.guards = some [] → Room k A → Env0 P w K mg base A outer s H → BindsTo s fd args (ps.zip us) → Vals vs us → sp vs H Q E →
    codeAny (model P w) A (.call (.ref f) args) (CR CX outer P w H s Q E) s
theorem FnOkG.of {P : Program} {w : World} {K : PySem.W.Frag} {mg : Str → Option Value} {base : Heap} {CX : CXT} {k : Nat} {f : Addr} {fd : FuncData} {ps : List Str} {sp : Sp} (F : FnOk P w K mg base CX k f fd ps sp) : FnOkG P w K mg base CX k f fd ps sp :=
  ⟨F.len, fun A outer s H args us vs Q E _ => F.run A outer s H args us vs Q E⟩
section
variable {P : Program} {w : World} {K : PySem.W.Frag} {mg mb : Str → Option Value} {CX : CXT} {k : Nat} {fa a : Addr} {cs : List (Addr × Addr)} {fd : FuncData} {x : Str} {sp : Sp} {s₁ : Shared} {vs : List Value} {ns : List Int}
/-- the law's call, from such a promise -/
theorem call_lawG (KX : K.In s₁.heap) (hns : s₁.heap.Ns mainGlobals mg) (hb : s₁.heap.Ns builtinsNs mb) (hbb : ∀ x : Str, x ≠ "__name__" → mb x = bootBuiltins x) (hlim : s₁.heap.NoLimit) (hg : s₁.gens = #[])
    (hT : ∀ p ∈ cs, s₁.heap.get? p.2 = some { cls := .none, data := .fields #[] }) (nT : ∀ p ∈ cs, K.lookup p.2 = none) (C : ∀ p ∈ cs, PySem.W.CodeHd s₁.heap p.1 p.2)
    (hbm : ∃ (bm : Addr) (ob : Obj), mg "__builtins__" = some (.ref bm) ∧ bm ≠ builtinsNs ∧ s₁.heap.get? bm = some ob ∧ ob.cls = .type "module" ∧ ob.dict = some builtinsNs ∧ ob.data = .plain)
    (ha : s₁.heap.get? a = some { cls := .type "list", data := .seq vs.toArray }) (hi : IntsAre vs ns) (hl : ns.length ≤ sizeLine) (hr : Room k callerA)
    (F : ∀ base : Heap, K.In base → base.Ns mainGlobals mg → (∀ p ∈ cs, TabB base mg p.1 p.2) → FnOkG P w K mg base CX k fa fd [x] sp) (hbind : ∀ (s : Shared) (u : Value), BindsTo s fd ⟨[u], []⟩ [(x, u)])
    (hsp : ∀ H : Hp, (∀ p ∈ cs, H p.2 = some (.tbl #[])) → SqL K H a (ns.map V.int) → sp [.ref a] H (fun v _ => v = .bl true) fun _ _ _ => False)
    (hCX : ∀ H e s', CX [] H s₁ (fun _ _ _ => False) e s' → False) :
    codeAny (model P w) callerA (.call (.ref fa) ⟨[.ref a], []⟩) (fun r s' => r = .ok (.ret (.bool true)) ∧ OldK s₁.heap s'.heap ∧ s'.os = s₁.os ∧ AllBare s'.gens) s₁ := by
  have tabAt : ∀ b, b ∈ cs.map (·.2) → s₁.heap.get? b = some { cls := .none, data := .fields #[] } := fun b hb => (List.mem_map.mp hb).elim fun p hp => hp.2 ▸ hT p hp.1
  have tabK : ∀ b, b ∈ cs.map (·.2) → K.lookup b = none := fun b hb => (List.mem_map.mp hb).elim fun p hp => hp.2 ▸ nT p hp.1
  -- the abstract heap: the tables, and the script where the written part doesn't hold it
  let H : Hp := fun b => if b ∈ cs.map (·.2) then some (.tbl #[]) else if b = a ∧ K.lookup a = none then some (.frz { cls := .type "list", data := .seq vs.toArray } (.lst (ns.map V.int))) else none
  have aNot : a ∉ cs.map (·.2) := fun z => by
    have := tabAt a z
    rw [ha] at this
    cases this
  have Htab : ∀ b, b ∈ cs.map (·.2) → H b = some (.tbl #[]) := fun b hb => if_pos hb
  have Hcase : ∀ b u, H b = some u → (b ∈ cs.map (·.2) ∧ u = .tbl #[]) ∨ (b = a ∧ K.lookup a = none ∧ u = .frz { cls := .type "list", data := .seq vs.toArray } (.lst (ns.map V.int))) := fun b u e => by
    by_cases h1 : b ∈ cs.map (·.2)
    · exact .inl ⟨h1, Option.some.inj (e.symm.trans (Htab b h1))⟩
    · by_cases h2 : b = a ∧ K.lookup a = none
      · exact .inr ⟨h2.1, h2.2, Option.some.inj (e.symm.trans ((if_neg h1).trans (if_pos h2)))⟩
      · exact absurd (e.symm.trans ((if_neg h1).trans (if_neg h2))) (fun z => nomatch z)
  have other : ∀ b o, s₁.heap.get? b = some o → (∀ its n, o.data ≠ .seq its n) → o.data ≠ .fields #[] → H b = none := fun b o e n1 n2 => by
    match q : H b with
    | none => rfl
    | some u =>
      rcases Hcase b u q with ⟨z, _⟩ | ⟨z, _, _⟩
      · rw [tabAt b z] at e
        exact absurd (by cases e; rfl) n2
      · rw [z, ha] at e
        exact absurd (by cases e; rfl) (n1 vs.toArray 0)
  have hok : HOk P w H s₁.heap := fun b u e => by
    rcases Hcase b u e with ⟨z, rfl⟩ | ⟨rfl, _, rfl⟩
    · exact tabAt b z
    · exact ⟨ha, by rw [List.length_map]; exact hl, vs, _, vals_ints hi, ha⟩
  have hS : SqL K H a (ns.map V.int) := by
    match hk : K.lookup a with
    | none => exact .inl (.inr ⟨_, (if_neg aNot).trans (if_pos ⟨rfl, hk⟩)⟩)
    | some o =>
      have e := KX a o hk
      rw [ha] at e
      cases e
      have lenV := hi.length
      exact .inr ⟨_, vs.toArray, _, hk, rfl, rfl, rfl, by rw [List.size_toArray, lenV]; exact hl, by simpa using vals_ints hi⟩
  have low : ∀ b o, s₁.heap.get? b = some o → H b = none → (hidT s₁.heap H).get? b = some o := fun b o e n => hidT_get e n
  have lowNs : ∀ {b : Addr} {m : Str → Option Value}, s₁.heap.Ns b m → (hidT s₁.heap H).Ns b m := fun {b m} h => by
    obtain ⟨o, es, ep, e, d, r⟩ := h
    exact ⟨o, es, ep, low b o e (other b o e (fun its n z => by rw [d] at z; cases z) fun z => by rw [d] at z; cases z), d, r⟩
  have lowK : K.In (hidT s₁.heap H) := fun b o e => low b o (KX b o e) (by
    match q : H b with
    | none => rfl
    | some u =>
      rcases Hcase b u q with ⟨z, _⟩ | ⟨rfl, z, _⟩
      · rw [tabK b z] at e
        cases e
      · rw [z] at e
        cases e)
  have notG : ∀ b o, s₁.heap.get? b = some o → (∀ es ep, o.data ≠ .dict es ep) → b ≠ mainGlobals := fun b o e n z => by
    obtain ⟨o', es, ep, e', d, _⟩ := hns
    rw [z, e'] at e
    cases e
    exact n es ep d
  have lowT : ∀ p ∈ cs, TabB (hidT s₁.heap H) mg p.1 p.2 := fun p hp => by
    refine ⟨?_, ?_, Ne.symm (notG p.2 _ (hT p hp) (fun es ep z => nomatch z))⟩
    · obtain ⟨o, us, file, tf, flags, tg, inF, text, tt, e1, r1, r2, r3, rest⟩ := C p hp
      refine ⟨o, us, file, tf, flags, tg, inF, text, tt, low _ o e1 (other _ o e1 (fun its n z => by rw [r2] at z; cases z) fun z => ?_), r1, r2, r3, rest⟩
      rw [r2] at z
      cases z
      simp at r3
    · obtain ⟨bm, ob, b1, b2, b3, b4, b5, b6⟩ := hbm
      refine ⟨bm, ob, b1, b2, notG bm ob b3 (fun es ep z => by rw [b6] at z; cases z), fun z => ?_, low bm ob b3 (other bm ob b3 (fun its n z => by rw [b6] at z; cases z) fun z => by rw [b6] at z; cases z), b4, b5, b6⟩
      rw [z, hT p hp] at b3
      cases b3
      cases b6
  have lowM : L2.Mod K mg (hidT s₁.heap H) := ⟨lowK, lowNs hns, ⟨mb, lowNs hb, hbb⟩, hlim.elim fun mc h => ⟨mc, lowNs h.1, h.2⟩⟩
  have e0 : Env0 P w K mg (hidT s₁.heap H) callerA [] s₁ H := ⟨rfl, lowM, fun b o e => of_hidT e, Nat.le_of_eq (hidT_size _ _), trivial, fun b hb => absurd (show b ∈ ([] : List Addr) from hb) (List.not_mem_nil), hok, .of_eq hg⟩
  refine codeAny_mono ((F _ lowK (lowNs hns) lowT).run callerA [] s₁ H ⟨[.ref a], []⟩ [.ref a] [.ref a] _ _ rfl hr e0 (hbind s₁ (.ref a)) (.cons rfl .nil) (hsp H (fun p hp => Htab _ (List.mem_map.mpr ⟨p, hp, rfl⟩)) hS)) fun r s' h => ?_
  match r, h with
  | .error e, h => exact (hCX H e s' h).elim
  | .ok .next, h => exact False.elim h
  | .ok .brk, h => exact False.elim h
  | .ok .cont, h => exact False.elim h
  | .ok (.ret u), h =>
    obtain ⟨v, H', os, bare, un, hok', r', q⟩ := h
    have q2 : v = .bl true := q
    subst q2
    obtain rfl : u = Value.bool true := r'
    have stays : ∀ b o, b ∉ cs.map (·.2) → s₁.heap.get? b = some o → s'.heap.get? b = some o := fun b o nb e => by
      match z : H b with
      | none => exact un.keep b o e z (fun z => nomatch z) (fun z => nomatch z)
      | some u =>
        rcases Hcase b u z with ⟨y, _⟩ | ⟨rfl, _, rfl⟩
        · exact absurd y nb
        · obtain ⟨e1, _⟩ := hok' b _ (un.frzs b _ _ z)
          rw [ha] at e
          cases e
          exact e1
    have tabs : ∀ p ∈ cs, ∃ more : Array Value, s'.heap.get? p.2 = some { cls := .none, data := .fields more } := fun p hp =>
      (un.tbls p.2 #[] (Htab _ (List.mem_map.mpr ⟨p, hp, rfl⟩))).elim fun more z => ⟨_, hok' p.2 _ z⟩
    refine ⟨rfl, ⟨fun b o e => ?_, fun b o e => ?_⟩, os, bare⟩
    · by_cases nb : b ∈ cs.map (·.2)
      · obtain ⟨p, hp, rfl⟩ := List.mem_map.mp nb
        rw [hT p hp] at e
        cases e
        exact (tabs p hp).elim fun more hm => .inr (.inl ⟨((C p hp).tab (hT p hp)).isCodeTable, rfl, #[], more, rfl, hm.trans (by rw [Array.empty_append])⟩)
      · exact .inl (stays b o nb e)
    · by_cases nb : b ∈ cs.map (·.2)
      · obtain ⟨p, hp, rfl⟩ := List.mem_map.mp nb
        exact (tabs p hp).elim fun more hm => ⟨_, hm⟩
      · exact ⟨o, stays b o nb e⟩
end
/-- what is known of the law's promise at the head's heap, where no repr is under way -/
def LawAtG (l : PySem.W.OpenLaw) (w : World) (K : PySem.W.Frag) (CX : CXT) (k n : Nat) (x : Str) (mg : Str → Option Value) (fa : Addr) (h : Heap) : Prop :=
  ∃ (fd : FuncData) (cs : List (Addr × Addr)) (sp : Sp), (∀ p ∈ cs, h.get? p.2 = some { cls := .none, data := .fields #[] }) ∧ (∀ p ∈ cs, K.lookup p.2 = none) ∧ (∀ p ∈ cs, PySem.W.CodeHd h p.1 p.2) ∧ (∀ (s : Shared) (u : Value), BindsTo s fd ⟨[u], []⟩ [(x, u)]) ∧
    (∀ (H : Hp) (a : Addr) (ns : List Int), ns.length ≤ n → (∀ p ∈ cs, H p.2 = some (.tbl #[])) → SqL K H a (ns.map V.int) → sp [.ref a] H (fun v _ => v = .bl true) fun _ _ _ => False) ∧
    ∀ base : Heap, K.In base → base.Ns mainGlobals mg → (∀ p ∈ cs, TabB base mg p.1 p.2) → FnOkG l.prog w K mg base CX k fa fd [x] sp
theorem walk_topG {l : PySem.W.OpenLaw} {n k : Nat} {q : Program} {loose : List Str} {XP : (Str → Option Value) → Heap → Prop} {YP : World → Heap → Prop} {d : DefRec} {K : Params → PySem.W.Frag} {CX : World → CXT} {x : Str}
    (hn : l.most = some n) (hn2 : n ≤ sizeLine) (hdf : d.params.defaults = []) (hr : Room k callerA) (hY : ∀ (w : World) (h : Heap), YP w h → (K w.params).In h)
    (F : ∀ (w : World) (mg : Str → Option Value) (fa : Addr) (h : Heap), YP w h → (K w.params).In h → h.Ns mainGlobals mg → mg d.name = some (.ref fa) → TopTabs q (K w.params) mg h → LawAtG l w (K w.params) (CX w) k n x mg fa h)
    (hCX : ∀ (w : World) (H : Hp) (s : Shared) (e : Value) (s' : Shared), CX w [] H s (fun _ _ _ => False) e s' → False) :
    PySem.W.WalkO q loose XP YP l.row.toRowW d [] (fun f vs => PySem.call f vs) :=
  Att.attach_callB hn hdf fun w s₀ s₁ mg mb fa o pm cd doc a vs ns G Y ho hd hcd hmg hobj hints hlen hbits hg => by
    have KX := hY w _ Y
    have tabs : TopTabs q (K w.params) mg s₁.heap := fun x f c P o1 fd1 e dd vs1 sl hrec hx k1 k2 k3 k4 k5 => by
      obtain ⟨dL, hm, hn1⟩ := List.any_eq_true.mp hrec
      have hn2 : dL.name = x := beq_iff_eq.mp hn1
      obtain ⟨a', o', fd', c', P', h1, h2, h3, h4, h5, h6⟩ := G.T.tab dL hm
      rw [hn2, hx] at h1
      cases h1
      have g1 := KX _ _ k1
      rw [g1] at h2
      cases h2
      rw [k2] at h3
      cases h3
      rw [k3] at h4
      cases h4
      have hC := PySem.W.CodeHd.of h5 h6
      obtain ⟨⟨oc, vc, e1, _, e3, e4⟩, hP⟩ := h6
      have g2 := KX _ _ k4
      rw [g2] at e1
      cases e1
      cases e3
      rw [k5] at e4
      cases e4
      exact ⟨hC, hP⟩
    obtain ⟨fd, cs, sp, hT, nT, C, hb, hsp, hF⟩ := F w mg fa _ Y KX G.T.g hmg tabs
    exact call_lawG KX G.T.g G.T.b G.T.builtins G.T.nolimit hg hT nT C G.T.bmain hobj hints (Nat.le_trans hlen hn2) hr hF hb (fun H hH hS => hsp H a ns hlen hH hS) fun H e s' => hCX w H s₁ e s'
/-! ### bodies and calls of such defs -/
theorem okG {P : Program} {w : World} {K : PySem.W.Frag} {mg : Str → Option Value} {base : Heap} {x qual : Str} {st : Stmt} {f : Addr} {fd : FuncData} {N ps : List Str} {k : Nat} {sp : Sp} (F : L2.Fun K x qual st f fd) (S : FnScope N ps (defScope st)) (len : ∀ vs H Q E, sp vs H Q E → vs.length = ps.length)
    (hbody : ∀ (cdv : Value) (A : Around) (outer : List Env) (s : Shared) (H : Hp) (vs : List V) (Q : VK) (E : XK), (A.deeper (envOfC qual (defScope st) s.heap.objs.size f cdv)).guards = some [] → Room k (A.deeper (envOfC qual (defScope st) s.heap.objs.size f cdv)) → sp vs H Q E →
      ∃ t, PSs (cxOf CX0 P w K mg base N qual (defScope st) f cdv A outer s H E).nox (defBody st) t ∧ t { nx := fun _ H' => Q .non H', rt := Q } (start N vs) H) : FnOkG P w K mg base CX0 (k + 1) f fd ps sp := by
  obtain ⟨oc, od, kV, doc, pm, an, cdv, ct, osl, rfl, lk, hcd⟩ := F.ex
  refine ⟨len, fun A outer s H args us vs Q E hga hr e0 hb r hsp => ?_⟩
  have KX : K.In s.heap := e0.mod.kin.keeps fun b o e => (e0.bs b o e).1
  have lim : s.heap.NoLimit := e0.mod.nolimit.keeps fun b o e => (e0.bs b o e).1
  have hl := len _ _ _ _ hsp
  have hkind : ∀ y ∈ ps.zip us, (defScope st).names.lookup y.1 = some .local ∨ ((defScope st).names.lookup y.1 = some .cell ∧ ((cellsFrom (s.heap.objs.size + 1) (defScope st).names []).lookup y.1).isSome = true) := fun ⟨n, v⟩ hy =>
    (S.par n (List.of_mem_zip hy).1).elim .inl fun q => .inr ⟨q, PySem.W.cellsFrom_some _ _ _ (.inl q)⟩
  refine codeAny_call_function hr.depth (KX _ _ lk) rfl S.co S.gen rfl (PySem.W.codeRec_of KX hcd) (hb _ _ _ _ (wpAny_newFunctionEnv_cells S.kind hkind fun env he s1 xx => ?_))
  subst he
  obtain ⟨t, ht, hq⟩ := hbody cdv A outer s H vs Q E hga (hr.deeper _) hsp
  have I : Inv (cxOf CX0 P w K mg base N qual (defScope st) f cdv A outer s H E) [] (start N vs) H s1 := inv_start S hr.hd e0 hl r xx
  refine ⟨lim.keeps xx.toInCall.keep, codeAny_func (wpAny_mono (ht.run [] s1 (start N vs) H _ (I.wish _) hq) (fun fl s' hs => ?_) fun e s' hs => False.elim hs)⟩
  have fin : ∀ {σ' : L2.St} {H' : Hp} {v : V} {u : Value}, Inv (cxOf CX0 P w K mg base N qual (defScope st) f cdv A outer s H E).nox [] σ' H' s' → L2.RelV v u → Q v H' → CE outer P w H s Q u s' :=
    fun {σ' H' v u} J rv q => ⟨v, H', J.os, J.bare, J.base, J.hok, rv, q⟩
  match fl, hs with
  | .ret u, hs => exact hs.elim fun v z => z.elim fun σ' z => z.elim fun H' z => fin z.1 z.2.1 z.2.2
  | .next, hs => exact hs.elim fun σ' z => z.elim fun H' z => fin (v := V.non) (u := Value.none) z.1 rfl z.2
  | .brk, hs => exact hs.elim fun _ z => z.elim fun _ z => False.elim z.2
  | .cont, hs => exact hs.elim fun _ z => z.elim fun _ z => False.elim z.2
section
variable {X : Cx} {CX : CXT} {k : Nat} {f : Addr} {fd : FuncData} {ps : List Str} {sp : Sp} {E : XK} {x : Str} {p pos : Pos} {e : Expr} {es : List Expr} {t : TA}
/-- f(e, ..), f such a def -/
theorem pe_callG (F : FnOkG X.prog X.w X.K X.mg X.base CX k f fd ps sp) (hG : X.A.guards = some []) (hr : Room k X.A) (hg : Gl X x) (hm : X.mg x = some (.ref f)) (hk : PySem.W.keepIn X.K (.ref f) = true) (hb : L2.Binds X.K fd ps []) (hx : Passes CX X E)
    (ha : PA X (e :: es) t) (hdb : (x == ("__debug__" : Str)) = false := by decide) (he : starEach (e :: es) X.env = (false, eval e X.env) :: starEach es X.env := by rfl) (hpl : (backTo pos (starEach es X.env)).any (·.1) = false := by rfl) :
    PE X (.Call (.Name x p) (e :: es) [] pos) (fun σ H Q => t σ H fun vs H1 => sp vs H1 Q E) := by
  refine ⟨fun pins s σ H Q I h => wpAny_Call_Name_kw (ld_glob I hg hm (PySem.W.callWith_K (h₀ := X.base) I.ok.mod.kin hk (thn (ha.run pos pins s σ H _ I h) fun us s1 ⟨vs, H1, I1, r, q⟩ => ⟨I1.kIn, ?_⟩) he hpl) hdb)⟩
  have hl : us.length = ps.length := r.length.symm.trans (F.len _ _ _ _ q)
  have hb2 : BindsTo s1 fd ⟨us, []⟩ (ps.zip us) := by
    have := hb s1 us I1.kIn (by rw [List.append_nil]; exact hl)
    rwa [List.append_nil] at this
  refine wpAny_call (codeAny_mono (F.run X.A X.stack s1 H1 ⟨us, []⟩ us vs Q E hG hr I1.env0 hb2 r q) fun res s' hq => ?_)
  match res, hq with
  | .error er, hq => exact hx pins σ H1 s1 er s' I1 hq
  | .ok (.ret u), hq => exact I1.after hq
  | .ok .next, hq => exact False.elim hq
  | .ok .brk, hq => exact False.elim hq
  | .ok .cont, hq => exact False.elim hq
/-- repr of data: what PyData.shown says -/
theorem call_reprD (hG : X.A.guards = some []) (hu : X.A.units + 64 + 16 < cLine) : CallR X (.builtin "repr") (fun xs H Q => ∃ (v : V) (d : PyData), xs = [v] ∧ Dp X.K H v d ∧ d.showable = true ∧ d.hasDict = false ∧ d.depth ≤ 64 ∧ d.shown.length ≤ sizeLine ∧ (∀ i, v = .int i → i.natAbs.log2 < 1920) ∧ Q (.str d.shown) H) := by
  intro pins s σ H xs us Q I r h
  obtain ⟨v, d, rfl, hd, hs, hnd, hdp, hsz, hi, q⟩ := h
  obtain ⟨u, rfl, ru⟩ := vals1 r
  have txt : ∀ tk, ∃ (y : V) (H1 : Hp), Inv X pins σ H1 { s with toks := tk } ∧ L2.RelV y (.str d.shown s.toks) ∧ Q y H1 := fun tk => ⟨.str d.shown, H, I.kept (t' := tk) fun _ _ z => z, ⟨_, rfl⟩, q⟩
  have obj : ∀ (a : Addr), u = .ref a → wpAny (model X.prog X.w) X.A (call (.builtin "repr") [u]) (EP X pins σ Q) X.xe s := fun a e => by
    subst e
    obtain ⟨as, rd⟩ := Dp.reads I _ _ _ hd ru
    exact repr_of_reads' rd hs (fun z => by rw [hnd] at z; cases z) hG (by omega) (fun _ _ z => z) (fun h' u tk hk => ⟨.str d.shown, H, I.kept (h' := h') (t' := tk) hk, ⟨_, rfl⟩, q⟩) hsz
  cases hd with
  | non =>
    obtain rfl : u = Value.none := ru
    exact P.repr_of_none (txt _)
  | bl b =>
    obtain rfl : u = Value.bool b := ru
    exact P.repr_of_bool (by cases b <;> exact txt _)
  | int i =>
    obtain ⟨t, rfl⟩ := ru
    exact P.repr_of_int (hi i rfl) (txt _)
  | str y =>
    obtain ⟨t, rfl⟩ := ru
    exact P.repr_of_str (txt _) hsz
  | lst h1 h2 => exact obj _ ru
  | tup h1 h2 => exact obj _ ru
end
end Inf

set_option Elab.async false
set_option linter.all false
set_option maxRecDepth 100000
set_option maxHeartbeats 4000000
namespace Inf
open PySem PySem.Spec PyProof.Rows L2 NdefX LamX
/-! ### a lambda as a value: a function that stands where it was made -/
/-- its words, the cells that it captured, its code object -/
structure LF where
  qual : Str
  params : Arguments
  body : Expr
  scope : Scope
  cl : List (Str × Addr)
  c : Addr
def LamO (f : Addr) (F : LF) : HO := .ext fun h => ∃ (pm ctv : Value), h.get? f = some (PySem.W.kla_obj "<lambda>" F.qual F.params F.body F.scope F.cl pm F.c ctv)
theorem lamO_at {P : Program} {w : World} {H : Hp} {h : Heap} {f : Addr} {F : LF} (hok : HOk P w H h) (e : H f = some (LamO f F)) : ∃ (pm ctv : Value), h.get? f = some (PySem.W.kla_obj "<lambda>" F.qual F.params F.body F.scope F.cl pm F.c ctv) := by
  obtain ⟨z, _, _⟩ := hok f _ e
  exact z
theorem lamO_ok {P : Program} {w : World} {H : Hp} {h : Heap} {f : Addr} {F : LF} (e : ∃ (pm ctv : Value), h.get? f = some (PySem.W.kla_obj "<lambda>" F.qual F.params F.body F.scope F.cl pm F.c ctv)) : ObjOk P w H h f (LamO f F) := by
  refine ⟨e, ?_, fun h1 h2 ⟨pm, ctv, z⟩ k => ⟨pm, ctv, k _ z⟩⟩
  obtain ⟨pm, ctv, z⟩ := e
  exact ⟨_, z⟩
theorem lamHO {f : Addr} {F : LF} : FnHO f (LamO f F) := fun P w H h hok e => by
  obtain ⟨pm, ctv, z⟩ := lamO_at hok e
  exact ⟨_, _, _, _, z⟩
section
variable {X : Cx} {pins : List (Addr × Obj)} {σ : L2.St} {H : Hp} {s : Shared}
/-- the lambda is made and told where it stands; its code object is new, or found in the table -/
theorem lam_told {T : List (Addr × Str)} {c P : Addr} {params : Arguments} {body : Expr} {scope : Scope} {pos : Pos} {E : Value → Shared → Prop} {Q : Value → Shared → Prop} (I : Inv X pins σ H s) (TB : TabB X.base X.mg c P) (hcode : X.env.code = .ref c)
    (hm : (P, X.env.qual ++ "<lambda>") ∈ T) (hu : ∀ p ∈ T, p.1 = P → p.2 = X.env.qual ++ "<lambda>") (hT : Tabs T H) (hdef : defaultsOf params X.env = ([], [])) (hfree : ∀ y ∈ scope.names, y.2 = .free → ∃ c, X.env.cells.lookup y.1 = some c)
    (h : ∀ (f c' : Addr) (H1 : Hp) (s' : Shared), Inv X pins σ (upd H1 f (LamO f ⟨X.env.qual ++ "<lambda>", params, body, scope, cloFrom X.env.cells scope.names [], c'⟩)) s' → (∀ b o, H b = some o → b ≠ P → H1 b = some o) → (∀ b, H1 b = none → H b = none) → Tabs T H1 → H1 f = none → H1 c' = some (CodeO c' (X.env.qual ++ "<lambda>")) → Q (.ref f) s') :
    wpAny (model X.prog X.w) X.A (eval (.Lambda params body scope pos) X.env) Q E s := by
  obtain ⟨ps, tP, tO, tA⟩ := hT _ hm
  have bP := TB.bm.keeps (h' := s.heap) I.bk
  have gP : s.heap.get? P = some { cls := .none, data := .fields ps } := I.hok P _ tP
  refine PySem.W.kla_eval hdef ?_
  cases cd : codeAmong pos ps.toList with
  | none =>
    refine PySem.W.kla_makeFunction (mg := X.mg) (c := c) (P := P) (ps := ps) (closure_ok hfree) I.ok.glob (I.mod.glob.keeps I.bk) hcode (TB.code.keeps I.bk) gP tO cd TB.gP bP fun c' ctv h' tk hx hge hlt hrec htb => ?_
    obtain ⟨c2, oc, vs, t, e2, hoc, hd, hv⟩ := hrec
    cases e2
    have nC : H c' = none := I.hok.fresh hge
    have I0 := inv_table (q := X.env.qual ++ "<lambda>") (t' := tk) (more := #[rawInt pos.line, rawInt pos.col, .ref c']) (h' := h') I tP hx htb hge ⟨oc, vs, t, hoc, hd, hv⟩
    have I1 := I0.laid (a := h'.objs.size) (o := LamO h'.objs.size ⟨X.env.qual ++ "<lambda>", params, body, scope, cloFrom X.env.cells scope.names [], c'⟩) (h' := h'.push (PySem.W.kla_obj "<lambda>" (X.env.qual ++ "<lambda>") params body scope (cloFrom X.env.cells scope.names []) ((X.mg "__name__").getD .none) c' ctv)) (t' := tk)
      (fun b u z => Heap.get?_push_of_some _ z) (Nat.le_refl _) (lamO_ok ⟨_, _, Heap.get?_push_size _ rfl⟩)
    have stays : ∀ b o, H b = some o → b ≠ P → (upd (upd H P (.tbl (ps ++ #[rawInt pos.line, rawInt pos.col, .ref c']))) c' (CodeO c' (X.env.qual ++ "<lambda>"))) b = some o := fun b o e n => by
      rw [upd_ne (ne_of_none e nC), upd_ne n]
      exact e
    have neP : ∀ {b : Addr} {c2 : Addr} {q : Str}, H b = some (CodeO c2 q) → b ≠ P := fun e z => by
      rw [z, tP] at e
      exact codeO_ne _ (Option.some.inj e).symm
    refine h _ c' _ _ I1 stays (fun b z => ?_) (fun p hp => ?_) (I0.hok.fresh (Nat.le_refl _)) upd_same
    · by_cases b1 : b = c'
      · rw [b1]
        exact nC
      · rw [upd_ne b1] at z
        by_cases b2 : b = P
        · rw [b2, upd_same] at z
          cases z
        · rw [upd_ne b2] at z
          exact z
    · obtain ⟨qs, a1, a2, a3⟩ := hT p hp
      by_cases hb : p.1 = P
      · have eL : (ps ++ #[rawInt pos.line, rawInt pos.col, .ref c']).toList = ps.toList ++ [rawInt pos.line, rawInt pos.col, .ref c'] := by simp
        refine ⟨_, by rw [hb, upd_ne (ne_of_none tP nC), upd_same], ?_, fun p' cv y => ?_⟩
        · rw [eL]
          exact PySem.TriplesOk_snoc _ _ _ _ tO
        · rw [eL] at y
          rw [hu p hp hb]
          rcases among_app _ tO y with z | z
          · obtain ⟨c0, k1, k2⟩ := tA p' cv z
            exact ⟨c0, k1, stays _ _ k2 (neP k2)⟩
          · exact ⟨c', z, upd_same⟩
      · refine ⟨qs, ?_, a2, fun p' cv y => ?_⟩
        · rw [upd_ne (ne_of_none a1 nC), upd_ne hb]
          exact a1
        · obtain ⟨c0, k1, k2⟩ := a3 p' cv y
          exact ⟨c0, k1, stays _ _ k2 (neP k2)⟩
  | some cv =>
    obtain ⟨c', e, hco⟩ := tA pos cv cd
    subst e
    refine PySem.W.kla_makeFunctionHit (mg := X.mg) (c := c) (P := P) (ps := ps) (closure_ok hfree) I.ok.glob (I.mod.glob.keeps I.bk) hcode (TB.code.keeps I.bk) gP tO cd bP fun ctv h' tk hx hsz => ?_
    have I0 : Inv X pins σ H { s with heap := h', toks := tk } := I.kept hx
    have I1 := I0.laid (a := h'.objs.size) (o := LamO h'.objs.size ⟨X.env.qual ++ "<lambda>", params, body, scope, cloFrom X.env.cells scope.names [], c'⟩) (h' := h'.push (PySem.W.kla_obj "<lambda>" (X.env.qual ++ "<lambda>") params body scope (cloFrom X.env.cells scope.names []) ((X.mg "__name__").getD .none) c' ctv)) (t' := tk)
      (fun b u z => Heap.get?_push_of_some _ z) (Nat.le_refl _) (lamO_ok ⟨_, _, Heap.get?_push_size _ rfl⟩)
    exact h _ c' H _ I1 (fun _ _ e _ => e) (fun _ z => z) hT (I0.hok.fresh (Nat.le_refl _)) hco
end
def tLamO (T : List (Addr × Str)) (P : Addr) (F : Addr → LF) : TE := fun σ H Q => Tabs T H ∧ ∀ (f c' : Addr) (H1 : Hp), (∀ b o, H b = some o → b ≠ P → H1 b = some o) → (∀ b, H1 b = none → H b = none) → Tabs T H1 → H1 f = none → H1 c' = some (CodeO c' (F c').qual) → Q (.ref f) (upd H1 f (LamO f (F c')))
theorem pe_lamO {X : Cx} {T : List (Addr × Str)} {c P : Addr} {params : Arguments} {body : Expr} {scope : Scope} {pos : Pos} (TB : TabB X.base X.mg c P) (hcode : X.env.code = .ref c) (hm : (P, X.env.qual ++ "<lambda>") ∈ T) (hu : ∀ p ∈ T, p.1 = P → p.2 = X.env.qual ++ "<lambda>")
    (hdef : defaultsOf params X.env = ([], [])) (hfree : ∀ y ∈ scope.names, y.2 = .free → X.env.scope.names.lookup y.1 = some .cell ∨ X.env.scope.names.lookup y.1 = some .free) :
    PE X (.Lambda params body scope pos) (tLamO T P fun c' => ⟨X.env.qual ++ "<lambda>", params, body, scope, cloFrom X.env.cells scope.names [], c'⟩) := by
  refine ⟨fun pins s σ H Q I h => ?_⟩
  obtain ⟨hT, q⟩ := h
  exact lam_told I TB hcode hm hu hT hdef (fun y hy e => (hfree y hy e).elim (fun z => I.ok.has _ (.inl z)) fun z => I.ok.has _ (.inr z)) fun f c' H1 s' I1 e1 n1 t1 nf hc => ⟨.ref f, _, I1, rfl, q f c' H1 e1 n1 t1 nf hc⟩
end Inf

set_option Elab.async false
set_option linter.all false
set_option maxRecDepth 100000
set_option maxHeartbeats 4000000
namespace Inf
open PySem PySem.Spec PyProof.Rows L2 NdefX LamX
/-- its words as those of a function: for the frame alone -/
def LF.nf (F : LF) : NF := ⟨"<lambda>", F.qual, F.params, [], F.scope, F.cl, F.c⟩
section
variable {P : Program} {w : World} {K : PySem.W.Frag} {mg : Str → Option Value} {base : Heap} {k : Nat} {f : Addr} {F : LF} {N ps : List Str} {sp : Sp}
/-- a lambda that captures nothing, called from anywhere -/
theorem lam_fnR (S : NScope N ps [] F.scope) (hcl : F.cl = []) (hb : ∀ (pm ctv : Value) (us : List Value), us.length = ps.length → bindArgs (PySem.W.kla_fn "<lambda>" F.qual F.params F.body F.scope F.cl pm (.ref F.c) ctv) ⟨us, []⟩ = pure (ps.zip us))
    (len : ∀ vs H Q E, sp vs H Q E → vs.length = ps.length)
    (hbody : ∀ (A : Around) (outer : List Env) (s : Shared) (H : Hp) (vs : List V) (Q : VK) (E : XK), Room k (A.deeper (envF F.nf f s.heap.objs.size)) → sp vs H Q E → ∃ te, PE (ncx CX0 P w K mg base N F.nf f A outer s H E) F.body te ∧ te (startF N vs []) H Q) :
    FnR P w K mg base CX0 (k + 1) f (fun vs H Q E => H f = some (LamO f F) ∧ H F.c = some (CodeO F.c F.qual) ∧ sp vs H Q E) := by
  intro A outer s H us vs Q E hr e0 r hsp
  obtain ⟨hf, hc, hsp⟩ := hsp
  have hl := len _ _ _ _ hsp
  have lim : s.heap.NoLimit := e0.mod.nolimit.keeps fun b o e => (e0.bs b o e).1
  obtain ⟨pm, ctv, ho⟩ := lamO_at e0.hok hf
  have C : CellsAt F.nf.cl [] [] s.heap H := by
    show CellsAt F.cl [] [] s.heap H
    rw [hcl]
    exact ⟨rfl, (fun y c e => nomatch e), (fun x y c e => nomatch e), (fun i y e => nomatch e)⟩
  refine PySem.W.kla_callFunE hr.depth ho rfl S.co S.gen rfl (codeO_at e0.hok hc) ?_
  rw [hb pm ctv us (by rw [← r.length]; exact hl)]
  refine wpAny_pure (wpAny_newFunctionEnv S.nocell (fun ⟨n, _⟩ hy => S.par n (List.of_mem_zip hy).1) (fun h₁ hns hsb => ⟨lim.fresh _ hsb, ?_⟩) S.kind)
  obtain ⟨te, ht, hq⟩ := hbody A outer s H vs Q E (hr.deeper _) hsp
  have kp : ∀ b o, s.heap.get? b = some o → h₁.get? b = some o := fun b o e => hsb.extBut b o (Nat.ne_of_lt (Heap.lt_size e)) (Heap.get?_push_of_some _ e)
  have I := inv_startN (CX := CX0) (P := P) (w := w) (K := K) (mg := mg) (base := base) (F := F.nf) (f := f) (A := A) (outer := outer) (E := E) (tk := s.toks + (ps.zip us).length) S hr.hd e0 hl r C hns kp
  refine PySem.W.kla_codeExpr (wpAny_mono (ht.run [] _ (startF N vs []) H Q I hq) (fun u s' hs => ?_) fun e s' hs => hs)
  obtain ⟨v, H', J, rv, q⟩ := hs
  exact ⟨v, H', J.os, J.bare, J.base, J.hok, rv, q⟩
end
end Inf

set_option Elab.async false
set_option linter.all false
set_option maxRecDepth 100000
set_option maxHeartbeats 4000000
namespace Inf
open PySem PySem.Spec PyProof.Rows L2 NdefX LamX
/-- a def that returns things that hold its names, by what K knows of it -/
theorem okC_of {P : Program} {w : World} {K : PySem.W.Frag} {mg : Str → Option Value} {base : Heap} {x qual : Str} {st : Stmt} {f : Addr} {N ps : List Str} {k : Nat} {sp : Sp} {oc : Value} {od : Option Addr} {kV doc pm cdv ct : Value} {an : Option Addr} {osl : Array (Option Value)}
    (lk : K.lookup f = some ⟨oc, od, .func (PySem.W.fnOf x qual (defArgs st) (defBody st) (defScope st) .none kV doc pm an cdv ct), osl⟩) (hcd : PySem.W.codeIn K cdv qual = true) (S : FnScope N ps (defScope st)) (len : ∀ vs H Q E, sp vs H Q E → vs.length = ps.length)
    (hbody : ∀ (A : Around) (outer : List Env) (s : Shared) (H : Hp) (vs : List V) (Q : VK) (E : XK), Room k (A.deeper (envOfC qual (defScope st) s.heap.objs.size f cdv)) → sp vs H Q E →
      ∃ t, PSsR (cxOf CX0 P w K mg base N qual (defScope st) f cdv A outer s H E).nox (defBody st) t ∧
        t (fun σ v H' => ∀ H'', Fin (envOfC qual (defScope st) s.heap.objs.size f cdv).cells (defScope st).names N σ H' H'' → Q v H'') (start N vs) H) :
    FnOk P w K mg base CX0 (k + 1) f (PySem.W.fnOf x qual (defArgs st) (defBody st) (defScope st) .none kV doc pm an cdv ct) ps sp := by
  refine ⟨len, fun A outer s H args us vs Q E hr e0 hb r hsp => ?_⟩
  have hl := len _ _ _ _ hsp
  have KX : K.In s.heap := e0.mod.kin.keeps fun b o e => (e0.bs b o e).1
  have lim : s.heap.NoLimit := e0.mod.nolimit.keeps fun b o e => (e0.bs b o e).1
  have hkind : ∀ y ∈ ps.zip us, (defScope st).names.lookup y.1 = some .local ∨ ((defScope st).names.lookup y.1 = some .cell ∧ ((cellsFrom (s.heap.objs.size + 1) (defScope st).names []).lookup y.1).isSome = true) := fun ⟨n, v⟩ hy => by
    rcases S.par n (List.of_mem_zip hy).1 with q | q
    · exact .inl q
    · exact .inr ⟨q, PySem.W.cellsFrom_some _ _ _ (.inl q)⟩
  refine codeAny_call_function hr.depth (KX _ _ lk) rfl S.co S.gen rfl (PySem.W.codeRec_of KX hcd) (hb _ _ _ _ ?_)
  refine wpAny_newFunctionEnv_cells S.kind hkind fun env he s1 xx => ?_
  subst he
  refine ⟨lim.keeps xx.toInCall.keep, codeAny_func ?_⟩
  obtain ⟨t, ht, hq⟩ := hbody A outer s H vs Q E (hr.deeper _) hsp
  have I : Inv (cxOf CX0 P w K mg base N qual (defScope st) f cdv A outer s H E) [] (start N vs) H s1 := inv_start S hr.hd e0 hl r xx
  refine wpAny_mono (ht.run [] s1 (start N vs) H _ (I.wish _) hq) (fun fl s' hs => ?_) fun e s' hs => False.elim hs
  obtain ⟨u, v, σ', H', rfl, J', rv, q⟩ := hs
  have J : Inv (cxOf CX0 P w K mg base N qual (defScope st) f cdv A outer s H E) [] σ' H' s' := J'.unwish
  obtain ⟨H'', hF, hU, hO⟩ := fin_make S.nd J
  exact ⟨v, H'', J.os, J.bare, hU, hO, rv, q H'' hF⟩
/-- a function that the def made, behind its return: its captured cells are told -/
theorem clo_fin {cells : List (Str × Addr)} {names nn : List (Str × NameKind)} {N fr : List Str} {σ : L2.St} {H H' : Hp} {f : Addr} {F : NF} {ws : List V} (X : Fin cells names N σ H H') (hc : ∀ y, names.lookup y = some .cell → (cells.lookup y).isSome = true) (hcl : F.cl = cloFrom cells nn []) (hcel : ∀ y ∈ nn, y.2 = .free → names.lookup y.1 = some .cell)
    (hfr : ∀ y ∈ fr, (y, NameKind.free) ∈ nn) (hrf : ∀ y ∈ nn, y.2 = .free → y.1 ∈ fr) (hf : H f = some (FnO f F)) (hco : H F.c = some (CodeO F.c F.qual)) (len : ws.length = fr.length) (at_ : ∀ (i : Nat) (y : Str), fr[i]? = some y → ∃ (j : Nat) (v : V), N[j]? = some y ∧ ws[i]? = some v ∧ σ[j]? = some (some v)) : Clo H' f F fr ws := by
  have hfree : ∀ y ∈ nn, y.2 = .free → ∃ c, cells.lookup y.1 = some c := fun y hy e => Option.isSome_iff_exists.mp (hc _ (hcel y hy e))
  refine ⟨X.same _ _ hf, X.same _ _ hco, len, fun y c e => ?_, fun x y c e1 e2 => ?_, fun i y e => ?_⟩
  · rw [hcl] at e
    have m := PySem.mem_of_lookup e
    rcases cloFrom_mem m with q | ⟨q, _⟩
    · cases q
    · exact hrf _ q rfl
  · rw [hcl] at e1 e2
    exact X.inj x y c (clo_cm hfree e1) (clo_cm hfree e2)
  · have hy : y ∈ fr := List.mem_of_getElem? e
    have hm := hfr y hy
    have hn := hcel _ hm rfl
    obtain ⟨c, hcc⟩ := Option.isSome_iff_exists.mp (hc y hn)
    obtain ⟨j, v, h1, h2, h3⟩ := at_ i y e
    refine ⟨c, v, ?_, h2, X.at_ j y c v h1 hn hcc h3⟩
    rw [hcl]
    exact clo_has hfree hm hcc
end Inf

set_option Elab.async false
set_option linter.all false
set_option maxRecDepth 100000
set_option maxHeartbeats 4000000
namespace Inf
open PySem PySem.Spec PyProof.Rows L2
section
variable {X : Cx}
/-- o.replace(str(e), "c"), a token out: what is struck is not c -/
def tStrike (to tt : TE) (c : Str) : TE := fun σ H Q => to σ H fun x H1 => ∃ a, x = V.str a ∧ tt σ H1 fun y H2 => ∃ i : Int, y = .int i ∧ i.natAbs.log2 < 1920 ∧ (Str.ofString (toString i) == c) = false ∧ a.length + (a.length + 1) * c.length ≤ 16777216 ∧ Q (.str (Txt.replace a (Str.ofString (toString i)) c)) H2
theorem pet_strike {o e : Expr} {to tt : TE} {c : Str} {ck : Nat} {apos np cp ccp pos : Pos} (ho : PE X o to) (he : PE X e tt) (hg : Gl X "str") (hm : X.mg "str" = none)
    (hbase : attributeBase o "replace" X.env (eval o X.env) = eval o X.env := by rfl)
    (hfew : ((backTo pos (starEach [.Call (.Name "str" np) [e] [] cp, .Constant (.str c) ck ccp] X.env)).all (fun x => !x.1) && (backToKw pos (keywordEach [] X.env)).all (fun x => x.1.isSome)
      && decide (([.Call (.Name "str" np) [e] [] cp, .Constant (.str c) ck ccp] : List Expr).length + ([] : List Keyword).length + (if ([] : List Keyword).isEmpty then 0 else 1) < 30)) = true := by rfl)
    (hline : (apos.endLine == pos.line) = true := by rfl) (hs : starEach [e] X.env = [(false, eval e X.env)] := by rfl) (hpl : (backTo cp (starEach [] X.env)).any (·.1) = false := by rfl) :
    PET X (.Call (.Attribute o "replace" apos) [.Call (.Name "str" np) [e] [] cp, .Constant (.str c) ck ccp] [] pos) (tStrike to tt c) := by
  intro pins s σ H Q h0 I h
  refine wpAny_Call_method_late hbase hfew hline rfl (wpAny_mono (PySem.wpAny_toks (ho.run pins s σ H _ I h)) (fun v s1 q => ?_) fun _ _ z => z.2)
  obtain ⟨hk1, x, H1, I1, r1, a, rfl, q⟩ := q
  obtain ⟨t, rfl⟩ := _root_.id r1
  refine ⟨"str", _, F.plainAttrs_str, F.slot_str_replace, F.type_str_replace, typeIs_str _ _ _, (fun _ e => nomatch e), ?_⟩
  refine Calls.callWith_builtin rfl (Calls.evalArgs_plain ?_)
  show wpAny _ _ (spliced ((false, eval (.Call (.Name "str" np) [e] [] cp) X.env) :: backTo pos (starEach [.Constant (.str c) ck ccp] X.env))) _ _ s1
  refine Calls.spliced_cons ?_
  refine wpAny_Call_Name_kw (ld_blt I1 hg hm (show bootBuiltins "str" = some (.type "str") by decide +kernel) ?_ (by decide) (by decide))
  refine PyProof.Rows.callWith_type1 (wpAny_mono (PySem.wpAny_toks ((pa_cons he pa_nil hs).run cp pins s1 σ H1 (fun vs H2 => match vs with
    | [y] => ∃ i : Int, y = V.int i ∧ i.natAbs.log2 < 1920 ∧ (Str.ofString (toString i) == c) = false ∧ a.length + (a.length + 1) * c.length ≤ 16777216 ∧ Q (.str (Txt.replace a (Str.ofString (toString i)) c)) H2
    | _ => False) I1 q)) (fun us s2 q2 => ?_) fun _ _ z => z.2) hs hpl
  obtain ⟨hk2, vs, H2, I2, r2, q2⟩ := q2
  match vs, r2, q2 with
  | [y], r2, ⟨i, ey, hz, hne, hb, q3⟩ =>
    subst ey
    obtain ⟨u, rfl, t2, rfl⟩ := vals1 r2
    have h2 : 1 ≤ s2.toks := Nat.le_trans h0 (Nat.le_trans hk1 hk2)
    refine PySem.P.str_of_int hz ?_
    refine Calls.spliced_cons (Calls.Constant_str (k := ck) (pos := ccp) (Calls.spliced_nil ?_))
    refine SC.replace (u := s2.toks) (v := s2.toks + 1) (Nat.ne_of_gt h2) (Nat.succ_ne_zero _) (Nat.ne_of_lt (Nat.lt_succ_self _)) hne hb fun t' k => ?_
    exact ⟨.str _, H2, I2.tok _, ⟨_, rfl⟩, q3⟩
/-- one token out: a return -/
theorem pst_ret {e : Expr} {te : TE} {pos : Pos} (he : PET X e te) : PST X (.Return (some e) pos) (tRet te) := fun pins s σ H D h0 I h =>
  wpAny_Return_some (thn (he pins s σ H _ h0 I h) fun v s1 ⟨x, H1, I1, r1, q1⟩ => ⟨x, σ, H1, I1, r1, q1⟩)
theorem psst_one {st : Stmt} {t : TS} (h1 : PST X st t) : PSsT X [st] t := by
  intro pins s σ H D h0 I h
  refine wpAny_execs_cons (thn (h1 pins s σ H D h0 I h) fun f s1 q => ?_)
  cases f with
  | next => exact wpAny_execs_nil q
  | ret v => exact q
  | brk => exact q
  | cont => exact q
/-- if x op 3: behind the test a token is out -/
theorem ps_ifC {a : Expr} {op : CmpOp} {r : R2} {ta : TE} {j : Int} {k : Nat} {cpos cp pos : Pos} {A B : List Stmt} {t u : TS} (ho : OpR X (compareOp op) r) (ha : PE X a ta) (hm : behindInMarks op (.Constant (.int j) k cpos) = false) (hA : PSsT X A t) (hB : PSs X B u) :
    PS X (.If (.Compare a [op] [.Constant (.int j) k cpos] cp) A B pos) (tIfS (tTest (tOp r ta (tC (.int j)))) t u) := by
  refine ⟨fun pins s σ H D I h => ?_⟩
  refine wpAny_If (wpAny_mono (Q := fun d s' => 1 ≤ s'.toks ∧ TP X pins σ (fun b H1 => if b = true then t D σ H1 else u D σ H1) d s') (E := X.xe) ?_ (fun d s1 q => ?_) fun _ _ z => z)
  · refine wpAny_isTrue_Compare1 (thn (ha.run pins s σ H _ I h) fun v s1 ⟨x, H1, I1, r1, q1⟩ => ?_) hm
    refine wpAny_Constant_int ?_
    refine wpAny_mono (PySem.wpAny_toks (ho pins _ σ H1 x (.int j) v (.int j s1.toks) _ (I1.tok _) r1 ⟨_, rfl⟩ q1)) (fun c s3 q3 => ?_) fun _ _ z => z.2
    obtain ⟨hk, z, H3, I3, r3, b, e, q3⟩ := q3
    subst e
    cases r3
    exact wpAny_truthy_bool ⟨Nat.le_trans (Nat.le_add_left 1 _) hk, H3, I3, q3⟩
  · obtain ⟨hk, H1, I1, q1⟩ := q
    cases d with
    | true => exact hA pins s1 σ H1 D hk I1 q1
    | false => exact hB.run pins s1 σ H1 D I1 q1
end
end Inf

set_option Elab.async false
set_option linter.all false
set_option maxRecDepth 100000
set_option maxHeartbeats 4000000
namespace Inf
open PySem PySem.Spec PyProof.Rows L2
section
variable {X : Cx} {CX : CXT} {k n : Nat} {f C : Addr} {fd : FuncData} {ps ks : List Str} {sp : Sp} {E : XK} {m : Str} {pos apos : Pos} {e o : Expr} {es : List Expr} {kws : List Keyword} {ta : TE} {t tk : TA} {g : List Value → List Value → List Value} {gV : List V → List V → List V}
/-- a method called with keywords: n values are written, then j keywords -/
def tMethN (C : Addr) (m : Str) (n j : Nat) (sp : Sp) (gV : List V → List V → List V) (E : XK) (ta : TE) (t tk : TA) : TE := fun σ H Q => ta σ H fun x H1 => ∃ a dx fs, x = V.ref a ∧ H1 a = some (.ins C dx fs) ∧ fs.lookup m = none ∧ t σ H1 fun vs H2 => tk σ H2 fun zs H3 => vs.length = n ∧ zs.length = j ∧ sp (gV (.ref a :: vs) zs) H3 Q E
theorem pe_methK0 {pl : Sem Bool} (he : PE X o ta) (c : Cls X.K C) (hm : Meth X.K C m f) (F : FnOk X.prog X.w X.K X.mg X.base CX k f fd ps sp) (hr : Room k X.A) (hb : KBn X.K fd ps 1 ks g gV) (hx : Passes CX X E) (hkw : PK X kws tk)
    (hall : (backToKw pos (keywordEach kws X.env)).all (·.1.isSome) = true := by rfl) (hks : (backToKw pos (keywordEach kws X.env)).filterMap (·.1) = ks := by rfl)
    (hpl : ((backTo pos (starEach [] X.env)).any (·.1) || (backToKw pos (keywordEach kws X.env)).any (·.1.isNone)) = false := by rfl)
    (ht : eval (.Call (.Attribute o m apos) [] kws pos) X.env = (do
      let ov ← eval o X.env
      standAt apos.atName
      let (f, first) ← holding [ov] (getMethod ov m pl)
      callWith pos f first (backTo pos (starEach [] X.env)) (backToKw pos (keywordEach kws X.env))) := by rfl) :
    PE X (.Call (.Attribute o m apos) [] kws pos) (tMethN C m 0 ks.length sp gV E ta tNil tk) := by
  refine ⟨fun pins s σ H Q I h => ?_⟩
  refine PySem.W.methodCall_KW (pl := pl) (thn (he.run pins s σ H _ I h) fun u s1 ⟨x, H1, I1, rx, a, dx, fs, ex, ea, l, q⟩ => ?_) ht
  subst ex
  obtain rfl : u = Value.ref a := rx
  refine getmeth_ok I1 ea c hm l ?_
  refine PySem.W.callWith_KW0 (first := [.ref a]) (h₀ := X.base) I.ok.mod.kin hm.kp hall (thn (hkw.run pos pins s1 σ H1 _ I1 q) fun ws s2 ⟨zs, H2, I2, rz, l1, l2, q2⟩ => ⟨I2.kIn, ?_⟩) hpl
  rw [hks]
  exact run_fnN (us := [.ref a]) (vs := [.ref a]) F hr hb hx I2 (.cons rfl .nil) rz rfl l2 q2
theorem pe_methK {pl : Sem Bool} (he : PE X o ta) (c : Cls X.K C) (hm : Meth X.K C m f) (F : FnOk X.prog X.w X.K X.mg X.base CX k f fd ps sp) (hr : Room k X.A) (hb : KBn X.K fd ps (n + 1) ks g gV) (hx : Passes CX X E) (ha : PA X (e :: es) t) (hkw : PK X kws tk)
    (hall : (backToKw pos (keywordEach kws X.env)).all (·.1.isSome) = true := by rfl) (hks : (backToKw pos (keywordEach kws X.env)).filterMap (·.1) = ks := by rfl)
    (hst : starEach (e :: es) X.env = (false, eval e X.env) :: starEach es X.env := by rfl)
    (hpl : ((backTo pos (starEach (e :: es) X.env)).any (·.1) || (backToKw pos (keywordEach kws X.env)).any (·.1.isNone)) = false := by rfl)
    (ht : eval (.Call (.Attribute o m apos) (e :: es) kws pos) X.env = (do
      let ov ← eval o X.env
      standAt apos.atName
      let (f, first) ← holding [ov] (getMethod ov m pl)
      callWith pos f first (backTo pos (starEach (e :: es) X.env)) (backToKw pos (keywordEach kws X.env))) := by rfl) :
    PE X (.Call (.Attribute o m apos) (e :: es) kws pos) (tMethN C m n ks.length sp gV E ta t tk) := by
  refine ⟨fun pins s σ H Q I h => ?_⟩
  refine PySem.W.methodCall_KW (pl := pl) (thn (he.run pins s σ H _ I h) fun u s1 ⟨x, H1, I1, rx, a, dx, fs, ex, ea, l, q⟩ => ?_) ht
  subst ex
  obtain rfl : u = Value.ref a := rx
  refine getmeth_ok I1 ea c hm l ?_
  refine PySem.W.callWith_KW (first := [.ref a]) (h₀ := X.base) I.ok.mod.kin hm.kp hall (thn (ha.run pos pins s1 σ H1 _ I1 q) fun us s2 ⟨vs, H2, I2, r, q2⟩ => ?_) hpl hst
  refine thn (hkw.run pos pins s2 σ H2 _ I2 q2) fun ws s3 ⟨zs, H3, I3, rz, l1, l2, q3⟩ => ⟨I3.kIn, ?_⟩
  rw [hks]
  exact run_fnN (us := .ref a :: us) (vs := .ref a :: vs) F hr hb hx I3 (.cons rfl r) rz (congrArg Nat.succ l1) l2 q3
end
end Inf

set_option Elab.async false
set_option linter.all false
set_option maxRecDepth 100000
set_option maxHeartbeats 4000000
namespace Inf
open PySem PySem.Spec PyProof.Rows L2 NdefX LamX
section
variable {X : Cx} {pins : List (Addr × Obj)} {σ : L2.St} {H : Hp} {s : Shared}
/-- a lambda in a def that makes functions by name, too: the table knows the names by their places -/
theorem lam_toldN {T : List NTab} {nm : Nat → Nat → Str} {c P : Addr} {params : Arguments} {body : Expr} {scope : Scope} {pos : Pos} {E : Value → Shared → Prop} {Q : Value → Shared → Prop} (I : Inv X pins σ H s) (TB : TabB X.base X.mg c P) (hcode : X.env.code = .ref c)
    (hm : (P, nm) ∈ T) (hn : nm pos.line pos.col = X.env.qual ++ "<lambda>") (hu : ∀ p ∈ T, p.1 = P → p.2 = nm) (hT : TabsN T H) (hdef : defaultsOf params X.env = ([], [])) (hfree : ∀ y ∈ scope.names, y.2 = .free → ∃ c, X.env.cells.lookup y.1 = some c)
    (h : ∀ (f c' : Addr) (H1 : Hp) (s' : Shared), Inv X pins σ H1 s' → ExtN H H1 → (∀ b, H1 b = Option.none → H b = Option.none) → TabsN T H1 → H f = none → H1 f = some (LamO f ⟨X.env.qual ++ "<lambda>", params, body, scope, cloFrom X.env.cells scope.names [], c'⟩) → H1 c' = some (CodeO c' (X.env.qual ++ "<lambda>")) → Q (.ref f) s') :
    wpAny (model X.prog X.w) X.A (eval (.Lambda params body scope pos) X.env) Q E s := by
  obtain ⟨ps, hP, ht, ha⟩ := (show TabN H P nm from hT _ hm)
  have bP := TB.bm.keeps (h' := s.heap) I.bk
  have gP : s.heap.get? P = some { cls := .none, data := .fields ps } := I.hok P _ hP
  refine PySem.W.kla_eval hdef ?_
  cases cd : codeAmong pos ps.toList with
  | none =>
    refine PySem.W.kla_makeFunction (mg := X.mg) (c := c) (P := P) (ps := ps) (closure_ok hfree) I.ok.glob (I.mod.glob.keeps I.bk) hcode (TB.code.keeps I.bk) gP ht cd TB.gP bP fun c' ctv h' tk hx hge hlt hrec htb => ?_
    obtain ⟨c2, oc, vs, t, e2, hoc, hd, hv⟩ := hrec
    cases e2
    have nC : H c' = none := I.hok.fresh hge
    have I1 := inv_table (q := X.env.qual ++ "<lambda>") (t' := tk) (more := #[rawInt pos.line, rawInt pos.col, .ref c']) (h' := h') I hP hx htb hge ⟨oc, vs, t, hoc, hd, hv⟩
    have hE : ExtN H (upd (upd H P (.tbl (ps ++ #[rawInt pos.line, rawInt pos.col, .ref c']))) c' (CodeO c' (X.env.qual ++ "<lambda>"))) := fun b o e n => by
      rw [upd_ne (ne_of_none e nC), upd_ne (fun z => n ps (Option.some.inj (e.symm.trans (by rw [z]; exact hP))))]
      exact e
    have eL : (ps ++ #[rawInt pos.line, rawInt pos.col, .ref c']).toList = ps.toList ++ [rawInt pos.line, rawInt pos.col, .ref c'] := by simp
    have T1 : TabsN T (upd (upd H P (.tbl (ps ++ #[rawInt pos.line, rawInt pos.col, .ref c']))) c' (CodeO c' (X.env.qual ++ "<lambda>"))) := fun p hp => by
      by_cases hb : p.1 = P
      · rw [hu p hp hb, hb]
        refine ⟨_, by rw [upd_ne (ne_of_none hP nC), upd_same], by rw [eL]; exact PySem.TriplesOk_snoc _ _ _ _ ht, fun p' cv hcv => ?_⟩
        rw [eL] at hcv
        rcases among_app2 _ ht hcv with z | ⟨z, z1, z2⟩
        · obtain ⟨c0, e1, e2⟩ := ha p' cv z
          exact ⟨c0, e1, hE _ _ e2 codeO_ne⟩
        · refine ⟨c', z, ?_⟩
          rw [← z1, ← z2, hn]
          exact upd_same
      · obtain ⟨ps', a1, a2, a3⟩ := hT p hp
        refine ⟨ps', by rw [upd_ne (ne_of_none a1 nC), upd_ne hb]; exact a1, a2, fun p' cv hcv => ?_⟩
        obtain ⟨c0, e1, e2⟩ := a3 p' cv hcv
        exact ⟨c0, e1, hE _ _ e2 codeO_ne⟩
    have nF := I1.hok.fresh (Nat.le_refl h'.objs.size)
    have I2 := I1.laid (a := h'.objs.size) (o := LamO h'.objs.size ⟨X.env.qual ++ "<lambda>", params, body, scope, cloFrom X.env.cells scope.names [], c'⟩) (h' := h'.push (PySem.W.kla_obj "<lambda>" (X.env.qual ++ "<lambda>") params body scope (cloFrom X.env.cells scope.names []) ((X.mg "__name__").getD .none) c' ctv)) (t' := tk)
      (fun b u z => Heap.get?_push_of_some _ z) (Nat.le_refl _) (lamO_ok ⟨_, _, Heap.get?_push_size _ rfl⟩)
    refine h h'.objs.size c' _ _ I2 (fun b o e n => ?_) (fun b e => NdefX.upd_none (NdefX.upd_none (NdefX.upd_none e))) (T1.ext fun b o e => ?_) (I.hok.fresh (Nat.le_trans hge (Nat.le_of_lt hlt))) upd_same ?_
    · have e1 := hE b o e n
      exact (upd_ne (ne_of_none e1 nF)).trans e1
    · exact (upd_ne (ne_of_none e nF)).trans e
    · exact (upd_ne (Nat.ne_of_lt hlt)).trans upd_same
  | some cv =>
    obtain ⟨c', e, hco⟩ := ha pos cv cd
    subst e
    rw [hn] at hco
    refine PySem.W.kla_makeFunctionHit (mg := X.mg) (c := c) (P := P) (ps := ps) (closure_ok hfree) I.ok.glob (I.mod.glob.keeps I.bk) hcode (TB.code.keeps I.bk) gP ht cd bP fun ctv h' tk hx hsz => ?_
    have I0 : Inv X pins σ H { s with heap := h', toks := tk } := I.kept hx
    have nF : H h'.objs.size = none := I0.hok.fresh (Nat.le_refl _)
    have I2 := I0.laid (a := h'.objs.size) (o := LamO h'.objs.size ⟨X.env.qual ++ "<lambda>", params, body, scope, cloFrom X.env.cells scope.names [], c'⟩) (h' := h'.push (PySem.W.kla_obj "<lambda>" (X.env.qual ++ "<lambda>") params body scope (cloFrom X.env.cells scope.names []) ((X.mg "__name__").getD .none) c' ctv)) (t' := tk)
      (fun b u z => Heap.get?_push_of_some _ z) (Nat.le_refl _) (lamO_ok ⟨_, _, Heap.get?_push_size _ rfl⟩)
    refine h h'.objs.size c' _ _ I2 (fun b o e n => ?_) (fun b e => NdefX.upd_none e) (hT.ext fun b o e => ?_) nF upd_same ?_
    · exact (upd_ne (ne_of_none e nF)).trans e
    · exact (upd_ne (ne_of_none e nF)).trans e
    · exact (upd_ne (ne_of_none hco nF)).trans hco
end
def tLamN (T : List NTab) (F : Addr → LF) : TE := fun σ H Q => TabsN T H ∧ ∀ (f c' : Addr) (H1 : Hp), ExtN H H1 → (∀ b, H1 b = Option.none → H b = Option.none) → TabsN T H1 → H f = none → H1 f = some (LamO f (F c')) → H1 c' = some (CodeO c' (F c').qual) → Q (.ref f) H1
theorem pe_lamN {X : Cx} {T : List NTab} {nm : Nat → Nat → Str} {c P : Addr} {params : Arguments} {body : Expr} {scope : Scope} {pos : Pos} (TB : TabB X.base X.mg c P) (hcode : X.env.code = .ref c) (hm : (P, nm) ∈ T) (hn : nm pos.line pos.col = X.env.qual ++ "<lambda>") (hu : ∀ p ∈ T, p.1 = P → p.2 = nm)
    (hdef : defaultsOf params X.env = ([], [])) (hfree : ∀ y ∈ scope.names, y.2 = .free → X.env.scope.names.lookup y.1 = some .cell ∨ X.env.scope.names.lookup y.1 = some .free) :
    PE X (.Lambda params body scope pos) (tLamN T fun c' => ⟨X.env.qual ++ "<lambda>", params, body, scope, cloFrom X.env.cells scope.names [], c'⟩) := by
  refine ⟨fun pins s σ H Q I h => ?_⟩
  obtain ⟨hT, q⟩ := h
  exact lam_toldN I TB hcode hm hn hu hT hdef (fun y hy e => (hfree y hy e).elim (fun z => I.ok.has _ (.inl z)) fun z => I.ok.has _ (.inr z)) fun f c' H1 s' I1 e1 n1 t1 nf hf hc => ⟨.ref f, H1, I1, rfl, q f c' H1 e1 n1 t1 nf hf hc⟩
end Inf

set_option Elab.async false
set_option linter.all false
set_option maxRecDepth 100000
set_option maxHeartbeats 4000000
namespace Inf
open PySem PySem.Spec PyProof.Rows L2 ClX
section
variable {M : Model} {A : Around} {E : Value → Shared → Prop} {s : Shared} {K : PySem.W.Frag} {env : Env} {pos : Pos} {first : List Value} {Q : Value → Shared → Prop} {kws : List Keyword} {q g : Addr} {self : Value}
/-- a bound method, called by names alone -/
theorem callWith_MK0 (hf : PySem.W.fnIn K g = true) (hall : (backToKw pos (keywordEach kws env)).all (·.1.isSome) = true)
    (h : wpAny M A (evalAll ((backToKw pos (keywordEach kws env)).map (·.2))) (fun ks s₂ => PySem.W.MethP K q g self s₂.heap ∧ wpAny M A (call (.ref q) (first ++ []) (((backToKw pos (keywordEach kws env)).filterMap (·.1)).zip ks)) Q E s₂) E s)
    (hplain : ((backTo pos (starEach [] env)).any (·.1) || (backToKw pos (keywordEach kws env)).any (·.1.isNone)) = false := by rfl) :
    wpAny M A (callWith pos (.ref q) first (backTo pos (starEach [] env)) (backToKw pos (keywordEach kws env))) Q E s :=
  PySem.W.callWith_of hplain (PySem.W.keeps_M hf) (evalArgs_kw2_nil hall h)
theorem callWith_MK {e : Expr} {rest : List Expr} (hf : PySem.W.fnIn K g = true) (hall : (backToKw pos (keywordEach kws env)).all (·.1.isSome) = true)
    (h : wpAny M A (spliced (backTo pos (starEach (e :: rest) env))) (fun vs s₁ => wpAny M A (evalAll ((backToKw pos (keywordEach kws env)).map (·.2)))
      (fun ks s₂ => PySem.W.MethP K q g self s₂.heap ∧ wpAny M A (call (.ref q) (first ++ vs) (((backToKw pos (keywordEach kws env)).filterMap (·.1)).zip ks)) Q E s₂) E s₁) E s)
    (hplain : ((backTo pos (starEach (e :: rest) env)).any (·.1) || (backToKw pos (keywordEach kws env)).any (·.1.isNone)) = false := by rfl) (he : starEach (e :: rest) env = (false, eval e env) :: starEach rest env := by rfl) :
    wpAny M A (callWith pos (.ref q) first (backTo pos (starEach (e :: rest) env)) (backToKw pos (keywordEach kws env))) Q E s :=
  PySem.W.callWith_of hplain (PySem.W.keeps_M hf) (evalArgs_kw2 hall h he)
end
section
variable {X : Cx} {CX : CXT} {k n : Nat} {f C p : Addr} {mc : Value} {fd : FuncData} {ps ks : List Str} {sp : Sp} {E : XK} {m x : Str} {pos apos : Pos} {e o : Expr} {es : List Expr} {kws : List Keyword} {ta : TE} {t tk : TA} {g : List Value → List Value → List Value} {gV : List V → List V → List V}
/-- the call of a bound classmethod by values and names -/
theorem run_cmN {pins : List (Addr × Obj)} {σ : L2.St} {H : Hp} {s : Shared} {Q : VK} {q : Addr} {us ws : List Value} {vs zs : List V} (F : FnOk X.prog X.w X.K X.mg X.base CX k f fd ps sp) (hr : Room k X.A) (hb : KBn X.K fd ps (n + 1) ks g gV) (hx : Passes CX X E)
    (I : Inv X ((q, PySem.W.methodObj (.ref f) (.ref C)) :: pins) σ H s) (r : Vals vs us) (rz : Vals zs ws) (l1 : vs.length = n) (l2 : zs.length = ks.length) (h : sp (gV (.ref C :: vs) zs) H Q E) :
    wpAny (model X.prog X.w) X.A (call (.ref q) us (ks.zip ws)) (EP X pins σ Q) X.xe s := by
  have r1 : Vals (V.ref C :: vs) (Value.ref C :: us) := .cons rfl r
  have r2 := hb.rel r1 rz
  have n1 : (Value.ref C :: us).length = n + 1 := by
    rw [List.length_cons, ← r.length, l1]
  have z : wpAny (model X.prog X.w) X.A (call (.ref q) us (ks.zip ws)) (EP X ((q, PySem.W.methodObj (.ref f) (.ref C)) :: pins) σ Q) X.xe s := by
    refine wpAny_call (PySem.W.method_call (pin_at I) (codeAny_mono (F.run X.A X.stack s H ⟨Value.ref C :: us, ks.zip ws⟩ (g (Value.ref C :: us) ws) _ Q E hr I.env0 (hb.to s _ ws I.kIn n1 (rz.length.symm.trans l2)) r2 h) fun r s' hq => ?_))
    cases r with
    | error e => exact hx _ σ H s e s' I hq
    | ok fl =>
      cases fl with
      | ret u => exact I.after hq
      | next => exact False.elim hq
      | brk => exact False.elim hq
      | cont => exact False.elim hq
  exact thn z fun _ _ y => unpinE y
/-- C.m(k = v, ..), m a classmethod: n values are written, then j names -/
def tCMethN (C : Addr) (n j : Nat) (sp : Sp) (gV : List V → List V → List V) (E : XK) (ta : TE) (t tk : TA) : TE := fun σ H Q => ta σ H fun x H1 => x = .ref C ∧ t σ H1 fun vs H2 => tk σ H2 fun zs H3 => vs.length = n ∧ zs.length = j ∧ sp (gV (.ref C :: vs) zs) H3 Q E
theorem pe_cmethK0 {pl : Sem Bool} (he : PE X o ta) (r : CRead X.K C mc) (c : CMet X.K C mc m p f) (F : FnOk X.prog X.w X.K X.mg X.base CX k f fd ps sp) (hr : Room k X.A) (hb : KBn X.K fd ps 1 ks g gV) (hx : Passes CX X E) (hkw : PK X kws tk)
    (hall : (backToKw pos (keywordEach kws X.env)).all (·.1.isSome) = true := by rfl) (hks : (backToKw pos (keywordEach kws X.env)).filterMap (·.1) = ks := by rfl)
    (hpl : ((backTo pos (starEach [] X.env)).any (·.1) || (backToKw pos (keywordEach kws X.env)).any (·.1.isNone)) = false := by rfl)
    (ht : eval (.Call (.Attribute o m apos) [] kws pos) X.env = (do
      let ov ← eval o X.env
      standAt apos.atName
      let (f, first) ← holding [ov] (getMethod ov m pl)
      callWith pos f first (backTo pos (starEach [] X.env)) (backToKw pos (keywordEach kws X.env))) := by rfl) :
    PE X (.Call (.Attribute o m apos) [] kws pos) (tCMethN C 0 ks.length sp gV E ta tNil tk) := by
  refine ⟨fun pins s σ H Q I h => ?_⟩
  refine PySem.W.methodCall_KW (pl := pl) (thn (he.run pins s σ H _ I h) fun u s1 ⟨x, H1, I1, rx, ex, q⟩ => ?_) ht
  subst ex
  obtain rfl : u = Value.ref C := rx
  refine getmethcm_ok I1 r c fun s2 I2 => ?_
  refine callWith_MK0 (first := []) c.fi hall (thn (hkw.run pos _ s2 σ H1 _ I2 q) fun ws s3 ⟨zs, H2, I3, rz, l1, l2, q2⟩ => ⟨⟨pin_at I3, I3.kIn⟩, ?_⟩) hpl
  rw [hks]
  exact run_cmN (us := []) (vs := []) F hr hb hx I3 .nil rz rfl l2 q2
theorem pe_cmethK {pl : Sem Bool} (he : PE X o ta) (r : CRead X.K C mc) (c : CMet X.K C mc m p f) (F : FnOk X.prog X.w X.K X.mg X.base CX k f fd ps sp) (hr : Room k X.A) (hb : KBn X.K fd ps (n + 1) ks g gV) (hx : Passes CX X E) (ha : PA X (e :: es) t) (hkw : PK X kws tk)
    (hall : (backToKw pos (keywordEach kws X.env)).all (·.1.isSome) = true := by rfl) (hks : (backToKw pos (keywordEach kws X.env)).filterMap (·.1) = ks := by rfl)
    (hst : starEach (e :: es) X.env = (false, eval e X.env) :: starEach es X.env := by rfl)
    (hpl : ((backTo pos (starEach (e :: es) X.env)).any (·.1) || (backToKw pos (keywordEach kws X.env)).any (·.1.isNone)) = false := by rfl)
    (ht : eval (.Call (.Attribute o m apos) (e :: es) kws pos) X.env = (do
      let ov ← eval o X.env
      standAt apos.atName
      let (f, first) ← holding [ov] (getMethod ov m pl)
      callWith pos f first (backTo pos (starEach (e :: es) X.env)) (backToKw pos (keywordEach kws X.env))) := by rfl) :
    PE X (.Call (.Attribute o m apos) (e :: es) kws pos) (tCMethN C n ks.length sp gV E ta t tk) := by
  refine ⟨fun pins s σ H Q I h => ?_⟩
  refine PySem.W.methodCall_KW (pl := pl) (thn (he.run pins s σ H _ I h) fun u s1 ⟨x, H1, I1, rx, ex, q⟩ => ?_) ht
  subst ex
  obtain rfl : u = Value.ref C := rx
  refine getmethcm_ok I1 r c fun s2 I2 => ?_
  refine callWith_MK (self := .ref C) (first := []) c.fi hall (thn (ha.run pos _ s2 σ H1 _ I2 q) fun us s3 ⟨vs, H2, I3, rv, q2⟩ => ?_) hpl hst
  refine thn (hkw.run pos _ s3 σ H2 _ I3 q2) fun ws s4 ⟨zs, H3, I4, rz, l1, l2, q3⟩ => ⟨⟨pin_at I4, I4.kIn⟩, ?_⟩
  rw [hks]
  exact run_cmN F hr hb hx I4 rv rz l1 l2 q3
/-- c(e, .., k = v, ..), c a local name that holds the class at C -/
def tMakeL (C : Addr) (n j : Nat) (sp : Sp) (gV : List V → List V → List V) (E : XK) (ta : TE) (t tk : TA) : TE := fun σ H Q => ta σ H fun x H0 => x = .ref C ∧ tMakeK C n j sp gV E t tk σ H0 Q
theorem pe_makeL (hc : PE X (.Name x pos) ta) (M : Mk X.K C f) (F : FnOk X.prog X.w X.K X.mg X.base CX k f fd ps sp) (hr : Room (k + 1) X.A) (hb : KBn X.K fd ps (n + 1) ks g gV) (hx : Passes CX X E) (ha : PA X (e :: es) t) (hkw : PK X kws tk)
    (hall : (backToKw apos (keywordEach kws X.env)).all (·.1.isSome) = true := by rfl) (hks : (backToKw apos (keywordEach kws X.env)).filterMap (·.1) = ks := by rfl)
    (he : starEach (e :: es) X.env = (false, eval e X.env) :: starEach es X.env := by rfl) (hpl : ((backTo apos (starEach (e :: es) X.env)).any (·.1) || (backToKw apos (keywordEach kws X.env)).any (·.1.isNone)) = false := by rfl) :
    PE X (.Call (.Name x pos) (e :: es) kws apos) (tMakeL C n ks.length sp gV E ta t tk) := by
  refine ⟨fun pins s σ H Q I h => ?_⟩
  refine wpAny_Call_Name_kw (thn (hc.run pins s σ H _ I h) fun u s0 ⟨y, H0, I0, ry, ey, h0⟩ => ?_)
  subst ey
  obtain rfl : u = Value.ref C := ry
  refine PySem.W.callWith_KW (h₀ := X.base) I0.ok.mod.kin M.kp hall (thn (ha.run apos pins s0 σ H0 _ I0 h0) fun us s1 ⟨vs, H1, I1, r, q⟩ => ?_) hpl he
  refine thn (hkw.run apos pins s1 σ H1 _ I1 q) fun ws s2 ⟨zs, H2, I2, rz, l1, l2, q2⟩ => ⟨I2.kIn, ?_⟩
  rw [hks]
  exact run_makeK M F hr hb hx I2 r rz l1 l2 q2
end
end Inf

set_option Elab.async false
set_option linter.all false
set_option maxRecDepth 100000
set_option maxHeartbeats 4000000
namespace Inf
open PySem PySem.Spec PyProof.Rows L2 NdefX LamX
/-! ### a lambda that captures cells -/
/-- a cell at c that holds v -/
def CellAt (H : Hp) (c : Addr) (v : V) : Prop := ∃ φ, H c = some (.ext φ) ∧ ∀ h : Heap, φ h → ∃ u, L2.RelV v u ∧ h.IsCell c (some u)
theorem CellAt.of {H : Hp} {c : Addr} {v : V} (h : H c = some (CellO c v)) : CellAt H c v := ⟨_, h, fun _ z => z⟩
theorem CellAt.at_ {P : Program} {w : World} {H : Hp} {h : Heap} {c : Addr} {v : V} (hok : HOk P w H h) (e : CellAt H c v) : ∃ u, L2.RelV v u ∧ h.IsCell c (some u) := by
  obtain ⟨φ, e1, e2⟩ := e
  obtain ⟨z, _, _⟩ := hok c _ e1
  exact e2 _ z
theorem CellAt.same {H H1 : Hp} {c : Addr} {v : V} (h : CellAt H c v) (s : Same H H1) : CellAt H1 c v := by
  obtain ⟨φ, e1, e2⟩ := h
  exact ⟨φ, s _ _ e1, e2⟩
/-- the lambda F stands at f, and its captured cells hold ws -/
structure LClo (H : Hp) (f : Addr) (F : LF) (fr : List Str) (ws : List V) : Prop where
  fn : H f = some (LamO f F)
  code : H F.c = some (CodeO F.c F.qual)
  len : ws.length = fr.length
  dom : ∀ y c, F.cl.lookup y = some c → y ∈ fr
  inj : ∀ x y c, F.cl.lookup x = some c → F.cl.lookup y = some c → x = y
  at_ : ∀ (i : Nat) (y : Str), fr[i]? = some y → ∃ c v, F.cl.lookup y = some c ∧ ws[i]? = some v ∧ CellAt H c v
theorem LClo.same {H H1 : Hp} {f : Addr} {F : LF} {fr : List Str} {ws : List V} (h : LClo H f F fr ws) (s : Same H H1) : LClo H1 f F fr ws :=
  ⟨s _ _ h.fn, s _ _ h.code, h.len, h.dom, h.inj, fun i y e => by
    obtain ⟨c, v, a, b, d⟩ := h.at_ i y e
    exact ⟨c, v, a, b, d.same s⟩⟩
theorem LClo.cell {H : Hp} {f : Addr} {F : LF} {fr : List Str} {ws : List V} (h : LClo H f F fr ws) {b : Addr} (hb : b ∈ cellsOf F.nf fr) : ∃ v, CellAt H b v := by
  obtain ⟨y, hy, e⟩ := mem_cells.mp hb
  obtain ⟨i, hi⟩ := List.mem_iff_getElem?.mp hy
  obtain ⟨c, v, a, _, d⟩ := h.at_ i y hi
  have e' : F.cl.lookup y = some b := e
  rw [e'] at a
  cases a
  exact ⟨v, d⟩
theorem LClo.out {H : Hp} {f : Addr} {F : LF} {fr : List Str} {ws : List V} (h : LClo H f F fr ws) {b : Addr} {o : HO} (e : H b = some o) (n : ∀ φ, o ≠ .ext φ) : b ∉ cellsOf F.nf fr := fun hb => by
  obtain ⟨v, φ, d, _⟩ := h.cell hb
  rw [e] at d
  exact n _ (Option.some.inj d)
section
variable {P : Program} {w : World} {K : PySem.W.Frag} {mg : Str → Option Value} {base : Heap} {k : Nat} {f : Addr} {F : LF} {N ps fr : List Str} {sp : List (Option V) → Sp}
theorem lam_run (S : NScope N ps fr F.scope) (hb : ∀ (pm ctv : Value) (us : List Value), us.length = ps.length → bindArgs (PySem.W.kla_fn "<lambda>" F.qual F.params F.body F.scope F.cl pm (.ref F.c) ctv) ⟨us, []⟩ = pure (ps.zip us))
    (len : ∀ ws vs H Q E, sp ws vs H Q E → vs.length = ps.length)
    (hbody : ∀ (A : Around) (outer : List Env) (s : Shared) (H : Hp) (vs : List V) (ws : List (Option V)) (Q : VK) (E : XK), Room k (A.deeper (envF F.nf f s.heap.objs.size)) → ws.length = fr.length → sp ws vs H Q E → ∃ te, PE (ncx CX0 P w K mg base N F.nf f A outer s H E) F.body te ∧ te (startF N vs ws) H Q)
    (A : Around) (outer : List Env) (s : Shared) (H : Hp) (us : List Value) (vs : List V) (ws : List (Option V)) (Q : VK) (E : XK) (hr : Room (k + 1) A) (e0 : Env0 P w K mg base A outer s H) (hf : H f = some (LamO f F)) (hc : H F.c = some (CodeO F.c F.qual)) (C : CellsAt F.cl fr ws s.heap H) (r : Vals vs us) (hsp : sp ws vs H Q E) :
    codeAny (model P w) A (.call (.ref f) ⟨us, []⟩) (CR CX0 outer P w H s Q E) s := by
  have hl := len _ _ _ _ _ hsp
  have lim : s.heap.NoLimit := e0.mod.nolimit.keeps fun b o e => (e0.bs b o e).1
  obtain ⟨pm, ctv, ho⟩ := lamO_at e0.hok hf
  refine PySem.W.kla_callFunE hr.depth ho rfl S.co S.gen rfl (codeO_at e0.hok hc) ?_
  rw [hb pm ctv us (by rw [← r.length]; exact hl)]
  refine wpAny_pure (wpAny_newFunctionEnv S.nocell (fun ⟨n, _⟩ hy => S.par n (List.of_mem_zip hy).1) (fun h₁ hns hsb => ⟨lim.fresh _ hsb, ?_⟩) S.kind)
  obtain ⟨te, ht, hq⟩ := hbody A outer s H vs ws Q E (hr.deeper _) C.len hsp
  have kp : ∀ b o, s.heap.get? b = some o → h₁.get? b = some o := fun b o e => hsb.extBut b o (Nat.ne_of_lt (Heap.lt_size e)) (Heap.get?_push_of_some _ e)
  have I := inv_startN (CX := CX0) (P := P) (w := w) (K := K) (mg := mg) (base := base) (F := F.nf) (f := f) (A := A) (outer := outer) (E := E) (tk := s.toks + (ps.zip us).length) S hr.hd e0 hl r C hns kp
  refine PySem.W.kla_codeExpr (wpAny_mono (ht.run [] _ (startF N vs ws) H Q I hq) (fun u s' hs => ?_) fun e s' hs => hs)
  obtain ⟨v, H', J, rv, q⟩ := hs
  exact ⟨v, H', J.os, J.bare, J.base, J.hok, rv, q⟩
/-- A LAMBDA THAT CAPTURES CELLS, called from anywhere: its cells are told; while it runs they are left out, behind it they are put back -/
theorem lam_cloR (S : NScope N ps fr F.scope) (hb : ∀ (pm ctv : Value) (us : List Value), us.length = ps.length → bindArgs (PySem.W.kla_fn "<lambda>" F.qual F.params F.body F.scope F.cl pm (.ref F.c) ctv) ⟨us, []⟩ = pure (ps.zip us))
    (len : ∀ ws vs H Q E, sp ws vs H Q E → vs.length = ps.length)
    (hbody : ∀ (A : Around) (outer : List Env) (s : Shared) (H : Hp) (vs : List V) (ws : List (Option V)) (Q : VK) (E : XK), Room k (A.deeper (envF F.nf f s.heap.objs.size)) → ws.length = fr.length → sp ws vs H Q E → ∃ te, PE (ncx CX0 P w K mg base N F.nf f A outer s H E) F.body te ∧ te (startF N vs ws) H Q) :
    FnR P w K mg base CX0 (k + 1) f (fun vs H Q E => ∃ ws, LClo H f F fr ws ∧ sp (ws.map some) vs (cut (cellsOf F.nf fr) H) (fun v H1 => (∀ b, b ∈ cellsOf F.nf fr → H1 b = Option.none) → Q v (mend (cellsOf F.nf fr) H H1)) E) := by
  intro A outer s H us vs Q E hr e0 r hsp
  obtain ⟨ws, hc, hsp⟩ := hsp
  have cellAt : ∀ b, b ∈ cellsOf F.nf fr → ∃ v, CellAt H b v := fun b hb => hc.cell hb
  have isC : ∀ b, b ∈ cellsOf F.nf fr → ∃ u, s.heap.IsCell b (some u) := fun b hb => by
    obtain ⟨v, e⟩ := cellAt b hb
    obtain ⟨u, _, z⟩ := e.at_ e0.hok
    exact ⟨u, z⟩
  have fnout : f ∉ cellsOf F.nf fr := fun hb => by
    obtain ⟨u, o, e1, e2⟩ := isC f hb
    obtain ⟨pm, ctv, e3⟩ := lamO_at e0.hok hc.fn
    rw [e1] at e3
    cases e3
    cases e2
  have cout : F.c ∉ cellsOf F.nf fr := fun hb => by
    obtain ⟨u, o, e1, e2⟩ := isC F.c hb
    obtain ⟨⟨oc, vs', t, h1, h2, h3⟩, _, _⟩ := e0.hok F.c _ hc.code
    rw [e1] at h1
    cases h1
    rw [e2] at h2
    cases h2
  have hokc : HOk P w (cut (cellsOf F.nf fr) H) s.heap := fun b o e => by
    by_cases hb : b ∈ cellsOf F.nf fr
    · rw [cut_in hb] at e
      cases e
    · rw [cut_out hb] at e
      refine (e0.hok b o e).stay (fun c u _ q => q) (fun c q => ?_) fun c xs q => ?_
      · rw [cut_out (hc.out q (fun φ z => nomatch z))]
        exact q
      · rw [cut_out (hc.out q (fun φ z => nomatch z))]
        exact q
  have noneC : ∀ b, H b = Option.none → cut (cellsOf F.nf fr) H b = Option.none := fun b e => by
    by_cases hb : b ∈ cellsOf F.nf fr
    · exact cut_in hb
    · rw [cut_out hb]
      exact e
  have e1 : Env0 P w K mg base A outer s (cut (cellsOf F.nf fr) H) := ⟨e0.frames, e0.mod, fun b o q => ⟨(e0.bs b o q).1, noneC b (e0.bs b o q).2⟩, e0.bsz, e0.funs, fun b hb => noneC b (e0.frf b hb), hokc, e0.bare⟩
  have C : CellsAt F.cl fr (ws.map some) s.heap (cut (cellsOf F.nf fr) H) := by
    refine ⟨by rw [List.length_map]; exact hc.len, fun y c e => ?_, hc.inj, fun i y e => ?_⟩
    · have hb : c ∈ cellsOf F.nf fr := mem_cells.mpr ⟨y, hc.dom y c e, e⟩
      obtain ⟨u, z⟩ := isC c hb
      exact ⟨cut_in hb, _, z⟩
    · obtain ⟨c, v, a, b, d⟩ := hc.at_ i y e
      refine ⟨c, a, fun v' e' => ?_⟩
      rw [List.getElem?_map, b] at e'
      cases e'
      obtain ⟨u, r', z⟩ := d.at_ e0.hok
      exact ⟨u, r', z⟩
  refine codeAny_mono (lam_run S hb len hbody A outer s (cut (cellsOf F.nf fr) H) us vs (ws.map some) _ E hr e1 (by rw [cut_out fnout]; exact hc.fn) (by rw [cut_out cout]; exact hc.code) C r hsp) fun res s' hq => ?_
  cases res with
  | error e => exact hq
  | ok fl =>
    cases fl with
    | next => exact hq
    | brk => exact hq
    | cont => exact hq
    | ret u =>
      obtain ⟨v, H1, os, bare, un, hok1, rv, q⟩ := hq
      have gone : ∀ b, b ∈ cellsOf F.nf fr → H1 b = Option.none := fun b hb => by
        obtain ⟨u, o, z1, z2⟩ := isC b hb
        exact un.free b o z1 (cut_in hb) (by simp)
      have notfr : ∀ b, b ∈ cellsOf F.nf fr → b ∉ frs outer := fun b hb z => by
        obtain ⟨v, φ, d, _⟩ := cellAt b hb
        rw [e0.frf b z] at d
        cases d
      refine ⟨v, mend (cellsOf F.nf fr) H H1, os, bare, ⟨fun b o a n h1 h2 => un.keep b o a (noneC b n) h1 h2, fun b o a n h1 h2 => un.slot b o a (noneC b n) h1 h2, fun b o a n h2 => ?_, un.there, fun b xs e => ?_, fun b o u e => ?_, fun b ps e => ?_⟩, fun b o e => ?_, rv, q gone⟩
      · by_cases hb : b ∈ cellsOf F.nf fr
        · rw [mend_in hb]
          exact n
        · rw [mend_out hb]
          exact un.free b o a (noneC b n) h2
      · have hb := hc.out e (fun φ z => nomatch z)
        rw [mend_out hb]
        exact un.tups b xs (by rw [cut_out hb]; exact e)
      · have hb := hc.out e (fun φ z => nomatch z)
        rw [mend_out hb]
        exact un.frzs b o u (by rw [cut_out hb]; exact e)
      · have hb := hc.out e (fun φ z => nomatch z)
        rw [mend_out hb]
        exact un.tbls b ps (by rw [cut_out hb]; exact e)
      · by_cases hb : b ∈ cellsOf F.nf fr
        · rw [mend_in hb] at e
          obtain ⟨v', φ, d, _⟩ := cellAt b hb
          rw [d] at e
          cases e
          obtain ⟨z, ⟨o', z1⟩, st⟩ := e0.hok b _ d
          have z2 := un.keep b o' z1 (cut_in hb) (notfr b hb) (by simp)
          refine ⟨st _ _ z (fun x hx => ?_), ⟨o', z2⟩, st⟩
          rw [z1] at hx
          cases hx
          exact z2
        · rw [mend_out hb] at e
          refine (hok1 b o e).stay (fun c u _ q => q) (fun c q => ?_) fun c xs q => ?_
          · have hb' : c ∉ cellsOf F.nf fr := fun z => by
              rw [gone c z] at q
              cases q
            rw [mend_out hb']
            exact q
          · have hb' : c ∉ cellsOf F.nf fr := fun z => by
              rw [gone c z] at q
              cases q
            rw [mend_out hb']
            exact q
end
/-! ### a call while the def's cells are told -/
/-- HT is H with the def's cells cs told -/
structure Tel (cells : List (Str × Addr)) (names : List (Str × NameKind)) (N : List Str) (σ : L2.St) (H : Hp) (cs : List Addr) (HT : Hp) : Prop where
  no : ∀ b, b ∈ cs → H b = Option.none
  ext : ∀ b, b ∈ cs → ∃ φ, HT b = some (.ext φ)
  out : ∀ b, b ∉ cs → HT b = H b
  inj : ∀ x y c, cells.lookup x = some c → cells.lookup y = some c → x = y
  has : ∀ y, names.lookup y = some .cell → ∃ c, cells.lookup y = some c
  at_ : ∀ (i : Nat) (y : Str) (c : Addr) (v : V), N[i]? = some y → names.lookup y = some .cell → cells.lookup y = some c → σ[i]? = some (some v) → CellAt HT c v
  nc : ∀ b, b ∈ cs → ∀ q, HT b ≠ some (CodeO b q)
  mem : ∀ y c, cells.lookup y = some c → c ∈ cs
theorem Tel.same {cells : List (Str × Addr)} {names : List (Str × NameKind)} {N : List Str} {σ : L2.St} {H HT : Hp} {cs : List Addr} (t : Tel cells names N σ H cs HT) : Same H HT := fun b o e => by
  rw [t.out b fun z => by rw [t.no b z] at e; cases e]
  exact e
theorem Tel.cut_at {cells : List (Str × Addr)} {names : List (Str × NameKind)} {N : List Str} {σ : L2.St} {H HT H1 : Hp} {cs : List Addr} (t : Tel cells names N σ H cs HT) (g : ∀ b, b ∈ cs → H1 b = HT b) {b : Addr} {o : HO} (e : H1 b = some o) (n : ∀ φ, o ≠ .ext φ) : cut cs H1 b = some o := by
  rw [cut_out fun z => ?_]
  · exact e
  · obtain ⟨φ, f⟩ := t.ext b z
    rw [g b z, f] at e
    exact n _ (Option.some.inj e).symm
theorem Tel.cut_same {cells : List (Str × Addr)} {names : List (Str × NameKind)} {N : List Str} {σ : L2.St} {H HT H1 : Hp} {cs : List Addr} (t : Tel cells names N σ H cs HT) (s : Same HT H1) : Same H (cut cs H1) := fun b o e => by
  rw [cut_out fun z => by rw [t.no b z] at e; cases e]
  exact s _ _ (t.same _ _ e)
theorem Tel.back {cells : List (Str × Addr)} {names : List (Str × NameKind)} {N : List Str} {σ : L2.St} {H HT : Hp} {cs : List Addr} (t : Tel cells names N σ H cs HT) : cut cs HT = H := funext fun b => by
  by_cases hb : b ∈ cs
  · rw [cut_in hb, t.no b hb]
  · rw [cut_out hb, t.out b hb]
theorem mend_cut {cs : List Addr} {H : Hp} : mend cs H (cut cs H) = H := funext fun b => by
  by_cases hb : b ∈ cs
  · rw [mend_in hb]
  · rw [mend_out hb, cut_out hb]
/-- a lambda that was made in the def, while the def's cells are told -/
theorem Tel.lclo {cells : List (Str × Addr)} {names : List (Str × NameKind)} {N : List Str} {σ : L2.St} {H HT : Hp} {cs : List Addr} (t : Tel cells names N σ H cs HT) {NL psL fr : List Str} {F : LF} {f : Addr} {js : List Nat} {ws : List V}
    (S : NScope NL psL fr F.scope) (hcl : F.cl = cloFrom cells F.scope.names []) (hfree : ∀ y ∈ fr, names.lookup y = some .cell)
    (hN : js.map (fun j => N[j]?) = fr.map some) (hσ : js.map (fun j => σ[j]?) = ws.map fun v => some (some v))
    (hf : H f = some (LamO f F)) (hc : H F.c = some (CodeO F.c F.qual)) : LClo HT f F fr ws := by
  have hfr : ∀ y ∈ F.scope.names, y.2 = .free → ∃ c, cells.lookup y.1 = some c := fun y hy e => t.has _ (hfree _ (S.free y hy e))
  have l1 := congrArg List.length hN
  have l2 := congrArg List.length hσ
  rw [List.length_map, List.length_map] at l1 l2
  refine ⟨t.same _ _ hf, t.same _ _ hc, by omega, fun y c e => ?_, fun x y c e1 e2 => ?_, fun i y e => ?_⟩
  · rw [hcl] at e
    rcases cloFrom_mem (PySem.mem_of_lookup e) with h | ⟨h, _⟩
    · cases h
    · exact S.free _ h rfl
  · rw [hcl] at e1 e2
    exact t.inj x y c (clo_cm hfr e1) (clo_cm hfr e2)
  · have my : y ∈ fr := List.mem_of_getElem? e
    obtain ⟨c, hc⟩ := t.has y (hfree y my)
    have li : i < fr.length := (List.getElem?_eq_some_iff.mp e).1
    obtain ⟨j, hj⟩ : ∃ j, js[i]? = some j := ⟨_, List.getElem?_eq_getElem (by omega)⟩
    obtain ⟨v, hv⟩ : ∃ v, ws[i]? = some v := ⟨_, List.getElem?_eq_getElem (by omega)⟩
    have n1 : (js.map fun j => N[j]?)[i]? = some (some y) := by
      rw [hN, List.getElem?_map, e]
      rfl
    have n2 : (js.map fun j => σ[j]?)[i]? = some (some (some v)) := by
      rw [hσ, List.getElem?_map, hv]
      rfl
    rw [List.getElem?_map, hj] at n1 n2
    exact ⟨c, v, by rw [hcl]; exact clo_has hfr (PySem.mem_of_lookup (S.frk y my)) hc, hv, t.at_ j y c v (Option.some.inj n1) (hfree y my) hc (Option.some.inj n2)⟩
/-- the cells of such a lambda are the def's own -/
theorem Tel.lin {cells : List (Str × Addr)} {names : List (Str × NameKind)} {N : List Str} {σ : L2.St} {H HT : Hp} {cs : List Addr} (t : Tel cells names N σ H cs HT) {NL psL fr : List Str} {F : LF}
    (S : NScope NL psL fr F.scope) (hcl : F.cl = cloFrom cells F.scope.names []) (hfree : ∀ y ∈ fr, names.lookup y = some .cell) : ∀ b, b ∈ cellsOf F.nf fr → b ∈ cs := fun b hb => by
  have hfr : ∀ y ∈ F.scope.names, y.2 = .free → ∃ c, cells.lookup y.1 = some c := fun y hy e => t.has _ (hfree _ (S.free y hy e))
  obtain ⟨y, hy, e⟩ := mem_cells.mp hb
  have e : F.cl.lookup y = some b := e
  rw [hcl] at e
  exact t.mem _ _ (clo_cm hfr e)
section
variable {X : Cx} {pins : List (Addr × Obj)} {σ : L2.St} {H : Hp} {s : Shared}
def frCells (l : List (Str × Addr)) : List Addr := l.filterMap fun p => l.lookup p.1
theorem mem_frCells {l : List (Str × Addr)} {b : Addr} (h : b ∈ frCells l) : ∃ x, l.lookup x = some b := by
  obtain ⟨p, _, e⟩ := List.mem_filterMap.mp h
  exact ⟨p.1, e⟩
theorem frCells_mem {l : List (Str × Addr)} {x : Str} {b : Addr} (h : l.lookup x = some b) : b ∈ frCells l := List.mem_filterMap.mpr ⟨(x, b), PySem.mem_of_lookup h, h⟩
theorem tel_run {k : Nat} {f : Addr} {fd : FuncData} {ps : List Str} {ds : List Value} {dvs : List V} {sp : Sp} {Q : VK} {us : List Value} {vs : List V} (F : FnOk X.prog X.w X.K X.mg X.base CX0 k f fd ps sp) (hr : Room k X.A) (hb : Binds X.K fd ps ds) (hd : Vals dvs ds) (hfn : ∀ x, X.fn x = true)
    (I : Inv X pins σ H s) (r : Vals vs us) (h : ∀ cs HT, Tel X.env.cells X.env.scope.names X.N σ H cs HT → sp (vs ++ dvs) HT (fun v H1 => (∀ b, b ∈ cs → H1 b = HT b) ∧ Q v (cut cs H1)) E0) : wpAny (model X.prog X.w) X.A (call (.ref f) us) (EP X pins σ Q) X.xe s := by
  let cs := frCells X.env.cells
  let HT : Hp := fun b => if b ∈ cs then (match s.heap.get? b with | some o => some (.ext fun h => h.get? b = some o) | Option.none => Option.none) else H b
  have big : ∀ b, b ∈ cs → X.s_0.heap.objs.size ≤ b := fun b hb => by
    obtain ⟨x, e⟩ := mem_frCells hb
    exact I.ok.cab x b (hfn x) e
  have no : ∀ b, b ∈ cs → H b = Option.none := fun b hb => by
    obtain ⟨x, e⟩ := mem_frCells hb
    exact I.freeC x b e
  have inT : ∀ b, b ∈ cs → ∃ v o, s.heap.get? b = some o ∧ o.data = .cell v ∧ HT b = some (.ext fun h => h.get? b = some o) := fun b hb => by
    obtain ⟨x, e⟩ := mem_frCells hb
    obtain ⟨v, o, e1, e2⟩ := I.cell x b e
    refine ⟨v, o, e1, e2, ?_⟩
    show (if b ∈ cs then _ else _) = _
    rw [if_pos hb, e1]
  have outT : ∀ b, b ∉ cs → HT b = H b := fun b hb => if_neg hb
  have nonT : ∀ b, b ∉ cs → H b = Option.none → HT b = Option.none := fun b hb e => (outT b hb).trans e
  have T : Tel X.env.cells X.env.scope.names X.N σ H cs HT := by
    refine ⟨no, fun b hb => ?_, outT, I.ok.inj, fun y h => I.ok.has _ (.inl h), fun i y c v h1 h2 h3 h4 => ?_, fun b hb q hq => ?_, fun y c e => frCells_mem e⟩
    · obtain ⟨v, o, _, _, e⟩ := inT b hb
      exact ⟨_, e⟩
    · obtain ⟨v', o, e1, e2, e3⟩ := inT c (frCells_mem h3)
      obtain ⟨m, hn, hl⟩ := I.loc
      obtain ⟨u, ru, lk⟩ := hl i y v h1 h4 (.inr (.inl h2))
      refine ⟨_, e3, fun h hh => ⟨u, ru, o, hh, ?_⟩⟩
      rcases lk with ⟨z, _⟩ | ⟨_, c', hc', hcell⟩
      · have z' : X.env.scope.names.lookup y = some .local := z
        rw [h2] at z'
        cases z'
      · rw [h3] at hc'
        cases hc'
        obtain ⟨o', g1, g2⟩ := hcell
        rw [e1] at g1
        cases g1
        exact g2
    · obtain ⟨v, o, e1, e2, e3⟩ := inT b hb
      rw [e3] at hq
      have hq := HO.ext.inj (Option.some.inj hq)
      have hq := (congrFun hq s.heap).mp e1
      obtain ⟨oc, vs, t, g1, g2, _⟩ := hq
      rw [e1] at g1
      cases g1
      rw [e2] at g2
      cases g2
  have ncs : ∀ b, b < X.s_0.heap.objs.size → b ∉ cs := fun b l m => Nat.not_lt.mpr (big b m) l
  have e0 := I.env0
  have notfr : ∀ b, b ∈ frs X.stack → b ∉ cs := fun b hb m => by
    rcases List.mem_cons.mp (I.stkSub b hb) with e | hb'
    · obtain ⟨x, ex⟩ := mem_frCells m
      exact I.cne x b ex e
    · obtain ⟨_, o, ho, _⟩ := I.ok.funs.mem hb'
      exact ncs b (Heap.lt_size ho) m
  have nonext : ∀ {b : Addr} {o : HO}, H b = some o → b ∉ cs := fun e m => by
    rw [no _ m] at e
    cases e
  have e1 : Env0 X.prog X.w X.K X.mg X.base X.A X.stack s HT := by
    refine ⟨e0.frames, e0.mod, fun b o q => ⟨(e0.bs b o q).1, nonT b (ncs b (Nat.lt_of_lt_of_le (Heap.lt_size q) I.ok.bsz)) (e0.bs b o q).2⟩, e0.bsz, e0.funs, fun b hb => nonT b (notfr b hb) (e0.frf b hb), fun b o e => ?_, e0.bare⟩
    by_cases hb : b ∈ cs
    · obtain ⟨v, o', g1, g2, g3⟩ := inT b hb
      rw [g3] at e
      cases e
      exact ⟨g1, ⟨o', g1⟩, fun h1 h2 z k => k _ z⟩
    · rw [outT b hb] at e
      refine (e0.hok b o e).stay (fun c u _ q => q) (fun c q => ?_) fun c xs q => ?_
      · rw [outT c (nonext q)]
        exact q
      · rw [outT c (nonext q)]
        exact q
  have hq0 := h cs HT T
  have r2 : Vals (vs ++ dvs) (us ++ ds) := r.append hd
  have hl : (us ++ ds).length = ps.length := by rw [← r2.length]; exact F.len _ _ _ _ hq0
  refine wpAny_call (codeAny_mono (F.run X.A X.stack s HT ⟨us, []⟩ (us ++ ds) (vs ++ dvs) _ E0 hr e1 (hb s us I.kIn hl) r2 hq0) fun r s' hq => ?_)
  cases r with
  | error e => exact False.elim hq
  | ok fl =>
    cases fl with
    | next => exact False.elim hq
    | brk => exact False.elim hq
    | cont => exact False.elim hq
    | ret u =>
      obtain ⟨v, H1, os, bare, un, hok1, rv, kc, q⟩ := hq
      have notin : ∀ {b : Addr} {o : HO}, H1 b = some o → (∀ φ, o ≠ .ext φ) → b ∉ cs := fun {b o} e n m => by
        obtain ⟨v, o', _, _, g3⟩ := inT b m
        rw [kc b m, g3] at e
        exact n _ (Option.some.inj e).symm
      have keepC : ∀ b o, b ∈ cs → s.heap.get? b = some o → s'.heap.get? b = some o := fun b o m e => by
        obtain ⟨v, o', g1, _, g3⟩ := inT b m
        rw [g1] at e
        cases e
        have := hok1 b _ ((kc b m).trans g3)
        exact this.1
      refine I.after ⟨v, cut cs H1, os, bare, ⟨fun b o a n h1 h2 => ?_, fun b o a n h1 h2 => ?_, fun b o a n h2 => ?_, un.there, fun b xs e => ?_, fun b o u e => ?_, fun b ps e => ?_⟩, fun b o e => ?_, rv, q⟩
      · by_cases m : b ∈ cs
        · exact keepC b o m a
        · exact un.keep b o a (nonT b m n) h1 h2
      · exact un.slot b o a (nonT b (notfr b h1) n) h1 h2
      · by_cases m : b ∈ cs
        · exact cut_in m
        · rw [cut_out m]
          exact un.free b o a (nonT b m n) h2
      · have m := nonext e
        rw [cut_out m]
        exact un.tups b xs ((outT b m).trans e)
      · have m := nonext e
        rw [cut_out m]
        exact un.frzs b o u ((outT b m).trans e)
      · have m := nonext e
        rw [cut_out m]
        exact un.tbls b ps ((outT b m).trans e)
      · by_cases m : b ∈ cs
        · rw [cut_in m] at e
          cases e
        · rw [cut_out m] at e
          refine (hok1 b o e).stay (fun c u _ q => q) (fun c q => ?_) fun c xs q => ?_
          · rw [cut_out (notin q (fun φ z => nomatch z))]
            exact q
          · rw [cut_out (notin q (fun φ z => nomatch z))]
            exact q
end
/-- f(..) while the cells are told -/
def tCallT (X : Cx) (sp : Sp) (dvs : List V) (t : TA) : TE := fun σ H Q => t σ H fun vs H1 => ∀ cs HT, Tel X.env.cells X.env.scope.names X.N σ H1 cs HT → sp (vs ++ dvs) HT (fun v H2 => (∀ b, b ∈ cs → H2 b = HT b) ∧ Q v (cut cs H2)) E0
theorem pe_callT {X : Cx} {k : Nat} {f : Addr} {fd : FuncData} {ps : List Str} {ds : List Value} {dvs : List V} {sp : Sp} {x : Str} {p pos : Pos} {e : Expr} {es : List Expr} {t : TA} (hfn : ∀ x, X.fn x = true) (F : FnOk X.prog X.w X.K X.mg X.base CX0 k f fd ps sp) (hr : Room k X.A) (hg : Gl X x) (hm : X.mg x = some (.ref f)) (hk : PySem.W.keepIn X.K (.ref f) = true) (hb : Binds X.K fd ps ds) (hd : Vals dvs ds)
    (ha : PA X (e :: es) t) (hdb : (x == ("__debug__" : Str)) = false := by decide) (he : starEach (e :: es) X.env = (false, eval e X.env) :: starEach es X.env := by rfl) (hpl : (backTo pos (starEach es X.env)).any (·.1) = false := by rfl) :
    PE X (.Call (.Name x p) (e :: es) [] pos) (tCallT X sp dvs t) := by
  refine ⟨fun pins s σ H Q I h => ?_⟩
  refine wpAny_Call_Name_kw (ld_glob I hg hm ?_ hdb)
  refine PySem.W.callWith_K (h₀ := X.base) I.ok.mod.kin hk (thn (ha.run pos pins s σ H _ I h) fun us s1 ⟨vs, H1, I1, r, q⟩ => ⟨I1.kIn, ?_⟩) he hpl
  exact tel_run F hr hb hd hfn I1 r q
section
variable {X : Cx} {pins : List (Addr × Obj)} {σ : L2.St} {H : Hp} {s : Shared}
/-- a lambda in a def that makes functions by name, too: the table knows the names by their places -/
theorem lam_toldP {T : List NTab} {nm : Nat → Nat → Str} {c P : Addr} {params : Arguments} {body : Expr} {scope : Scope} {pos : Pos} {E : Value → Shared → Prop} {Q : Value → Shared → Prop} (I : Inv X pins σ H s) (TB : TabB X.base X.mg c P) (hcode : X.env.code = .ref c)
    (hm : (P, nm) ∈ T) (hn : nm pos.line pos.col = X.env.qual ++ "<lambda>") (hu : ∀ p ∈ T, p.1 = P → p.2 = nm) (hT : TabsN T H) (hdef : defaultsOf params X.env = ([], [])) (hfree : ∀ y ∈ scope.names, y.2 = .free → ∃ c, X.env.cells.lookup y.1 = some c)
    (h : ∀ (f c' : Addr) (H1 : Hp) (s' : Shared), Inv X pins σ H1 s' → (∀ b o, H b = some o → b ≠ P → H1 b = some o) → (∀ b, H1 b = Option.none → H b = Option.none) → TabsN T H1 → H f = none → H1 f = some (LamO f ⟨X.env.qual ++ "<lambda>", params, body, scope, cloFrom X.env.cells scope.names [], c'⟩) → H1 c' = some (CodeO c' (X.env.qual ++ "<lambda>")) → Q (.ref f) s') :
    wpAny (model X.prog X.w) X.A (eval (.Lambda params body scope pos) X.env) Q E s := by
  obtain ⟨ps, hP, ht, ha⟩ := (show TabN H P nm from hT _ hm)
  have bP := TB.bm.keeps (h' := s.heap) I.bk
  have gP : s.heap.get? P = some { cls := .none, data := .fields ps } := I.hok P _ hP
  refine PySem.W.kla_eval hdef ?_
  cases cd : codeAmong pos ps.toList with
  | none =>
    refine PySem.W.kla_makeFunction (mg := X.mg) (c := c) (P := P) (ps := ps) (closure_ok hfree) I.ok.glob (I.mod.glob.keeps I.bk) hcode (TB.code.keeps I.bk) gP ht cd TB.gP bP fun c' ctv h' tk hx hge hlt hrec htb => ?_
    obtain ⟨c2, oc, vs, t, e2, hoc, hd, hv⟩ := hrec
    cases e2
    have nC : H c' = none := I.hok.fresh hge
    have I1 := inv_table (q := X.env.qual ++ "<lambda>") (t' := tk) (more := #[rawInt pos.line, rawInt pos.col, .ref c']) (h' := h') I hP hx htb hge ⟨oc, vs, t, hoc, hd, hv⟩
    have hE : ExtN H (upd (upd H P (.tbl (ps ++ #[rawInt pos.line, rawInt pos.col, .ref c']))) c' (CodeO c' (X.env.qual ++ "<lambda>"))) := fun b o e n => by
      rw [upd_ne (ne_of_none e nC), upd_ne (fun z => n ps (Option.some.inj (e.symm.trans (by rw [z]; exact hP))))]
      exact e
    have eL : (ps ++ #[rawInt pos.line, rawInt pos.col, .ref c']).toList = ps.toList ++ [rawInt pos.line, rawInt pos.col, .ref c'] := by simp
    have T1 : TabsN T (upd (upd H P (.tbl (ps ++ #[rawInt pos.line, rawInt pos.col, .ref c']))) c' (CodeO c' (X.env.qual ++ "<lambda>"))) := fun p hp => by
      by_cases hb : p.1 = P
      · rw [hu p hp hb, hb]
        refine ⟨_, by rw [upd_ne (ne_of_none hP nC), upd_same], by rw [eL]; exact PySem.TriplesOk_snoc _ _ _ _ ht, fun p' cv hcv => ?_⟩
        rw [eL] at hcv
        rcases among_app2 _ ht hcv with z | ⟨z, z1, z2⟩
        · obtain ⟨c0, e1, e2⟩ := ha p' cv z
          exact ⟨c0, e1, hE _ _ e2 codeO_ne⟩
        · refine ⟨c', z, ?_⟩
          rw [← z1, ← z2, hn]
          exact upd_same
      · obtain ⟨ps', a1, a2, a3⟩ := hT p hp
        refine ⟨ps', by rw [upd_ne (ne_of_none a1 nC), upd_ne hb]; exact a1, a2, fun p' cv hcv => ?_⟩
        obtain ⟨c0, e1, e2⟩ := a3 p' cv hcv
        exact ⟨c0, e1, hE _ _ e2 codeO_ne⟩
    have nF := I1.hok.fresh (Nat.le_refl h'.objs.size)
    have I2 := I1.laid (a := h'.objs.size) (o := LamO h'.objs.size ⟨X.env.qual ++ "<lambda>", params, body, scope, cloFrom X.env.cells scope.names [], c'⟩) (h' := h'.push (PySem.W.kla_obj "<lambda>" (X.env.qual ++ "<lambda>") params body scope (cloFrom X.env.cells scope.names []) ((X.mg "__name__").getD .none) c' ctv)) (t' := tk)
      (fun b u z => Heap.get?_push_of_some _ z) (Nat.le_refl _) (lamO_ok ⟨_, _, Heap.get?_push_size _ rfl⟩)
    have hX : ∀ b o, H b = some o → b ≠ P → (upd (upd H P (.tbl (ps ++ #[rawInt pos.line, rawInt pos.col, .ref c']))) c' (CodeO c' (X.env.qual ++ "<lambda>"))) b = some o := fun b o e n => by
      rw [upd_ne (ne_of_none e nC), upd_ne n]
      exact e
    refine h h'.objs.size c' _ _ I2 (fun b o e n => ?_) (fun b e => NdefX.upd_none (NdefX.upd_none (NdefX.upd_none e))) (T1.ext fun b o e => ?_) (I.hok.fresh (Nat.le_trans hge (Nat.le_of_lt hlt))) upd_same ?_
    · have e1 := hX b o e n
      exact (upd_ne (ne_of_none e1 nF)).trans e1
    · exact (upd_ne (ne_of_none e nF)).trans e
    · exact (upd_ne (Nat.ne_of_lt hlt)).trans upd_same
  | some cv =>
    obtain ⟨c', e, hco⟩ := ha pos cv cd
    subst e
    rw [hn] at hco
    refine PySem.W.kla_makeFunctionHit (mg := X.mg) (c := c) (P := P) (ps := ps) (closure_ok hfree) I.ok.glob (I.mod.glob.keeps I.bk) hcode (TB.code.keeps I.bk) gP ht cd bP fun ctv h' tk hx hsz => ?_
    have I0 : Inv X pins σ H { s with heap := h', toks := tk } := I.kept hx
    have nF : H h'.objs.size = none := I0.hok.fresh (Nat.le_refl _)
    have I2 := I0.laid (a := h'.objs.size) (o := LamO h'.objs.size ⟨X.env.qual ++ "<lambda>", params, body, scope, cloFrom X.env.cells scope.names [], c'⟩) (h' := h'.push (PySem.W.kla_obj "<lambda>" (X.env.qual ++ "<lambda>") params body scope (cloFrom X.env.cells scope.names []) ((X.mg "__name__").getD .none) c' ctv)) (t' := tk)
      (fun b u z => Heap.get?_push_of_some _ z) (Nat.le_refl _) (lamO_ok ⟨_, _, Heap.get?_push_size _ rfl⟩)
    refine h h'.objs.size c' _ _ I2 (fun b o e n => ?_) (fun b e => NdefX.upd_none e) (hT.ext fun b o e => ?_) nF upd_same ?_
    · exact (upd_ne (ne_of_none e nF)).trans e
    · exact (upd_ne (ne_of_none e nF)).trans e
    · exact (upd_ne (ne_of_none hco nF)).trans hco
end
def tLamP (T : List NTab) (P : Addr) (F : Addr → LF) : TE := fun σ H Q => TabsN T H ∧ ∀ (f c' : Addr) (H1 : Hp), (∀ b o, H b = some o → b ≠ P → H1 b = some o) → (∀ b, H1 b = Option.none → H b = Option.none) → TabsN T H1 → H f = none → H1 f = some (LamO f (F c')) → H1 c' = some (CodeO c' (F c').qual) → Q (.ref f) H1
theorem pe_lamP {X : Cx} {T : List NTab} {nm : Nat → Nat → Str} {c P : Addr} {params : Arguments} {body : Expr} {scope : Scope} {pos : Pos} (TB : TabB X.base X.mg c P) (hcode : X.env.code = .ref c) (hm : (P, nm) ∈ T) (hn : nm pos.line pos.col = X.env.qual ++ "<lambda>") (hu : ∀ p ∈ T, p.1 = P → p.2 = nm)
    (hdef : defaultsOf params X.env = ([], [])) (hfree : ∀ y ∈ scope.names, y.2 = .free → X.env.scope.names.lookup y.1 = some .cell ∨ X.env.scope.names.lookup y.1 = some .free) :
    PE X (.Lambda params body scope pos) (tLamP T P fun c' => ⟨X.env.qual ++ "<lambda>", params, body, scope, cloFrom X.env.cells scope.names [], c'⟩) := by
  refine ⟨fun pins s σ H Q I h => ?_⟩
  obtain ⟨hT, q⟩ := h
  exact lam_toldP I TB hcode hm hn hu hT hdef (fun y hy e => (hfree y hy e).elim (fun z => I.ok.has _ (.inl z)) fun z => I.ok.has _ (.inr z)) fun f c' H1 s' I1 e1 n1 t1 nf hf hc => ⟨.ref f, H1, I1, rfl, q f c' H1 e1 n1 t1 nf hf hc⟩
/-! ### f(e, ..), f a name that holds a function that was made in a def -/
def tActP (P : Program) (w : World) (K : PySem.W.Frag) (mg : Str → Option Value) (base : Heap) (CX : CXT) (k i : Nat) (E : L2.St → XK) (t : TA) : TE := fun σ H Q => ∃ f, σ[i]? = some (some (.ref f)) ∧ t σ H fun vs H1 => ∃ o sp, H1 f = some o ∧ FnHO f o ∧ FnR P w K mg base CX k f sp ∧ sp vs H1 Q (E σ)
theorem lamHO2 {f : Addr} {F : LF} : FnHO f (LamO f F) := lamHO
theorem pe_actP {X : Cx} {CX : CXT} {k i : Nat} {E : L2.St → XK} {x : Str} {e : Expr} {es : List Expr} {t : TA} {p pos : Pos} (hN : X.N[i]? = some x) (hv : Vis X.env.scope x) (hr : Room k X.A) (hx : ∀ σ, PassesAt CX X σ (E σ)) (ha : PA X (e :: es) t) (hd : (x == ("__debug__" : Str)) = false := by decide) (hcd : (x == ("__classdict__" : Str)) = false := by decide)
    (he : starEach (e :: es) X.env = (false, eval e X.env) :: starEach es X.env := by rfl) (hpl : (backTo pos (starEach es X.env)).any (·.1) = false := by rfl) : PE X (.Call (.Name x p) (e :: es) [] pos) (tActP X.prog X.w X.K X.mg X.base CX k i E t) := by
  refine ⟨fun pins s σ H Q I h => ?_⟩
  obtain ⟨f, hs, h⟩ := h
  refine wpAny_Call_Name_kw (thn ((pe_var (pos := p) hN hv hd hcd).run pins s σ H (fun v H1 => v = .ref f ∧ H1 = H) I ⟨.ref f, hs, rfl, rfl⟩) fun u s1 ⟨v, H1, I1, r1, ev, eH⟩ => ?_)
  subst ev
  rw [eH] at I1
  obtain rfl : u = Value.ref f := r1
  rw [he]
  refine PySem.W.callWith_of (P := PySem.W.FnAt f) (by show ((false || (backTo pos (starEach es X.env)).any (·.1)) || false) = false; rw [hpl]; rfl) PySem.W.keeps_F (PySem.Calls.evalArgs_plain (?_ : wpAny _ _ (spliced (backTo pos ((false, eval e X.env) :: starEach es X.env))) _ _ _))
  rw [← he]
  exact thn (ha.run pos pins s1 σ H _ I1 h) fun us s2 ⟨vs, H2, I2, r, o, sp, hf, ho, hF, q⟩ => ⟨ho _ _ _ _ I2.hok hf, run_fnE hF hr (hx σ) I2 r q⟩
/-! ### f( *values), f a name that holds a function: one of a def, or one of the module -/
def FnIs (K : PySem.W.Frag) (H : Hp) (f : Addr) : Prop := (∃ o, H f = some o ∧ FnHO f o) ∨ ∃ (oc : Value) (od : Option Addr) (fd : FuncData) (sl : Array (Option Value)), K.lookup f = some ⟨oc, od, .func fd, sl⟩
theorem FnIs.at_ {K : PySem.W.Frag} {P : Program} {w : World} {H : Hp} {h : Heap} {f : Addr} (g : FnIs K H f) (hok : HOk P w H h) (k : K.In h) : PySem.W.FnAt f h := by
  rcases g with ⟨o, e, z⟩ | ⟨oc, od, fd, sl, e⟩
  · exact z _ _ _ _ hok e
  · exact ⟨_, _, _, _, k _ _ e⟩
def tActG (P : Program) (w : World) (K : PySem.W.Frag) (mg : Str → Option Value) (base : Heap) (CX : CXT) (k i : Nat) (E : L2.St → XK) (te : TE) : TE := fun σ H Q => ∃ f, σ[i]? = some (some (.ref f)) ∧ te σ H fun y H1 => ∃ a xs sp, y = V.ref a ∧ (SqT K H1 a xs ∨ SqL K H1 a xs) ∧ FnIs K H1 f ∧
  FnR P w K mg base CX k f sp ∧ sp xs H1 Q (E σ)
theorem pe_actG {X : Cx} {CX : CXT} {k i : Nat} {E : L2.St → XK} {x : Str} {e : Expr} {te : TE} {p sp_ pos : Pos} (hN : X.N[i]? = some x) (hv : Vis X.env.scope x) (hr : Room k X.A) (hx : ∀ σ, PassesAt CX X σ (E σ)) (he : PE X e te) (hd : (x == ("__debug__" : Str)) = false := by decide) (hcd : (x == ("__classdict__" : Str)) = false := by decide)
    (hst : starEach [.Starred e sp_] X.env = [(true, eval e X.env)] := by rfl) : PE X (.Call (.Name x p) [.Starred e sp_] [] pos) (tActG X.prog X.w X.K X.mg X.base CX k i E te) := by
  refine ⟨fun pins s σ H Q I h => ?_⟩
  obtain ⟨f, hs, h⟩ := h
  refine wpAny_Call_Name_kw (thn ((pe_var (pos := p) hN hv hd hcd).run pins s σ H (fun v H1 => v = .ref f ∧ H1 = H) I ⟨.ref f, hs, rfl, rfl⟩) fun u s1 ⟨v, H1, I1, r1, ev, eH⟩ => ?_)
  subst ev
  rw [eH] at I1
  obtain rfl : u = Value.ref f := r1
  rw [show backTo pos (starEach [.Starred e sp_] X.env) = [(true, (do let v ← eval e X.env; standAt pos; pure v))] by rw [hst]; rfl]
  refine PySem.W.ks_call (P := PySem.W.FnAt f) rfl PySem.W.keeps_F (PySem.W.ks_lone ?_)
  refine thn (he.run pins s1 σ H _ I1 h) fun v s2 ⟨y, H2, I2, ry, a, xs, sp, ey, hxs, hf, hF, q⟩ => ?_
  subst ey
  obtain rfl : v = Value.ref a := ry
  exact StX.star_any I2 hxs fun us s3 I3 rv => ⟨hf.at_ I3.hok I3.kIn, run_fnE hF hr (hx σ) I3 rv q⟩
end Inf

set_option Elab.async false
set_option linter.all false
set_option maxRecDepth 100000
set_option maxHeartbeats 4000000
namespace Inf
open PySem PySem.Spec PyProof.Rows L2 NdefX LamX
/-! ### min(xs, default=d) -/
/-- what the walk has kept behind j items -/
def OldAt (P : Nat → Value → Prop) (bt : Nat → Nat → Bool) : Nat → Array Value → Prop
  | 0, old => old = #[]
  | j + 1, old => ∃ v, old = #[v, v] ∧ P (argBest bt j) v
/-- what it ends with -/
def EndAt (P : Nat → Value → Prop) (bt : Nat → Nat → Bool) (n : Nat) (d v : Value) : Prop := (n = 0 ∧ v = d) ∨ (0 < n ∧ P (argBest bt (n - 1)) v)
def kwD (d : Value) : List (Str × Value) := [(Str.ofString "default", d)]
theorem nameD : (toString "min" ++ toString ".loop" : String) = "min.loop" := by decide
theorem minD_loop {prog : Program} {w : World} {A : Around} {R : Result → Shared → Prop} {I : Addr} {fp wr : List Addr} {n : Nat} {P : Nat → Value → Prop} {St : Nat → Heap → Prop} (W : Walks prog w A.in1 I fp wr n P St) {bt : Nat → Nat → Bool} (hc : CmpOf prog w A.in1 .Lt P bt) {S : Addr} (hSf : S ∉ fp) (d : Value) :
    ∀ (k j : Nat) (s : Shared) (old : Array Value) (c : Nat), n = j + k → St j s.heap → OldAt P bt j old → s.heap.get? S = some { cls := .type "list", dict := none, data := .seq old c, slots := #[] } →
      (∀ v h' tk, EndAt P bt n d v → (∀ b o, b ∉ wr → b ≠ S → s.heap.get? b = some o → h'.get? b = some o) → R (.ok (.ret v)) { s with heap := h', toks := tk }) → codeAny (model prog w) A (.builtin "min.loop" ⟨[.ref I, .none, .ref S], kwD d⟩) R s := by
  have hSw : S ∉ wr := fun h => hSf (W.sub _ h)
  intro k
  induction k with
  | zero =>
    intro j s old c hk hst ho hS hR
    obtain rfl : n = j := hk
    refine codeAny_builtin F.entry_min_loop (?_ : wpAny _ _ _ _ _ _)
    rw [Around.under_plainId F.plain_min_loop _]
    refine wpAny_bind (wpAny_seqItems hS rfl (?_ : wpAny _ _ (tryCatch (pyNext (.ref I)) _ >>= _) _ _ _))
    refine wpAny_bind (wpAny_tryCatch (W.done s _ _ hst fun h' tk hk' => ?_))
    cases n with
    | zero =>
      obtain rfl : old = #[] := ho
      refine wpAny_bind (wpAny_rule (wpAny_pure (hR d h' tk (.inl ⟨rfl, rfl⟩) fun b o hb _ e => hk' b o hb e)))
    | succ j =>
      obtain ⟨v, rfl, hv⟩ := ho
      have hS' := hk' S _ hSw hS
      refine wpAny_bind (?_ : wpAny _ _ (updateSeq S fun _ => #[]) _ _ _)
      refine wpAny_updateSeq hS' rfl (wpAny_bind (wpAny_letGo (wpAny_pure (hR v _ tk (.inr ⟨Nat.succ_pos j, hv⟩) fun b o hb n e => ?_))))
      exact (Heap.get?_update_other _ _ (Ne.symm n)).trans (hk' b o hb e)
  | succ k ih =>
    intro j s old c hk hst ho hS hR
    refine codeAny_builtin F.entry_min_loop (?_ : wpAny _ _ _ _ _ _)
    rw [Around.under_plainId F.plain_min_loop _]
    refine wpAny_bind (wpAny_seqItems hS rfl (?_ : wpAny _ _ (tryCatch (pyNext (.ref I)) _ >>= _) _ _ _))
    refine wpAny_bind (wpAny_tryCatch (W.item j s _ _ (by omega) hst fun v h' tk hP hst' hk' => ?_))
    have hS' := hk' S _ hSw hS
    have off : ∀ (g : Array Value → Array Value) (b : Addr) (o : Obj), b ≠ S → h'.get? b = some o → (h'.update S (Obj.mapSeq g)).get? b = some o := fun g b o n e => (Heap.get?_update_other _ _ (Ne.symm n)).trans e
    cases j with
    | zero =>
      obtain rfl : old = #[] := ho
      refine wpAny_bind (wpAny_pure ?_)
      refine wpAny_bind (?_ : wpAny _ _ (updateSeq S fun _ => #[v, v]) _ _ _)
      refine wpAny_updateSeq hS' rfl ?_
      rw [nameD]
      refine wpAny_pure ⟨plainId_quiet F.plain_min_loop _, ih 1 _ #[v, v] _ (by omega) (W.frame _ _ _ hst' fun b hb o e => off _ b o (fun z => hSf (by rw [← z]; exact hb)) e) ⟨v, rfl, hP⟩ (Heap.get?_update_self _ hS' rfl) fun v' h'' tk'' he hk'' => ?_⟩
      exact hR v' h'' tk'' he fun b o hb n e => hk'' b o hb n (off _ b o n (hk' b o hb e))
    | succ j =>
      obtain ⟨vb, rfl, hPb⟩ := ho
      refine wpAny_bind (wpAny_pure ?_)
      refine wpAny_bind (wpAny_tryCatch (wpAny_holding (wpAny_bind (hc (j + 1) (argBest bt j) v vb _ _ _ hP hPb ?_))))
      refine wpAny_bind (wpAny_holding (wpAny_truthy_bool (wpAny_bind (wpAny_letGo (wpAny_pure ?_)))))
      cases hb : bt (j + 1) (argBest bt j) with
      | true =>
        rw [if_pos rfl]
        refine wpAny_bind (?_ : wpAny _ _ (updateSeq S fun _ => #[v, v]) _ _ _)
        refine wpAny_updateSeq hS' rfl (wpAny_bind (wpAny_letGo ?_))
        rw [nameD]
        refine wpAny_pure ⟨plainId_quiet F.plain_min_loop _, ih (j + 2) _ #[v, v] _ (by omega) (W.frame _ _ _ hst' fun b hb o e => off _ b o (fun z => hSf (by rw [← z]; exact hb)) e) ⟨v, rfl, by rw [argBest, hb]; exact hP⟩ (Heap.get?_update_self _ hS' rfl) fun v' h'' tk'' he hk'' => ?_⟩
        exact hR v' h'' tk'' he fun b o hb n e => hk'' b o hb n (off _ b o n (hk' b o hb e))
      | false =>
        rw [if_neg Bool.false_ne_true]
        refine wpAny_bind (wpAny_letGo ?_)
        rw [nameD]
        refine wpAny_pure ⟨plainId_quiet F.plain_min_loop _, ih (j + 2) _ #[vb, vb] c (by omega) hst' ⟨vb, rfl, by rw [argBest, hb]; exact hPb⟩ hS' fun v' h'' tk'' he hk'' => ?_⟩
        exact hR v' h'' tk'' he fun b o hb n e => hk'' b o hb n (hk' b o hb e)
theorem args_minD (a d : Value) : argsOk "min" ⟨[a], kwD d⟩ := by unfold argsOk; kernel_rfl
theorem call_minD {prog : Program} {w : World} {A : Around} {E : Value → Shared → Prop} {s : Shared} {l : Addr} {d : Value} {xs : Array (Int × Tok)} {Q : Value → Shared → Prop} (hh : A.handled = none) (hl : s.heap.IsList l (intItems xs))
    (h : ∀ v h' tk, EndAt (fun i v => (intItems xs)[i]? = some v) (fun i j => decide (numAt xs i < numAt xs j)) xs.size d v → (∀ b o, s.heap.get? b = some o → h'.get? b = some o) → Q v { s with heap := h', toks := tk }) :
    wpAny (model prog w) A (call (.builtin "min") [.ref l] (kwD d)) Q E s := by
  refine PyProof.Rows.kmk_tree PySem.F.kind_min PySem.F.plain_min PySem.F.entry_min (args_minD _ _) ?_
  refine wpAny_bind (m := Builtin.Builtins.bindParams "min" ["key", "default"] 0 ⟨[], kwD d⟩) (wpAny_of_eq (show Builtin.Builtins.bindParams "min" ["key", "default"] 0 ⟨[], kwD d⟩ = pure [none, some d] from rfl) (wpAny_bind (wpAny_pure ?_)))
  refine wpAny_bind (iter_intList hl fun s₂ e st hfp hne => ?_)
  subst e
  refine wpAny_bind (wpAny_newObj_type ?_)
  rw [nameD]
  have hlt : l < s.heap.objs.size := by
    obtain ⟨_, e, _⟩ := hl
    exact Heap.lt_size e
  refine wpAny_pure ⟨plainId_quiet F.plain_min_loop _, minD_loop (Walks.list (A := A.in1) hh _ l hne (intItems xs)) (CmpOf.ints_lt (numAt xs) (fun _ _ => intItems_at)) (fun hm => Nat.lt_irrefl _ (hfp _ hm)) d (intItems xs).size 0 _ #[] _ (Nat.zero_add _).symm ?_ rfl (Heap.get?_push_size _ rfl) fun v h' tk he hk => ?_⟩
  · exact (Walks.list (prog := prog) (w := w) (A := A.in1) hh _ l hne (intItems xs)).frame _ _ _ st fun b _ o e => Heap.get?_push_of_some _ e
  · refine h v h' tk (by simpa [intItems] using he) fun b o e => ?_
    have lb := Heap.lt_size e
    have sz : (s.heap.push { cls := .type "list_iterator", data := .fields #[.ref l, .int 0 0] }).objs.size = s.heap.objs.size + 1 := Heap.size_push ..
    refine hk b o (fun m => ?_) (fun z => ?_) (Heap.get?_push_of_some _ (Heap.get?_push_of_some _ e))
    · rw [List.mem_singleton.mp m] at lb
      exact Nat.lt_irrefl _ lb
    · have z : b = (s.heap.push { cls := .type "list_iterator", data := .fields #[.ref l, .int 0 0] }).objs.size := z
      rw [z, sz] at lb
      exact absurd lb (Nat.not_lt.mpr (Nat.le_succ _))
/-- min(xs, default=d) of a list of ints, any number of them -/
def rMinD (K : PySem.W.Frag) : List V → List V → Hp → VK → Prop := fun vs zs H Q => ∃ (a : Addr) (ns : List Int) (d : V), vs = [V.ref a] ∧ zs = [d] ∧ SqL K H a (ns.map V.int) ∧ (ns = [] → Q d H) ∧ ∀ m ∈ ns, (∀ y ∈ ns, m ≤ y) → Q (.int m) H
theorem cr_minD {X : Cx} (hc : X.calm = true) : CallRK X (.builtin "min") [Str.ofString "default"] (rMinD X.K) := by
  intro pins s σ H vs zs us ws Q I r rz h
  obtain ⟨a, ns, d, rfl, rfl, hs, q0, q1⟩ := h
  obtain rfl := Vals.ref1 r
  obtain ⟨wd, rfl, ed⟩ := vals1 rz
  obtain ⟨its, rv, hl, hz⟩ := I.list hs
  have hi := rv.ints
  obtain ⟨xs, e⟩ := hi.allInts.items
  have hn : numsOf (intItems xs).toList = ns := by rw [← e]; exact hi.numsOf
  rw [nums_intItems] at hn
  subst hn
  have hl2 := hl.isList
  rw [e] at hl2
  refine call_minD (d := wd) (I.ok.hd hc) hl2 fun v h' tk he hk => ?_
  have lx : (xs.toList.map (·.1)).length = xs.size := by rw [List.length_map, Array.length_toList]
  rcases he with ⟨h0, rfl⟩ | ⟨h0, he⟩
  · exact ⟨d, H, I.kept hk, ed, q0 (List.length_eq_zero_iff.mp (lx.trans h0))⟩
  · obtain ⟨t, rfl⟩ := intItems_at he
    obtain ⟨h1, h2⟩ := argBest_lt (numAt xs) (xs.size - 1)
    refine ⟨.int _, H, I.kept hk, ⟨t, rfl⟩, q1 _ ?_ fun y my => ?_⟩
    · rw [numAt_eq]
      exact PySem.getD_mem (by rw [lx]; omega)
    · obtain ⟨j, hj, rfl⟩ := mem_getD my
      rw [lx] at hj
      rw [← numAt_eq]
      exact h2 j (by omega)
end Inf

set_option Elab.async false
set_option linter.all false
set_option maxRecDepth 100000
set_option maxHeartbeats 4000000
namespace Inf
open PySem PySem.Spec PyProof.Rows
/-! ### {**d, k: v} -/
section
variable {prog : Program} {w : World} {K : Type} [DecidableEq K] {knd : KeyKind prog w K} {A : Around} {E : Value → Shared → Prop} {s : Shared}
theorem idx_list {es : Array DictEntry} {p : DictEntry → Bool} : es.findIdx? p = es.toList.findIdx? p := by
  obtain ⟨l⟩ := es
  simp
/-- what a stored pair makes of a dict, on either way -/
theorem put_hit {h : Heap} {d : Addr} {o : Obj} {es : Array DictEntry} {ep i : Nat} {kvs : List (K × Value)} {k : K} {v : Value} (ho : h.get? d = some o) (hc : o.ExactDict) (hd : o.data = .dict es ep) (hk : KeysOf knd es) (hp : Pairs knd es.toList kvs) (hn : (kvs.map (·.1)).Nodup) (hi : es.findIdx? (fun e => knd.is k e.key) = some i) :
    (h.update d (Obj.mapDict fun es => es.modify i fun e => { e with val := v })).DictOf knd d (stored kvs k v) := by
  have hl : es.toList.findIdx? (fun e => knd.is k e.key) = some i := idx_list.symm.trans hi
  have hx : kvs.findIdx? (fun kv => decide (kv.1 = k)) = some i := (hp.findIdx k).symm.trans hl
  have e : stored kvs k v = kvs.map fun kv => if kv.1 = k then (kv.1, v) else kv := by
    unfold stored
    exact if_pos (any_of_findIdx_some hx)
  have h1 := hp.modify hn hl v
  refine ⟨_, _, ep, Heap.get?_update_self _ ho (Obj.isFreed_of_dict (Obj.data_mapDict hd _)), hc.mapDict _, Obj.data_mapDict hd _, hk.modify _ _, ?_, ?_⟩
  · rw [e]
    obtain ⟨l⟩ := es
    simpa using h1
  · rw [e, keys_map_store]
    exact hn
theorem put_new {h : Heap} {d : Addr} {o : Obj} {es : Array DictEntry} {ep : Nat} {kvs : List (K × Value)} {k : K} {key v : Value} (hkey : knd.is k key = true) (ho : h.get? d = some o) (hc : o.ExactDict) (hd : o.data = .dict es ep) (hk : KeysOf knd es) (hp : Pairs knd es.toList kvs) (hn : (kvs.map (·.1)).Nodup) (hi : es.findIdx? (fun e => knd.is k e.key) = none) :
    (h.update d (Obj.mapDictKeys (·.push ⟨knd.hash k, key, v⟩))).DictOf knd d (stored kvs k v) := by
  have hx : kvs.findIdx? (fun kv => decide (kv.1 = k)) = none := (hp.findIdx k).symm.trans (idx_list.symm.trans hi)
  have hm : k ∉ kvs.map (·.1) := not_mem_of_findIdx_none hx
  have e : stored kvs k v = kvs ++ [(k, v)] := by
    unfold stored
    refine if_neg fun z => ?_
    obtain ⟨kv, m, q⟩ := List.any_eq_true.mp z
    exact hm (List.mem_map.mpr ⟨kv, m, of_decide_eq_true q⟩)
  have h1 := hp.append hkey (knd.hash k) v
  refine ⟨_, _, ep + 1, Heap.get?_update_self _ ho (Obj.isFreed_of_dict (Obj.data_mapDictKeys hd _)), hc.mapDictKeys _, Obj.data_mapDictKeys hd _, hk.push hkey _, ?_, ?_⟩
  · rw [e]
    obtain ⟨l⟩ := es
    simpa using h1
  · rw [e, List.map_append]
    refine List.nodup_append.mpr ⟨hn, List.nodup_cons.mpr ⟨(fun z => nomatch z), List.nodup_nil⟩, fun a ha b hb z => ?_⟩
    rw [z, List.mem_singleton.mp hb] at ha
    exact hm ha
theorem put_ok {d : Addr} {kvs : List (K × Value)} {k : K} {key v : Value} {Q : Unit → Shared → Prop} (hkey : knd.is k key = true) (hm : s.heap.DictOf knd d kvs) (hsz : kvs.length ≤ sizeLine)
    (hQ : ∀ h', h'.DictOf knd d (stored kvs k v) → Heap.SameBut d s.heap h' → Q () { s with heap := h' }) : wpAny (model prog w) A (dictPut d (knd.hash k) key v) Q E s := by
  obtain ⟨o, es, ep, ho, hc, hd, hk, hp, hn⟩ := hm
  have hes : es.size ≤ sizeLine := by
    have := hp.length
    rw [Array.length_toList] at this
    omega
  unfold dictPut
  refine wpAny_bind (wpAny_dictFind_of hkey ho hd hk ?_)
  cases hi : es.findIdx? fun e => knd.is k e.key with
  | some i => exact wpAny_updateDict ho hd (hQ _ (put_hit ho hc hd hk hp hn hi) (Heap.SameBut.update ..))
  | none => exact wpAny_updateDictKeys (hz := hes) ho hd (hQ _ (put_new hkey ho hc hd hk hp hn hi) (Heap.SameBut.update ..))
theorem ite_same {M : Model} {c : Prop} [Decidable c] {a b : Sem Unit} {Q : Unit → Shared → Prop} (hb : wpAny M A b Q E s) (ha : wpAny M A b Q E s → wpAny M A a Q E s) : wpAny M A (if c then a else b) Q E s := by
  by_cases z : c
  · rw [if_pos z]
    exact ha hb
  · rw [if_neg z]
    exact hb
theorem merge_ok {d o : Addr} {kvs more : List (K × Value)} {Q : Unit → Shared → Prop} (hdo : d ≠ o) (hoS : (o == sysModules) = false) (hd : s.heap.DictOf knd d kvs) (ho : s.heap.DictOf knd o more) (hsz : kvs.length + more.length ≤ sizeLine)
    (hQ : ∀ h', h'.DictOf knd d (merged kvs more) → Heap.SameBut d s.heap h' → Q () { s with heap := h' }) : wpAny (model prog w) A (mergeMapping d (.ref o) false) Q E s := by
  obtain ⟨od, esd, epd, hod, hcd, hdd, hkd, hpd, hnd⟩ := id hd
  obtain ⟨oo, eso, epo, hoo, hco, hdo', hko, hpo, hno⟩ := id ho
  have hlen : more.length = eso.size := by
    rw [← hpo.length, Array.length_toList]
  unfold mergeMapping
  refine wpAny_bind (wpAny_isInstance ho.typeIs isSubtype_dict_dict ?_)
  dsimp only
  rw [if_pos rfl]
  refine wpAny_bind (wpAny_specialOf ho.typeIs F.slot_dict_iter.lookup ?_)
  refine wpAny_bind (wpAny_pure ?_)
  rw [show (some (Value.builtin "dict.__iter__") == some (Value.builtin "dict.__iter__")) = true from beq_self_eq_true _]
  dsimp only
  rw [if_neg (by rw [hoS]; exact Bool.false_ne_true)]
  refine wpAny_bind (wpAny_dictEntries hod hdd ?_)
  refine ite_same ?_ fun loop => ?_
  · refine wpAny_bind (wpAny_dictEntries hoo hdo' (wpAny_bind (wpAny_dictEpoch hoo hdo' (wpAny_bind ?_))))
    refine wpAny_forIn_list _ (fun rest _ s' => ∃ h' i, s' = { s with heap := h' } ∧ rest = (List.range eso.size).drop i ∧ i ≤ eso.size ∧ h'.DictOf knd d (merged kvs (more.take i)) ∧ h'.get? o = some oo ∧ Heap.SameBut d s.heap h')
      _ ?_ ?_ _ _ ⟨s.heap, 0, rfl, rfl, Nat.zero_le _, hd, hoo, Heap.SameBut.refl _ _⟩
    · rintro x rest b s' ⟨h', i, rfl, hr, hi, hd', hoo', hs'⟩
      have hlt : i < eso.size := by
        refine Nat.lt_of_not_le fun z => ?_
        rw [List.drop_eq_nil_of_le (by rw [List.length_range]; exact z)] at hr
        cases hr
      rw [List.drop_eq_getElem_cons (by rw [List.length_range]; exact hlt)] at hr
      obtain ⟨hx, hrest⟩ := List.cons.inj hr
      rw [List.getElem_range] at hx
      subst hx
      have hml : x < more.length := by omega
      obtain ⟨hkey, hval⟩ := hpo.get? (e := eso[x]) (k := more[x].1) (v := more[x].2) (by rw [Array.getElem?_toList, Array.getElem?_eq_getElem hlt]) (List.getElem?_eq_getElem hml)
      obtain ⟨k', hkey', hhash⟩ := hko eso[x] (Array.getElem_mem hlt)
      have ek : k' = more[x].1 := knd.inj _ _ _ hkey' hkey
      refine wpAny_bind (wpAny_dictEntries hoo' hdo' ?_)
      rw [Array.getElem?_eq_getElem hlt]
      dsimp only
      rw [if_neg Bool.false_ne_true, hhash, ek]
      have hz : (merged kvs (more.take x)).length ≤ sizeLine := by
        have h1 := merged_length_le kvs (more.take x)
        rw [List.length_take] at h1
        omega
      refine wpAny_bind (wpAny_holding (put_ok hkey hd' hz fun h'' hd'' hs'' => ?_))
      have hoo'' : h''.get? o = some oo := (hs''.2 o (Ne.symm hdo)).trans hoo'
      refine wpAny_bind (wpAny_dictEpoch hoo'' hdo' ?_)
      rw [if_neg (by simp)]
      refine wpAny_pure ⟨h'', x + 1, rfl, hrest, hlt, ?_, hoo'', hs'.trans hs''⟩
      rw [merged_take_succ kvs more x more[x] (List.getElem?_eq_getElem hml), ← hval]
      exact hd''
    · rintro b s' ⟨h', i, rfl, hr, hi, hd', hoo', hs'⟩
      have hin : i = eso.size := by
        refine Nat.le_antisymm hi (Nat.le_of_not_lt fun z => ?_)
        rw [List.drop_eq_getElem_cons (by rw [List.length_range]; exact z)] at hr
        cases hr
      rw [hin, ← hlen, List.take_length] at hd'
      exact wpAny_pure (hQ h' hd' hs')
  · refine wpAny_bind (wpAny_dictEntries hoo hdo' (wpAny_bind (wpAny_of_eq (a := PUnit.unit) ?_ loop)))
    rw [← Array.forIn_toList]
    refine forIn_yield_id _ fun e he c => ?_
    obtain ⟨k, hkey, _⟩ := hko e (Array.mem_toList_iff.mp he)
    have := knd.byValue k _ hkey
    cases hek : e.key with
    | ref a =>
      rw [hek] at this
      cases this
    | _ => rfl
/-- {**m, k: v} -/
theorem star_ok {m tk tv : Sem Value} {Q : Value → Shared → Prop}
    (h : wpAny (model prog w) A m (fun mv s1 => ∃ o more, mv = .ref o ∧ s.heap.objs.size ≠ o ∧ (o == sysModules) = false ∧ more.length < sizeLine ∧ s1.heap.DictOf knd s.heap.objs.size [] ∧ s1.heap.DictOf knd o more ∧
      ∀ h', h'.DictOf knd s.heap.objs.size more → Heap.SameBut s.heap.objs.size s1.heap h' →
        wpAny (model prog w) A (subDict [(tk, tv)]) (fun b s2 => ∃ more2 k v, s.heap.objs.size ≠ b ∧ (b == sysModules) = false ∧ more2.length < sizeLine ∧ s2.heap.DictOf knd s.heap.objs.size more2 ∧ s2.heap.DictOf knd b [(k, v)] ∧
          ∀ h'', h''.DictOf knd s.heap.objs.size (stored more2 k v) → Heap.SameBut s.heap.objs.size s2.heap h'' → Q (.ref s.heap.objs.size) { s2 with heap := h'' }) E { s1 with heap := h' }) E
      { s with heap := s.heap.push { cls := .type "dict", data := .dict #[] } }) :
    wpAny (model prog w) A (dictDisplay [(none, m), (some tk, tv)]) Q E s := by
  unfold dictDisplay
  dsimp only
  refine wpAny_bind ?_
  rw [List.forIn_cons]
  dsimp only
  refine wpAny_bind (wpAny_bind ?_)
  rw [if_pos (show ([] : List (Sem Value × Sem Value)).isEmpty = true from rfl)]
  refine wpAny_pure ?_
  dsimp only
  refine wpAny_bind (wpAny_alloc ?_)
  refine wpAny_bind (wpAny_holding (wpAny_mono h (fun mv s1 h1 => ?_) fun _ _ e => e))
  obtain ⟨o, more, rfl, hdo, hoS, hz, hd, ho, q⟩ := h1
  have hn : (more.map (·.1)).Nodup := let ⟨_, _, _, _, _, _, _, _, hn⟩ := ho; hn
  refine wpAny_bind (wpAny_onRaise (wpAny_tryCatch (wpAny_onRaise (wpAny_holding (merge_ok hdo hoS hd ho (by rw [List.length_nil]; omega) fun h' hd' hs' => ?_)))))
  rw [merged_nil_of_nodup more hn] at hd'
  refine wpAny_pure ?_
  dsimp only
  rw [List.forIn_cons]
  dsimp only
  rw [if_neg (by simp)]
  refine wpAny_bind (wpAny_pure ?_)
  dsimp only
  rw [List.forIn_nil]
  refine wpAny_pure ?_
  dsimp only
  refine wpAny_bind ?_
  rw [if_neg (by simp)]
  refine wpAny_bind (wpAny_holding (wpAny_mono (q h' hd' hs') (fun b s2 h2 => ?_) fun _ _ e => e))
  obtain ⟨more2, k, v, hdb, hbS, hz2, hd2, hb2, q2⟩ := h2
  refine wpAny_bind (wpAny_onRaise (wpAny_holding (merge_ok hdb hbS hd2 hb2 (by rw [List.length_singleton]; omega) fun h'' hd'' hs'' => ?_)))
  refine wpAny_pure ?_
  dsimp only
  exact wpAny_pure (q2 h'' hd'' hs'')
end
section
open L2
variable {X : Cx} {pos : Pos}
/-- {**e, k: v}: a new dict, and one more for the pair -/
def tStar (te tk tv : TE) : TE := fun σ H Q => ∀ p, H p = none → te σ (upd H p (.dK [])) fun x H1 => ∃ (a : Addr) (kvs : List (Key × V)), x = .ref a ∧ a ≠ p ∧ H1 p = some (.dK []) ∧ Rd H1 a (.dK kvs) ∧ kvs.length < sizeLine ∧
  ∀ b, upd H1 p (.dK kvs) b = none → tk σ (upd (upd H1 p (.dK kvs)) b (.dK [])) fun y H2 => tv σ H2 fun z H3 => ∃ k z', [(y, z)] = [(kV k, z')] ∧ p ≠ b ∧ H3 p = some (.dK kvs) ∧ H3 b = some (.dK []) ∧ Q (.ref p) (upd (upd H3 b (.dK [(k, z')])) p (.dK (putK kvs k z')))
theorem pe_dstar {e k v : Expr} {te tk tv : TE} (he : PE X e te) (hk : PE X k tk) (hv : PE X v tv) : PE X (.Dict [none, some k] [e, v] pos) (tStar te tk tv) := by
  refine ⟨fun pins s σ H Q I q => ?_⟩
  rw [arm_eval_Dict]
  show wpAny _ _ (do standAt pos; dictDisplay [(none, do let x ← eval e X.env; standAt pos; pure x), (some (eval k X.env), do let x ← eval v X.env; standAt pos; pure x)]) _ _ _
  refine wpAny_bind (wpAny_standAt (star_ok (knd := mixKind X.prog X.w) ?_))
  have hn := I.hok.fresh (Nat.le_refl s.heap.objs.size)
  have I1 := I.laid (a := s.heap.objs.size) (o := .dK []) (h' := s.heap.push { cls := .type "dict", data := .dict #[] }) (t' := s.toks) (fun _ _ q => Heap.get?_push_of_some _ q) (Nat.le_refl _) (dk_empty s.heap I.big)
  refine wpAny_bind (thn (he.run pins _ σ _ _ I1 (q _ hn)) fun u s1 ⟨x, H1, I2, rx, a, kvs, ex, na, hp, hr, hz, q2⟩ => ?_)
  subst ex
  obtain rfl : u = .ref a := rx
  obtain ⟨z, lo, vs, rel, dd⟩ := dk_rd I2.hok hr
  obtain ⟨z0, lo0, vs0, r0, dd0⟩ := dk_of I2.hok hp
  cases r0
  have hl : vs.length < sizeLine := by rw [← rel.length]; exact hz
  refine wpAny_bind (wpAny_standAt (wpAny_pure ⟨a, vs, rfl, Ne.symm na, lo, hl, dd0, dd, fun h' d' hs => ?_⟩))
  have he0 : ∃ q, h'.get? s.heap.objs.size = some q := let ⟨q, _, _, hq, _⟩ := d'; ⟨q, hq⟩
  have I3 := d_write (t' := s1.toks) I2 (by rw [hp]; exact True.intro) hs he0 (dk_new z lo0 rel d')
  have I4 := I3.laid (a := h'.objs.size) (o := .dK []) (h' := h'.push { cls := .type "dict", data := .dict #[] }) (t' := s1.toks) (fun _ _ q => Heap.get?_push_of_some _ q) (Nat.le_refl _) (dk_empty h' I3.big)
  refine wpAny_subDict (knd := mixKind X.prog X.w) (Nat.le_of_ble_eq_true rfl) ?_
  refine thn ((pps_cons hk hv pps_nil).run pins _ σ _ (fun ps H3 => ∃ k z', ps = [(kV k, z')] ∧ s.heap.objs.size ≠ h'.objs.size ∧ H3 s.heap.objs.size = some (.dK kvs) ∧ H3 h'.objs.size = some (.dK []) ∧ Q (.ref s.heap.objs.size) (upd (upd H3 h'.objs.size (.dK [(k, z')])) s.heap.objs.size (.dK (putK kvs k z')))) I4 (q2 _ (I3.hok.fresh (Nat.le_refl _)))) fun ws s2 ⟨ps, H3, I5, rel2, k, z', eps, npb, hp3, hb3, q3⟩ => ?_
  subst eps
  obtain ⟨rs, c, rk⟩ := carries_of (P := X.prog) (w := X.w) (kvs := [(k, z')]) rel2
  obtain ⟨zb, hdb, vsb, rb, ddb⟩ := dk_of I5.hok hb3
  cases rb
  refine ⟨rs, c, ddb, fun h2 d2 hs2 => ?_⟩
  obtain ⟨zp, hdp, vsp, rp, ddp⟩ := dk_of I5.hok hp3
  cases rk with
  | @cons p1 q1 ps1 qs1 hpq t1 =>
    cases t1
    obtain ⟨kq, wq⟩ := q1
    obtain ⟨ek, rw'⟩ := hpq
    have ek : k = kq := ek
    subst ek
    have ddp2 : h2.DictOf (mixKind X.prog X.w) s.heap.objs.size vsp := ddp.sameBut hs2 npb
    have he2 : ∃ q, h2.get? h'.objs.size = some q := let ⟨q, _, _, hq, _⟩ := d2; ⟨q, hq⟩
    have I6 := d_write (t' := s2.toks + ws.length) I5 (by rw [hb3]; exact True.intro) hs2 he2 (dk_new (kvs := [(k, z')]) (vs := [(k, wq)]) (by rw [sizeLine_eq, List.length_singleton]; omega) hdb (.cons ⟨rfl, rw'⟩ .nil) d2)
    have hp6 : upd H3 h'.objs.size (.dK [(k, z')]) s.heap.objs.size = some (.dK kvs) := by
      rw [upd_ne npb]
      exact hp3
    refine ⟨vsp, k, wq, npb, hdb, by rw [← rp.length]; exact hz, ddp2, d2, fun h3 d3 hs3 => ⟨.ref s.heap.objs.size, _, ?_, rfl, q3⟩⟩
    have he3 : ∃ q, h3.get? s.heap.objs.size = some q := let ⟨q, _, _, hq, _⟩ := d3; ⟨q, hq⟩
    have hz3 : (putK kvs k z').length ≤ sizeLine := Nat.le_trans (length_putK _ _ _) hz
    exact d_write (t' := s2.toks + ws.length) I6 (by rw [hp6]; exact True.intro) hs3 he3 (dk_new hz3 hdp (rp.put k rw') d3)
end
end Inf

set_option Elab.async false
set_option linter.all false
set_option maxRecDepth 100000
set_option maxHeartbeats 4000000
namespace Inf
open PySem PySem.Spec PyProof.Rows L2
/-! ### next(iter(d), None) -/
section
variable {prog : Program} {w : World} {K : Type} [DecidableEq K] {knd : PySem.KeyKind prog w K} {A : Around} {E : Value → Shared → Prop} {s : Shared} {d it : Addr} {kvs : List (K × Value)} {ep : Nat} {v : Value}
theorem itr_ok {Q : Value → Shared → Prop} (lo : (d == sysModules) = false) (hm : s.heap.DictAt knd d kvs ep)
    (h : ∀ o, (s.heap.push o).IsKeyIter s.heap.objs.size d 0 kvs.length ep → Q (.ref s.heap.objs.size) { s with heap := s.heap.push o }) : wpAny (model prog w) A (call (.builtin "iter") [.ref d]) Q E s := by
  refine Calls.call_function_entry (by decide +kernel) (by decide +kernel) PySem.W.kdk_entry_iter (PySem.W.kdk_args_iter _) ?_
  unfold Builtin.«iter»
  refine wpAny_bind (m := someArgs "iter" 1 2 _) (wpAny_of_eq (a := [Value.ref d]) (by first | rfl | kernel_rfl!) ?_)
  show wpAny _ _ (pyIter (.ref d) >>= _) _ _ _
  refine wpAny_bind (wpAny_pyIter_dict lo hm ?_)
  exact wpAny_pure ⟨_, rfl, h _ ⟨_, Heap.get?_push_size _ rfl, rfl, rfl⟩⟩
theorem nxt_ok {Q : Value → Shared → Prop} (hh : A.handled = none) (hit : s.heap.IsKeyIter it d 0 kvs.length ep) (hm : s.heap.DictAt knd d kvs ep)
    (h : ∀ u h', (match kvs with | [] => u = v | kv :: _ => knd.is kv.1 u = true) → Heap.ExtBut it s.heap h' → Q u { s with heap := h' }) : wpAny (model prog w) A (call (.builtin "next") [.ref it, v]) Q E s := by
  refine Calls.call_function_entry (by decide +kernel) (by decide +kernel) PySem.W.kdk_entry_next (PySem.W.kdk_args_next2 _ _) ?_
  unfold Builtin.«next»
  refine wpAny_bind (m := someArgs "next" 1 2 _) (wpAny_of_eq (a := [Value.ref it, v]) (by first | rfl | kernel_rfl!) ?_)
  dsimp only
  refine wpAny_bind (wpAny_specialOf (name := Str.ofString "__next__") hit.typeIs PySem.F.slot_dict_keyiterator_next.lookup ?_)
  refine wpAny_ite_split (fun hab => absurd hab (by decide)) (fun _ => ?_)
  match kvs, hit, hm, h with
  | [], hit, hm, h => exact wpAny_bind (wpAny_pyNext_dict_end (A := A.in1) hh hit hm rfl fun h' k => wpAny_pure ⟨_, rfl, h _ _ rfl k⟩)
  | kv :: r, hit, hm, h => exact wpAny_bind (wpAny_pyNext_dict_item (k := kv.1) (v := kv.2) hit hm rfl fun key h' hk _ sb => wpAny_pure ⟨_, rfl, h _ _ hk sb.extBut⟩)
end
section
variable {X : Cx} {e : Expr} {te : TE}
def fstV (kvs : List (Key × V)) : V := match kvs with
  | [] => .non
  | kv :: _ => kV kv.1
/-- the first key of a dict, None without one -/
def tFirst (te : TE) : TE := fun σ H Q => te σ H fun x H1 => ∃ (a : Addr) (kvs : List (Key × V)), x = .ref a ∧ Rd H1 a (.dK kvs) ∧ Q (fstV kvs) H1
theorem key_rel {k : Key} {u : Value} (h : keyIs k u = true) : RelV (kV k) u := by
  rcases keyIs_shape h with ⟨i, t, ek, ev⟩ | ⟨z, t, ek, ev⟩
  · subst ek
    exact ⟨t, ev⟩
  · subst ek
    exact ⟨t, ev⟩
theorem pe_first {p p2 p3 pos pos2 : Pos} {j : Nat} (hc : X.calm = true) (hgi : Gl X "iter") (hmi : X.mg "iter" = none) (hgn : Gl X "next") (hmn : X.mg "next" = none) (he : PE X e te)
    (hs : starEach [e] X.env = (false, eval e X.env) :: starEach [] X.env := by rfl)
    (hs2 : ∀ a b : Expr, starEach [.Call a [e] [] pos2, b] X.env = (false, eval (.Call a [e] [] pos2) X.env) :: starEach [b] X.env := by intros; rfl) :
    PE X (.Call (.Name "next" p) [.Call (.Name "iter" p2) [e] [] pos2, .Constant .none j p3] [] pos) (tFirst te) := by
  refine ⟨fun pins s σ H Q I h => ?_⟩
  refine wpAny_Call_Name_kw (ld_blt (u := .builtin "next") I hgn hmn (by first | rfl | decide +kernel) ?_ (by decide) (by decide))
  refine PyProof.Rows.callWith_builtin1 ?_ (hs2 _ _) rfl
  rw [hs2]
  show wpAny _ _ (spliced ((false, eval (.Call (.Name "iter" p2) [e] [] pos2) X.env) :: [(false, eval (.Constant .none j p3) X.env)])) _ _ s
  refine Calls.spliced_cons ?_
  refine wpAny_Call_Name_kw (ld_blt (u := .builtin "iter") I hgi hmi (by first | rfl | decide +kernel) ?_ (by decide) (by decide))
  refine PyProof.Rows.callWith_builtin1 ?_ hs rfl
  rw [hs]
  show wpAny _ _ (spliced [(false, eval e X.env)]) _ _ s
  refine Calls.spliced_cons (thn (he.run pins s σ H _ I h) fun u s1 ⟨x, H1, I1, r1, a, kvs, ex, hr, q⟩ => Calls.spliced_nil ?_)
  subst ex
  obtain rfl : u = .ref a := r1
  obtain ⟨z, lo, vs, rel, dd⟩ := dk_rd I1.hok hr
  obtain ⟨ep, hat⟩ := dd.dictAt
  refine itr_ok lo hat fun o hit => ?_
  have hat2 : (s1.heap.push o).DictAt (mixKind X.prog X.w) a vs ep := let ⟨o', es, ho, r⟩ := hat; ⟨o', es, Heap.get?_push_of_some _ ho, r⟩
  refine Calls.spliced_cons (Constant_none (Calls.spliced_nil ?_))
  refine nxt_ok (I1.ok.hd hc) hit hat2 fun u h' hu k => ?_
  have I2 : L2.Inv X pins σ H1 { s1 with heap := h' } := I1.kept (t' := s1.toks) fun b w' e => k b w' (fun z => by
    rw [z] at e
    exact absurd (Heap.lt_size e) (Nat.lt_irrefl _)) (Heap.get?_push_of_some _ e)
  refine ⟨fstV kvs, H1, I2, ?_, q⟩
  cases rel with
  | nil => exact hu
  | @cons a1 b1 _ _ hh t =>
    show L2.RelV (kV a1.1) u
    rw [hh.1]
    exact key_rel hu
end
end Inf

set_option Elab.async false
set_option linter.all false
set_option maxRecDepth 100000
set_option maxHeartbeats 4000000
namespace Inf
open PySem PySem.Spec PyProof.Rows L2 NdefX LamX
/-! ### o.m(..) while the def's cells are told -/
def tMethT (X : Cx) (C : Addr) (m : Str) (sp : Sp) (dvs : List V) (ta : TE) (t : TA) : TE := fun σ H Q => ta σ H fun x H1 => ∃ a dx fs, x = .ref a ∧ H1 a = some (.ins C dx fs) ∧ fs.lookup m = none ∧
  t σ H1 fun vs H2 => ∀ cs HT, Tel X.env.cells X.env.scope.names X.N σ H2 cs HT → sp (x :: (vs ++ dvs)) HT (fun v H3 => (∀ b, b ∈ cs → H3 b = HT b) ∧ Q v (cut cs H3)) E0
section
variable {X : Cx} {k : Nat} {C f : Addr} {m : Str} {fd : FuncData} {ps : List Str} {ds : List Value} {dvs : List V} {sp : Sp} {o e : Expr} {es : List Expr} {ta : TE} {t : TA} {apos pos : Pos} {pl : Sem Bool}
theorem pe_methT (hfn : ∀ x, X.fn x = true) (he : PE X o ta) (c : Cls X.K C) (hm : Meth X.K C m f) (F : FnOk X.prog X.w X.K X.mg X.base CX0 k f fd ps sp) (hr : Room k X.A) (hb : Binds X.K fd ps ds) (hd : Vals dvs ds) (ha : PA X (e :: es) t)
    (hst : starEach (e :: es) X.env = (false, eval e X.env) :: starEach es X.env := by rfl) (hpl : (backTo pos (starEach es X.env)).any (·.1) = false := by rfl)
    (ht : eval (.Call (.Attribute o m apos) (e :: es) [] pos) X.env = (do
      let ov ← eval o X.env
      standAt apos.atName
      let (f, first) ← holding [ov] (getMethod ov m pl)
      callWith pos f first (backTo pos (starEach (e :: es) X.env)) (backToKw pos (keywordEach [] X.env))) := by rfl) :
    PE X (.Call (.Attribute o m apos) (e :: es) [] pos) (tMethT X C m sp dvs ta t) := by
  refine ⟨fun pins s σ H Q I h => ?_⟩
  refine PySem.W.methodCall_KW (pl := pl) (thn (he.run pins s σ H _ I h) fun u s1 ⟨x, H1, I1, rx, a, dx, fs, ex, ea, l, q⟩ => ?_) ht
  subst ex
  obtain rfl : u = Value.ref a := rx
  refine getmeth_ok I1 ea c hm l ?_
  refine PySem.W.callWith_K (first := [.ref a]) (h₀ := X.base) I.ok.mod.kin hm.kp (thn (ha.run pos pins s1 σ H1 _ I1 q) fun us s2 ⟨vs, H2, I2, r, q2⟩ => ⟨I2.kIn, ?_⟩) hst hpl
  exact tel_run (us := .ref a :: us) (vs := .ref a :: vs) F hr hb hd hfn I2 (.cons rfl r) q2
theorem pe_methT0 (hfn : ∀ x, X.fn x = true) (he : PE X o ta) (c : Cls X.K C) (hm : Meth X.K C m f) (F : FnOk X.prog X.w X.K X.mg X.base CX0 k f fd ps sp) (hr : Room k X.A) (hb : Binds X.K fd ps ds) (hd : Vals dvs ds)
    (ht : eval (.Call (.Attribute o m apos) [] [] pos) X.env = (do
      let ov ← eval o X.env
      standAt apos.atName
      let (f, first) ← holding [ov] (getMethod ov m pl)
      callWith pos f first (backTo pos (starEach [] X.env)) (backToKw pos (keywordEach [] X.env))) := by rfl) :
    PE X (.Call (.Attribute o m apos) [] [] pos) (tMethT X C m sp dvs ta tNil) := by
  refine ⟨fun pins s σ H Q I h => ?_⟩
  refine PySem.W.methodCall_KW (pl := pl) (thn (he.run pins s σ H _ I h) fun u s1 ⟨x, H1, I1, rx, a, dx, fs, ex, ea, l, q⟩ => ?_) ht
  subst ex
  obtain rfl : u = Value.ref a := rx
  refine getmeth_ok I1 ea c hm l ?_
  exact PySem.W.callWith_K0 (first := [.ref a]) I1.kIn hm.kp (tel_run (us := [.ref a]) (vs := [.ref a]) F hr hb hd hfn I1 (.cons rfl .nil) q)
end
end Inf

set_option Elab.async false
set_option linter.all false
set_option maxRecDepth 100000
set_option maxHeartbeats 4000000
namespace Inf
open PySem PySem.Spec PyProof.Rows L2
/-! ### d.setdefault(t, x), t a tuple of ints and texts -/
def rSetT : V → List V → Hp → VK → Prop := fun x xs H Q => ∃ (a : Addr) (kvs : List (List L2.Key × V)) (k : List L2.Key) (b : Addr) (d : V), x = .ref a ∧ xs = [.ref b, d] ∧ H a = some (.dT kvs) ∧ H b = some (.tup (k.map kV)) ∧ kvs.length < sizeLine ∧
  (∀ v, valV kvs k = some v → Q v H) ∧ (valV kvs k = none → Q d (upd H a (.dT (putK kvs k d))))
theorem relO_some {o : Option V} {u : Value} (r : RelO o (some u)) : ∃ v, o = some v ∧ RelV v u := by
  cases o with
  | none => exact (show False from r).elim
  | some v => exact ⟨v, rfl, r⟩
theorem relO_none {o : Option V} (r : RelO o none) : o = none := by
  cases o with
  | none => rfl
  | some v => exact (show False from r).elim
theorem mt_setT {X : Cx} (hu : X.A.units + 1 < cLine) : MtR X "dict.setdefault" rSetT := by
  intro pins s σ H x xs v us Q I rx rxs h
  obtain ⟨a, kvs, k, b, d, rfl, rfl, ha, hb, hl, q1, q2⟩ := h
  cases rx
  obtain ⟨u1, u2, rfl, r1, r2⟩ := vals2 rxs
  cases r1
  obtain ⟨z, hd, xs', rel, dd⟩ := dt_of I.hok ha
  have hz : xs'.length ≤ sizeLine := by rw [← Paired.length rel]; exact z
  have hl2 : (putK kvs k d).length ≤ sizeLine := by
    have := length_putK kvs k d
    omega
  have rv := rel.val k
  refine call_setdefault_heap (hsz := hz) (tupleKind_room_in1 hu) (key_of I.hok hb) hd dd (fun p hp => ?_) fun hn h' dd' hs => ?_
  · rw [hp] at rv
    obtain ⟨v0, ev, r0⟩ := relO_some rv
    show EP X pins σ Q p.2 _
    exact ⟨v0, H, I.tok _, r0, q1 v0 ev⟩
  · rw [hn] at rv
    obtain ⟨o, es, ep, hq, h2, h3, h4, _, h5⟩ := dd'
    show EP X pins σ Q u2 _
    refine ⟨d, _, d_write (ob := .dT (putK kvs k d)) I (by rw [ha]; exact True.intro) hs ⟨o, hq⟩ ⟨hl2, hd, _, (rel.put k hb r2).keeps (fun c ys ec => ?_), o, es, ep, hq, h2, h3, h4, h5⟩, r2, q2 (relO_none rv)⟩
    rw [upd_ne (ne_of ec ha (fun z => nomatch z))]
    exact ec
end Inf

set_option Elab.async false
set_option linter.all false
set_option maxRecDepth 100000
set_option maxHeartbeats 4000000
namespace Inf
open PySem PySem.Spec PyProof.Rows L2
/-! ### f(), f a local name that holds a function -/
def tActZ (P : Program) (w : World) (K : PySem.W.Frag) (mg : Str → Option Value) (base : Heap) (CX : CXT) (k i : Nat) (E : L2.St → XK) : TE := fun σ H Q => ∃ f o sp, σ[i]? = some (some (.ref f)) ∧ H f = some o ∧ FnHO f o ∧ FnR P w K mg base CX k f sp ∧ sp [] H Q (E σ)
theorem pe_actZ {X : Cx} {CX : CXT} {k i : Nat} {E : L2.St → XK} {x : Str} {p pos : Pos} (hN : X.N[i]? = some x) (hv : Vis X.env.scope x) (hr : Room k X.A) (hx : ∀ σ, PassesAt CX X σ (E σ)) (hd : (x == ("__debug__" : Str)) = false := by decide) (hcd : (x == ("__classdict__" : Str)) = false := by decide) :
    PE X (.Call (.Name x p) [] [] pos) (tActZ X.prog X.w X.K X.mg X.base CX k i E) := by
  refine ⟨fun pins s σ H Q I h => ?_⟩
  obtain ⟨f, o, sp, hs, hf, ho, hF, q⟩ := h
  refine wpAny_Call_Name_kw (thn ((pe_var (pos := p) hN hv hd hcd).run pins s σ H (fun v H1 => v = .ref f ∧ H1 = H) I ⟨.ref f, hs, rfl, rfl⟩) fun u s1 ⟨v, H1, I1, r1, ev, eH⟩ => ?_)
  subst ev
  rw [eH] at I1
  obtain rfl : u = Value.ref f := r1
  refine PySem.W.callWith_of (P := PySem.W.FnAt f) (by rfl) PySem.W.keeps_F (PyProof.Rows.evalArgs_empty ?_)
  exact ⟨ho _ _ _ _ I1.hok hf, run_fnE hF hr (hx σ) I1 .nil q⟩
end Inf

set_option Elab.async false
set_option linter.all false
set_option maxRecDepth 100000
set_option maxHeartbeats 4000000
namespace Inf
open PySem PySem.Spec PyProof.Rows L2 NdefX LamX
/-! ### a call by names alone while the def's cells are told -/
section
variable {X : Cx} {pins : List (Addr × Obj)} {σ : L2.St} {H : Hp} {s : Shared}
theorem tel_runN {k n : Nat} {f : Addr} {fd : FuncData} {ps ks : List Str} {g : List Value → List Value → List Value} {gV : List V → List V → List V} {sp : Sp} {Q : VK} {us ws : List Value} {vs zs : List V} (F : FnOk X.prog X.w X.K X.mg X.base CX0 k f fd ps sp) (hr : Room k X.A) (hb : KBn X.K fd ps n ks g gV) (hfn : ∀ x, X.fn x = true)
    (I : Inv X pins σ H s) (r : Vals vs us) (rz : Vals zs ws) (l1 : vs.length = n) (l2 : zs.length = ks.length) (h : ∀ cs HT, Tel X.env.cells X.env.scope.names X.N σ H cs HT → sp (gV vs zs) HT (fun v H1 => (∀ b, b ∈ cs → H1 b = HT b) ∧ Q v (cut cs H1)) E0) : wpAny (model X.prog X.w) X.A (call (.ref f) us (ks.zip ws)) (EP X pins σ Q) X.xe s := by
  let cs := frCells X.env.cells
  let HT : Hp := fun b => if b ∈ cs then (match s.heap.get? b with | some o => some (.ext fun h => h.get? b = some o) | Option.none => Option.none) else H b
  have big : ∀ b, b ∈ cs → X.s_0.heap.objs.size ≤ b := fun b hb => by
    obtain ⟨x, e⟩ := mem_frCells hb
    exact I.ok.cab x b (hfn x) e
  have no : ∀ b, b ∈ cs → H b = Option.none := fun b hb => by
    obtain ⟨x, e⟩ := mem_frCells hb
    exact I.freeC x b e
  have inT : ∀ b, b ∈ cs → ∃ v o, s.heap.get? b = some o ∧ o.data = .cell v ∧ HT b = some (.ext fun h => h.get? b = some o) := fun b hb => by
    obtain ⟨x, e⟩ := mem_frCells hb
    obtain ⟨v, o, e1, e2⟩ := I.cell x b e
    refine ⟨v, o, e1, e2, ?_⟩
    show (if b ∈ cs then _ else _) = _
    rw [if_pos hb, e1]
  have outT : ∀ b, b ∉ cs → HT b = H b := fun b hb => if_neg hb
  have nonT : ∀ b, b ∉ cs → H b = Option.none → HT b = Option.none := fun b hb e => (outT b hb).trans e
  have T : Tel X.env.cells X.env.scope.names X.N σ H cs HT := by
    refine ⟨no, fun b hb => ?_, outT, I.ok.inj, fun y h => I.ok.has _ (.inl h), fun i y c v h1 h2 h3 h4 => ?_, fun b hb q hq => ?_, fun y c e => frCells_mem e⟩
    · obtain ⟨v, o, _, _, e⟩ := inT b hb
      exact ⟨_, e⟩
    · obtain ⟨v', o, e1, e2, e3⟩ := inT c (frCells_mem h3)
      obtain ⟨m, hn, hl⟩ := I.loc
      obtain ⟨u, ru, lk⟩ := hl i y v h1 h4 (.inr (.inl h2))
      refine ⟨_, e3, fun h hh => ⟨u, ru, o, hh, ?_⟩⟩
      rcases lk with ⟨z, _⟩ | ⟨_, c', hc', hcell⟩
      · have z' : X.env.scope.names.lookup y = some .local := z
        rw [h2] at z'
        cases z'
      · rw [h3] at hc'
        cases hc'
        obtain ⟨o', g1, g2⟩ := hcell
        rw [e1] at g1
        cases g1
        exact g2
    · obtain ⟨v, o, e1, e2, e3⟩ := inT b hb
      rw [e3] at hq
      have hq := HO.ext.inj (Option.some.inj hq)
      have hq := (congrFun hq s.heap).mp e1
      obtain ⟨oc, vs, t, g1, g2, _⟩ := hq
      rw [e1] at g1
      cases g1
      rw [e2] at g2
      cases g2
  have ncs : ∀ b, b < X.s_0.heap.objs.size → b ∉ cs := fun b l m => Nat.not_lt.mpr (big b m) l
  have e0 := I.env0
  have notfr : ∀ b, b ∈ frs X.stack → b ∉ cs := fun b hb m => by
    rcases List.mem_cons.mp (I.stkSub b hb) with e | hb'
    · obtain ⟨x, ex⟩ := mem_frCells m
      exact I.cne x b ex e
    · obtain ⟨_, o, ho, _⟩ := I.ok.funs.mem hb'
      exact ncs b (Heap.lt_size ho) m
  have nonext : ∀ {b : Addr} {o : HO}, H b = some o → b ∉ cs := fun e m => by
    rw [no _ m] at e
    cases e
  have e1 : Env0 X.prog X.w X.K X.mg X.base X.A X.stack s HT := by
    refine ⟨e0.frames, e0.mod, fun b o q => ⟨(e0.bs b o q).1, nonT b (ncs b (Nat.lt_of_lt_of_le (Heap.lt_size q) I.ok.bsz)) (e0.bs b o q).2⟩, e0.bsz, e0.funs, fun b hb => nonT b (notfr b hb) (e0.frf b hb), fun b o e => ?_, e0.bare⟩
    by_cases hb : b ∈ cs
    · obtain ⟨v, o', g1, g2, g3⟩ := inT b hb
      rw [g3] at e
      cases e
      exact ⟨g1, ⟨o', g1⟩, fun h1 h2 z k => k _ z⟩
    · rw [outT b hb] at e
      refine (e0.hok b o e).stay (fun c u _ q => q) (fun c q => ?_) fun c xs q => ?_
      · rw [outT c (nonext q)]
        exact q
      · rw [outT c (nonext q)]
        exact q
  have hq0 := h cs HT T
  have r2 := hb.rel r rz
  refine wpAny_call (codeAny_mono (F.run X.A X.stack s HT ⟨us, ks.zip ws⟩ (g us ws) (gV vs zs) _ E0 hr e1 (hb.to s us ws I.kIn (r.length.symm.trans l1) (rz.length.symm.trans l2)) r2 hq0) fun r s' hq => ?_)
  cases r with
  | error e => exact False.elim hq
  | ok fl =>
    cases fl with
    | next => exact False.elim hq
    | brk => exact False.elim hq
    | cont => exact False.elim hq
    | ret u =>
      obtain ⟨v, H1, os, bare, un, hok1, rv, kc, q⟩ := hq
      have notin : ∀ {b : Addr} {o : HO}, H1 b = some o → (∀ φ, o ≠ .ext φ) → b ∉ cs := fun {b o} e n m => by
        obtain ⟨v, o', _, _, g3⟩ := inT b m
        rw [kc b m, g3] at e
        exact n _ (Option.some.inj e).symm
      have keepC : ∀ b o, b ∈ cs → s.heap.get? b = some o → s'.heap.get? b = some o := fun b o m e => by
        obtain ⟨v, o', g1, _, g3⟩ := inT b m
        rw [g1] at e
        cases e
        have := hok1 b _ ((kc b m).trans g3)
        exact this.1
      refine I.after ⟨v, cut cs H1, os, bare, ⟨fun b o a n h1 h2 => ?_, fun b o a n h1 h2 => ?_, fun b o a n h2 => ?_, un.there, fun b xs e => ?_, fun b o u e => ?_, fun b ps e => ?_⟩, fun b o e => ?_, rv, q⟩
      · by_cases m : b ∈ cs
        · exact keepC b o m a
        · exact un.keep b o a (nonT b m n) h1 h2
      · exact un.slot b o a (nonT b (notfr b h1) n) h1 h2
      · by_cases m : b ∈ cs
        · exact cut_in m
        · rw [cut_out m]
          exact un.free b o a (nonT b m n) h2
      · have m := nonext e
        rw [cut_out m]
        exact un.tups b xs ((outT b m).trans e)
      · have m := nonext e
        rw [cut_out m]
        exact un.frzs b o u ((outT b m).trans e)
      · have m := nonext e
        rw [cut_out m]
        exact un.tbls b ps ((outT b m).trans e)
      · by_cases m : b ∈ cs
        · rw [cut_in m] at e
          cases e
        · rw [cut_out m] at e
          refine (hok1 b o e).stay (fun c u _ q => q) (fun c q => ?_) fun c xs q => ?_
          · rw [cut_out (notin q (fun φ z => nomatch z))]
            exact q
          · rw [cut_out (notin q (fun φ z => nomatch z))]
            exact q
end
def tCallKT (X : Cx) (m : Nat) (sp : Sp) (gV : List V → List V → List V) (tk : TA) : TE := fun σ H Q => tk σ H fun zs H1 => zs.length = m ∧ ∀ cs HT, Tel X.env.cells X.env.scope.names X.N σ H1 cs HT → sp (gV [] zs) HT (fun v H2 => (∀ b, b ∈ cs → H2 b = HT b) ∧ Q v (cut cs H2)) E0
theorem pe_kwT {X : Cx} {k : Nat} {f : Addr} {fd : FuncData} {ps ks : List Str} {g : List Value → List Value → List Value} {gV : List V → List V → List V} {sp : Sp} {x : Str} {p pos : Pos} {kws : List Keyword} {tk : TA} (hfn : ∀ x, X.fn x = true) (F : FnOk X.prog X.w X.K X.mg X.base CX0 k f fd ps sp) (hr : Room k X.A) (hg : Gl X x) (hm : X.mg x = some (.ref f))
    (hk : PySem.W.keepIn X.K (.ref f) = true) (hb : KBn X.K fd ps 0 ks g gV) (hkw : PK X kws tk)
    (hall : (backToKw pos (keywordEach kws X.env)).all (·.1.isSome) = true := by rfl)
    (hks : (backToKw pos (keywordEach kws X.env)).filterMap (·.1) = ks := by rfl) (hdb : (x == ("__debug__" : Str)) = false := by decide)
    (hpl : ((backTo pos (starEach [] X.env)).any (·.1) || (backToKw pos (keywordEach kws X.env)).any (·.1.isNone)) = false := by rfl) :
    PE X (.Call (.Name x p) [] kws pos) (tCallKT X ks.length sp gV tk) :=
  ⟨fun pins s σ H Q I h => wpAny_Call_Name_kw (ld_glob I hg hm (PySem.W.callWith_KW0 (h₀ := X.base) I.ok.mod.kin hk hall
    (thn (hkw.run pos pins s σ H _ I h) fun ws s2 ⟨zs, H2, I2, rz, l1, q2⟩ => ⟨I2.kIn, by rw [hks]; exact tel_runN (us := []) (vs := []) F hr hb hfn I2 .nil rz rfl l1 q2⟩) hpl) hdb)⟩
end Inf

set_option Elab.async false
set_option linter.all false
set_option maxRecDepth 100000
set_option maxHeartbeats 4000000
namespace Inf
open PySem PySem.Spec PyProof.Rows L2 NdefX LamX
/-! ### sorted(pairs, key=lambda p: (-p[1], p[0])) -/
/-- the lambda F: (-x[1], x[0]) -/
structure KeyLam (F : LF) (x : Str) : Prop where
  sc : NScope [x] [x] [] F.scope
  body : ∃ p1 k1 p2 p3 p4 p5 k2 p6 p7 k3 p8, F.body = .Tuple [.UnaryOp .USub (.Subscript (.Name x p1) (.Constant (.int 1) k1 p2) p3) p4, .Subscript (.Name x p5) (.Constant (.int 0) k2 p6) p7] k3 p8
  bind : ∀ (pm ctv v : Value), bindArgs (PySem.W.kla_fn "<lambda>" F.qual F.params F.body F.scope F.cl pm (.ref F.c) ctv) ⟨[v], []⟩ = pure [(x, v)]
  nd : (x == ("__debug__" : Str)) = false
section
variable {prog : Program} {w : World} {A : Around} {s : Shared} {E : Value → Shared → Prop}
theorem sub_at {env : Env} {x : Str} {p1 p2 p3 : Pos} {k1} {n : Int} {t : Addr} {its : Array Value} {j : Nat} {y : Value} {m : Str → Option Value} {Q : Value → Shared → Prop} (hk : env.scope.kind = .function) (hl : env.kindOf x = some .local) (hn : s.heap.Ns env.locals m) (hm : m x = some (.ref t)) (nd : (x == ("__debug__" : Str)) = false)
    (ht : IsTup s.heap t its) (h1 : -(2 ^ 63) ≤ n) (h2 : n < 2 ^ 63) (h3 : seqIndex? n its.size = some j) (h4 : its[j]? = some y) (q : Q y { s with toks := s.toks + 1 }) :
    wpAny (model prog w) A (eval (.Subscript (.Name x p1) (.Constant (.int n) k1 p2) p3) env) Q E s := by
  refine Subscript_ (wpAny_Name (wpAny_loadName_local hk hl hn hm ?_) nd)
  refine wpAny_Constant_int ?_
  exact subscriptTail_builtinR (s := { s with toks := s.toks + 1 }) (x := y) ht.typeIs slot_tuple_getitem.lookup (getItem_tuple (j := j) (Q := fun r s' => r = y ∧ Q r s') ht h1 h2 h3 h4 ⟨rfl, q⟩) rfl
theorem key_call {f t : Addr} {F : LF} {x : Str} {pm ctv : Value} {i j : Int} {ti tj : Tok} (L : KeyLam F x) (hd : A.depth < recursionLimit) (lim : s.heap.NoLimit) (ho : s.heap.get? f = some (PySem.W.kla_obj "<lambda>" F.qual F.params F.body F.scope F.cl pm F.c ctv)) (hc : s.heap.CodeRec (.ref F.c) F.qual) (ht : IsTup s.heap t #[.int i ti, .int j tj]) :
    wpAny (model prog w) A (call (.ref f) [.ref t]) (PySem.W.KeyPure (.tuple [.int (-j), .int i]) s) (fun _ _ => False) s := by
  refine wpAny_call ?_
  refine PySem.W.kla_callFunE hd ho rfl L.sc.co L.sc.gen rfl hc ?_
  rw [L.bind pm ctv]
  refine wpAny_pure (wpAny_newFunctionEnv L.sc.nocell (fun y hy => ?_) (fun h₁ hns hsb => ⟨lim.fresh _ hsb, ?_⟩) L.sc.kind)
  · rw [List.mem_singleton.mp hy]
    exact L.sc.par x List.mem_cons_self
  have kp : ∀ b o, s.heap.get? b = some o → h₁.get? b = some o := fun b o e => hsb.extBut b o (Nat.ne_of_lt (Heap.lt_size e)) (Heap.get?_push_of_some _ e)
  have ht1 : IsTup h₁ t #[.int i ti, .int j tj] := by
    obtain ⟨o, h1, h2, n, h3⟩ := ht
    exact ⟨o, kp _ _ h1, h2, n, h3⟩
  have hl : F.scope.names.lookup x = some .local := L.sc.par x List.mem_cons_self
  have hm : ([(x, Value.ref t)] : List (Str × Value)).reverse.lookup x = some (.ref t) := by
    show ([(x, Value.ref t)] : List (Str × Value)).lookup x = _
    rw [List.lookup_cons, beq_self_eq_true]
  obtain ⟨p1, k1, p2, p3, p4, p5, k2, p6, p7, k3, p8, hb⟩ := L.body
  refine PySem.W.kla_codeExpr ?_
  rw [hb]
  refine wpAny_Tuple_spliced ?_
  refine Calls.spliced_cons ?_
  refine wpAny_UnaryOp (sub_at (j := 1) (y := .int j tj) L.sc.kind hl hns hm L.nd ht1 (by decide) (by decide) rfl rfl ?_)
  refine neg_int ?_
  refine Calls.spliced_cons ?_
  refine sub_at (j := 0) (y := .int i ti) L.sc.kind hl hns hm L.nd ht1 (by decide) (by decide) rfl rfl ?_
  refine Calls.spliced_nil ⟨(show (2 : Nat) ≤ sizeLine by decide), ?_⟩
  refine ⟨_, _, rfl, fun b o e => Heap.get?_push_of_some _ (kp b o e), ?_⟩
  exact .tuple (Heap.get?_push_size _ rfl) rfl rfl (.cons (as := []) (.int _ _) (.cons (as := []) (.int _ _) .nil))
end
/-- the pairs stand at their addresses; the result goes by the second, the greatest first, then by the first -/
def pairLe (p q : Addr × Int × Int) : Bool := decide (-p.2.2 < -q.2.2 ∨ (-p.2.2 = -q.2.2 ∧ p.2.1 ≤ q.2.1))
def rSortKey (K : PySem.W.Frag) : List V → List V → Hp → VK → Prop := fun vs zs H Q => ∃ (a f : Addr) (F : LF) (x : Str) (bs : List (Addr × Int × Int)), vs = [.ref a] ∧ zs = [.ref f] ∧ SqL K H a (bs.map fun b => V.ref b.1) ∧ (∀ b ∈ bs, H b.1 = some (.tup [.int b.2.1, .int b.2.2])) ∧ KeyLam F x ∧ H f = some (LamO f F) ∧ H F.c = some (CodeO F.c F.qual) ∧
  ∀ p, H p = Option.none → Q (.ref p) (upd H p (.lst ((bs.mergeSort pairLe).map fun b => V.ref b.1)))
def PairIs (h : Heap) (v : Value) (b : Addr × Int × Int) : Prop := v = .ref b.1 ∧ ∃ ti tj, IsTup h b.1 #[.int b.2.1 ti, .int b.2.2 tj]
theorem pairs_each {h : Heap} : ∀ {bs : List (Addr × Int × Int)} {us : List Value}, Vals (bs.map fun b => V.ref b.1) us → (∀ b ∈ bs, ∃ ti tj, IsTup h b.1 #[.int b.2.1 ti, .int b.2.2 tj]) → PySem.W.EachIs (PairIs h) us bs
  | [], _, .nil, _ => .nil
  | b :: bs, _, .cons r t, k => .cons ⟨r, k b List.mem_cons_self⟩ (pairs_each t fun c m => k c (List.mem_cons_of_mem _ m))
theorem each_vals {h : Heap} : ∀ {bs : List (Addr × Int × Int)} {us : List Value}, PySem.W.EachIs (PairIs h) us bs → Vals (bs.map fun b => V.ref b.1) us
  | [], _, .nil => .nil
  | b :: bs, _, .cons r t => .cons r.1 (each_vals t)
theorem cr_sortKey {X : Cx} {k : Nat} (hr : Room k X.A) : CallRK X (.builtin "sorted") [Str.ofString "key"] (rSortKey X.K) := by
  intro pins s σ H vs zs us ws Q I r rz h
  obtain ⟨a, f, F, x, bs, rfl, rfl, hs, hb, L, hf, hcf, q⟩ := h
  obtain ⟨its, rv, hl, hz⟩ := I.list hs
  obtain rfl := Vals.ref1 r
  obtain ⟨w1, rfl, e1⟩ := vals1 rz
  obtain rfl : w1 = Value.ref f := e1
  have hp : ∀ b ∈ bs, ∃ ti tj, IsTup s.heap b.1 #[.int b.2.1 ti, .int b.2.2 tj] := fun b m => by
    obtain ⟨its2, r2, t2, _⟩ := I.tuple (SqT.of (hb b m))
    obtain ⟨u1, u2, rfl, g1, g2⟩ := vals2 r2
    obtain ⟨ti, rfl⟩ := g1
    obtain ⟨tj, rfl⟩ := g2
    exact ⟨ti, tj, t2⟩
  have e0 := I.env0
  have lim : s.heap.NoLimit := e0.mod.nolimit.keeps fun b o e => (e0.bs b o e).1
  obtain ⟨pm, ctv, ho⟩ := lamO_at I.hok hf
  have hc := codeO_at I.hok hcf
  rw [List.length_map] at hz
  refine PySem.W.sorted_key_data (b := false) (R := PairIs s.heap) (fun b : Addr × Int × Int => PyData.tuple [.int (-b.2.2), .int b.2.1]) hl.isList (pairs_each rv hp) (PySem.W.AllAlike.of fun _ _ => by simp [PySem.W.alike, PySem.W.alikeAll]) (PySem.W.Sortable.tuples fun _ => ⟨_, _, rfl⟩) hz (fun b _ => ?_) (ksk_s1 _ _) (fun _ => ksk_l1 _ _) (fun _ => ksk_t1 _ _)
    (fun v b hR _ h tk kp => ?_) fun out c h' tk kp _ hD hlo eo => ?_
  · have hd : (PyData.tuple [.int (-b.2.2), .int b.2.1]).depth = 1 := by simp [PyData.depth, PyData.depthAll]
    have := hr.un
    rw [hd]
    omega
  · obtain ⟨rfl, ti, tj, o, h1, h2, n, h3⟩ := hR
    obtain ⟨c, oc, vs, t, g1, g2, g3, g4⟩ := hc
    exact key_call L (A := X.A.in1.in1) (s := { s with heap := h, toks := tk }) hr.depth (lim.keeps kp) (kp _ _ ho) ⟨c, oc, vs, t, g1, kp _ _ g2, g3, g4⟩ ⟨o, kp _ _ h1, h2, n, h3⟩
  · rw [PySem.W.dataLe_ii (β := Addr × Int × Int) (fun p => -p.2.2) (fun p => p.2.1)] at eo
    have hlen : ((bs.mergeSort pairLe).map fun b => V.ref b.1).length ≤ sizeLine := by
      rw [List.length_map, List.length_mergeSort]
      exact hz
    exact ⟨.ref _, upd H (s.heap.objs.size + 1) (.lst ((bs.mergeSort pairLe).map fun b => V.ref b.1)), I.laid (t' := tk) kp (Nat.le_succ _) ⟨hlen, out, c, each_vals eo, hD⟩, rfl, q _ (I.hok.fresh (Nat.le_succ _))⟩
end Inf

set_option Elab.async false
set_option linter.all false
set_option maxRecDepth 100000
set_option maxHeartbeats 4000000
namespace Inf
open PySem PySem.Spec PyProof.Rows L2 NdefX LamX
/-! ### o.m(.., k=..) while the def's cells are told -/
def tMethKT (X : Cx) (C : Addr) (m : Str) (n r : Nat) (sp : Sp) (gV : List V → List V → List V) (ta : TE) (t tk : TA) : TE := fun σ H Q => ta σ H fun x H1 => ∃ a dx fs, x = .ref a ∧ H1 a = some (.ins C dx fs) ∧ fs.lookup m = none ∧
  t σ H1 fun vs H2 => tk σ H2 fun zs H3 => vs.length = n ∧ zs.length = r ∧ ∀ cs HT, Tel X.env.cells X.env.scope.names X.N σ H3 cs HT → sp (gV (x :: vs) zs) HT (fun v H4 => (∀ b, b ∈ cs → H4 b = HT b) ∧ Q v (cut cs H4)) E0
section
variable {X : Cx} {CX : CXT} {k n : Nat} {f C : Addr} {fd : FuncData} {ps ks : List Str} {sp : Sp} {E : XK} {m : Str} {pos apos : Pos} {e o : Expr} {es : List Expr} {kws : List Keyword} {ta : TE} {t tk : TA} {g : List Value → List Value → List Value} {gV : List V → List V → List V}
theorem pe_methKT {pl : Sem Bool} (hfn : ∀ x, X.fn x = true) (he : PE X o ta) (c : Cls X.K C) (hm : Meth X.K C m f) (F : FnOk X.prog X.w X.K X.mg X.base CX0 k f fd ps sp) (hr : Room k X.A) (hb : KBn X.K fd ps (n + 1) ks g gV) (ha : PA X (e :: es) t) (hkw : PK X kws tk)
    (hall : (backToKw pos (keywordEach kws X.env)).all (·.1.isSome) = true := by rfl) (hks : (backToKw pos (keywordEach kws X.env)).filterMap (·.1) = ks := by rfl)
    (hst : starEach (e :: es) X.env = (false, eval e X.env) :: starEach es X.env := by rfl)
    (hpl : ((backTo pos (starEach (e :: es) X.env)).any (·.1) || (backToKw pos (keywordEach kws X.env)).any (·.1.isNone)) = false := by rfl)
    (ht : eval (.Call (.Attribute o m apos) (e :: es) kws pos) X.env = (do
      let ov ← eval o X.env
      standAt apos.atName
      let (f, first) ← holding [ov] (getMethod ov m pl)
      callWith pos f first (backTo pos (starEach (e :: es) X.env)) (backToKw pos (keywordEach kws X.env))) := by rfl) :
    PE X (.Call (.Attribute o m apos) (e :: es) kws pos) (tMethKT X C m n ks.length sp gV ta t tk) := by
  refine ⟨fun pins s σ H Q I h => ?_⟩
  refine PySem.W.methodCall_KW (pl := pl) (thn (he.run pins s σ H _ I h) fun u s1 ⟨x, H1, I1, rx, a, dx, fs, ex, ea, l, q⟩ => ?_) ht
  subst ex
  obtain rfl : u = Value.ref a := rx
  refine getmeth_ok I1 ea c hm l ?_
  refine PySem.W.callWith_KW (first := [.ref a]) (h₀ := X.base) I.ok.mod.kin hm.kp hall (thn (ha.run pos pins s1 σ H1 _ I1 q) fun us s2 ⟨vs, H2, I2, r, q2⟩ => ?_) hpl hst
  refine thn (hkw.run pos pins s2 σ H2 _ I2 q2) fun ws s3 ⟨zs, H3, I3, rz, l1, l2, q3⟩ => ⟨I3.kIn, ?_⟩
  rw [hks]
  exact tel_runN (us := .ref a :: us) (vs := .ref a :: vs) F hr hb hfn I3 (.cons rfl r) rz (congrArg Nat.succ l1) l2 q3
end
end Inf

set_option Elab.async false
set_option linter.all false
set_option maxRecDepth 100000
set_option maxHeartbeats 4000000
namespace Inf
open PySem PySem.Spec PyProof.Rows L2 NdefX LamX
/-! ### sorted(numbers, key=lambda n: (-ranks[n], n)), ranks a name that the def has in a cell -/
structure KeyLamR (F : LF) (x y : Str) : Prop where
  sc : NScope [x, y] [x] [y] F.scope
  body : ∃ p1 p2 p3 p4 p5 k p6, F.body = .Tuple [.UnaryOp .USub (.Subscript (.Name y p1) (.Name x p2) p3) p4, .Name x p5] k p6
  bind : ∀ (pm ctv v : Value), bindArgs (PySem.W.kla_fn "<lambda>" F.qual F.params F.body F.scope F.cl pm (.ref F.c) ctv) ⟨[v], []⟩ = pure [(x, v)]
  ndx : (x == ("__debug__" : Str)) = false
  ndy : (y == ("__debug__" : Str)) = false
  ncy : (y == ("__classdict__" : Str)) = false
section
variable {P : Program} {w : World} {A : Around} {s : Shared}
theorem keyR_call {f c d : Addr} {F : LF} {x y : Str} {pm ctv : Value} {n r : Int} {tn : Tok} {vs : List (Key × Value)} (L : KeyLamR F x y) (hd : A.depth < recursionLimit) (lim : s.heap.NoLimit) (ho : s.heap.get? f = some (PySem.W.kla_obj "<lambda>" F.qual F.params F.body F.scope F.cl pm F.c ctv)) (hc : s.heap.CodeRec (.ref F.c) F.qual)
    (hcl : F.cl.lookup y = some c) (hcell : s.heap.IsCell c (some (.ref d))) (hds : (d == sysModules) = false) (hdk : s.heap.DictOf (mixKind P w) d vs) {rt : Tok} (hv : valueAt vs (.inl n) = some (.int r rt)) :
    wpAny (model P w) A (call (.ref f) [.int n tn]) (PySem.W.KeyPure (.tuple [.int (-r), .int n]) s) (fun _ _ => False) s := by
  refine wpAny_call ?_
  refine PySem.W.kla_callFunE hd ho rfl L.sc.co L.sc.gen rfl hc ?_
  rw [L.bind pm ctv]
  refine wpAny_pure (wpAny_newFunctionEnv L.sc.nocell (fun z hz => ?_) (fun h₁ hns hsb => ⟨lim.fresh _ hsb, ?_⟩) L.sc.kind)
  · rw [List.mem_singleton.mp hz]
    exact L.sc.par x List.mem_cons_self
  have kp : ∀ b o, s.heap.get? b = some o → h₁.get? b = some o := fun b o e => hsb.extBut b o (Nat.ne_of_lt (Heap.lt_size e)) (Heap.get?_push_of_some _ e)
  have hcell1 : h₁.IsCell c (some (.ref d)) := by
    obtain ⟨o, h1, h2⟩ := hcell
    exact ⟨o, kp _ _ h1, h2⟩
  have hdk1 : h₁.DictOf (mixKind P w) d vs := hdk.keep kp
  have hl : F.scope.names.lookup x = some .local := L.sc.par x List.mem_cons_self
  have hfr : F.scope.names.lookup y = some .free := L.sc.frk y List.mem_cons_self
  have hm : ([(x, Value.int n tn)] : List (Str × Value)).reverse.lookup x = some (.int n tn) := by
    show ([(x, Value.int n tn)] : List (Str × Value)).lookup x = _
    rw [List.lookup_cons, beq_self_eq_true]
  obtain ⟨p1, p2, p3, p4, p5, k, p6, hb⟩ := L.body
  refine PySem.W.kla_codeExpr ?_
  rw [hb]
  refine wpAny_Tuple_spliced ?_
  refine Calls.spliced_cons ?_
  refine wpAny_UnaryOp ?_
  refine Subscript_ (wpAny_Name (wpAny_loadName_free L.sc.kind hfr hcl hcell1 ?_ L.ncy) L.ndy)
  refine wpAny_Name (wpAny_loadName_local L.sc.kind hl hns hm ?_) L.ndx
  refine subscriptTail_builtinR (x := .int r rt) hdk1.typeIs PySem.F.slot_dict_getitem.lookup (wpAny_getItem_of (f := valueAt vs) (Q := fun u s' => u = .int r rt ∧ _) (kV_is (k := .inl n) ⟨tn, rfl⟩) hdk1.mapOf hv ⟨rfl, ?_⟩) rfl
  refine neg_int ?_
  refine Calls.spliced_cons ?_
  refine wpAny_Name (wpAny_loadName_local L.sc.kind hl hns hm ?_) L.ndx
  refine Calls.spliced_nil ⟨(show (2 : Nat) ≤ sizeLine by decide), ?_⟩
  refine ⟨_, _, rfl, fun b o e => Heap.get?_push_of_some _ (kp b o e), ?_⟩
  exact .tuple (Heap.get?_push_size _ rfl) rfl rfl (.cons (as := []) (.int _ _) (.cons (as := []) (.int _ _) .nil))
end
/-! ### a built-in called with keywords, by what the def's names hold -/
def CallRKs (X : Cx) (f : Value) (ks : List Str) (r : L2.St → List V → List V → Hp → VK → Prop) : Prop :=
  ∀ (pins : List (Addr × Obj)) (s : Shared) (σ : L2.St) (H : Hp) (xs zs : List V) (us ws : List Value) (Q : VK), Inv X pins σ H s → Vals xs us → Vals zs ws → r σ xs zs H Q → wpAny (model X.prog X.w) X.A (call f us (ks.zip ws)) (EP X pins σ Q) X.xe s
def tCKs (r : L2.St → List V → List V → Hp → VK → Prop) (t tk : TA) : TE := fun σ H Q => t σ H fun vs H1 => tk σ H1 fun zs H2 => r σ vs zs H2 Q
theorem pe_callBKs {X : Cx} {x : Str} {p pos : Pos} {e : Expr} {es : List Expr} {kws : List Keyword} {t tk : TA} {id : String} {ks : List Str} {r : L2.St → List V → List V → Hp → VK → Prop} (hc : CallRKs X (.builtin id) ks r) (hg : Gl X x) (hm : X.mg x = none) (hv : bootBuiltins x = some (.builtin id)) (ha : PA X (e :: es) t) (hk : PK X kws tk) (hn : x ≠ "__name__" := by decide) (hdb : (x == ("__debug__" : Str)) = false := by decide)
    (he : backTo pos (starEach (e :: es) X.env) = (false, eval e X.env) :: backTo pos (starEach es X.env) := by rfl) (hpl : (backTo pos (starEach (e :: es) X.env)).any (·.1) = false := by rfl)
    (hall : (backToKw pos (keywordEach kws X.env)).all (·.1.isSome) = true := by rfl) (hnone : (backToKw pos (keywordEach kws X.env)).any (·.1.isNone) = false := by rfl) (hks : (backToKw pos (keywordEach kws X.env)).filterMap (·.1) = ks := by rfl) :
    PE X (.Call (.Name x p) (e :: es) kws pos) (tCKs r t tk) := by
  refine ⟨fun pins s σ H Q I h => ?_⟩
  refine wpAny_Call_Name_kw (ld_blt I hg hm hv ?_ hn hdb)
  refine PyProof.Rows.callWith_kw (thn (ha.run pos pins s σ H _ I h) fun us s1 ⟨vs, H1, I1, r1, q1⟩ => thn (hk.run pos pins s1 σ H1 _ I1 q1) fun ws s2 ⟨zs, H2, I2, r2, q2⟩ => ?_) he hpl hall hnone
  rw [hks]
  exact hc pins s2 σ H2 vs zs us ws Q I2 r1 r2 q2
/-- the numbers by their ranks, the greatest first, then by themselves -/
def ordLe (rk : Int → Int) (n m : Int) : Bool := decide (-rk n < -rk m ∨ (-rk n = -rk m ∧ n ≤ m))
def rSortC (X : Cx) (i : Nat) (x y : Str) : L2.St → List V → List V → Hp → VK → Prop := fun σ vs zs H Q => ∃ (a f d : Addr) (F : LF) (ns : List Int) (rk : Int → Int) (kvs : List (Key × V)), vs = [.ref a] ∧ zs = [.ref f] ∧ SqL X.K H a (ns.map V.int) ∧ KeyLamR F x y ∧ F.cl = cloFrom X.env.cells F.scope.names [] ∧ H f = some (LamO f F) ∧ H F.c = some (CodeO F.c F.qual) ∧
  σ[i]? = some (some (.ref d)) ∧ H d = some (.dK kvs) ∧ (∀ n ∈ ns, valV kvs (.inl n) = some (.int (rk n))) ∧ ∀ p, H p = Option.none → Q (.ref p) (upd H p (.lst ((ns.mergeSort (ordLe rk)).map V.int)))
def IntIs (v : Value) (n : Int) : Prop := ∃ t, v = .int n t
theorem ints_each : ∀ {ns : List Int} {us : List Value}, Vals (ns.map V.int) us → PySem.W.EachIs IntIs us ns
  | [], _, .nil => .nil
  | n :: ns, _, .cons r t => .cons r (ints_each t)
theorem each_ints : ∀ {ns : List Int} {us : List Value}, PySem.W.EachIs IntIs us ns → Vals (ns.map V.int) us
  | [], _, .nil => .nil
  | n :: ns, _, .cons r t => .cons r (each_ints t)
theorem cr_sortC {X : Cx} {k i : Nat} {x y : Str} (hr : Room k X.A) (hN : X.N[i]? = some y) (hy : X.env.scope.names.lookup y = some .cell) : CallRKs X (.builtin "sorted") [Str.ofString "key"] (rSortC X i x y) := by
  intro pins s σ H vs zs us ws Q I r rz h
  obtain ⟨a, f, d, F, ns, rk, kvs, rfl, rfl, hs, L, hcl, hf, hcf, hσ, hd, hrk, q⟩ := h
  obtain ⟨its, rv, hl, hz⟩ := I.list hs
  obtain rfl := Vals.ref1 r
  obtain ⟨w1, rfl, e1⟩ := vals1 rz
  obtain rfl : w1 = Value.ref f := e1
  have e0 := I.env0
  have lim : s.heap.NoLimit := e0.mod.nolimit.keeps fun b o e => (e0.bs b o e).1
  obtain ⟨pm, ctv, ho⟩ := lamO_at I.hok hf
  have hc := codeO_at I.hok hcf
  obtain ⟨_, hds, kv, rel, dd⟩ := dk_of I.hok hd
  obtain ⟨c, hcc, hcell⟩ : ∃ c, X.env.cells.lookup y = some c ∧ s.heap.IsCell c (some (.ref d)) := by
    obtain ⟨m, hn, hlo⟩ := I.loc
    obtain ⟨u, ru, lk⟩ := hlo i y (.ref d) hN hσ (.inr (.inl hy))
    obtain rfl : u = Value.ref d := ru
    rcases lk with ⟨z, _⟩ | ⟨_, c', hc', hcell⟩
    · have z' : X.env.scope.names.lookup y = some .local := z
      rw [hy] at z'
      cases z'
    · exact ⟨c', hc', hcell⟩
  have hclo : F.cl.lookup y = some c := by
    rw [hcl]
    refine clo_has (fun z hz e => ?_) (PySem.mem_of_lookup (L.sc.frk y List.mem_cons_self)) hcc
    have := L.sc.free z hz e
    rw [List.mem_singleton.mp this]
    exact ⟨c, hcc⟩
  rw [List.length_map] at hz
  refine PySem.W.sorted_key_data (b := false) (R := IntIs) (fun n : Int => PyData.tuple [.int (-rk n), .int n]) hl.isList (ints_each rv) (PySem.W.AllAlike.of fun _ _ => by simp [PySem.W.alike, PySem.W.alikeAll]) (PySem.W.Sortable.tuples fun _ => ⟨_, _, rfl⟩) hz (fun n _ => ?_) (ksk_s1 _ _) (fun _ => ksk_l1 _ _) (fun _ => ksk_t1 _ _)
    (fun v n hR hm h tk kp => ?_) fun out c' h' tk kp _ hD hlo eo => ?_
  · have hd : (PyData.tuple [.int (-rk n), .int n]).depth = 1 := by simp [PyData.depth, PyData.depthAll]
    have := hr.un
    rw [hd]
    omega
  · obtain ⟨tn, rfl⟩ := hR
    obtain ⟨c2, oc, vs, t, g1, g2, g3, g4⟩ := hc
    obtain ⟨w', hw, rt, rfl⟩ := RelO.some_of (v := V.int (rk n)) (o := valueAt kv (.inl n)) (by rw [← hrk n hm]; exact rel.val (.inl n))
    refine keyR_call L (A := X.A.in1.in1) (s := { s with heap := h, toks := tk }) hr.depth (lim.keeps kp) (kp _ _ ho) ⟨c2, oc, vs, t, g1, kp _ _ g2, g3, g4⟩ hclo ?_ hds (dd.keep kp) hw
    obtain ⟨o, h1, h2⟩ := hcell
    exact ⟨o, kp _ _ h1, h2⟩
  · rw [PySem.W.dataLe_ii (β := Int) (fun n => -rk n) (fun n => n)] at eo
    have hlen : ((ns.mergeSort (ordLe rk)).map V.int).length ≤ sizeLine := by
      rw [List.length_map, List.length_mergeSort]
      exact hz
    exact ⟨.ref _, upd H (s.heap.objs.size + 1) (.lst ((ns.mergeSort (ordLe rk)).map V.int)), I.laid (t' := tk) kp (Nat.le_succ _) ⟨hlen, out, c', each_ints eo, hD⟩, rfl, q _ (I.hok.fresh (Nat.le_succ _))⟩
end Inf

set_option Elab.async false
set_option linter.all false
set_option maxRecDepth 100000
set_option maxHeartbeats 4000000
namespace Inf
open PySem PySem.Spec PyProof.Rows L2 NdefX LamX RT
/-! ### list(reversed(xs)) -/
section
variable {prog : Program} {w : World} {A : Around} {E : Value → Shared → Prop} {s : Shared}
theorem ext_rev {R : Result → Shared → Prop} {J ll D : Addr} {vals : Array Value} {c0 : Nat} (quiet : A.handled = none) (atJ : s.heap.IsRevIter J ll ((vals.size : Int) - 1)) (atL : s.heap.IsList ll vals) (apart : ll ≠ J) (DJ : D ≠ J) (DL : D ≠ ll) (room : vals.size ≤ sizeLine) (atD : s.heap.get? D = some { cls := .type "list", data := .seq #[] c0 })
    (fin : ∀ (g : Heap) (tk : Nat) (acc : Array Value) (c' : Nat), (∀ b o, b ≠ D → b ≠ J → s.heap.get? b = some o → g.get? b = some o) → g.get? D = some { cls := .type "list", dict := none, data := .seq acc c', slots := #[] } → ItemsOf (fun i v => vals[vals.size - 1 - i]? = some v) acc vals.size → R (.ok (.ret .none)) { s with heap := g, toks := tk }) :
    wpAny (model prog w) A.in1 (Builtin.List.listExtendWith (.ref D) (.ref J) .none)
      (fun fl u => match fl with | .done f => R (.ok f) u | .again k => k.quiet = true ∧ codeAny (model prog w) A k R u) (fun e u => R (.error e) u) s := by
  have W := (Walks.listRev (prog := prog) (w := w) (A := A.in1) quiet J ll apart vals).toS
  have ty : s.TypeIs (.ref J) "list_reverseiterator" := atJ.typeIs
  have far : D ∉ [J, ll] := by simp only [List.mem_cons, List.not_mem_nil, or_false, not_or]; exact ⟨DJ, DL⟩
  unfold Builtin.List.listExtendWith
  refine wpAny_bind (wpAny_typeOf ty ?_)
  rw [if_neg (by simp [Builtin.List.listSameRef, DJ])]
  refine wpAny_bind (wpAny_pyIter_revIter atJ ?_)
  refine wpAny_bind (wpAny_holding ?_)
  unfold Builtin.List.listLengthHint
  refine wpAny_bind (wpAny_specialOf ty nolen_lri ?_)
  show wpAny _ A.in1 (specialOf _ _ >>= _) _ _ s
  refine wpAny_bind (wpAny_specialOf ty hint_lri ?_)
  generalize nm : ("list_reverseiterator.__length_hint__" : String) = idh
  wp_delta
  rw [show splitId idh = some ("list_reverseiterator", "__length_hint__") from by subst nm; decide +kernel]
  subst nm
  refine wpAny_bind (wpAny_isInstance (b := true) ty (by rw [isSubtype_type]; kernel_rfl) (wpAny_pure ?_))
  rw [if_neg (by decide)]
  have z0 : ((vals.size : Nat) : Int) - 1 - ((0 : Nat) : Int) = (vals.size : Int) - 1 := by omega
  refine wpAny_pure ⟨plainId_quiet F.plain_extend_loop _, codeAny_extend_loopS W room _ far _ vals.size 0 _ _ _ rfl (Nat.zero_le _) ⟨Nat.zero_le _, by rw [z0]; exact atJ, atL⟩ atD (ItemsOf.nil _) fun u acc c' mv at' its => ?_⟩
  rw [Moved.eq_with mv]
  refine fin u.heap u.toks acc c' (fun b o n1 n2 e => mv.heap b o (fun hm => ?_) e) at' its
  rcases List.mem_cons.mp hm with e' | hm
  · exact n1 e'
  · exact n2 (List.mem_singleton.mp hm)
theorem init_rev {R : Result → Shared → Prop} {J ll D : Addr} {vals : Array Value} (quiet : A.handled = none) (atJ : s.heap.IsRevIter J ll ((vals.size : Int) - 1)) (atL : s.heap.IsList ll vals) (apart : ll ≠ J) (DJ : D ≠ J) (DL : D ≠ ll) (room : vals.size ≤ sizeLine) (atD : s.heap.get? D = some { cls := .type "list", data := .seq #[] })
    (fin : ∀ (g : Heap) (tk : Nat) (acc : Array Value) (c' : Nat), (∀ b o, b ≠ D → b ≠ J → s.heap.get? b = some o → g.get? b = some o) → g.get? D = some { cls := .type "list", dict := none, data := .seq acc c', slots := #[] } → ItemsOf (fun i v => vals[vals.size - 1 - i]? = some v) acc vals.size → R (.ok (.ret .none)) { s with heap := g, toks := tk }) :
    wpAny (model prog w) A.in1 (Builtin.«list.__init__» ⟨[.ref D, .ref J], []⟩)
      (fun fl u => match fl with | .done f => R (.ok f) u | .again k => k.quiet = true ∧ codeAny (model prog w) A k R u) (fun e u => R (.error e) u) s := by
  show wpAny _ A.in1 (Builtin.List.listItems (.ref D) >>= fun old => Builtin.List.listUpdate (.ref D) (fun _ => #[]) >>= fun _ => letGo old.toList.reverse >>= fun _ => Builtin.List.listExtendWith (.ref D) (.ref J) .none) _ _ s
  refine wpAny_bind ?_
  unfold Builtin.List.listItems
  refine wpAny_bind (wpAny_seqItems atD rfl (wpAny_pure ?_))
  refine wpAny_bind ?_
  show wpAny _ A.in1 (updateSeq D (fun _ => #[])) _ _ s
  refine wpAny_updateSeq atD rfl ?_
  have atD2 := Heap.get?_update_self (Obj.mapSeq (fun _ => (#[] : Array Value))) atD rfl
  have rest : ∀ b o, b ≠ D → s.heap.get? b = some o → (s.heap.update D (Obj.mapSeq (fun _ => (#[] : Array Value)))).get? b = some o := fun b o n e => (Heap.get?_update_other _ _ (Ne.symm n)).trans e
  refine wpAny_bind (wpAny_letGo ?_)
  obtain ⟨ol, l1, l2, l3⟩ := atL
  refine ext_rev (A := A) quiet (atJ.at fun o e => rest J o DJ.symm e) ⟨ol, rest ll ol DL.symm l1, l2, l3⟩ apart DJ DL room atD2 fun g tk acc c' k a i => ?_
  exact fin g tk acc c' (fun b o n1 n2 e => k b o n1 n2 (rest b o n1 e)) a i
theorem call_list_rev {Q : Value → Shared → Prop} {J ll : Addr} {vals : Array Value} (quiet : A.handled = none) (atJ : s.heap.IsRevIter J ll ((vals.size : Int) - 1)) (atL : s.heap.IsList ll vals) (apart : ll ≠ J) (room : vals.size ≤ sizeLine)
    (fin : ∀ (g : Heap) (tk : Nat) (acc : Array Value) (c' : Nat), (∀ b o, b ≠ J → s.heap.get? b = some o → g.get? b = some o) → g.get? s.heap.objs.size = some { cls := .type "list", dict := none, data := .seq acc c', slots := #[] } → ItemsOf (fun i v => vals[vals.size - 1 - i]? = some v) acc vals.size → Q (.ref s.heap.objs.size) { s with heap := g, toks := tk }) :
    wpAny (model prog w) A (call (.type "list") [.ref J]) Q E s := by
  obtain ⟨oj, j1, j2⟩ := id atJ
  obtain ⟨ol, l1, l2⟩ := id atL
  have DJ : s.heap.objs.size ≠ J := Nat.ne_of_gt (Heap.lt_size j1)
  have DL : s.heap.objs.size ≠ ll := Nat.ne_of_gt (Heap.lt_size l1)
  refine callType_codes (Q₁ := fun obj s₁ => obj = .ref s.heap.objs.size ∧ s₁ = { s with heap := s.heap.push { cls := .type "list", data := .seq #[] } }) F.called_list (F.typeCall_list_1 _) F.entry_list_init (code_list_new _ ⟨rfl, rfl⟩) fun obj s₁ h₁ => ?_
  obtain ⟨rfl, rfl⟩ := h₁
  have atD : (s.heap.push { cls := .type "list", data := .seq #[] }).get? s.heap.objs.size = some { cls := .type "list", data := .seq #[] } := Heap.get?_push_size _ rfl
  refine ⟨⟨_, atD, rfl⟩, F.args_list_init_2 _ _, init_rev (A := A.in1) quiet (atJ.at fun o e => Heap.get?_push_of_some _ e) (atL.push _) apart DJ DL room atD fun g tk acc c' k a i => ?_⟩
  exact ⟨rfl, fin g tk acc c' (fun b o n e => k b o (Nat.ne_of_lt (Heap.lt_size e)) n (Heap.get?_push_of_some _ e)) a i⟩
end
/-- a new list of what the list holds, from behind -/
def tLstRev (K : PySem.W.Frag) (te : TE) : TE := fun σ H Q => te σ H fun v H1 => ∃ (a : Addr) (xs : List V), v = .ref a ∧ SqL K H1 a xs ∧ ∀ q, H1 q = Option.none → Q (.ref q) (upd H1 q (.lst xs.reverse))
theorem pe_lstRev {X : Cx} {e : Expr} {te : TE} {p p2 pos pos2 : Pos} (calm : X.calm = true) (g1 : Gl X "list") (m1 : X.mg "list" = Option.none) (g2 : Gl X "reversed") (m2 : X.mg "reversed" = Option.none) (he : PE X e te)
    (st1 : starEach [e] X.env = (false, eval e X.env) :: starEach [] X.env := by rfl)
    (st2 : starEach [.Call (.Name "reversed" p2) [e] [] pos2] X.env = (false, eval (.Call (.Name "reversed" p2) [e] [] pos2) X.env) :: starEach [] X.env := by rfl) :
    PE X (.Call (.Name "list" p) [.Call (.Name "reversed" p2) [e] [] pos2] [] pos) (tLstRev X.K te) :=
  ⟨fun pins s σ H Q I h => by
  refine Call_ (ld_blt I g1 m1 boot_list (PyProof.Rows.callWith_type1 (args_cons (Call_ (ld_blt I g2 m2 PyProof.Rows.boot_reversed (PyProof.Rows.callWith_type1 (args_cons (thn (he.run pins s σ H _ I h) fun u s1 ⟨v, H1, I1, r1, a, xs, ev, hq, q⟩ => args_nil ?_) st1) st1 rfl))) st2) st2 rfl))
  subst ev
  obtain rfl : u = Value.ref a := r1
  obtain ⟨its, rv, pl, room⟩ := I1.list hq
  refine call_reversed_list pl.isList (args_nil ?_)
  have keep : ∀ b o, s1.heap.get? b = some o → (s1.heap.push (revObj a ((its.toArray.size : Int) - 1))).get? b = some o := fun b o e => Heap.get?_push_of_some _ e
  have hl := pl.isList
  obtain ⟨ol, hol, _⟩ := id hl
  have apart : a ≠ s1.heap.objs.size := Nat.ne_of_lt (Heap.lt_size hol)
  have roomN : its.toArray.size ≤ sizeLine := by rw [List.size_toArray, ← rv.length]; exact room
  refine call_list_rev (s := { s1 with heap := s1.heap.push (revObj a ((its.toArray.size : Int) - 1)) }) (I1.ok.hd calm) ⟨_, Heap.get?_push_size _ rfl, rfl, rfl⟩ (hl.push _) apart roomN fun g tk acc c' kept hat hits => ?_
  have le : s1.heap.objs.size ≤ (s1.heap.push (revObj a ((its.toArray.size : Int) - 1))).objs.size := by
    show s1.heap.objs.size ≤ (s1.heap.objs.push _).size
    rw [Array.size_push]
    exact Nat.le_succ _
  refine ⟨.ref (s1.heap.push (revObj a ((its.toArray.size : Int) - 1))).objs.size, upd H1 (s1.heap.push (revObj a ((its.toArray.size : Int) - 1))).objs.size (.lst xs.reverse), I1.laid (t' := tk) (fun b o e => kept b o (Nat.ne_of_lt (Heap.lt_size e)) (keep b o e)) le (show ObjOk X.prog X.w _ _ _ (.lst xs.reverse) from ⟨?_, acc.toList, c', vals_rev rv hits, ?_⟩), rfl, q _ (I1.hok.fresh le)⟩
  · rw [List.length_reverse]
    exact room
  · rw [Array.toArray_toList]
    exact hat⟩
end Inf

set_option Elab.async false
set_option linter.all false
set_option maxRecDepth 100000
set_option maxHeartbeats 4000000
namespace Inf
open PySem PySem.Spec PyProof.Rows L2 NdefX LamX
/-! ### sorted(numbers, key=lambda n: (0 - ranks[n], n)), ranks a list that the def has in a cell -/
structure KeyLamL (F : LF) (x y : Str) : Prop where
  sc : NScope [x, y] [x] [y] F.scope
  body : ∃ j p0 p1 p2 p3 p4 p5 k p6, F.body = .Tuple [.BinOp (.Constant (.int 0) j p0) .Sub (.Subscript (.Name y p1) (.Name x p2) p3) p4, .Name x p5] k p6
  bind : ∀ (pm ctv v : Value), bindArgs (PySem.W.kla_fn "<lambda>" F.qual F.params F.body F.scope F.cl pm (.ref F.c) ctv) ⟨[v], []⟩ = pure [(x, v)]
  ndx : (x == ("__debug__" : Str)) = false
  ndy : (y == ("__debug__" : Str)) = false
  ncy : (y == ("__classdict__" : Str)) = false
section
variable {P : Program} {w : World} {A : Around} {s : Shared}
theorem keyL_call {f c d : Addr} {F : LF} {x y : Str} {pm ctv : Value} {n : Nat} {r : Int} {tn : Tok} {its : Array Value} (L : KeyLamL F x y) (hd : A.depth < recursionLimit) (lim : s.heap.NoLimit) (ho : s.heap.get? f = some (PySem.W.kla_obj "<lambda>" F.qual F.params F.body F.scope F.cl pm F.c ctv)) (hc : s.heap.CodeRec (.ref F.c) F.qual)
    (hcl : F.cl.lookup y = some c) (hcell : s.heap.IsCell c (some (.ref d))) (hlst : s.heap.IsList d its) (hsz : (its.size : Int) < 9223372036854775808) {rt : Tok} (hv : its[n]? = some (.int r rt)) :
    wpAny (model P w) A (call (.ref f) [.int (n : Int) tn]) (PySem.W.KeyPure (.tuple [.int (-r), .int (n : Int)]) s) (fun _ _ => False) s := by
  refine wpAny_call ?_
  refine PySem.W.kla_callFunE hd ho rfl L.sc.co L.sc.gen rfl hc ?_
  rw [L.bind pm ctv]
  refine wpAny_pure (wpAny_newFunctionEnv L.sc.nocell (fun z hz => ?_) (fun h₁ hns hsb => ⟨lim.fresh _ hsb, ?_⟩) L.sc.kind)
  · rw [List.mem_singleton.mp hz]
    exact L.sc.par x List.mem_cons_self
  have kp : ∀ b o, s.heap.get? b = some o → h₁.get? b = some o := fun b o e => hsb.extBut b o (Nat.ne_of_lt (Heap.lt_size e)) (Heap.get?_push_of_some _ e)
  have hcell1 : h₁.IsCell c (some (.ref d)) := by
    obtain ⟨o, h1, h2⟩ := hcell
    exact ⟨o, kp _ _ h1, h2⟩
  have hl1 : h₁.IsList d its := by
    obtain ⟨o, h1, h2⟩ := hlst
    exact ⟨o, kp _ _ h1, h2⟩
  have hl : F.scope.names.lookup x = some .local := L.sc.par x List.mem_cons_self
  have hfr : F.scope.names.lookup y = some .free := L.sc.frk y List.mem_cons_self
  have hm : ([(x, Value.int (n : Int) tn)] : List (Str × Value)).reverse.lookup x = some (.int (n : Int) tn) := by
    show ([(x, Value.int (n : Int) tn)] : List (Str × Value)).lookup x = _
    rw [List.lookup_cons, beq_self_eq_true]
  obtain ⟨j, p0, p1, p2, p3, p4, p5, k, p6, hb⟩ := L.body
  refine PySem.W.kla_codeExpr ?_
  rw [hb]
  refine wpAny_Tuple_spliced ?_
  refine Calls.spliced_cons ?_
  refine wpAny_BinOp (wpAny_Constant_int ?_)
  refine Subscript_ (wpAny_Name (wpAny_loadName_free L.sc.kind hfr hcl hcell1 ?_ L.ncy) L.ndy)
  refine wpAny_Name (wpAny_loadName_local L.sc.kind hl hns hm ?_) L.ndx
  have hn : n < its.size := (Array.getElem?_eq_some_iff.mp hv).1
  refine item_listR (x := .int r rt) hl1 (Int.natCast_nonneg n) (by omega) (by rw [Int.toNat_natCast]; exact hv) ?_ rfl
  refine sub_int ?_
  rw [show (0 : Int) - r = -r by omega]
  refine Calls.spliced_cons ?_
  refine wpAny_Name (wpAny_loadName_local L.sc.kind hl hns hm ?_) L.ndx
  refine Calls.spliced_nil ⟨(show (2 : Nat) ≤ sizeLine by decide), ?_⟩
  refine ⟨_, _, rfl, fun b o e => Heap.get?_push_of_some _ (kp b o e), ?_⟩
  exact .tuple (Heap.get?_push_size _ rfl) rfl rfl (.cons (as := []) (.int _ _) (.cons (as := []) (.int _ _) .nil))
end
def rSortL (X : Cx) (i : Nat) (x y : Str) : L2.St → List V → List V → Hp → VK → Prop := fun σ vs zs H Q => ∃ (a f d : Addr) (F : LF) (ns : List Nat) (rk : Nat → Int) (xs : List V), vs = [.ref a] ∧ zs = [.ref f] ∧ SqL X.K H a (ns.map fun n : Nat => V.int (n : Int)) ∧ KeyLamL F x y ∧ F.cl = cloFrom X.env.cells F.scope.names [] ∧ H f = some (LamO f F) ∧ H F.c = some (CodeO F.c F.qual) ∧
  σ[i]? = some (some (.ref d)) ∧ SqL X.K H d xs ∧ (∀ n ∈ ns, xs[n]? = some (.int (rk n))) ∧ ∀ p, H p = Option.none → Q (.ref p) (upd H p (.lst (((ns.map fun n : Nat => (n : Int)).mergeSort (ordLe fun n => rk n.toNat)).map V.int)))
theorem cr_sortL {X : Cx} {k i : Nat} {x y : Str} (hr : Room k X.A) (hN : X.N[i]? = some y) (hy : X.env.scope.names.lookup y = some .cell) : CallRKs X (.builtin "sorted") [Str.ofString "key"] (rSortL X i x y) := by
  intro pins s σ H vs zs us ws Q I r rz h
  obtain ⟨a, f, d, F, ns, rk, xs, rfl, rfl, hs, L, hcl, hf, hcf, hσ, hd, hrk, q⟩ := h
  have hs : SqL X.K H a ((ns.map fun n : Nat => (n : Int)).map V.int) := by
    rw [List.map_map]
    exact hs
  obtain ⟨its, rv, hl, hz⟩ := I.list hs
  obtain rfl := Vals.ref1 r
  obtain ⟨w1, rfl, e1⟩ := vals1 rz
  obtain rfl : w1 = Value.ref f := e1
  have e0 := I.env0
  have lim : s.heap.NoLimit := e0.mod.nolimit.keeps fun b o e => (e0.bs b o e).1
  obtain ⟨pm, ctv, ho⟩ := lamO_at I.hok hf
  have hc := codeO_at I.hok hcf
  obtain ⟨jts, rj, hlj, hzj⟩ := I.list hd
  obtain ⟨c, hcc, hcell⟩ : ∃ c, X.env.cells.lookup y = some c ∧ s.heap.IsCell c (some (.ref d)) := by
    obtain ⟨m, hn, hlo⟩ := I.loc
    obtain ⟨u, ru, lk⟩ := hlo i y (.ref d) hN hσ (.inr (.inl hy))
    obtain rfl : u = Value.ref d := ru
    rcases lk with ⟨z, _⟩ | ⟨_, c', hc', hcell⟩
    · have z' : X.env.scope.names.lookup y = some .local := z
      rw [hy] at z'
      cases z'
    · exact ⟨c', hc', hcell⟩
  have hclo : F.cl.lookup y = some c := by
    rw [hcl]
    refine clo_has (fun z hz e => ?_) (PySem.mem_of_lookup (L.sc.frk y List.mem_cons_self)) hcc
    have := L.sc.free z hz e
    rw [List.mem_singleton.mp this]
    exact ⟨c, hcc⟩
  rw [List.length_map] at hz
  refine PySem.W.sorted_key_data (b := false) (R := IntIs) (fun n : Int => PyData.tuple [.int (-rk n.toNat), .int n]) hl.isList (ints_each rv) (PySem.W.AllAlike.of fun _ _ => by simp [PySem.W.alike, PySem.W.alikeAll]) (PySem.W.Sortable.tuples fun _ => ⟨_, _, rfl⟩) hz (fun n _ => ?_) (ksk_s1 _ _) (fun _ => ksk_l1 _ _) (fun _ => ksk_t1 _ _)
    (fun v n hR hm h tk kp => ?_) fun out c' h' tk kp _ hD hlo eo => ?_
  · have hd : (PyData.tuple [.int (-rk n.toNat), .int n]).depth = 1 := by simp [PyData.depth, PyData.depthAll]
    have := hr.un
    rw [hd]
    omega
  · obtain ⟨tn, rfl⟩ := hR
    obtain ⟨j, hj, rfl⟩ := List.mem_map.mp hm
    obtain ⟨c2, oc, vs, t, g1, g2, g3, g4⟩ := hc
    obtain ⟨w', hw, rt, rfl⟩ := rj.get (hrk j hj)
    have hls := hlj.isList
    rw [Int.toNat_natCast]
    refine keyL_call (d := d) L (A := X.A.in1.in1) (s := { s with heap := h, toks := tk }) (its := jts.toArray) (rt := rt) hr.depth (lim.keeps kp) (kp _ _ ho) ⟨c2, oc, vs, t, g1, kp _ _ g2, g3, g4⟩ hclo ?_ ?_ ?_ (by simpa using hw)
    · obtain ⟨o, h1, h2⟩ := hcell
      exact ⟨o, kp _ _ h1, h2⟩
    · obtain ⟨o, h1, h2⟩ := hls
      exact ⟨o, kp _ _ h1, h2⟩
    · have := line63
      rw [List.size_toArray, ← rj.length]
      omega
  · rw [PySem.W.dataLe_ii (β := Int) (fun n => -rk n.toNat) (fun n => n)] at eo
    have hlen : (((ns.map fun n : Nat => (n : Int)).mergeSort (ordLe fun n => rk n.toNat)).map V.int).length ≤ sizeLine := by
      rw [List.length_map, List.length_mergeSort]
      exact hz
    exact ⟨.ref _, upd H (s.heap.objs.size + 1) (.lst (((ns.map fun n : Nat => (n : Int)).mergeSort (ordLe fun n => rk n.toNat)).map V.int)), I.laid (t' := tk) kp (Nat.le_succ _) ⟨hlen, out, c', each_ints eo, hD⟩, rfl, q _ (I.hok.fresh (Nat.le_succ _))⟩
end Inf

set_option Elab.async false
set_option linter.all false
set_option maxRecDepth 100000
set_option maxHeartbeats 4000000
namespace Inf
open PySem PySem.Spec PyProof.Rows L2
/-! ### xs[:0:-1] -/
theorem rvt_range (n : Nat) : sliceRange (n : Int) 0 (-1) = ((List.range n).map (1 + ·)).reverse := by
  unfold sliceRange
  have h1 : ¬ ((-1 : Int) > 0) := by decide
  have e : ((List.range n).map (1 + ·)).reverse = (List.range n).map fun k => n - k := by
    apply List.ext_getElem
    · simp
    · intro i h1 h2
      rw [List.length_map, List.length_range] at h2
      simp only [List.getElem_reverse, List.getElem_map, List.getElem_range, List.length_map, List.length_range]
      omega
  rw [e]
  by_cases h : (n : Int) > 0
  · have e2 : ((n : Int) - 0 - -1 - 1) / (- -1) = (n : Int) := by
      rw [show (- -1 : Int) = 1 by decide, Int.ediv_one]
      omega
    simp only [h1, if_false, h, if_true, e2, Int.toNat_natCast]
    apply List.map_congr_left
    intro k hk
    have := List.mem_range.mp hk
    omega
  · have e2 : n = 0 := by omega
    subst e2
    simp
theorem rvt_pick (items : Array Value) : slicePick items none (some 0) (some (-1)) = (items.toList.drop 1).reverse.toArray := by
  unfold slicePick
  cases hn : items.size with
  | zero =>
    have e : items.toList = [] := List.length_eq_zero_iff.mp (by rw [Array.length_toList]; exact hn)
    rw [e]
    rfl
  | succ n =>
    have hb : sliceBounds none (some 0) (some (-1)) (n + 1) = ((n : Int), 0, -1) := by
      have h1 : ¬ ((-1 : Int) > 0) := by decide
      simp only [sliceBounds, Option.getD_some, h1, if_false]
      refine Prod.ext ?_ (Prod.ext ?_ rfl)
      · show ((n + 1 : Nat) : Int) - 1 = (n : Int)
        omega
      · show max (-1 : Int) (min (if (0 : Int) < 0 then 0 + ((n + 1 : Nat) : Int) else 0) (((n + 1 : Nat) : Int) - 1)) = 0
        rw [if_neg (by decide)]
        omega
    rw [hb]
    show ((sliceRange (n : Int) 0 (-1)).filterMap (items[·]?)).toArray = _
    rw [rvt_range, List.filterMap_reverse, pick_run]
    rw [List.take_of_length_le (by rw [List.length_drop, Array.length_toList]; omega)]
def tRevT (K : PySem.W.Frag) (te : TE) : TE := fun σ H Q => te σ H fun x H1 => ∃ a xs, x = .ref a ∧ SqL K H1 a xs ∧ ∀ p, H1 p = Option.none → Q (.ref p) (upd H1 p (.lst (xs.drop 1).reverse))
theorem pe_revT {X : Cx} {e : Expr} {te : TE} {k k0 : Nat} {p0 p1 p2 p3 pos : Pos} (he : PE X e te) : PE X (.Subscript e (.Slice Option.none (some (.Constant (.int 0) k0 p0)) (some (.UnaryOp .USub (.Constant (.int 1) k p1) p2)) p3) pos) (tRevT X.K te) := by
  refine ⟨fun pins s σ H Q I h => ?_⟩
  refine Subscript_ (thn (he.run pins s σ H _ I h) fun v s1 ⟨x, H1, I1, r1, q1⟩ => ?_)
  obtain ⟨a, xs, ex, hx, q⟩ := q1
  subst ex
  cases r1
  have hst : PO X (some (.UnaryOp .USub (.Constant (.int 1) k p1) p2)) (tPart (tUn (rU fun i => .int (-i)) (tC (.int 1)))) := po_some (pe_un un_neg pe_int)
  have hup : PO X (some (.Constant (.int 0) k0 p0)) (tPart (tC (.int 0))) := po_some pe_int
  refine wpAny_Slice (thn (po_none.run pins s1 σ H1 (fun o H2 => o = Option.none ∧ H2 = H1) I1 ⟨rfl, rfl⟩) fun vl s2 ⟨l, H2, I2, pl, el, e2⟩ => ?_)
  subst el e2
  refine thn (hup.run pins s2 σ H2 (fun o H3 => o = some 0 ∧ H3 = H2) I2 ⟨0, rfl, rfl, rfl⟩) fun vu s3 ⟨u, H3, I3, pu, eu, e3⟩ => ?_
  subst eu e3
  refine thn (hst.run pins s3 σ H3 (fun o H4 => o = some (-1) ∧ H4 = H3) I3 ⟨1, rfl, -1, rfl, rfl, rfl⟩) fun vs s4 ⟨o, H4, I4, ps, eo, e4⟩ => ?_
  subst eo e4
  have I5 : Inv X pins σ H4 { s4 with heap := s4.heap.push { cls := .type "slice", data := .fields #[vl, vu, vs] } } := I4.kept (t' := s4.toks) fun b ob q => Heap.get?_push_of_some _ q
  obtain ⟨its, r, ht, hz⟩ := I5.list hx
  have hlen := r.length
  show wpAny (model X.prog X.w) X.A (subscriptTail e (.Slice Option.none (some (.Constant (.int 0) k0 p0)) (some (.UnaryOp .USub (.Constant (.int 1) k p1) p2)) p3) (.ref a) (.ref s4.heap.objs.size)) (EP X pins σ Q) X.xe { s4 with heap := s4.heap.push { cls := .type "slice", data := .fields #[vl, vu, vs] } }
  refine tail_any (ops := [.ref a, .ref s4.heap.objs.size]) ht.isList.typeIs (PySem.slot_list_getitem.lookup) ?_ (by with_unfolding_all rfl)
  refine wpAny_getItem_list_slice ht.isList (Heap.IsSliceOf.new _ vl vu vs) pl pu ps (by decide) ?_ (by rw [List.size_toArray]; omega)
  rw [rvt_pick]
  refine ⟨.ref _, _, I5.laid (t' := s4.toks) (o := .lst (xs.drop 1).reverse) (fun b ob q => Heap.get?_push_of_some _ q) (Nat.le_refl _) ?_, rfl, q _ (I5.hok.fresh (Nat.le_refl _))⟩
  exact ⟨by rw [List.length_reverse, List.length_drop]; omega, _, 0, (r.drop 1).reverse, Heap.get?_push_size _ rfl⟩
end Inf

set_option Elab.async false
set_option linter.all false
set_option maxRecDepth 100000
set_option maxHeartbeats 4000000
namespace Inf
open PySem PySem.Spec PyProof.Rows L2
/-! ### xs[:] = ys, two lists -/
section
variable {prog : Program} {w : World} {A : Around} {E : Value → Shared → Prop} {s : Shared}
theorem setItem_all {l b sl : Addr} {items new : Array Value} {n n2 : Nat} {vl vu : Value} {Q : Unit → Shared → Prop}
    (e : s.heap.get? l = some { cls := .type "list", data := .seq items n }) (e2 : s.heap.get? b = some { cls := .type "list", data := .seq new n2 }) (hne : l ≠ b)
    (hs : s.heap.IsSliceOf sl vl vu .none) (pl : IsPart vl Option.none) (pu : IsPart vu Option.none)
    (hsz : items.size + new.size ≤ sizeLine) (h : Q () { s with heap := s.heap.update l (Obj.mapSeq fun xs => xs.extract 0 (Int.toNat 0) ++ new ++ xs.extract (max (0 : Int) (items.size : Int)).toNat xs.size) }) :
    wpAny (model prog w) A (setItem (.ref l) (.ref sl) (.ref b)) Q E s := by
  have hl : s.heap.IsList l items := PySem.IsL.isList e
  have hb : s.heap.IsList b new := PySem.IsL.isList e2
  obtain ⟨os, hos, hcs, hds⟩ := id hs
  have hTs : s.TypeIs (.ref sl) "slice" := ⟨os, hos, hcs⟩
  have hstep : ¬ ((rawPart Option.none == rawInt 0) = true) := Bool.false_ne_true
  have hsame : Builtin.List.listSameRef (.ref l) (.ref b) = false := by
    unfold Builtin.List.listSameRef
    exact beq_eq_false_iff_ne.mpr hne
  have hb0 : sliceIndices (rawPart Option.none) (rawPart Option.none) (rawPart Option.none) items.size = pure ((0 : Int), (items.size : Int), (1 : Int)) := sliceIndices_raw Option.none Option.none Option.none items.size (fun z => nomatch z)
  have hmx : (max (0 : Int) (items.size : Int)).toNat = items.size := by omega
  have hz0 : items.size ≤ sizeLine := by omega
  unfold setItem
  refine wpAny_holding (wpAny_bind (wpAny_sequenceKey hl.typeIs (by decide) (wpAny_bind (wpAny_callSpecial?_slot (name := Str.ofString "__setitem__") hl.typeIs slot_list_setitem (wpAny_call_entry slot_list_setitem hl.typeIs entry_list_setitem ?_ (args_list_setitem _ _ _))))))
  refine wpAny_bind (m := Builtin.List.listSubscript? (.ref sl)) ?_
  unfold Builtin.List.listSubscript? Builtin.List.listAllItems Builtin.List.listItems
  refine wpAny_bind (wpAny_specialOf hTs slice_no_index (wpAny_pure ?_))
  refine wpAny_bind (m := typeOf (.ref sl)) (wpAny_typeOf hTs ?_)
  rw [if_neg (by decide), listSliceParts_eq]
  refine wpAny_bind (wpAny_bind (wpAny_field hos hds (x := .none) rfl (wpAny_bind (wpAny_listPart .none ?_))))
  rw [if_neg hstep]
  refine wpAny_bind (wpAny_field hos hds (x := vl) rfl (wpAny_bind (wpAny_listPart pl (wpAny_bind (wpAny_field hos hds (x := vu) rfl (wpAny_bind (wpAny_listPart pu (wpAny_pure ?_))))))))
  simp only [hsame, Bool.false_eq_true, if_false]
  refine wpAny_bind (wpAny_bind (wpAny_typeOf hb.typeIs ?_))
  simp only [beq_self_eq_true, Bool.true_or, if_true]
  refine wpAny_bind (wpAny_seqItems e2 rfl (wpAny_pure (wpAny_bind (wpAny_bind (wpAny_seqItems e rfl (wpAny_pure ?_))))))
  refine wpAny_bind (wpAny_of_eq hb0 ?_)
  show wpAny _ _ (if ((1 : Int) == 1) = true then _ else _) _ _ s
  rw [if_pos (by decide)]
  refine wpAny_bind (wpAny_rule ?_)
  simp only [notLongL hsz, Bool.false_eq_true, if_false]
  have hfun : (fun xs : Array Value => xs.extract 0 (Int.toNat 0) ++ new ++ xs.extract (max (0 : Int) (items.size : Int)).toNat xs.size) items = new := by
    show items.extract 0 0 ++ new ++ items.extract (max (0 : Int) (items.size : Int)).toNat items.size = new
    rw [hmx]
    simp
  show wpAny _ _ (updateSeq l (fun xs => xs.extract 0 (Int.toNat 0) ++ new ++ xs.extract (max (0 : Int) (items.size : Int)).toNat xs.size) >>= _) _ _ s
  refine wpAny_bind (wpAny_updateSeq (hz := hz0) (_hz' := Nat.le_trans (Nat.le_of_eq (congrArg Array.size hfun)) (by omega)) e rfl (wpAny_bind (wpAny_letGo (wpAny_pure ⟨.none, rfl, wpAny_pure ?_⟩))))
  exact h
end
def sAll (to tv : TE) : TS := fun D σ H => tv σ H fun y H1 => to σ H1 fun x H2 => ∃ l b xs ys, x = .ref l ∧ y = .ref b ∧ H2 l = some (.lst xs) ∧ H2 b = some (.lst ys) ∧ l ≠ b ∧ xs.length + ys.length ≤ sizeLine ∧ D.nx σ (upd H2 l (.lst ys))
theorem ps_setAll {X : Cx} {o value : Expr} {to tv : TE} {p pos' pos : Pos} (ho : PE X o to) (hv : PE X value tv) (hs : swapsWith value (some (.Subscript o (.Slice Option.none Option.none Option.none p) pos')) pos.line X.env = pure false) :
    PS X (.Assign [.Subscript o (.Slice Option.none Option.none Option.none p) pos'] value pos) (sAll to tv) := by
  refine ⟨fun pins s σ H D I h => ?_⟩
  refine wpAny_Assign_Subscript (thn (hv.run pins s σ H _ I h) fun r s1 ⟨y, H1, I1, ry, q1⟩ => thn (ho.run pins s1 σ H1 _ I1 q1) fun u s2 ⟨x, H2, I2, rx, l, b, xs, ys, ex, ey, el, eb, hne, hz, q⟩ => ?_) hs
  subst ex ey
  obtain rfl : u = Value.ref l := rx
  obtain rfl : r = Value.ref b := ry
  refine wpAny_Slice (thn (po_none.run pins s2 σ H2 (fun o H3 => o = Option.none ∧ H3 = H2) I2 ⟨rfl, rfl⟩) fun vl s3 ⟨a1, H3, I3, pl, ea1, e3⟩ => ?_)
  subst ea1 e3
  refine thn (po_none.run pins s3 σ H3 (fun o H4 => o = Option.none ∧ H4 = H3) I3 ⟨rfl, rfl⟩) fun vu s4 ⟨a2, H4, I4, pu, ea2, e4⟩ => ?_
  subst ea2 e4
  refine thn (po_none.run pins s4 σ H4 (fun o H5 => o = Option.none ∧ H5 = H4) I4 ⟨rfl, rfl⟩) fun vs s5 ⟨a3, H5, I5, ps, ea3, e5⟩ => ?_
  subst ea3 e5
  cases ps
  have I6 : Inv X pins σ H5 { s5 with heap := s5.heap.push { cls := .type "slice", data := .fields #[vl, vu, .none] } } := I5.kept (t' := s5.toks) fun b ob q => Heap.get?_push_of_some _ q
  obtain ⟨z, its, n, r1, hl, e⟩ := I6.lstM el
  obtain ⟨z2, its2, n2, r2, hl2, e2⟩ := I6.lstM eb
  have l1 := r1.length
  have l2 := r2.length
  refine setItem_all e e2 hne (Heap.IsSliceOf.new _ vl vu .none) pl pu (by rw [List.size_toArray, List.size_toArray]; omega) ⟨σ, _, I6.lset (its' := its2) (t' := s5.toks) el e ?_ r2 (by omega), q⟩
  show its.toArray.extract 0 0 ++ its2.toArray ++ its.toArray.extract (max (0 : Int) (its.toArray.size : Int)).toNat its.toArray.size = its2.toArray
  rw [show (max (0 : Int) (its.toArray.size : Int)).toNat = its.toArray.size by omega]
  simp
end Inf

set_option Elab.async false
set_option linter.all false
set_option maxRecDepth 100000
set_option maxHeartbeats 4000000
namespace Inf
open PySem PySem.Spec PyProof.Rows L2 GenW
open Sem (wp)
/-! ### for, in a generator's body -/
section
variable {M : Model} {A : Around} {R : GenEnd} {Y : Protocol} {n : Nat} {s₀ : Shared} {c : Code} {fs : List Frame} {s : Shared} {env : Env}
  {K : Flow → Sem PySem.Fin} {Hx : Value → Sem PySem.Fin} {gd : Bool → Bool} {lv : List Value → List Value}
theorem seg_For {tg iter : Expr} {body orelse : List Stmt} {pos : Pos} (hs : ∀ x, foldedSetIterable iter env x = pure x)
    (h : wpAny M (A.over c fs) (eval iter env) (fun x s1 => wpAny M (A.over c fs) (pyIter x) (fun it s2 =>
      ∀ p, Seg M A R Y n s₀ (.forLoop tg it body orelse env) (M.den (.forLoop tg it body orelse env))
        (.ret (fun r => ((match r with | .ok f => (.pure f : Sem Flow) | .error e => .raise e).onRaise (cameBack env)).wrap K Hx gd lv) none (gd false) (lv []) c p [] :: fs) s2)
      (fun e s' => Seg M A R Y n s₀ c (Hx e) fs s') s1) (fun e s' => Seg M A R Y n s₀ c (Hx e) fs s') s) :
    Seg M A R Y n s₀ c ((exec (.For tg iter body orelse pos) env).wrap K Hx gd lv) fs s := by
  rw [exec_For]
  refine seg_at ?_
  show Seg M A R Y n s₀ c ((eval iter env >>= fun v => (foldedSetIterable iter env v >>= fun x => (standAt iter.pos >>= fun _ => (holding [x] (pyIter x) >>= fun it => runOwn (.forLoop tg it body orelse env) env)))).wrap K Hx gd lv) fs s
  rw [Sem.bind_eq_wrap', Sem.wrap_wrap]
  refine seg_wrap (wpAny_mono h (fun x s1 h1 => ?_) fun _ _ e => e)
  show Seg M A R Y n s₀ c ((foldedSetIterable iter env x >>= fun x => (standAt iter.pos >>= fun _ => (holding [x] (pyIter x) >>= fun it => runOwn (.forLoop tg it body orelse env) env))).wrap K Hx gd lv) fs s1
  rw [hs x]
  refine seg_at ?_
  show Seg M A R Y n s₀ c ((holding [x] (pyIter x) >>= fun it => runOwn (.forLoop tg it body orelse env) env).wrap K Hx gd lv) fs s1
  rw [Sem.bind_eq_wrap', Sem.wrap_wrap]
  refine seg_wrap (wpAny_holding (wpAny_mono h1 (fun it s2 h2 => ?_) fun _ _ e => e))
  exact seg_call h2
end
section
variable {prog : Program} {w : World} {A : Around} {R : GenEnd} {Y : Protocol} {n : Nat} {s₀ : Shared} {fs : List Frame} {s : Shared} {env : Env}
def eHand (env : Env) (e : Value) : Sem PySem.Fin := (do noteFrame e env; theTreesLotGoes e : Sem Unit).wrap (fun _ => .raise e) .raise id id
theorem seg_forLoop {tg : Expr} {it : Value} {body : List Stmt}
    (h : wpAny (model prog w) (A.over (.forLoop tg it body [] env) fs) (pyNext it) (fun r s1 => match r with
        | none => Seg (model prog w) A R Y n s₀ (.forLoop tg it body [] env) (.pure (.again (.block [] env))) fs s1
        | some v => wpAny (model prog w) (A.over (.forLoop tg it body [] env) fs) (letOwnedTupleGo tg it v) (fun _ s2 => wpAny (model prog w) (A.over (.forLoop tg it body [] env) fs) (assign tg env v) (fun _ s3 =>
            Seg (model prog w) A R Y n s₀ (.forLoop tg it body [] env) ((execs body env).wrap (fun f => match f with
              | .next | .cont => .pure (.again (.forLoop tg it body [] env))
              | .brk => .pure (.done .next)
              | .ret v => .pure (.done (.ret v))) (eHand env) id id) fs s3)
            (fun x s' => Seg (model prog w) A R Y n s₀ (.forLoop tg it body [] env) (eHand env x) fs s') s2)
            (fun x s' => Seg (model prog w) A R Y n s₀ (.forLoop tg it body [] env) (eHand env x) fs s') s1)
      (fun x s' => Seg (model prog w) A R Y n s₀ (.forLoop tg it body [] env) (eHand env x) fs s') s) :
    Seg (model prog w) A R Y n s₀ (.forLoop tg it body [] env) ((model prog w).den (.forLoop tg it body [] env)) fs s := by
  show Seg _ A R Y n s₀ _ ((forTurn tg it body [] env).onRaise (fun x => do noteFrame x env; theTreesLotGoes x)) fs s
  unfold forTurn
  rw [Sem.onRaise_eq_wrap]
  refine seg_at ?_
  have eH : (fun e => ((do noteFrame e env; theTreesLotGoes e : Sem Unit).bind fun _ => (Sem.raise e : Sem PySem.Fin))) = eHand env := by
    funext e
    exact Sem.bind_eq_wrap _ _
  rw [eH]
  show Seg (model prog w) A R Y n s₀ (Code.forLoop tg it body [] env) (((pyNext it).onRaise (fun _ => standAt { tg.pos with line := 0 }) >>= fun r => (match r with
      | none => again (Code.block [] env)
      | some v => (letOwnedTupleGo tg it v >>= fun _ => (assign tg env v >>= fun _ => (execs body env >>= fun f => (match f with
        | .next | .cont => again (Code.forLoop tg it body [] env)
        | .brk => pure (Fin.done Flow.next)
        | .ret v => pure (Fin.done (Flow.ret v)) : Sem PySem.Fin)))) : Sem PySem.Fin)).wrap Sem.pure (eHand env) id id) fs s
  rw [Sem.bind_eq_wrap', Sem.wrap_wrap, Sem.onRaise_eq_wrap, Sem.wrap_wrap]
  refine seg_wrap (wpAny_mono h (fun r s1 h1 => ?_) fun e s' h' => ?_)
  · cases r with
    | none => exact h1
    | some v =>
      show Seg (model prog w) A R Y n s₀ (Code.forLoop tg it body [] env) ((letOwnedTupleGo tg it v >>= fun _ => (assign tg env v >>= fun _ => (execs body env >>= fun f => (match f with
        | .next | .cont => again (Code.forLoop tg it body [] env)
        | .brk => pure (Fin.done Flow.next)
        | .ret v => pure (Fin.done (Flow.ret v)) : Sem PySem.Fin)))).wrap Sem.pure (eHand env) id id) fs s1
      rw [Sem.bind_eq_wrap', Sem.wrap_wrap]
      refine seg_wrap (wpAny_mono h1 (fun _ s2 h2 => ?_) fun _ _ e => e)
      rw [Sem.bind_eq_wrap', Sem.wrap_wrap]
      refine seg_wrap (wpAny_mono h2 (fun _ s3 h3 => ?_) fun _ _ e => e)
      rw [Sem.bind_eq_wrap', Sem.wrap_wrap]
      have e := Sem.wrap_congr (execs body env) (K := fun f => match f with
            | .next | .cont => (.pure (.again (.forLoop tg it body [] env)) : Sem PySem.Fin)
            | .brk => .pure (.done .next)
            | .ret v => .pure (.done (.ret v))) (K' := fun f => Sem.wrap Sem.pure (eHand env) id id (match f with
            | .next | .cont => again (.forLoop tg it body [] env)
            | .brk => pure (.done .next)
            | .ret v => pure (.done (.ret v)))) (H := eHand env) (H' := eHand env) id id (fun f => by cases f <;> rfl) (fun e => rfl)
      rw [e] at h3
      exact h3
  · exact seg_at h'
end
/-! ### the loop itself -/
def tGFor (wi : TI) (g : TG) (tb : TGn) : TGn := fun D ys σ H => wi σ H fun J H1 => ∃ W : Nat → Nat → List V → L2.St → Hp → Prop, (∃ m, W 0 m ys σ H1) ∧ ∀ i m ys σ H, W i m ys σ H →
  (J.stop i H ∧ D.nx ys σ H) ∨ (J.go i H ∧ ∃ N : List V → L2.St → Hp → Prop, (∀ ys' σ' H', N ys' σ' H' → ∃ m', m' < m ∧ W (i + 1) m' ys' σ' H') ∧ ∀ x H', J.yld i H x H' → g x σ H' fun σ2 H2 => tb { D with nx := N, ct := N, bk := D.nx } ys σ2 H2)
section
variable {X : Cx}
theorem gs_for {tg iter : Expr} {body : List Stmt} {wi : TI} {g : TG} {tb : TGn} {pos : Pos} (hp : PassesOwn (model X.prog X.w) X.A X.env X.xe) (hc : X.calm = true) (hi : PI X tg iter wi) (hg : PG X tg g) (hb : GSs X body tb)
    (hs : ∀ x, foldedSetIterable iter X.env x = pure x := by intro _; rfl) : GS X (.For tg iter body [] pos) (tGFor wi g tb) := by
  refine ⟨fun A S ip R n ys s₀ c fs K J gd lv s σ H D gc hn k hI ht => ?_⟩
  obtain ⟨acc, cc, r, I⟩ := hI
  refine seg_For hs ?_
  rw [gc.over]
  refine wpAny_mono (hi.run _ s σ H _ I ht) (fun v s1 h1 => wpAny_mono h1 (fun itv s2 h2 p => ?_) fun x s' hx => k.exc n s₀ x s' hx) fun x s' hx => k.exc n s₀ x s' hx
  obtain ⟨it, fp, tn, Jt, H2, e, I2, T, st2, f2, W, ⟨m0, w0⟩, turn⟩ := h2
  subst e
  have stat : ∀ {ac : Array Value} {ck : Nat} {H' : Hp}, (∀ b ∈ fp, H' b = none) → ∀ b ∈ fp, FpOk X ((S, lstObj ac ck) :: ip) H' b := fun hn b hb => by
    obtain ⟨_, f1, f2', f3, f4, f5⟩ := f2 b hb
    refine ⟨hn b hb, f1, f2', f3, f4, fun q hq => ?_⟩
    rcases List.mem_append.mp hq with hq | hq
    · exact f5 q (List.mem_append_left _ hq)
    · rcases List.mem_cons.mp hq with rfl | hq
      · exact f5 (S, lstObj acc cc) (List.mem_append_right _ (List.mem_cons_self ..))
      · exact f5 q (List.mem_append_right _ (List.mem_cons_of_mem _ hq))
  have fS : ∀ b ∈ fp, b ≠ S := fun b hb z => (f2 b hb).2.2.2.2.2 (S, lstObj acc cc) (List.mem_append_right _ (List.mem_cons_self ..)) z.symm
  have gl := fun (kk : Result → Sem PySem.Fin) => gc_loop (k := kk) (c' := .forLoop tg (.ref it) body [] X.env) (l := lv []) (kp := []) (p := p) gc rfl rfl
  have loop : ∀ (m n i : Nat) (ys : List V) (s₀ s : Shared) (acc : Array Value) (cc : Nat) (σ : L2.St) (H : Hp), n + ys.length = sizeLine → W i m ys σ H → Vals ys acc.toList → L2.Inv X ((S, lstObj acc cc) :: ip) σ H s → tn i s.heap → (∀ b ∈ fp, H b = none) →
      Seg (model X.prog X.w) A R (GY X S) n s₀ (.forLoop tg (.ref it) body [] X.env) ((model X.prog X.w).den (.forLoop tg (.ref it) body [] X.env))
        (.ret (fun r => ((match r with | .ok f => (.pure f : Sem Flow) | .error e => .raise e).onRaise (cameBack X.env)).wrap K J gd lv) none (gd false) (lv []) c p [] :: fs) s := by
    intro m
    induction m using Nat.strongRecOn with
    | ind m ih =>
      intro n i ys s₀ s3 acc cc σ3 H3 hn w3 r3 I3 st3 fr3
      have ee : ∀ (n : Nat) (s₀ : Shared) (x : Value) (s' : Shared), X.xe x s' → Seg (model X.prog X.w) A R (GY X S) n s₀ (.forLoop tg (.ref it) body [] X.env) (eHand X.env x)
          (.ret (fun r => ((match r with | .ok f => (.pure f : Sem Flow) | .error e => .raise e).onRaise (cameBack X.env)).wrap K J gd lv) none (gd false) (lv []) c p [] :: fs) s' := fun n s₀ x s' hx => by
        refine seg_wrap ?_
        rw [(gl _).over]
        refine wpAny_bind (wpAny_mono (hp x s' hx) (fun _ s'' hcb => wpAny_theTreesLotGoes ?_) fun y s'' hcb => ?_)
        · exact seg_leaf (.error x) (seg_cameBack gc k hcb)
        · exact seg_leaf (.error y) (seg_cameBack gc k hcb)
      refine seg_forLoop ?_
      rw [(gl _).over]
      rcases turn i m ys σ3 H3 w3 with ⟨stop, qn⟩ | ⟨go, N, hN, step⟩
      · refine wpAny_mono (T.done X rfl rfl rfl hc i _ s3 σ3 H3 _ I3 (stat fr3) st3 stop) (fun q s4 ⟨hq, I4⟩ => ?_) fun _ _ e => e
        subst hq
        refine seg_again rfl ?_
        exact seg_leaf (.ok .next) (k.ok n ys s₀ s4 .next hn ⟨σ3, H3, ⟨acc, cc, r3, I4⟩, qn⟩)
      · refine wpAny_mono (T.item X rfl rfl rfl hc i _ s3 σ3 H3 _ I3 (stat fr3) st3 go) (fun q s4 ⟨u, hq, h4⟩ => ?_) fun _ _ e => e
        subst hq
        refine wpAny_mono h4 (fun _ s5 ⟨x, H5, I5, r5, y5, st5, fr5⟩ => ?_) fun _ _ e => e
        have I5' : L2.Inv X ((S, lstObj acc cc) :: (ip ++ pinsAt fp s5.heap)) σ3 H5 s5 := I5.pinned (stat fr5) (T.obj _ _ st5)
        refine wpAny_mono (hg.run _ s5 σ3 H5 x u _ I5' r5 (step x H5 y5)) (fun _ s6 ⟨σ6, H6, I6, q6⟩ => ?_) fun x s' hx => ee n s₀ x s' hx
        have un : ∀ {acc : Array Value} {cc : Nat} {σ7 : L2.St} {H7 : Hp} {s7 : Shared}, L2.Inv X ((S, lstObj acc cc) :: (ip ++ pinsAt fp s5.heap)) σ7 H7 s7 → L2.Inv X ((S, lstObj acc cc) :: ip) σ7 H7 s7 := fun I7 => Inv.unpinned (pins := (S, lstObj _ _) :: ip) I7
        have again : ∀ {acc7 : Array Value} {cc7 n' : Nat} {ys' : List V} {s₀' : Shared} {σ7 : L2.St} {H7 : Hp} {s7 : Shared}, n' + ys'.length = sizeLine → Vals ys' acc7.toList → L2.Inv X ((S, lstObj acc7 cc7) :: (ip ++ pinsAt fp s5.heap)) σ7 H7 s7 → N ys' σ7 H7 →
            Seg (model X.prog X.w) A R (GY X S) n' s₀' (.forLoop tg (.ref it) body [] X.env) (.pure (.again (.forLoop tg (.ref it) body [] X.env)))
              (.ret (fun r => ((match r with | .ok f => (.pure f : Sem Flow) | .error e => .raise e).onRaise (cameBack X.env)).wrap K J gd lv) none (gd false) (lv []) c p [] :: fs) s7 := fun {acc7 cc7 n' ys' s₀' σ7 H7 s7} hn' r7 I7 n7 => by
          obtain ⟨m', hm, w7⟩ := hN ys' σ7 H7 n7
          refine seg_again rfl (ih m' hm n' (i + 1) ys' s₀' s7 acc7 cc7 σ7 H7 hn' w7 r7 (un I7) (T.keep _ _ _ st5 fun b hb o e => (I7.pin (b, o) (List.mem_append_right _ (List.mem_cons_of_mem _ (List.mem_append_right _ (mem_pinsAt hb e))))).1) fun b hb => ?_)
          obtain ⟨o, e, d⟩ := T.obj _ _ st5 b hb
          exact (I7.pin (b, o) (List.mem_append_right _ (List.mem_cons_of_mem _ (List.mem_append_right _ (mem_pinsAt hb e))))).2.1
        have gi : ∀ q ∈ ip ++ pinsAt fp s5.heap, q.1 ≠ S := fun q hq => by
          rcases List.mem_append.mp hq with hq | hq
          · exact gc.ip q hq
          · exact fS _ (of_pinsAt hq).1
        refine hb.run A S (ip ++ pinsAt fp s5.heap) R n ys s₀ _ _ _ _ id id s6 σ6 H6 { D with nx := N, ct := N, bk := D.nx } { gl _ with ip := gi } hn ⟨fun n' ys' s₀' s7 f hn' hs => ?_, fun n' s₀' x s7 hx => ee n' s₀' x s7 hx⟩ ⟨acc, cc, r3, I6⟩ q6
        cases f with
        | next =>
          obtain ⟨σ7, H7, ⟨acc7, cc7, r7, I7⟩, n7⟩ := hs
          exact again hn' r7 I7 n7
        | cont =>
          obtain ⟨σ7, H7, ⟨acc7, cc7, r7, I7⟩, n7⟩ := hs
          exact again hn' r7 I7 n7
        | brk =>
          obtain ⟨σ7, H7, ⟨acc7, cc7, r7, I7⟩, q7⟩ := hs
          exact seg_leaf (.ok .next) (k.ok n' ys' s₀' s7 .next hn' ⟨σ7, H7, ⟨acc7, cc7, r7, un I7⟩, q7⟩)
        | ret v =>
          obtain ⟨x7, σ7, H7, ⟨acc7, cc7, r7, I7⟩, rv, q7⟩ := hs
          exact seg_leaf (.ok (.ret v)) (k.ok n' ys' s₀' s7 (.ret v) hn' ⟨x7, σ7, H7, ⟨acc7, cc7, r7, un I7⟩, rv, q7⟩)
  exact loop m0 n 0 ys s₀ s2 acc cc σ H2 hn w0 r I2 st2 fun b hb => (f2 b hb).1
/-- a statement of a generator's body while the thing at d is locked -/
def tGLock (t : TGn) : TGn := fun D ys σ H => ∃ d u, H d = some u ∧ Mut (some u) ∧ ∀ od, t ⟨fun ys' σ' H' => H' d = some (.frz od u) ∧ D.nx ys' σ' (upd H' d u), fun ys' v H' => H' d = some (.frz od u) ∧ D.rt ys' v (upd H' d u), fun ys' σ' H' => H' d = some (.frz od u) ∧ D.bk ys' σ' (upd H' d u), fun ys' σ' H' => H' d = some (.frz od u) ∧ D.ct ys' σ' (upd H' d u)⟩ ys σ (upd H d (.frz od u))
theorem gs_lock {st : Stmt} {t : TGn} (h : GS X st t) : GS X st (tGLock t) := by
  refine ⟨fun A S ip R n ys s₀ c fs K J gd lv s σ H D gc hn k hI ht => ?_⟩
  obtain ⟨acc, cc, r, I⟩ := hI
  obtain ⟨d, u, hd, mu, hw⟩ := ht
  obtain ⟨od, I1⟩ := I.lock hd mu
  refine h.run A S ip R n ys s₀ c fs K J gd lv s σ _ _ gc hn ⟨fun n' ys' s₀' s' f hn' hs => k.ok n' ys' s₀' s' f hn' ?_, k.exc⟩ ⟨acc, cc, r, I1⟩ (hw od)
  cases f with
  | next => obtain ⟨σ', H', ⟨acc', cc', r', I2⟩, e, q⟩ := hs; exact ⟨σ', _, ⟨acc', cc', r', I2.unlock e (I.nofrz hd mu)⟩, q⟩
  | brk => obtain ⟨σ', H', ⟨acc', cc', r', I2⟩, e, q⟩ := hs; exact ⟨σ', _, ⟨acc', cc', r', I2.unlock e (I.nofrz hd mu)⟩, q⟩
  | cont => obtain ⟨σ', H', ⟨acc', cc', r', I2⟩, e, q⟩ := hs; exact ⟨σ', _, ⟨acc', cc', r', I2.unlock e (I.nofrz hd mu)⟩, q⟩
  | ret v => obtain ⟨x, σ', H', ⟨acc', cc', r', I2⟩, rv, e, q⟩ := hs; exact ⟨x, σ', _, ⟨acc', cc', r', I2.unlock e (I.nofrz hd mu)⟩, rv, q⟩
end
theorem gfor_it {J : It} {n : Nat} {G : Hp → Prop} {Y : Nat → Hp → V → Hp → Prop} (w : Walk J n G Y) {g : TG} {tb : TGn} {D : GEnds} {ys : List V} {σ : L2.St} {H : Hp} (Pv : Nat → List V → L2.St → Hp → Prop) (h0 : Pv 0 ys σ H) (hG : ∀ i ys σ H, i ≤ n → Pv i ys σ H → G H)
    (hs : ∀ i x ys σ H H', i < n → Pv i ys σ H → Y i H x H' → g x σ H' fun σ2 H2 => tb { D with nx := Pv (i + 1), ct := Pv (i + 1), bk := D.nx } ys σ2 H2) (hd : ∀ ys σ H, Pv n ys σ H → D.nx ys σ H) :
    ∃ W : Nat → Nat → List V → L2.St → Hp → Prop, (∃ m, W 0 m ys σ H) ∧ ∀ i m ys σ H, W i m ys σ H →
      (J.stop i H ∧ D.nx ys σ H) ∨ (J.go i H ∧ ∃ N : List V → L2.St → Hp → Prop, (∀ ys' σ' H', N ys' σ' H' → ∃ m', m' < m ∧ W (i + 1) m' ys' σ' H') ∧ ∀ x H', J.yld i H x H' → g x σ H' fun σ2 H2 => tb { D with nx := N, ct := N, bk := D.nx } ys σ2 H2) := by
  refine ⟨fun i m ys σ H => m = n - i ∧ i ≤ n ∧ Pv i ys σ H, ⟨n, by simp, Nat.zero_le _, h0⟩, ?_⟩
  rintro i m ys σ H ⟨rfl, hi, p⟩
  have q := hG i ys σ H hi p
  by_cases hlt : i < n
  · exact .inr ⟨w.goes i H hlt q, Pv (i + 1), fun ys' σ' H' p' => ⟨n - (i + 1), by omega, rfl, hlt, p'⟩, fun x H' y => hs i x ys σ H H' hlt p (w.yields i H x H' hlt q y)⟩
  · have e : i = n := by omega
    subst e
    exact .inl ⟨w.stops H q, hd ys σ H p⟩
end Inf

set_option Elab.async false
set_option linter.all false
set_option maxRecDepth 100000
set_option maxHeartbeats 4000000
namespace Inf
open PySem PySem.Spec PyProof.Rows L2 NdefX LamX
/-! ### min(xs) of a list of pairs of ints: the pair itself -/
def p2D (z : Int × Int) : PyData := .tuple [.int z.1, .int z.2]
def rMinT (K : PySem.W.Frag) : List V → Hp → VK → Prop := fun vs H Q => ∃ (a : Addr) (ps : List Addr) (x : Int × Int) (xs : List (Int × Int)), vs = [V.ref a] ∧ SqL K H a (ps.map V.ref) ∧ DpAll K H (ps.map V.ref) ((x :: xs).map p2D) ∧
  ∀ (i : Nat) (p : Addr), ps[i]? = some p → (x :: xs)[i]? = some (PySem.W.minOf x xs) → Q (.ref p) H
theorem dpAll_at {K : PySem.W.Frag} {H : Hp} : ∀ {vs : List V} {ds : List PyData}, DpAll K H vs ds → ∀ {i : Nat} {v : V}, vs[i]? = some v → ∃ d, ds[i]? = some d ∧ Dp K H v d
  | _, _, .nil, i, v, e => by cases i <;> cases e
  | _, _, .cons h t, 0, v, e => by
    cases e
    exact ⟨_, rfl, h⟩
  | _, _, .cons h t, i + 1, v, e => dpAll_at t (i := i) e
theorem cr_minT {X : Cx} (hc : X.calm = true) (hu : X.A.units + 65 < cLine) : CallR X (.builtin "min") (rMinT X.K) := by
  intro pins s σ H vs us Q I r h
  obtain ⟨a, ps, x, xs, rfl, hs, hd, q⟩ := h
  obtain ⟨its, rv, hl, _⟩ := I.list hs
  rw [Vals.ref1 r]
  obtain ⟨as, hr⟩ := Dp.readsAll I _ _ _ hd rv
  have H1 : PySem.W.HoldAll s.heap its.toArray.toList (x :: xs) := ⟨as, hr⟩
  have hdp : PySem.W.Datum.depth (Int × Int) ≤ 60 := by decide
  have hroom : X.A.units + 1 + PySem.W.Datum.depth (Int × Int) < cLine := by omega
  refine PySem.W.min_list_datum (I.ok.hd hc) hl.isList H1 hroom fun i v h' tk hi hv hk => ?_
  rw [List.getElem?_toArray] at hi
  have hlen := rv.length
  have hi2 : i < (ps.map V.ref).length := by
    rw [hlen]
    exact (List.getElem?_eq_some_iff.mp hi).1
  obtain ⟨p, hp⟩ : ∃ p, ps[i]? = some p := ⟨_, List.getElem?_eq_getElem (by rw [List.length_map] at hi2; exact hi2)⟩
  have hpm : (ps.map V.ref)[i]? = some (V.ref p) := by rw [List.getElem?_map, hp]; rfl
  obtain ⟨d, hdd, hDp⟩ := dpAll_at hd hpm
  rw [List.getElem?_map] at hdd
  obtain ⟨z, hz, rfl⟩ := Option.map_eq_some_iff.mp hdd
  obtain ⟨u, hu1, hrel⟩ := rv.get hpm
  obtain rfl : v = u := Option.some.inj (hi.symm.trans hu1)
  have hrel2 : v = Value.ref p := hrel
  subst hrel2
  obtain ⟨bs, r1⟩ := Dp.reads I _ _ _ hDp hrel
  obtain ⟨cs, r2⟩ := hv
  have e := ((PySem.Reads.unique (Reads.keeps hk r1) _ _ r2).1 : p2D z = _)
  have ez : z = PySem.W.minOf x xs := by
    have e : PyData.tuple [.int z.1, .int z.2] = PyData.tuple [.int (PySem.W.minOf x xs).1, .int (PySem.W.minOf x xs).2] := e
    injection e with e
    injection e with e1 e2
    injection e2 with e2 _
    injection e1 with e1
    injection e2 with e2
    exact Prod.ext e1 e2
  exact ⟨.ref p, H, I.kept hk, rfl, q i p hp (by rw [hz, ez])⟩
end Inf

set_option Elab.async false
set_option linter.all false
set_option maxRecDepth 100000
set_option maxHeartbeats 4000000
namespace Inf
open PySem PySem.Spec PyProof.Rows L2 NdefX LamX
/-! ### o.m(), where what leaves it depends on the locals -/
section
variable {X : Cx} {CX : CXT} {k : Nat} {f C : Addr} {fd : FuncData} {ps : List Str} {sp : Sp} {E : L2.St → XK} {m : Str} {apos pos : Pos} {o : Expr} {ta : TE}
def tMeth0S (C : Addr) (m : Str) (sp : Sp) (E : L2.St → XK) (ta : TE) : TE := fun σ H Q => ta σ H fun x H1 => ∃ a dx fs, x = .ref a ∧ H1 a = some (.ins C dx fs) ∧ fs.lookup m = none ∧ sp [x] H1 Q (E σ)
theorem pe_meth0S {pl : Sem Bool} (he : PE X o ta) (c : Cls X.K C) (hm : Meth X.K C m f) (F : FnOk X.prog X.w X.K X.mg X.base CX k f fd ps sp) (hr : Room k X.A) (hb : Binds X.K fd ps []) (hx : ∀ σ, PassesAt CX X σ (E σ))
    (ht : eval (.Call (.Attribute o m apos) [] [] pos) X.env = (do
      let ov ← eval o X.env
      standAt apos.atName
      let (f, first) ← holding [ov] (getMethod ov m pl)
      callWith pos f first (backTo pos (starEach [] X.env)) (backToKw pos (keywordEach [] X.env))) := by rfl) :
    PE X (.Call (.Attribute o m apos) [] [] pos) (tMeth0S C m sp E ta) := by
  refine ⟨fun pins s σ H Q I h => ?_⟩
  refine PySem.W.methodCall_KW (pl := pl) (thn (he.run pins s σ H _ I h) fun u s1 ⟨x, H1, I1, rx, a, dx, fs, ex, ea, l, q⟩ => ?_) ht
  subst ex
  obtain rfl : u = Value.ref a := rx
  refine getmeth_ok I1 ea c hm l ?_
  exact PySem.W.callWith_K0 (first := [.ref a]) I1.kIn hm.kp (run_fnS (us := [.ref a]) (vs := [.ref a]) F hr hb (hx σ) I1 (.cons rfl .nil) q)
end
end Inf

set_option Elab.async false
set_option linter.all false
set_option maxRecDepth 100000
set_option maxHeartbeats 4000000
namespace Inf
open PySem PySem.Spec PyProof.Rows L2 NdefX LamX
/-! ### a call of a def that shows data, while the def's cells are told -/
section
variable {X : Cx} {pins : List (Addr × Obj)} {σ : L2.St} {H : Hp} {s : Shared}
theorem tel_runG {k : Nat} {f : Addr} {fd : FuncData} {ps : List Str} {ds : List Value} {dvs : List V} {sp : Sp} {Q : VK} {us : List Value} {vs : List V} (F : FnOkG X.prog X.w X.K X.mg X.base CX0 k f fd ps sp) (hG : X.A.guards = some []) (hr : Room k X.A) (hb : Binds X.K fd ps ds) (hd : Vals dvs ds) (hfn : ∀ x, X.fn x = true)
    (I : Inv X pins σ H s) (r : Vals vs us) (h : ∀ cs HT, Tel X.env.cells X.env.scope.names X.N σ H cs HT → sp (vs ++ dvs) HT (fun v H1 => (∀ b, b ∈ cs → H1 b = HT b) ∧ Q v (cut cs H1)) E0) : wpAny (model X.prog X.w) X.A (call (.ref f) us) (EP X pins σ Q) X.xe s := by
  let cs := frCells X.env.cells
  let HT : Hp := fun b => if b ∈ cs then (match s.heap.get? b with | some o => some (.ext fun h => h.get? b = some o) | Option.none => Option.none) else H b
  have big : ∀ b, b ∈ cs → X.s_0.heap.objs.size ≤ b := fun b hb => by
    obtain ⟨x, e⟩ := mem_frCells hb
    exact I.ok.cab x b (hfn x) e
  have no : ∀ b, b ∈ cs → H b = Option.none := fun b hb => by
    obtain ⟨x, e⟩ := mem_frCells hb
    exact I.freeC x b e
  have inT : ∀ b, b ∈ cs → ∃ v o, s.heap.get? b = some o ∧ o.data = .cell v ∧ HT b = some (.ext fun h => h.get? b = some o) := fun b hb => by
    obtain ⟨x, e⟩ := mem_frCells hb
    obtain ⟨v, o, e1, e2⟩ := I.cell x b e
    refine ⟨v, o, e1, e2, ?_⟩
    show (if b ∈ cs then _ else _) = _
    rw [if_pos hb, e1]
  have outT : ∀ b, b ∉ cs → HT b = H b := fun b hb => if_neg hb
  have nonT : ∀ b, b ∉ cs → H b = Option.none → HT b = Option.none := fun b hb e => (outT b hb).trans e
  have T : Tel X.env.cells X.env.scope.names X.N σ H cs HT := by
    refine ⟨no, fun b hb => ?_, outT, I.ok.inj, fun y h => I.ok.has _ (.inl h), fun i y c v h1 h2 h3 h4 => ?_, fun b hb q hq => ?_, fun y c e => frCells_mem e⟩
    · obtain ⟨v, o, _, _, e⟩ := inT b hb
      exact ⟨_, e⟩
    · obtain ⟨v', o, e1, e2, e3⟩ := inT c (frCells_mem h3)
      obtain ⟨m, hn, hl⟩ := I.loc
      obtain ⟨u, ru, lk⟩ := hl i y v h1 h4 (.inr (.inl h2))
      refine ⟨_, e3, fun h hh => ⟨u, ru, o, hh, ?_⟩⟩
      rcases lk with ⟨z, _⟩ | ⟨_, c', hc', hcell⟩
      · have z' : X.env.scope.names.lookup y = some .local := z
        rw [h2] at z'
        cases z'
      · rw [h3] at hc'
        cases hc'
        obtain ⟨o', g1, g2⟩ := hcell
        rw [e1] at g1
        cases g1
        exact g2
    · obtain ⟨v, o, e1, e2, e3⟩ := inT b hb
      rw [e3] at hq
      have hq := HO.ext.inj (Option.some.inj hq)
      have hq := (congrFun hq s.heap).mp e1
      obtain ⟨oc, vs, t, g1, g2, _⟩ := hq
      rw [e1] at g1
      cases g1
      rw [e2] at g2
      cases g2
  have ncs : ∀ b, b < X.s_0.heap.objs.size → b ∉ cs := fun b l m => Nat.not_lt.mpr (big b m) l
  have e0 := I.env0
  have notfr : ∀ b, b ∈ frs X.stack → b ∉ cs := fun b hb m => by
    rcases List.mem_cons.mp (I.stkSub b hb) with e | hb'
    · obtain ⟨x, ex⟩ := mem_frCells m
      exact I.cne x b ex e
    · obtain ⟨_, o, ho, _⟩ := I.ok.funs.mem hb'
      exact ncs b (Heap.lt_size ho) m
  have nonext : ∀ {b : Addr} {o : HO}, H b = some o → b ∉ cs := fun e m => by
    rw [no _ m] at e
    cases e
  have e1 : Env0 X.prog X.w X.K X.mg X.base X.A X.stack s HT := by
    refine ⟨e0.frames, e0.mod, fun b o q => ⟨(e0.bs b o q).1, nonT b (ncs b (Nat.lt_of_lt_of_le (Heap.lt_size q) I.ok.bsz)) (e0.bs b o q).2⟩, e0.bsz, e0.funs, fun b hb => nonT b (notfr b hb) (e0.frf b hb), fun b o e => ?_, e0.bare⟩
    by_cases hb : b ∈ cs
    · obtain ⟨v, o', g1, g2, g3⟩ := inT b hb
      rw [g3] at e
      cases e
      exact ⟨g1, ⟨o', g1⟩, fun h1 h2 z k => k _ z⟩
    · rw [outT b hb] at e
      refine (e0.hok b o e).stay (fun c u _ q => q) (fun c q => ?_) fun c xs q => ?_
      · rw [outT c (nonext q)]
        exact q
      · rw [outT c (nonext q)]
        exact q
  have hq0 := h cs HT T
  have r2 : Vals (vs ++ dvs) (us ++ ds) := r.append hd
  have hl : (us ++ ds).length = ps.length := by rw [← r2.length]; exact F.len _ _ _ _ hq0
  refine wpAny_call (codeAny_mono (F.run X.A X.stack s HT ⟨us, []⟩ (us ++ ds) (vs ++ dvs) _ E0 hG hr e1 (hb s us I.kIn hl) r2 hq0) fun r s' hq => ?_)
  cases r with
  | error e => exact False.elim hq
  | ok fl =>
    cases fl with
    | next => exact False.elim hq
    | brk => exact False.elim hq
    | cont => exact False.elim hq
    | ret u =>
      obtain ⟨v, H1, os, bare, un, hok1, rv, kc, q⟩ := hq
      have notin : ∀ {b : Addr} {o : HO}, H1 b = some o → (∀ φ, o ≠ .ext φ) → b ∉ cs := fun {b o} e n m => by
        obtain ⟨v, o', _, _, g3⟩ := inT b m
        rw [kc b m, g3] at e
        exact n _ (Option.some.inj e).symm
      have keepC : ∀ b o, b ∈ cs → s.heap.get? b = some o → s'.heap.get? b = some o := fun b o m e => by
        obtain ⟨v, o', g1, _, g3⟩ := inT b m
        rw [g1] at e
        cases e
        have := hok1 b _ ((kc b m).trans g3)
        exact this.1
      refine I.after ⟨v, cut cs H1, os, bare, ⟨fun b o a n h1 h2 => ?_, fun b o a n h1 h2 => ?_, fun b o a n h2 => ?_, un.there, fun b xs e => ?_, fun b o u e => ?_, fun b ps e => ?_⟩, fun b o e => ?_, rv, q⟩
      · by_cases m : b ∈ cs
        · exact keepC b o m a
        · exact un.keep b o a (nonT b m n) h1 h2
      · exact un.slot b o a (nonT b (notfr b h1) n) h1 h2
      · by_cases m : b ∈ cs
        · exact cut_in m
        · rw [cut_out m]
          exact un.free b o a (nonT b m n) h2
      · have m := nonext e
        rw [cut_out m]
        exact un.tups b xs ((outT b m).trans e)
      · have m := nonext e
        rw [cut_out m]
        exact un.frzs b o u ((outT b m).trans e)
      · have m := nonext e
        rw [cut_out m]
        exact un.tbls b ps ((outT b m).trans e)
      · by_cases m : b ∈ cs
        · rw [cut_in m] at e
          cases e
        · rw [cut_out m] at e
          refine (hok1 b o e).stay (fun c u _ q => q) (fun c q => ?_) fun c xs q => ?_
          · rw [cut_out (notin q (fun φ z => nomatch z))]
            exact q
          · rw [cut_out (notin q (fun φ z => nomatch z))]
            exact q
end
theorem pe_callTG {X : Cx} {k : Nat} {f : Addr} {fd : FuncData} {ps : List Str} {ds : List Value} {dvs : List V} {sp : Sp} {x : Str} {p pos : Pos} {e : Expr} {es : List Expr} {t : TA} (hfn : ∀ x, X.fn x = true) (F : FnOkG X.prog X.w X.K X.mg X.base CX0 k f fd ps sp) (hG : X.A.guards = some []) (hr : Room k X.A) (hg : Gl X x) (hm : X.mg x = some (.ref f)) (hk : PySem.W.keepIn X.K (.ref f) = true) (hb : Binds X.K fd ps ds) (hd : Vals dvs ds)
    (ha : PA X (e :: es) t) (hdb : (x == ("__debug__" : Str)) = false := by decide) (he : starEach (e :: es) X.env = (false, eval e X.env) :: starEach es X.env := by rfl) (hpl : (backTo pos (starEach es X.env)).any (·.1) = false := by rfl) :
    PE X (.Call (.Name x p) (e :: es) [] pos) (tCallT X sp dvs t) := by
  refine ⟨fun pins s σ H Q I h => ?_⟩
  refine wpAny_Call_Name_kw (ld_glob I hg hm ?_ hdb)
  refine PySem.W.callWith_K (h₀ := X.base) I.ok.mod.kin hk (thn (ha.run pos pins s σ H _ I h) fun us s1 ⟨vs, H1, I1, r, q⟩ => ⟨I1.kIn, ?_⟩) he hpl
  exact tel_runG F hG hr hb hd hfn I1 r q
end Inf

set_option Elab.async false
set_option linter.all false
set_option maxRecDepth 100000
set_option maxHeartbeats 4000000
namespace Inf
open PySem PySem.Spec PyProof.Rows L2 NdefX LamX
/-! ### the total of a tuple of ints -/
def rSumT (K : PySem.W.Frag) : List V → Hp → VK → Prop := fun vs H Q => ∃ (a : Addr) (ns : List Int), vs = [V.ref a] ∧ SqT K H a (ns.map V.int) ∧ Q (.int ns.sum) H
theorem cr_sumT {X : Cx} (hc : X.calm = true) : CallR X (.builtin "sum") (rSumT X.K) := by
  intro pins s σ H vs us Q I r h
  obtain ⟨a, ns, rfl, hs, q⟩ := h
  obtain ⟨its, rv, hT, _⟩ := I.tuple hs
  rw [Vals.ref1 r]
  have hi := rv.ints
  obtain ⟨xs, e⟩ := hi.allInts.items
  have hn : numsOf (intItems xs).toList = ns := by rw [← e]; exact hi.numsOf
  rw [nums_intItems] at hn
  rw [e] at hT
  refine PySem.W.ktm_sumG (I.ok.hd hc) hT fun h' tk t' hk => ⟨.int _, H, I.kept hk, ⟨_, rfl⟩, ?_⟩
  rw [preSum_eq, List.take_of_length_le (by simp), hn]
  exact q
end Inf


set_option Elab.async false
set_option linter.all false
set_option maxRecDepth 100000
set_option maxHeartbeats 4000000
namespace Ob
open PySem PySem.Spec PyProof.Rows L2
/-! ### a def whose code object is named: it makes functions -/
structure FunT (K : PySem.W.Frag) (x qual : Str) (st : Stmt) (f : Addr) (fd : FuncData) (c : Addr) : Prop where
  ex : ∃ (oc : Value) (od : Option Addr) (kV doc pm : Value) (an : Option Addr) (ct : Value) (osl : Array (Option Value)),
    fd = PySem.W.fnOf x qual (defArgs st) (defBody st) (defScope st) .none kV doc pm an (.ref c) ct ∧ K.lookup f = some ⟨oc, od, .func fd, osl⟩ ∧ PySem.W.codeIn K (.ref c) qual = true
  kp : PySem.W.keepIn K (.ref f) = true
theorem FunT.ok {P : Program} {w : World} {K : PySem.W.Frag} {mg : Str → Option Value} {base : Heap} {x qual : Str} {st : Stmt} {f c : Addr} {fd : FuncData} {CX : CXT} {N ps : List Str} {k : Nat} {sp : Sp} (F : FunT K x qual st f fd c) (S : FnScope N ps (defScope st)) (len : ∀ vs H Q E, sp vs H Q E → vs.length = ps.length)
    (hbody : ∀ (A : Around) (outer : List Env) (s : Shared) (H : Hp) (vs : List V) (Q : VK) (E : XK), Room k (A.deeper (envOfC qual (defScope st) s.heap.objs.size f (.ref c))) → sp vs H Q E →
      ∃ t, PSs (cxOf CX P w K mg base N qual (defScope st) f (.ref c) A outer s H E) (defBody st) t ∧ t { nx := fun _ H' => Q .non H', rt := Q } (L2.start N vs) H) : FnOk P w K mg base CX (k + 1) f fd ps sp := by
  obtain ⟨oc, od, kV, doc, pm, an, ct, osl, rfl, lk, hcd⟩ := F.ex
  exact fn_of lk hcd S len fun A outer s H vs Q E hr hsp => hbody A outer s H vs Q E hr hsp
theorem FunT.okC {P : Program} {w : World} {K : PySem.W.Frag} {mg : Str → Option Value} {base : Heap} {x qual : Str} {st : Stmt} {f c : Addr} {fd : FuncData} {N ps : List Str} {k : Nat} {sp : Sp} (F : FunT K x qual st f fd c) (S : FnScope N ps (defScope st)) (len : ∀ vs H Q E, sp vs H Q E → vs.length = ps.length)
    (hbody : ∀ (A : Around) (outer : List Env) (s : Shared) (H : Hp) (vs : List V) (Q : VK) (E : XK), Room k (A.deeper (envOfC qual (defScope st) s.heap.objs.size f (.ref c))) → sp vs H Q E →
      ∃ t, Inf.PSsR (cxOf CX0 P w K mg base N qual (defScope st) f (.ref c) A outer s H E).nox (defBody st) t ∧
        t (fun σ v H' => ∀ H'', Inf.Fin (envOfC qual (defScope st) s.heap.objs.size f (.ref c)).cells (defScope st).names N σ H' H'' → Q v H'') (L2.start N vs) H) : FnOk P w K mg base CX0 (k + 1) f fd ps sp := by
  obtain ⟨oc, od, kV, doc, pm, an, ct, osl, rfl, lk, hcd⟩ := F.ex
  exact Inf.okC_of lk hcd S len hbody
theorem all_cons {α : Type} {P : α → Prop} {a : α} {l : List α} (h : P a) (t : ∀ x ∈ l, P x) : ∀ x ∈ a :: l, P x := fun x m => (List.mem_cons.mp m).elim (fun e => by rw [e]; exact h) (t x)

/-! ### the text -/
def topS (i : Nat) : Stmt := PySem.Challenge.pw_oncebuilt_k51_calls_of_timed.main.body.getD i (.Pass ⟨0, 0, 0, 0⟩)
abbrev s_without : Stmt := topS 7
abbrev n_without : List Str := ["held", "numbers", "member", "number"]
theorem sc_without : FnScope n_without ["held", "numbers"] (defScope s_without) := ⟨rfl, rfl, rfl, by decide +kernel, rfl, by decide +kernel, by decide +kernel⟩
abbrev s_Calls_init : Stmt := inClass (topS 9) 0
abbrev n_Calls_init : List Str := ["self"]
theorem sc_Calls_init : FnScope n_Calls_init ["self"] (defScope s_Calls_init) := ⟨rfl, rfl, rfl, by decide +kernel, rfl, by decide +kernel, by decide +kernel⟩
abbrev s_Calls_check : Stmt := inClass (topS 9) 1
abbrev n_Calls_check : List Str := ["self"]
theorem sc_Calls_check : FnScope n_Calls_check ["self"] (defScope s_Calls_check) := ⟨rfl, rfl, rfl, by decide +kernel, rfl, by decide +kernel, by decide +kernel⟩
abbrev s_Calls_run : Stmt := inClass (topS 9) 2
abbrev n_Calls_run : List Str := ["self", "entry", "action", "values", "result"]
theorem sc_Calls_run : FnScope n_Calls_run ["self", "entry", "action", "values"] (defScope s_Calls_run) := ⟨rfl, rfl, rfl, by decide +kernel, rfl, by decide +kernel, by decide +kernel⟩
abbrev s_Outer_init : Stmt := inClass (topS 11) 0
abbrev n_Outer_init : List Str := ["self", "push", "pop", "ask"]
theorem sc_Outer_init : FnScope n_Outer_init ["self", "push", "pop", "ask"] (defScope s_Outer_init) := ⟨rfl, rfl, rfl, by decide +kernel, rfl, by decide +kernel, by decide +kernel⟩
abbrev s_Outer_check : Stmt := inClass (topS 11) 1
abbrev n_Outer_check : List Str := ["self"]
theorem sc_Outer_check : FnScope n_Outer_check ["self"] (defScope s_Outer_check) := ⟨rfl, rfl, rfl, by decide +kernel, rfl, by decide +kernel, by decide +kernel⟩
abbrev s_Outer_answer : Stmt := inClass (topS 11) 2
abbrev n_Outer_answer : List Str := ["self", "question"]
theorem sc_Outer_answer : FnScope n_Outer_answer ["self", "question"] (defScope s_Outer_answer) := ⟨rfl, rfl, rfl, by decide +kernel, rfl, by decide +kernel, by decide +kernel⟩
abbrev s_Outer_change : Stmt := inClass (topS 11) 3
abbrev n_Outer_change : List Str := ["self", "entries", "held"]
theorem sc_Outer_change : FnScope n_Outer_change ["self", "entries", "held"] (defScope s_Outer_change) := ⟨rfl, rfl, rfl, by decide +kernel, rfl, by decide +kernel, by decide +kernel⟩
abbrev s_Outer_follow : Stmt := inClass (topS 11) 5
abbrev n_Outer_follow : List Str := ["self", "entries", "held", "failed", "action", "number"]
theorem sc_Outer_follow : FnScope n_Outer_follow ["self", "entries", "held"] (defScope s_Outer_follow) := ⟨rfl, rfl, rfl, by decide +kernel, rfl, by decide +kernel, by decide +kernel⟩
abbrev s_plan_pushes : Stmt := topS 12
abbrev n_plan_pushes : List Str := ["numbers", "number"]
theorem sc_plan_pushes : FnScope n_plan_pushes ["numbers"] (defScope s_plan_pushes) := ⟨rfl, rfl, rfl, by decide +kernel, rfl, by decide +kernel, by decide +kernel⟩
abbrev s_plan_pops : Stmt := topS 13
abbrev n_plan_pops : List Str := ["numbers", "number"]
theorem sc_plan_pops : FnScope n_plan_pops ["numbers"] (defScope s_plan_pops) := ⟨rfl, rfl, rfl, by decide +kernel, rfl, by decide +kernel, by decide +kernel⟩
abbrev s_changed_order : Stmt := topS 14
abbrev n_changed_order : List Str := ["order", "entries", "changed", "action", "number"]
theorem sc_changed_order : FnScope n_changed_order ["order", "entries"] (defScope s_changed_order) := ⟨rfl, rfl, rfl, by decide +kernel, rfl, by decide +kernel, by decide +kernel⟩
abbrev s_piece_size : Stmt := topS 16
abbrev n_piece_size : List Str := ["first", "room", "fitting"]
theorem sc_piece_size : FnScope n_piece_size ["first", "room"] (defScope s_piece_size) := ⟨rfl, rfl, rfl, by decide +kernel, rfl, by decide +kernel, by decide +kernel⟩
abbrev s_lowest_power : Stmt := topS 17
abbrev n_lowest_power : List Str := ["number"]
theorem sc_lowest_power : FnScope n_lowest_power ["number"] (defScope s_lowest_power) := ⟨rfl, rfl, rfl, by decide +kernel, rfl, by decide +kernel, by decide +kernel⟩
abbrev s_greatest_power : Stmt := topS 18
abbrev n_greatest_power : List Str := ["number"]
theorem sc_greatest_power : FnScope n_greatest_power ["number"] (defScope s_greatest_power) := ⟨rfl, rfl, rfl, by decide +kernel, rfl, by decide +kernel, by decide +kernel⟩
abbrev s_is_integer : Stmt := topS 19
abbrev n_is_integer : List Str := ["value"]
theorem sc_is_integer : FnScope n_is_integer ["value"] (defScope s_is_integer) := ⟨rfl, rfl, rfl, by decide +kernel, rfl, by decide +kernel, by decide +kernel⟩
abbrev s_check_integer : Stmt := topS 20
abbrev n_check_integer : List Str := ["value"]
theorem sc_check_integer : FnScope n_check_integer ["value"] (defScope s_check_integer) := ⟨rfl, rfl, rfl, by decide +kernel, rfl, by decide +kernel, by decide +kernel⟩
abbrev s_Timed_init : Stmt := inClass (topS 22) 2
abbrev n_Timed_init : List Str := ["self", "push", "pop", "ask"]
theorem sc_Timed_init : FnScope n_Timed_init ["self", "push", "pop", "ask"] (defScope s_Timed_init) := ⟨rfl, rfl, rfl, by decide +kernel, rfl, by decide +kernel, by decide +kernel⟩
abbrev s_Timed_add : Stmt := inClass (topS 22) 3
abbrev n_Timed_add : List Str := ["self", "member", "until", "number", "held"]
theorem sc_Timed_add : FnScope n_Timed_add ["self", "member", "until"] (defScope s_Timed_add) := ⟨rfl, rfl, rfl, by decide +kernel, rfl, by decide +kernel, by decide +kernel⟩
abbrev s_Timed_tick : Stmt := inClass (topS 22) 4
abbrev n_Timed_tick : List Str := ["self", "ending", "begun", "number", "size"]
theorem sc_Timed_tick : FnScope n_Timed_tick ["self"] (defScope s_Timed_tick) := ⟨rfl, rfl, rfl, by decide +kernel, rfl, by decide +kernel, by decide +kernel⟩
abbrev s_Timed_stack : Stmt := inClass (topS 22) 10
abbrev n_Timed_stack : List Str := ["self"]
theorem sc_Timed_stack : FnScope n_Timed_stack ["self"] (defScope s_Timed_stack) := ⟨rfl, rfl, rfl, by decide +kernel, rfl, by decide +kernel, by decide +kernel⟩
abbrev s_Timed_plan_add : Stmt := inClass (topS 22) 11
abbrev n_Timed_plan_add : List Str := ["self"]
theorem sc_Timed_plan_add : FnScope n_Timed_plan_add ["self"] (defScope s_Timed_plan_add) := ⟨rfl, rfl, rfl, by decide +kernel, rfl, by decide +kernel, by decide +kernel⟩
abbrev s_Timed_plan_tick : Stmt := inClass (topS 22) 12
abbrev n_Timed_plan_tick : List Str := ["self", "ending"]
theorem sc_Timed_plan_tick : FnScope n_Timed_plan_tick ["self"] (defScope s_Timed_plan_tick) := ⟨rfl, rfl, rfl, by decide +kernel, rfl, by decide +kernel, by decide +kernel⟩
abbrev s_Timed_log : Stmt := inClass (topS 22) 13
abbrev n_Timed_log : List Str := ["self"]
theorem sc_Timed_log : FnScope n_Timed_log ["self"] (defScope s_Timed_log) := ⟨rfl, rfl, rfl, by decide +kernel, rfl, by decide +kernel, by decide +kernel⟩
abbrev s_check_until : Stmt := topS 23
abbrev n_check_until : List Str := ["until", "clock"]
theorem sc_check_until : FnScope n_check_until ["until", "clock"] (defScope s_check_until) := ⟨rfl, rfl, rfl, by decide +kernel, rfl, by decide +kernel, by decide +kernel⟩
abbrev s_ending_numbers : Stmt := topS 24
abbrev n_ending_numbers : List Str := ["timed", "order", "kept"]
theorem sc_ending_numbers : FnScope n_ending_numbers ["timed"] (defScope s_ending_numbers) := ⟨rfl, rfl, rfl, by decide +kernel, rfl, by decide +kernel, by decide +kernel⟩
abbrev s_next_pieces : Stmt := topS 25
abbrev n_next_pieces : List Str := ["timed", "ending", "clock", "found", "number", "room"]
theorem sc_next_pieces : FnScope n_next_pieces ["timed", "ending"] (defScope s_next_pieces) := ⟨rfl, rfl, rfl, by decide +kernel, rfl, by decide +kernel, by decide +kernel⟩
abbrev s_plan_moves : Stmt := topS 26
abbrev n_plan_moves : List Str := ["ending", "begun", "number", "size"]
theorem sc_plan_moves : FnScope n_plan_moves ["ending", "begun"] (defScope s_plan_moves) := ⟨rfl, rfl, rfl, by decide +kernel, rfl, by decide +kernel, by decide +kernel⟩
abbrev s_let_go : Stmt := topS 27
abbrev n_let_go : List Str := ["timed", "ending", "gone", "number"]
theorem sc_let_go : FnScope n_let_go ["timed", "ending"] (defScope s_let_go) := ⟨rfl, rfl, rfl, by decide +kernel, rfl, by decide +kernel, by decide +kernel⟩
abbrev s_l_bag : Stmt := topS 29
abbrev n_l_bag : List Str := ["_law_script", "_law_at", "_law_cell", "_law_great", "_law_primes"]
theorem sc_l_bag : FnScope n_l_bag ["_law_script", "_law_at"] (defScope s_l_bag) := ⟨rfl, rfl, rfl, by decide +kernel, rfl, by decide +kernel, by decide +kernel⟩
abbrev s_l_take : Stmt := topS 30
abbrev n_l_take : List Str := ["_law_bag_here", "_law_many", "_law_digit"]
theorem sc_l_take : FnScope n_l_take ["_law_bag_here", "_law_many"] (defScope s_l_take) := ⟨rfl, rfl, rfl, by decide +kernel, rfl, by decide +kernel, by decide +kernel⟩
abbrev s_l_outer : Stmt := topS 31
abbrev n_l_outer : List Str := ["_law_held", "_law_notes", "_law_pushes", "_law_pops", "_law_asks"]
theorem sc_l_outer : FnScope n_l_outer ["_law_held", "_law_notes"] (defScope s_l_outer) := ⟨rfl, rfl, rfl, by decide +kernel, rfl, by decide +kernel, by decide +kernel⟩
abbrev s_l_outer_pushes : Stmt := (defBody s_l_outer).getD 0 (.Pass ⟨0, 0, 0, 0⟩)
abbrev n_l_outer_pushes : List Str := ["_law_one", "_law_held", "_law_notes"]
abbrev fr_l_outer_pushes : List Str := ["_law_held", "_law_notes"]
theorem sc_l_outer_pushes : NdefX.NScope n_l_outer_pushes ["_law_one"] fr_l_outer_pushes (C8.fnScope s_l_outer_pushes) := NdefX.nscope_by (by decide +kernel)
abbrev s_l_outer_pops : Stmt := (defBody s_l_outer).getD 1 (.Pass ⟨0, 0, 0, 0⟩)
abbrev n_l_outer_pops : List Str := ["_law_held", "_law_notes"]
abbrev fr_l_outer_pops : List Str := ["_law_held", "_law_notes"]
theorem sc_l_outer_pops : NdefX.NScope n_l_outer_pops [] fr_l_outer_pops (C8.fnScope s_l_outer_pops) := NdefX.nscope_by (by decide +kernel)
abbrev s_l_outer_asks : Stmt := (defBody s_l_outer).getD 2 (.Pass ⟨0, 0, 0, 0⟩)
abbrev n_l_outer_asks : List Str := ["_law_topic", "_law_held", "_law_notes"]
abbrev fr_l_outer_asks : List Str := ["_law_held", "_law_notes"]
theorem sc_l_outer_asks : NdefX.NScope n_l_outer_asks ["_law_topic"] fr_l_outer_asks (C8.fnScope s_l_outer_asks) := NdefX.nscope_by (by decide +kernel)
abbrev s_l_pieces : Stmt := topS 32
abbrev n_l_pieces : List Str := ["_law_low", "_law_high", "_law_found", "_law_size"]
theorem sc_l_pieces : FnScope n_l_pieces ["_law_low", "_law_high"] (defScope s_l_pieces) := ⟨rfl, rfl, rfl, by decide +kernel, rfl, by decide +kernel, by decide +kernel⟩
abbrev s_l_alike : Stmt := topS 33
abbrev n_l_alike : List Str := ["_law_one", "_law_other"]
theorem sc_l_alike : FnScope n_l_alike ["_law_one", "_law_other"] (defScope s_l_alike) := ⟨rfl, rfl, rfl, by decide +kernel, rfl, by decide +kernel, by decide +kernel⟩
abbrev s_l_tick : Stmt := topS 34
abbrev n_l_tick : List Str := ["_law_state", "_law_pile", "_law_plans", "_law_now", "_law_ending", "_law_again", "_law_one", "_law_entries", "_law_size"]
theorem sc_l_tick : FnScope n_l_tick ["_law_state"] (defScope s_l_tick) := ⟨rfl, rfl, rfl, by decide +kernel, rfl, by decide +kernel, by decide +kernel⟩
abbrev s_l_step : Stmt := topS 35
abbrev n_l_step : List Str := ["_law_house", "_law_state", "_law_notes", "_law_names", "_law_entries", "_law_call", "_law_log", "_law_number", "_law_word"]
theorem sc_l_step : FnScope n_l_step ["_law_house", "_law_state", "_law_notes", "_law_names", "_law_entries", "_law_call"] (defScope s_l_step) := ⟨rfl, rfl, rfl, by decide +kernel, rfl, by decide +kernel, by decide +kernel⟩
abbrev s_law : Stmt := topS 36
abbrev n_law : List Str := ["_law_script", "_law_k", "_law_bag_here", "_law_notes", "_law_names", "_law_state", "_law_outer_here", "_law_house", "_law_turn", "_law_late", "_law_number", "_law_entries", "_law_tick_here", "_law_planned"]
theorem sc_law : FnScope n_law ["_law_script"] (defScope s_law) := ⟨rfl, rfl, rfl, by decide +kernel, rfl, by decide +kernel, by decide +kernel⟩
structure Txt (K : PySem.W.Frag) (mg : Str → Option Value) where
  C_Calls : Addr
  gc_Calls : mg "Calls" = some (.ref C_Calls)
  C_Outer : Addr
  gc_Outer : mg "Outer" = some (.ref C_Outer)
  C_Timed : Addr
  gc_Timed : mg "Timed" = some (.ref C_Timed)
  f_Calls_init : Addr
  d_Calls_init : FuncData
  -- 
  F_Calls_init : Fun K "__init__" "Calls.__init__" s_Calls_init f_Calls_init d_Calls_init
  b_Calls_init : Binds K d_Calls_init ["self"] []
  m_Calls_init : PySem.W.findIn K (.ref C_Calls) "__init__" = some (some (.ref f_Calls_init))
  t_Calls_init : PySem.W.isFn K (.ref f_Calls_init) = true
  y_Calls_init : PySem.W.typeIn K (.ref f_Calls_init) = some (.type "function")
  k_Calls_init : PySem.W.keepIn K (.ref f_Calls_init) = true
  f_Calls_check : Addr
  d_Calls_check : FuncData
  -- 
  F_Calls_check : Fun K "check" "Calls.check" s_Calls_check f_Calls_check d_Calls_check
  b_Calls_check : Binds K d_Calls_check ["self"] []
  m_Calls_check : PySem.W.findIn K (.ref C_Calls) "check" = some (some (.ref f_Calls_check))
  t_Calls_check : PySem.W.isFn K (.ref f_Calls_check) = true
  y_Calls_check : PySem.W.typeIn K (.ref f_Calls_check) = some (.type "function")
  k_Calls_check : PySem.W.keepIn K (.ref f_Calls_check) = true
  f_Calls_run : Addr
  d_Calls_run : FuncData
  -- 
  F_Calls_run : Fun K "run" "Calls.run" s_Calls_run f_Calls_run d_Calls_run
  m_Calls_run : PySem.W.findIn K (.ref C_Calls) "run" = some (some (.ref f_Calls_run))
  t_Calls_run : PySem.W.isFn K (.ref f_Calls_run) = true
  y_Calls_run : PySem.W.typeIn K (.ref f_Calls_run) = some (.type "function")
  k_Calls_run : PySem.W.keepIn K (.ref f_Calls_run) = true
  f_Outer_init : Addr
  d_Outer_init : FuncData
  -- 
  F_Outer_init : Fun K "__init__" "Outer.__init__" s_Outer_init f_Outer_init d_Outer_init
  b_Outer_init : Binds K d_Outer_init ["self", "push", "pop", "ask"] []
  m_Outer_init : PySem.W.findIn K (.ref C_Outer) "__init__" = some (some (.ref f_Outer_init))
  t_Outer_init : PySem.W.isFn K (.ref f_Outer_init) = true
  y_Outer_init : PySem.W.typeIn K (.ref f_Outer_init) = some (.type "function")
  k_Outer_init : PySem.W.keepIn K (.ref f_Outer_init) = true
  f_Outer_check : Addr
  d_Outer_check : FuncData
  -- 
  F_Outer_check : Fun K "check" "Outer.check" s_Outer_check f_Outer_check d_Outer_check
  b_Outer_check : Binds K d_Outer_check ["self"] []
  m_Outer_check : PySem.W.findIn K (.ref C_Outer) "check" = some (some (.ref f_Outer_check))
  t_Outer_check : PySem.W.isFn K (.ref f_Outer_check) = true
  y_Outer_check : PySem.W.typeIn K (.ref f_Outer_check) = some (.type "function")
  k_Outer_check : PySem.W.keepIn K (.ref f_Outer_check) = true
  f_Outer_answer : Addr
  d_Outer_answer : FuncData
  -- 
  F_Outer_answer : Fun K "answer" "Outer.answer" s_Outer_answer f_Outer_answer d_Outer_answer
  b_Outer_answer : Binds K d_Outer_answer ["self", "question"] []
  m_Outer_answer : PySem.W.findIn K (.ref C_Outer) "answer" = some (some (.ref f_Outer_answer))
  t_Outer_answer : PySem.W.isFn K (.ref f_Outer_answer) = true
  y_Outer_answer : PySem.W.typeIn K (.ref f_Outer_answer) = some (.type "function")
  k_Outer_answer : PySem.W.keepIn K (.ref f_Outer_answer) = true
  f_Outer_change : Addr
  d_Outer_change : FuncData
  -- 
  F_Outer_change : Fun K "change" "Outer.change" s_Outer_change f_Outer_change d_Outer_change
  b_Outer_change : Binds K d_Outer_change ["self", "entries", "held"] []
  m_Outer_change : PySem.W.findIn K (.ref C_Outer) "change" = some (some (.ref f_Outer_change))
  t_Outer_change : PySem.W.isFn K (.ref f_Outer_change) = true
  y_Outer_change : PySem.W.typeIn K (.ref f_Outer_change) = some (.type "function")
  k_Outer_change : PySem.W.keepIn K (.ref f_Outer_change) = true
  f_Outer_follow : Addr
  d_Outer_follow : FuncData
  -- 
  F_Outer_follow : Fun K "follow" "Outer.follow" s_Outer_follow f_Outer_follow d_Outer_follow
  b_Outer_follow : Binds K d_Outer_follow ["self", "entries", "held"] []
  m_Outer_follow : PySem.W.findIn K (.ref C_Outer) "follow" = some (some (.ref f_Outer_follow))
  t_Outer_follow : PySem.W.isFn K (.ref f_Outer_follow) = true
  y_Outer_follow : PySem.W.typeIn K (.ref f_Outer_follow) = some (.type "function")
  k_Outer_follow : PySem.W.keepIn K (.ref f_Outer_follow) = true
  f_Timed_init : Addr
  d_Timed_init : FuncData
  -- 
  F_Timed_init : Fun K "__init__" "Timed.__init__" s_Timed_init f_Timed_init d_Timed_init
  b_Timed_init : Binds K d_Timed_init ["self", "push", "pop", "ask"] []
  m_Timed_init : PySem.W.findIn K (.ref C_Timed) "__init__" = some (some (.ref f_Timed_init))
  t_Timed_init : PySem.W.isFn K (.ref f_Timed_init) = true
  y_Timed_init : PySem.W.typeIn K (.ref f_Timed_init) = some (.type "function")
  k_Timed_init : PySem.W.keepIn K (.ref f_Timed_init) = true
  f_Timed_add : Addr
  d_Timed_add : FuncData
  -- 
  F_Timed_add : Fun K "add" "Timed.add" s_Timed_add f_Timed_add d_Timed_add
  m_Timed_add : PySem.W.findIn K (.ref C_Timed) "add" = some (some (.ref f_Timed_add))
  t_Timed_add : PySem.W.isFn K (.ref f_Timed_add) = true
  y_Timed_add : PySem.W.typeIn K (.ref f_Timed_add) = some (.type "function")
  k_Timed_add : PySem.W.keepIn K (.ref f_Timed_add) = true
  f_Timed_tick : Addr
  d_Timed_tick : FuncData
  -- 
  F_Timed_tick : Fun K "tick" "Timed.tick" s_Timed_tick f_Timed_tick d_Timed_tick
  b_Timed_tick : Binds K d_Timed_tick ["self"] []
  m_Timed_tick : PySem.W.findIn K (.ref C_Timed) "tick" = some (some (.ref f_Timed_tick))
  t_Timed_tick : PySem.W.isFn K (.ref f_Timed_tick) = true
  y_Timed_tick : PySem.W.typeIn K (.ref f_Timed_tick) = some (.type "function")
  k_Timed_tick : PySem.W.keepIn K (.ref f_Timed_tick) = true
  f_Timed_stack : Addr
  d_Timed_stack : FuncData
  -- 
  F_Timed_stack : Fun K "stack" "Timed.stack" s_Timed_stack f_Timed_stack d_Timed_stack
  b_Timed_stack : Binds K d_Timed_stack ["self"] []
  m_Timed_stack : PySem.W.findIn K (.ref C_Timed) "stack" = some (some (.ref f_Timed_stack))
  t_Timed_stack : PySem.W.isFn K (.ref f_Timed_stack) = true
  y_Timed_stack : PySem.W.typeIn K (.ref f_Timed_stack) = some (.type "function")
  k_Timed_stack : PySem.W.keepIn K (.ref f_Timed_stack) = true
  f_Timed_plan_add : Addr
  d_Timed_plan_add : FuncData
  -- 
  F_Timed_plan_add : Fun K "plan_add" "Timed.plan_add" s_Timed_plan_add f_Timed_plan_add d_Timed_plan_add
  b_Timed_plan_add : Binds K d_Timed_plan_add ["self"] []
  m_Timed_plan_add : PySem.W.findIn K (.ref C_Timed) "plan_add" = some (some (.ref f_Timed_plan_add))
  t_Timed_plan_add : PySem.W.isFn K (.ref f_Timed_plan_add) = true
  y_Timed_plan_add : PySem.W.typeIn K (.ref f_Timed_plan_add) = some (.type "function")
  k_Timed_plan_add : PySem.W.keepIn K (.ref f_Timed_plan_add) = true
  f_Timed_plan_tick : Addr
  d_Timed_plan_tick : FuncData
  -- 
  F_Timed_plan_tick : Fun K "plan_tick" "Timed.plan_tick" s_Timed_plan_tick f_Timed_plan_tick d_Timed_plan_tick
  b_Timed_plan_tick : Binds K d_Timed_plan_tick ["self"] []
  m_Timed_plan_tick : PySem.W.findIn K (.ref C_Timed) "plan_tick" = some (some (.ref f_Timed_plan_tick))
  t_Timed_plan_tick : PySem.W.isFn K (.ref f_Timed_plan_tick) = true
  y_Timed_plan_tick : PySem.W.typeIn K (.ref f_Timed_plan_tick) = some (.type "function")
  k_Timed_plan_tick : PySem.W.keepIn K (.ref f_Timed_plan_tick) = true
  f_Timed_log : Addr
  d_Timed_log : FuncData
  -- 
  F_Timed_log : Fun K "log" "Timed.log" s_Timed_log f_Timed_log d_Timed_log
  b_Timed_log : Binds K d_Timed_log ["self"] []
  m_Timed_log : PySem.W.findIn K (.ref C_Timed) "log" = some (some (.ref f_Timed_log))
  t_Timed_log : PySem.W.isFn K (.ref f_Timed_log) = true
  y_Timed_log : PySem.W.typeIn K (.ref f_Timed_log) = some (.type "function")
  k_Timed_log : PySem.W.keepIn K (.ref f_Timed_log) = true
  f_without : Addr
  d_without : FuncData
  F_without : Fun K "without" "without" s_without f_without d_without
  b_without : Binds K d_without ["held", "numbers"] []
  g_without : mg "without" = some (.ref f_without)
  f_plan_pushes : Addr
  d_plan_pushes : FuncData
  F_plan_pushes : Fun K "plan_pushes" "plan_pushes" s_plan_pushes f_plan_pushes d_plan_pushes
  b_plan_pushes : Binds K d_plan_pushes ["numbers"] []
  g_plan_pushes : mg "plan_pushes" = some (.ref f_plan_pushes)
  f_plan_pops : Addr
  d_plan_pops : FuncData
  F_plan_pops : Fun K "plan_pops" "plan_pops" s_plan_pops f_plan_pops d_plan_pops
  b_plan_pops : Binds K d_plan_pops ["numbers"] []
  g_plan_pops : mg "plan_pops" = some (.ref f_plan_pops)
  f_changed_order : Addr
  d_changed_order : FuncData
  F_changed_order : Fun K "changed_order" "changed_order" s_changed_order f_changed_order d_changed_order
  b_changed_order : Binds K d_changed_order ["order", "entries"] []
  g_changed_order : mg "changed_order" = some (.ref f_changed_order)
  f_piece_size : Addr
  d_piece_size : FuncData
  F_piece_size : Fun K "piece_size" "piece_size" s_piece_size f_piece_size d_piece_size
  b_piece_size : Binds K d_piece_size ["first", "room"] []
  g_piece_size : mg "piece_size" = some (.ref f_piece_size)
  f_lowest_power : Addr
  d_lowest_power : FuncData
  F_lowest_power : Fun K "lowest_power" "lowest_power" s_lowest_power f_lowest_power d_lowest_power
  b_lowest_power : Binds K d_lowest_power ["number"] []
  g_lowest_power : mg "lowest_power" = some (.ref f_lowest_power)
  f_greatest_power : Addr
  d_greatest_power : FuncData
  F_greatest_power : Fun K "greatest_power" "greatest_power" s_greatest_power f_greatest_power d_greatest_power
  b_greatest_power : Binds K d_greatest_power ["number"] []
  g_greatest_power : mg "greatest_power" = some (.ref f_greatest_power)
  f_is_integer : Addr
  d_is_integer : FuncData
  F_is_integer : Fun K "is_integer" "is_integer" s_is_integer f_is_integer d_is_integer
  b_is_integer : Binds K d_is_integer ["value"] []
  g_is_integer : mg "is_integer" = some (.ref f_is_integer)
  f_check_integer : Addr
  d_check_integer : FuncData
  F_check_integer : Fun K "check_integer" "check_integer" s_check_integer f_check_integer d_check_integer
  b_check_integer : Binds K d_check_integer ["value"] []
  g_check_integer : mg "check_integer" = some (.ref f_check_integer)
  f_check_until : Addr
  d_check_until : FuncData
  F_check_until : Fun K "check_until" "check_until" s_check_until f_check_until d_check_until
  b_check_until : Binds K d_check_until ["until", "clock"] []
  g_check_until : mg "check_until" = some (.ref f_check_until)
  f_ending_numbers : Addr
  d_ending_numbers : FuncData
  F_ending_numbers : Fun K "ending_numbers" "ending_numbers" s_ending_numbers f_ending_numbers d_ending_numbers
  b_ending_numbers : Binds K d_ending_numbers ["timed"] []
  g_ending_numbers : mg "ending_numbers" = some (.ref f_ending_numbers)
  f_next_pieces : Addr
  d_next_pieces : FuncData
  c_next_pieces : Addr
  p_next_pieces : Addr
  F_next_pieces : FunT K "next_pieces" "next_pieces" s_next_pieces f_next_pieces d_next_pieces c_next_pieces
  b_next_pieces : Binds K d_next_pieces ["timed", "ending"] []
  g_next_pieces : mg "next_pieces" = some (.ref f_next_pieces)
  f_plan_moves : Addr
  d_plan_moves : FuncData
  F_plan_moves : Fun K "plan_moves" "plan_moves" s_plan_moves f_plan_moves d_plan_moves
  b_plan_moves : Binds K d_plan_moves ["ending", "begun"] []
  g_plan_moves : mg "plan_moves" = some (.ref f_plan_moves)
  f_let_go : Addr
  d_let_go : FuncData
  F_let_go : Fun K "let_go" "let_go" s_let_go f_let_go d_let_go
  b_let_go : Binds K d_let_go ["timed", "ending"] []
  g_let_go : mg "let_go" = some (.ref f_let_go)
  f_l_bag : Addr
  d_l_bag : FuncData
  F_l_bag : Fun K "_law_bag" "_law_bag" s_l_bag f_l_bag d_l_bag
  b_l_bag : Binds K d_l_bag ["_law_script", "_law_at"] []
  g_l_bag : mg "_law_bag" = some (.ref f_l_bag)
  f_l_take : Addr
  d_l_take : FuncData
  F_l_take : Fun K "_law_take" "_law_take" s_l_take f_l_take d_l_take
  b_l_take : Binds K d_l_take ["_law_bag_here", "_law_many"] []
  g_l_take : mg "_law_take" = some (.ref f_l_take)
  f_l_outer : Addr
  d_l_outer : FuncData
  c_l_outer : Addr
  p_l_outer : Addr
  F_l_outer : FunT K "_law_outer" "_law_outer" s_l_outer f_l_outer d_l_outer c_l_outer
  b_l_outer : Binds K d_l_outer ["_law_held", "_law_notes"] []
  g_l_outer : mg "_law_outer" = some (.ref f_l_outer)
  f_l_pieces : Addr
  d_l_pieces : FuncData
  F_l_pieces : Fun K "_law_pieces" "_law_pieces" s_l_pieces f_l_pieces d_l_pieces
  b_l_pieces : Binds K d_l_pieces ["_law_low", "_law_high"] []
  g_l_pieces : mg "_law_pieces" = some (.ref f_l_pieces)
  f_l_alike : Addr
  d_l_alike : FuncData
  F_l_alike : Fun K "_law_alike" "_law_alike" s_l_alike f_l_alike d_l_alike
  b_l_alike : Binds K d_l_alike ["_law_one", "_law_other"] []
  g_l_alike : mg "_law_alike" = some (.ref f_l_alike)
  f_l_tick : Addr
  d_l_tick : FuncData
  F_l_tick : Fun K "_law_tick" "_law_tick" s_l_tick f_l_tick d_l_tick
  b_l_tick : Binds K d_l_tick ["_law_state"] []
  g_l_tick : mg "_law_tick" = some (.ref f_l_tick)
  f_l_step : Addr
  d_l_step : FuncData
  F_l_step : Fun K "_law_step" "_law_step" s_l_step f_l_step d_l_step
  b_l_step : Binds K d_l_step ["_law_house", "_law_state", "_law_notes", "_law_names", "_law_entries", "_law_call"] []
  g_l_step : mg "_law_step" = some (.ref f_l_step)
  c_law : Addr
  p_law : Addr
  pne_next_pieces_l_outer : p_next_pieces ≠ p_l_outer
  pne_next_pieces_law : p_next_pieces ≠ p_law
  pne_l_outer_law : p_l_outer ≠ p_law
  z_abs : mg "abs" = none
  z_any : mg "any" = none
  z_bool : mg "bool" = none
  z_dict : mg "dict" = none
  z_int : mg "int" = none
  z_isinstance : mg "isinstance" = none
  z_len : mg "len" = none
  z_list : mg "list" = none
  z_min : mg "min" = none
  z_property : mg "property" = none
  z_range : mg "range" = none
  z_repr : mg "repr" = none
  z_reversed : mg "reversed" = none
  z_sorted : mg "sorted" = none
  z_sum : mg "sum" = none
  cl_Calls : Cls K C_Calls
  mk_Calls : PySem.W.makesIn K C_Calls = true
  kp_Calls : PySem.W.keepIn K (.ref C_Calls) = true
  n_Calls_entries : NoAttr K C_Calls "entries"
  n_Calls_running : NoAttr K C_Calls "running"
  cl_Outer : Cls K C_Outer
  mk_Outer : PySem.W.makesIn K C_Outer = true
  kp_Outer : PySem.W.keepIn K (.ref C_Outer) = true
  n_Outer_calls : NoAttr K C_Outer "calls"
  n_Outer_push_call : NoAttr K C_Outer "push_call"
  n_Outer_pop_call : NoAttr K C_Outer "pop_call"
  n_Outer_ask_call : NoAttr K C_Outer "ask_call"
  n_Outer_order : NoAttr K C_Outer "order"
  n_Outer_broken : NoAttr K C_Outer "broken"
  cl_Timed : Cls K C_Timed
  mk_Timed : PySem.W.makesIn K C_Timed = true
  kp_Timed : PySem.W.keepIn K (.ref C_Timed) = true
  n_Timed_outer : NoAttr K C_Timed "outer"
  n_Timed_given : NoAttr K C_Timed "given"
  n_Timed_now : NoAttr K C_Timed "now"
  n_Timed_held : NoAttr K C_Timed "held"
  n_Timed_limits : NoAttr K C_Timed "limits"
  n_Timed_ends : NoAttr K C_Timed "ends"
  cr_Timed : ClX.CRead K C_Timed (.type "type")
  uv_LAST : Value
  cv_LAST : ClX.CVal K C_Timed (.type "type") "LAST" (.int 1000000000) uv_LAST

theorem log_lo {n : Nat} (h : n ≠ 0) : 2 ^ n.log2 ≤ n := Nat.log2_self_le h
theorem log_hi {n : Nat} : n < 2 ^ (n.log2 + 1) := Nat.lt_log2_self
theorem log_lt {n f : Nat} (h : n ≠ 0) (hf : n < 2 ^ f) : n.log2 < f := (Nat.log2_lt h).mpr hf
theorem rest_lt {n : Nat} (h : n ≠ 0) : n - 2 ^ n.log2 < 2 ^ n.log2 := by
  have a := log_hi (n := n)
  have b := log_lo h
  rw [Nat.pow_succ] at a
  omega
theorem rest_lt' {n f : Nat} (h : n ≠ 0) (hf : n < 2 ^ (f + 1)) : n - 2 ^ n.log2 < 2 ^ f := by
  have a := rest_lt h
  have b := log_lt h hf
  have c : 2 ^ n.log2 ≤ 2 ^ f := Nat.pow_le_pow_right (by decide) (by omega)
  omega
/-- the lowest power -/
def low (n : Nat) : Nat := if h : n = 0 then 1 else if n % 2 = 0 then 2 * low (n / 2) else 1
termination_by n
decreasing_by omega
theorem low_even {n : Nat} (h : n ≠ 0) (e : n % 2 = 0) : low n = 2 * low (n / 2) := by
  rw [low, dif_neg h, if_pos e]
theorem low_odd {n : Nat} (e : n % 2 = 1) : low n = 1 := by
  rw [low, dif_neg (by omega), if_neg (by omega)]
theorem low_is : ∀ (j n : Nat), n ≠ 0 → n % 2 ^ j = 0 → ¬ n % 2 ^ (j + 1) = 0 → low n = 2 ^ j
  | 0, n, h, _, e => by
    rw [Nat.zero_add, Nat.pow_one] at e
    exact low_odd (by omega)
  | j + 1, n, h, a, b => by
    have e2 : n % 2 = 0 := by
      rw [Nat.pow_succ] at a
      have := Nat.mod_mod_of_dvd n (show 2 ∣ 2 ^ j * 2 from ⟨2 ^ j, Nat.mul_comm _ _⟩)
      rw [a] at this
      omega
    obtain ⟨m, rfl⟩ : ∃ m, n = 2 * m := ⟨n / 2, by omega⟩
    have hm : m ≠ 0 := by omega
    rw [low_even h e2, Nat.mul_div_cancel_left _ (by decide), Nat.pow_succ, Nat.mul_comm]
    have a' : m % 2 ^ j = 0 := by
      rw [Nat.pow_succ, Nat.mul_comm (2 ^ j) 2, Nat.mul_mod_mul_left] at a
      omega
    have b' : ¬ m % 2 ^ (j + 1) = 0 := fun z => by
      rw [Nat.pow_succ, Nat.mul_comm (2 ^ (j + 1)) 2, Nat.mul_mod_mul_left, z] at b
      exact b rfl
    rw [low_is j m hm a' b']
theorem low_pow (j : Nat) : low (2 ^ j) = 2 ^ j := by
  refine low_is j _ (Nat.pos_iff_ne_zero.mp (Nat.two_pow_pos j)) (Nat.mod_self _) fun z => ?_
  rw [Nat.mod_eq_of_lt (Nat.pow_lt_pow_right (by decide) (by omega))] at z
  have := Nat.two_pow_pos j
  omega

theorem ifT {c : Bool} {A B : Prop} (hc : c = true) (h : A) : if c = true then A else B := by
  rw [if_pos hc]
  exact h
theorem ifF {c : Bool} {A B : Prop} (hc : c = false) (h : B) : if c = true then A else B := by
  rw [hc, if_neg Bool.false_ne_true]
  exact h
theorem dF {p : Prop} [Decidable p] (h : ¬ p) : decide p = false := decide_eq_false h
theorem dT {p : Prop} [Decidable p] (h : p) : decide p = true := decide_eq_true h
theorem bits_nat {n : Nat} (h : n ≠ 0) : (Builtin.Int.intBits (n : Int) : Nat) = n.log2 + 1 := by
  unfold Builtin.Int.intBits
  rw [if_neg (show ¬ ((n : Int) == 0) = true by simpa using (show (n : Int) ≠ 0 by omega))]
  rfl
theorem gp_eq {n : Nat} (h : n ≠ 0) : (1 : Int) * 2 ^ (((Builtin.Int.intBits (n : Int) : Nat) : Int) - 1).toNat = ((2 ^ n.log2 : Nat) : Int) := by
  rw [bits_nat h, show (((n.log2 + 1 : Nat) : Int) - 1).toNat = n.log2 by omega, Int.one_mul]
  exact (PySem.W.kbt_cast _).symm
theorem gp_ok {n : Nat} (h : n ≠ 0) (hn : n < 2 ^ 200) : CShl 1 (((Builtin.Int.intBits (n : Int) : Nat) : Int) - 1) := by
  have a := log_lt h hn
  rw [bits_nat h, show (((n.log2 + 1 : Nat) : Int) - 1) = (n.log2 : Int) by omega]
  exact shl_ok (n := 1) (by decide) (by omega)
theorem nat_cast_lt {a : Nat} {n : Nat} (h : n < 2 ^ a) : (n : Int).natAbs < 2 ^ a := h
theorem pow_nat (k : Nat) : (2 : Int) ^ k = ((2 ^ k : Nat) : Int) := (PySem.W.kbt_cast k).symm
theorem p10 : (10 : Int) ^ Int.toNat 30 = ((10 ^ 30 : Nat) : Int) := by decide +kernel
theorem le6 : 6 ≤ sizeLine := by decide
theorem p100 : (10 ^ 30 : Nat) < 2 ^ 100 := by decide +kernel
def intAt (σ : L2.St) (i : Nat) : Nat := match σ[i]? with
  | some (some (V.int r)) => r.toNat
  | _ => 0
theorem le2 : 2 ≤ sizeLine := by decide
theorem cdiv_nat (a b : Nat) : ((a : Int) / (b : Int)) = ((a / b : Nat) : Int) := rfl

/-! ### heaps -/
theorem same_put {H H1 : Hp} {p : Addr} {o : HO} (h : Same H H1) (n : H p = none) : Same H (upd H1 p o) := fun b u e => by
  rw [upd_ne (ne_of_none e n)]
  exact h b u e
theorem same_new {H : Hp} {p : Addr} {o : HO} (n : H p = none) : Same H (upd H p o) := same_put (Same.refl H) n
theorem same_no {H H1 : Hp} {p : Addr} (h : Same H H1) (n : H1 p = none) : H p = none := h.free n
/-- all but p is as it was -/
def But (p : Addr) (H H' : Hp) : Prop := ∀ b o, H b = some o → b ≠ p → H' b = some o
theorem but_refl (p : Addr) (H : Hp) : But p H H := fun _ _ h _ => h
theorem but_trans {p : Addr} {H H1 H2 : Hp} (a : But p H H1) (b : But p H1 H2) : But p H H2 := fun c o h n => b c o (a c o h n) n
theorem but_of_same {p : Addr} {H H1 : Hp} (a : Same H H1) : But p H H1 := fun c o h _ => a c o h
theorem but_upd (p : Addr) (H : Hp) (o : HO) : But p H (upd H p o) := fun b u e n => by
  rw [upd_ne n]
  exact e
theorem but_fresh {p : Addr} {H0 H H1 : Hp} (s : Same H0 H) (n : H0 p = none) (b : But p H H1) : Same H0 H1 := fun c o e => b c o (s c o e) (ne_of_none e n)
/-! ### a bag of digits -/
def Bag (H : Hp) (p : Addr) : Prop := ∃ g m c : Int, H p = some (.lst [.int g, .int m, .int c]) ∧ 0 ≤ g ∧ 0 ≤ m ∧ m < 2147483648
theorem fm0 {a b : Int} (h : 0 < b) : 0 ≤ a.fmod b := by
  rw [Int.fmod_eq_emod_of_nonneg a (by omega)]
  exact Int.emod_nonneg a (by omega)
theorem fm1 {a b : Int} (h : 0 < b) : a.fmod b < b := by
  rw [Int.fmod_eq_emod_of_nonneg a (by omega)]
  exact Int.emod_lt_of_pos a h
theorem nz1 : (2147483647 : Int) ≠ 0 := by decide
theorem nz2 : (2147483629 : Int) ≠ 0 := by decide
section
variable {P : Program} {w : World} {K : PySem.W.Frag} {mg : Str → Option Value} {base : Heap}
def spTake : Sp := fun vs H Q _ => ∃ (p : Addr) (n : Int), vs = [.ref p, .int n] ∧ Bag H p ∧ 0 < n ∧ n.natAbs < 2 ^ 200 ∧
  ∀ r H', 0 ≤ r → r < n → Bag H' p → But p H H' → Q (.int r) H'
theorem ok_take (T : Txt K mg) : FnOk P w K mg base CX0 1 T.f_l_take T.d_l_take ["_law_bag_here", "_law_many"] spTake := by
  refine T.F_l_take.ok sc_l_take (fun vs H Q E h => ?_) (fun cdv A outer s H vs Q E hr h => ?_)
  · obtain ⟨p, n, rfl, _⟩ := h
    rfl
  · obtain ⟨p, n, rfl, ⟨g, m, c, hb, g0, m0, m1⟩, n0, n1, q⟩ := h
    refine ⟨_, (pss_cons (ps_if (pt_cmpR op_gt (pe_ix (r := rIxL K) ix_list (pv 0) pe_int (fun _ _ => rfl)) pe_int (nomark _)) (pss_cons (ps_set (i := 2) sc_l_take.nd rfl (.inl rfl) (pe_op op_modN (pe_ix (r := rIxL K) ix_list (pv 0) pe_int (fun _ _ => rfl)) (pv 1)))
        (pss_cons (ps_asg (pe_op op_fdivW (pe_ix (r := rIxL K) ix_list (pv 0) pe_int (fun _ _ => rfl)) (pv 1)) (pg_sub (pv 0) pe_int set_list))
        (pss_one (ps_ret (pv 2))))) pss_nil)
      (pss_cons (ps_asg (pe_op op_add (pe_ix (r := rIxL K) ix_list (pv 0) pe_int (fun _ _ => rfl)) pe_int) (pg_sub (pv 0) pe_int set_list))
      (pss_cons (ps_asg (pe_op op_modN (pe_op op_add (pe_op op_add (pe_op op_mul (pe_ix (r := rIxL K) ix_list (pv 0) pe_int (fun _ _ => rfl)) pe_int) (pe_op op_mul pe_int (pe_ix (r := rIxL K) ix_list (pv 0) pe_int (fun _ _ => rfl)))) pe_int) pe_int) (pg_sub (pv 0) pe_int set_list))
      (pss_one (ps_ret (pe_op op_modN (pe_op op_modN (pe_op op_pow (pe_op op_fdivW (pe_ix (r := rIxL K) ix_list (pv 0) pe_int (fun _ _ => rfl)) pe_int) pe_int) pe_int) (pv 1))))))), ?_⟩
    have hB : SqL K H p [.int g, .int m, .int c] := .inl (.inl hb)
    refine ⟨_, rfl, p, _, 0, .int g, rfl, rfl, hB, atI_nat (j := 0) rfl, _, _, rfl, rfl, _, rfl, ite2 (fun e => ?_) (fun e => ?_)⟩
    · refine ⟨_, rfl, p, _, 0, .int g, rfl, rfl, hB, atI_nat (j := 0) rfl, _, rfl, _, _, rfl, rfl, (by omega), ?_⟩
      refine ⟨_, rfl, p, _, 0, .int g, rfl, rfl, hB, atI_nat (j := 0) rfl, _, rfl, _, _, rfl, rfl, wide_div n0 n1 (by decide) (by decide), ?_⟩
      refine ⟨_, rfl, p, _, _, 0, rfl, rfl, hb, rfl, ?_⟩
      refine ⟨_, rfl, ?_⟩
      exact q _ _ (fm0 n0) (fm1 n0) ⟨g / n, m, c, upd_same, Int.ediv_nonneg g0 (by omega), m0, m1⟩ (but_upd _ _ _)
    · refine ⟨_, rfl, p, _, 2, .int c, rfl, rfl, hB, atI_nat (j := 2) rfl, _, _, rfl, rfl, ?_⟩
      refine ⟨_, rfl, p, _, _, 2, rfl, rfl, hb, rfl, ?_⟩
      have h2 : upd H p (.lst [.int g, .int m, .int (c + 1)]) p = some (.lst [.int g, .int m, .int (c + 1)]) := upd_same
      have hB2 : SqL K (upd H p (.lst [.int g, .int m, .int (c + 1)])) p [.int g, .int m, .int (c + 1)] := .inl (.inl h2)
      refine ⟨_, rfl, p, _, 1, .int m, rfl, rfl, hB2, atI_nat (j := 1) rfl, _, _, rfl, rfl, .inr ⟨by decide, by decide⟩, _, rfl, p, _, 2, .int (c + 1), rfl, rfl, hB2, atI_nat (j := 2) rfl, _, _, rfl, rfl, .inl ⟨by decide, by decide⟩, _, _, rfl, rfl, _, _, rfl, rfl, _, _, rfl, rfl, nz1, ?_⟩
      refine ⟨_, rfl, p, _, _, 1, rfl, rfl, h2, rfl, ?_⟩
      have m0' := fm0 (a := m * 69621 + 6007 * (c + 1) + 19) (show (0 : Int) < 2147483647 by decide)
      have m1' := fm1 (a := m * 69621 + 6007 * (c + 1) + 19) (show (0 : Int) < 2147483647 by decide)
      refine ⟨_, rfl, p, _, 1, _, rfl, rfl, .inl (.inl upd_same), atI_nat (j := 1) rfl, _, _, rfl, rfl, ⟨by decide, by decide⟩, _, _, rfl, rfl, ⟨by decide, by decide, ?_⟩, _, _, rfl, rfl, nz2, _, rfl, _, _, rfl, rfl, (by omega), ?_⟩
      · omega
      exact q _ _ (fm0 n0) (fm1 n0) ⟨g, _, c + 1, upd_same, g0, m0', by omega⟩ (but_trans (but_upd _ _ _) (but_upd _ _ _))
theorem le3 : 3 ≤ sizeLine := by decide
theorem nz3 : (8 : Int) ≠ 0 := by decide
theorem primes_at (k : Nat) : ∃ v : Int, 0 < v ∧ v < 2147483648 ∧ atI [V.int 2147483629, V.int 2147483587, V.int 2147483579, V.int 2147483563, V.int 2147483549, V.int 2147483543, V.int 2147483497, V.int 2147483489] ((k : Int).fmod 8) = some (.int v) := by
  have e : (k : Int).fmod 8 = ((k % 8 : Nat) : Int) := by
    rw [Int.fmod_eq_emod_of_nonneg _ (by decide)]
    rfl
  have h : k % 8 < 8 := Nat.mod_lt _ (by decide)
  rw [e]
  generalize k % 8 = j at h
  match j, h with
  | 0, _ => exact ⟨_, by decide, by decide, atI_nat (j := 0) rfl⟩
  | 1, _ => exact ⟨_, by decide, by decide, atI_nat (j := 1) rfl⟩
  | 2, _ => exact ⟨_, by decide, by decide, atI_nat (j := 2) rfl⟩
  | 3, _ => exact ⟨_, by decide, by decide, atI_nat (j := 3) rfl⟩
  | 4, _ => exact ⟨_, by decide, by decide, atI_nat (j := 4) rfl⟩
  | 5, _ => exact ⟨_, by decide, by decide, atI_nat (j := 5) rfl⟩
  | 6, _ => exact ⟨_, by decide, by decide, atI_nat (j := 6) rfl⟩
  | 7, _ => exact ⟨_, by decide, by decide, atI_nat (j := 7) rfl⟩
  | n + 8, h => exact absurd h (by omega)
def spBag (K : PySem.W.Frag) : Sp := fun vs H Q _ => ∃ (a : Addr) (ns : List Int) (k : Nat), vs = [.ref a, .int (k : Int)] ∧ SqL K H a (ns.map V.int) ∧ k ≤ 1000 ∧
  ∀ p H', H p = none → Same H H' → Bag H' p → Q (.ref p) H'
theorem ok_bag (T : Txt K mg) : FnOk P w K mg base CX0 1 T.f_l_bag T.d_l_bag ["_law_script", "_law_at"] (spBag K) := by
  refine T.F_l_bag.ok sc_l_bag (fun vs H Q E h => ?_) (fun cdv A outer s H vs Q E hr h => ?_)
  · obtain ⟨a, ns, k, rfl, _⟩ := h
    rfl
  · obtain ⟨a, ns, k, rfl, hS, hk, q⟩ := h
    refine ⟨_, (pss_cons (ps_set (i := 2) sc_l_bag.nd rfl (.inl rfl) pe_int)
      (C8.pss_cut (ps_if (pt_cmpR op_lt (pv 1) (pe_callB call_len_seq (by rfl) T.z_len (by decide +kernel) (pa_cons (pv 0) pa_nil)) (nomark _)) (pss_one (ps_set (i := 2) sc_l_bag.nd rfl (.inl rfl) (pe_ix (r := rIxL K) ix_list (pv 0) (pv 1) (fun _ _ => rfl)))) pss_nil)
      (pss_cons (ps_set (i := 3) sc_l_bag.nd rfl (.inl rfl) pe_int)
      (C8.pss_cut (ps_if (pt_cmpR op_ge (pe_callB call_abs (by rfl) T.z_abs (by decide +kernel) (pa_cons (pv 2) pa_nil)) (pe_op op_pow pe_int pe_int) (nomark _)) (pss_one (ps_set (i := 3) sc_l_bag.nd rfl (.inl rfl) (pe_callB call_abs (by rfl) T.z_abs (by decide +kernel) (pa_cons (pv 2) pa_nil)))) pss_nil)
      (pss_cons (ps_set (i := 4) sc_l_bag.nd rfl (.inl rfl) (pe_lst (pa_cons pe_int (pa_cons pe_int (pa_cons pe_int (pa_cons pe_int (pa_cons pe_int (pa_cons pe_int (pa_cons pe_int (pa_cons pe_int pa_nil))))))))))
      (pss_one (ps_ret (pe_lst (pa_cons (pv 3) (pa_cons (pe_op op_modN (pe_op op_pow (pe_op op_add (pe_op op_add (pe_op op_modN (pv 2) pe_int) (pe_op op_mul pe_int (pv 1))) pe_int) pe_int) (pe_ix (r := rIxL K) ix_list (pv 4) (pe_op op_modN (pv 1) pe_int) (fun _ _ => rfl))) (pa_cons pe_int pa_nil))))))))))), ?_⟩
    refine ⟨fun σ' H' => H' = H ∧ ∃ c : Int, σ' = [some (.ref a), some (.int (k : Int)), some (.int c), none, none], ?_, fun σ' H' hM => ?_⟩
    · refine ⟨_, rfl, _, rfl, a, _, rfl, .inl hS, _, _, rfl, rfl, _, rfl, ite2 (fun e => ?_) (fun e => ?_)⟩
      · have e2 := of_decide_eq_true e
        have e3 : k < ns.length := by
          rw [List.length_map] at e2
          omega
        have e4 : (ns.map V.int)[k]? = some (.int ns[k]) := by
          rw [List.getElem?_map, List.getElem?_eq_getElem e3]
          rfl
        exact ⟨_, rfl, _, rfl, a, _, _, _, rfl, rfl, hS, atI_nat e4, rfl, _, rfl⟩
      · exact ⟨rfl, _, rfl⟩
    · obtain ⟨rfl, c, rfl⟩ := hM
      refine ⟨fun σ'' H'' => H'' = H' ∧ ∃ g : Int, σ'' = [some (.ref a), some (.int (k : Int)), some (.int c), some (.int g), none] ∧ 0 ≤ g, ?_, fun σ'' H'' hM => ?_⟩
      · refine ⟨_, rfl, _, rfl, _, _, rfl, rfl, ⟨by decide, by decide, by decide⟩, _, _, rfl, rfl, _, rfl, ite2 (fun e => ?_) (fun e => ?_)⟩
        · refine ⟨_, rfl, _, rfl, rfl, _, rfl, ?_⟩
          split <;> omega
        · exact ⟨rfl, _, rfl, by decide⟩
      · obtain ⟨rfl, g, rfl, g0⟩ := hM
        refine ⟨by decide, fun o no => ?_⟩
        obtain ⟨v, v0, v1, hv⟩ := primes_at k
        have h0 := fm0 (a := c) (show (0 : Int) < 2147483647 by decide)
        have h1 := fm1 (a := c) (show (0 : Int) < 2147483647 by decide)
        refine ⟨_, rfl, _, rfl, _, _, rfl, rfl, nz1, _, rfl, _, _, rfl, rfl, .inl ⟨by decide, by decide⟩, _, _, rfl, rfl, _, _, rfl, rfl, _, _, rfl, rfl, ⟨by decide, by decide, by omega⟩, _, rfl, _, rfl, _, _, rfl, rfl, nz3, o, _, _, _, rfl, rfl, .inl (.inl upd_same), hv, _, _, rfl, rfl, by omega, ?_⟩
        refine ⟨le3, fun p np => ?_⟩
        have np' : H'' p = none := (same_new no).free np
        exact q _ _ np' (same_put (same_new no) np') ⟨g, _, 0, upd_same, g0, fm0 v0, by have := fm1 (a := (c.fmod 2147483647 + 104711 * (k : Int) + 23) ^ Int.toNat 5) v0; omega⟩
end
theorem but_put {p q : Addr} {H H1 : Hp} {o : HO} (b : But p H H1) (n : H1 q = none) : But p H (upd H1 q o) := fun c u e nc => by
  have e1 := b c u e nc
  rw [upd_ne (ne_of_none e1 n)]
  exact e1
theorem bag_put {p q : Addr} {H : Hp} {o : HO} (b : Bag H p) (n : H q = none) : Bag (upd H q o) p := by
  obtain ⟨g, m, c, e, r⟩ := b
  exact ⟨g, m, c, by rw [upd_ne (ne_of_none e n)]; exact e, r⟩
theorem bag_same {p : Addr} {H H1 : Hp} (b : Bag H p) (s : Same H H1) : Bag H1 p := by
  obtain ⟨g, m, c, e, r⟩ := b
  exact ⟨g, m, c, s _ _ e, r⟩
theorem bag_ne {p q : Addr} {H : Hp} (b : Bag H p) (n : H q = none) : q ≠ p := by
  obtain ⟨g, m, c, e, r⟩ := b
  exact (ne_of_none e n).symm

end Ob

set_option Elab.async false
set_option linter.all false
set_option maxRecDepth 100000
set_option maxHeartbeats 1000000
namespace Ob
open PySem PySem.Spec PyProof.Rows L2
open LamX (Tabs TabB TabS ExtN)

/-- nothing stands there -/
structure Fr (H : Hp) (p : Addr) : Prop where
  h : H p = none
theorem neN {H : Hp} {a b : Addr} {o : HO} (h' : Fr H b) (h : H a = some o) : a ≠ b := ne_of_none h h'.h
theorem neN' {H : Hp} {a b : Addr} {o : HO} (h' : Fr H a) (h : H b = some o) : a ≠ b := (ne_of_none h h'.h).symm
theorem atNew {H : Hp} {a p : Addr} {o u : HO} (n : Fr H p) (h : H a = some o) : upd H p u a = some o := (upd_ne (ne_of_none h n.h)).trans h
theorem atNe {H : Hp} {a p : Addr} {o u : HO} (n : a ≠ p) (h : H a = some o) : upd H p u a = some o := (upd_ne n).trans h
theorem atSame {H H1 : Hp} {a : Addr} {o : HO} (s : Same H H1) (h : H a = some o) : H1 a = some o := s _ _ h
/-- all is kept but what stands in cs -/
structure Kp (cs : List Addr) (H H' : Hp) : Prop where
  at_ : ∀ b o, H b = some o → b ∉ cs → H' b = some o
theorem kp_refl (cs : List Addr) (H : Hp) : Kp cs H H := ⟨fun _ _ e _ => e⟩
theorem kp_trans {cs : List Addr} {H H1 H2 : Hp} (a : Kp cs H H1) (b : Kp cs H1 H2) : Kp cs H H2 := ⟨fun c o e n => b.at_ c o (a.at_ c o e n) n⟩
theorem kp_up {cs : List Addr} {H H1 : Hp} {a : Addr} {o : HO} (m : a ∈ cs) (h : Kp cs H H1) : Kp cs H (upd H1 a o) := ⟨fun b u e n => by
  rw [upd_ne (show b ≠ a from fun z => n (by rw [z]; exact m))]
  exact h.at_ b u e n⟩
theorem kp_new {cs : List Addr} {H H1 : Hp} {a : Addr} {o : HO} (m : Fr H1 a) (h : Kp cs H H1) : Kp cs H (upd H1 a o) := ⟨fun b u e n => by
  rw [upd_ne (ne_of_none (h.at_ b u e n) m.h)]
  exact h.at_ b u e n⟩
theorem kp_newF {cs : List Addr} {H H1 : Hp} {a : Addr} {o : HO} (m : Fr H a) (h : Kp cs H H1) : Kp cs H (upd H1 a o) := ⟨fun b u e n => by
  rw [upd_ne (ne_of_none e m.h)]
  exact h.at_ b u e n⟩
theorem kp_same {cs : List Addr} {H H1 : Hp} (s : Same H H1) : Kp cs H H1 := ⟨fun b o e _ => s b o e⟩
theorem kp_more {cs ds : List Addr} {H H1 : Hp} (h : Kp cs H H1) (m : ∀ a ∈ cs, a ∈ ds) : Kp ds H H1 := ⟨fun b o e n => h.at_ b o e fun z => n (m b z)⟩
/-- what is changed is new, as H sees it -/
theorem kp_fresh {cs ds : List Addr} {H H1 H2 : Hp} (a : Kp cs H H1) (b : Kp ds H1 H2) (n : ∀ x ∈ ds, x ∈ cs ∨ Fr H x) : Kp cs H H2 := ⟨fun x o e m => b.at_ x o (a.at_ x o e m) fun z => (n x z).elim m fun f => ne_of_none e f.h rfl⟩
theorem atKp {cs : List Addr} {H H1 : Hp} {a : Addr} {o : HO} (s : Kp cs H H1) (n : a ∉ cs) (h : H a = some o) : H1 a = some o := s.at_ _ _ h n
theorem not_nil {a : Addr} : a ∉ ([] : List Addr) := fun z => nomatch z
theorem not_cons {a b : Addr} {l : List Addr} (h : a ≠ b) (t : a ∉ l) : a ∉ b :: l := fun z => (List.mem_cons.mp z).elim h t
theorem not_app {a : Addr} {l m : List Addr} (h : a ∉ l) (t : a ∉ m) : a ∉ l ++ m := fun z => (List.mem_append.mp z).elim h t
theorem sqlOf {K : PySem.W.Frag} {H : Hp} {a : Addr} {xs : List V} (h : H a = some (.lst xs)) : SqL K H a xs := .inl (.inl h)
theorem sqtOf {K : PySem.W.Frag} {H : Hp} {a : Addr} {xs : List V} (h : H a = some (.tup xs)) : SqT K H a xs := .inl (.inl h)
theorem sqlSame {K : PySem.W.Frag} {H H1 : Hp} {a : Addr} {xs : List V} (s : Same H H1) (h : SqL K H a xs) : SqL K H1 a xs := s.seq h
theorem neO {H : Hp} {a b : Addr} {x y : HO} (ha : H a = some x) (hb : H b = some y) (n : x ≠ y) : a ≠ b := fun z => by
  rw [z, hb] at ha
  exact n (Option.some.inj ha).symm
theorem noneOf {H H1 : Hp} {p : Addr} (h : Fr H1 p) (k : ∀ o, H p = some o → ∃ u, H1 p = some u) : Fr H p := ⟨by
  cases e : H p with
  | none => rfl
  | some o =>
    obtain ⟨u, z⟩ := k o e
    rw [h.h] at z
    cases z⟩
theorem same_newF {H : Hp} {p : Addr} {o : HO} (n : Fr H p) : Same H (upd H p o) := same_new n.h
theorem same_putF {H H1 : Hp} {p : Addr} {o : HO} (n : Fr H1 p) (h : Same H H1) : Same H (upd H1 p o) := h.trans (same_new n.h)
theorem same_putG {H H1 : Hp} {p : Addr} {o : HO} (n : Fr H p) (h : Same H H1) : Same H (upd H1 p o) := same_put h n.h
theorem memA {a : Addr} {l : List Addr} : a ∈ a :: l := List.mem_cons_self ..
theorem memB {a b : Addr} {l : List Addr} (h : a ∈ l) : a ∈ b :: l := List.mem_cons_of_mem _ h
theorem memL {a : Addr} {l m : List Addr} (h : a ∈ l) : a ∈ l ++ m := List.mem_append.mpr (.inl h)
theorem memR {a : Addr} {l m : List Addr} (h : a ∈ m) : a ∈ l ++ m := List.mem_append.mpr (.inr h)
theorem kp_transR {cs : List Addr} {H H1 H2 : Hp} (b : Kp cs H1 H2) (a : Kp cs H H1) : Kp cs H H2 := kp_trans a b
theorem kp_sameR {cs : List Addr} {H H1 H2 : Hp} (b : Same H1 H2) (a : Kp cs H H1) : Kp cs H H2 := kp_trans a (kp_same b)
theorem kp_freshR {cs ds : List Addr} {H H1 H2 : Hp} (b : Kp ds H1 H2) (n : ∀ x ∈ ds, x ∈ cs ∨ Fr H x) (a : Kp cs H H1) : Kp cs H H2 := kp_fresh a b n
theorem same_transR {H H1 H2 : Hp} (b : Same H1 H2) (a : Same H H1) : Same H H2 := a.trans b
theorem subNil {P : Addr → Prop} : ∀ x ∈ ([] : List Addr), P x := fun _ h => nomatch h
theorem subCons {P : Addr → Prop} {a : Addr} {l : List Addr} (h : P a) (t : ∀ x ∈ l, P x) : ∀ x ∈ a :: l, P x := fun x m => (List.mem_cons.mp m).elim (fun e => by rw [e]; exact h) (t x)
theorem subApp {P : Addr → Prop} {l m : List Addr} (h : ∀ x ∈ l, P x) (t : ∀ x ∈ m, P x) : ∀ x ∈ l ++ m, P x := fun x e => (List.mem_append.mp e).elim (h x) (t x)
theorem sqtAll {K : PySem.W.Frag} {H : Hp} {a : Addr} {xs : List V} (h : ∀ H, SqT K H a xs) : SqT K H a xs := h H
theorem sqtSame {K : PySem.W.Frag} {H H1 : Hp} {a : Addr} {xs : List V} (s : Same H H1) (h : SqT K H a xs) : SqT K H1 a xs := by
  rcases h with (h | ⟨o, h⟩) | h
  · exact .inl (.inl (s _ _ h))
  · exact .inl (.inr ⟨o, s _ _ h⟩)
  · exact .inr h
theorem frUp {H : Hp} {a p : Addr} {o : HO} (n : p ≠ a) (h : Fr H p) : Fr (upd H a o) p := ⟨by rw [upd_ne n]; exact h.h⟩
theorem bag_putF {p q : Addr} {H : Hp} {o : HO} (n : Fr H q) (b : Bag H p) : Bag (upd H q o) p := bag_put b n.h
theorem bag_kpR {p : Addr} {cs : List Addr} {H H1 : Hp} (k : Kp cs H H1) (n : p ∉ cs) (h : Bag H p) : Bag H1 p := by
  obtain ⟨g, m, c, e, z⟩ := h
  exact ⟨g, m, c, k.at_ _ _ e n, z⟩

/-- a promise that a run does not open by itself -/
structure Bx (p : Prop) : Prop where
  h : p
def bx (sp : Sp) : Sp := fun vs H Q E => Bx (sp vs H Q E)
theorem fnBx {P : Program} {w : World} {K : PySem.W.Frag} {mg : Str → Option Value} {base : Heap} {CX : CXT} {k : Nat} {f : Addr} {fd : FuncData} {ps : List Str} {sp : Sp} (F : FnOk P w K mg base CX k f fd ps sp) : FnOk P w K mg base CX k f fd ps (bx sp) := F.imp fun _ _ _ _ h => h.h

end Ob

set_option Elab.async false
set_option linter.all false
set_option maxRecDepth 100000
set_option maxHeartbeats 1000000
namespace Ob
open PySem PySem.Spec PyProof.Rows L2
open LamX (Tabs TabB TabS ExtN)

set_option hygiene false in
local macro_rules
  | `(tactic| kp_flats) => `(tactic| first
    | assumption
    | exact upd_same
    | (apply atNew; assumption; kp_flats)
    | (apply atNe; (next => kbo_bools); kp_flats)
    | (apply atSame; assumption; kp_flats)
    | (apply atKp; assumption; (next => kaf_pre); kp_flats))
set_option hygiene false in
local macro_rules
  | `(tactic| kaf_pre) => `(tactic| first
    | assumption
    | exact not_nil
    | (apply not_cons; (next => kbo_bools); kaf_pre)
    | (apply not_app; (next => kaf_pre); kaf_pre))
set_option hygiene false in
local macro_rules
  | `(tactic| kbo_bools) => `(tactic| first
    | assumption
    | (apply Ne.symm; assumption)
    | (apply neN; assumption; kp_flats)
    | (apply neN'; assumption; kp_flats))
set_option hygiene false in
local macro_rules
  | `(tactic| o_reads) => `(tactic| first
    | with_reducible rfl
    | assumption
    | rfl
    | kp_flats
    | (show SqL _ _ _ _; first | assumption | (apply sqlOf; kp_flats) | (apply sqlSame; assumption; o_reads))
    | (show SqT _ _ _ _; first | assumption | (apply sqtOf; kp_flats) | (apply sqtAll; assumption) | (apply sqtSame; assumption; o_reads))
    | (show Cls _ _; first | exact T.cl_Calls | exact T.cl_Outer | exact T.cl_Timed)
    | (show NoAttr _ _ _; first | exact T.n_Calls_entries | exact T.n_Calls_running | exact T.n_Outer_calls | exact T.n_Outer_push_call | exact T.n_Outer_pop_call | exact T.n_Outer_ask_call | exact T.n_Outer_order | exact T.n_Outer_broken | exact T.n_Timed_outer | exact T.n_Timed_given | exact T.n_Timed_now | exact T.n_Timed_held | exact T.n_Timed_limits | exact T.n_Timed_ends)
    | (apply Or.inl; o_reads)
    | (apply Or.inr; o_reads)
    | (apply And.intro; (next => o_reads); o_reads)
    | (apply Exists.intro; o_reads)
    | exact Nat.le_of_ble_eq_true rfl
    | exact Nat.succ_ne_zero _
    | (show Fr _ _; kba_ints)
    | (show Same _ _; kd_subs)
    | (show Kp _ _ _; kxs_still)
    | (show (_ : Nat) ≤ _; simp only [List.length_append, List.length_map, List.length_cons, List.length_nil, List.length_take, List.length_drop, List.length_replicate, List.length_range, sizeLine_eq]; omega)
    | (show _ = none; apply Fr.h; kba_ints)
    | (show Bag _ _; first | assumption | (apply bag_putF; assumption; o_reads) | (apply bag_neF; (next => kbo_bools); o_reads) | (apply bag_kpR; assumption; (next => kaf_pre); o_reads))
    | omega
    | decide)
local macro_rules
  | `(tactic| o_readsAll) => `(tactic| repeat (first
    | (refine fun (pNew : Addr) (nNew : _ = none) => ?_; replace nNew := Fr.mk nNew)
    | (refine fun (xNew dNew : Addr) (nNew : _ = none) (mNew : _ = none) (eNew : dNew ≠ xNew) => ?_; replace nNew := Fr.mk nNew; replace mNew := Fr.mk mNew)
    | (apply And.intro; next => o_reads)
    | apply Exists.intro (α := V)
    | apply Exists.intro (α := Addr)
    | apply Exists.intro (α := Int)
    | apply Exists.intro (α := Bool)
    | apply Exists.intro (α := List V)
    | apply Exists.intro (α := List Nat)
    | apply Exists.intro (α := List (Str × V))
    | apply Exists.intro (α := List _)
    | apply Exists.intro (α := Str)
    | apply Exists.intro (α := HO)
    | apply Exists.intro (α := Sp)
    | apply Exists.intro (α := VK)))
set_option hygiene false in
local macro_rules
  | `(tactic| kba_ints) => `(tactic| first
    | assumption
    | (apply frUp; (first | assumption | (apply Ne.symm; assumption)); kba_ints)
    | (apply noneOf; assumption; intro oF eF; apply Exists.intro; kp_flats)
    | (apply frUp; (next => kbo_bools); kba_ints))
set_option hygiene false in
local macro_rules
  | `(tactic| kxs_still) => `(tactic| first
    | assumption
    | exact kp_refl _ _
    | (apply kp_newF; assumption; kxs_still)
    | (apply kp_new; assumption; kxs_still)
    | (apply kp_up; (next => o_fieldsN); kxs_still)
    | (apply kp_new; (next => kba_ints); kxs_still)
    | (apply kp_sameR; assumption; kxs_still)
    | (apply kp_transR; assumption; kxs_still)
    | (apply kp_freshR; assumption; (next => kaf_suf); kxs_still))
set_option hygiene false in
local macro_rules
  | `(tactic| kaf_suf) => `(tactic| first
    | assumption
    | exact subNil
    | (apply subCons; (first | (apply Or.inl; o_fieldsN) | (apply Or.inr; kba_ints)); kaf_suf)
    | (apply subApp; (next => kaf_suf); kaf_suf))
set_option hygiene false in
local macro_rules
  | `(tactic| o_fieldsN) => `(tactic| first
    | assumption
    | exact memA
    | (apply memB; o_fieldsN)
    | (apply memL; o_fieldsN)
    | (apply memR; o_fieldsN))
set_option hygiene false in
local macro_rules
  | `(tactic| kd_subs) => `(tactic| first
    | assumption
    | exact Same.refl _
    | (apply same_putF; assumption; kd_subs)
    | (apply same_putG; assumption; kd_subs)
    | (apply same_putF; (next => kba_ints); kd_subs)
    | (apply same_transR; assumption; kd_subs))

def Mu (H : Hp) (cs : List Addr) : Prop := ∀ a ∈ cs, ∃ o, H a = some o ∧ (∀ xs, o ≠ .tup xs) ∧ ∀ φ, o ≠ .ext φ
theorem Mu.tup {H : Hp} {cs : List Addr} {t : Addr} {xs : List V} (n : Mu H cs) (h : H t = some (.tup xs)) : t ∉ cs := fun m => by
  obtain ⟨o, e, k, _⟩ := n t m
  rw [h] at e
  exact k xs (Option.some.inj e).symm
theorem Mu.ext {H : Hp} {cs : List Addr} {t : Addr} {φ : Heap → Prop} (n : Mu H cs) (h : H t = some (.ext φ)) : t ∉ cs := fun m => by
  obtain ⟨o, e, _, k⟩ := n t m
  rw [h] at e
  exact k φ (Option.some.inj e).symm
theorem Mu.fr {H : Hp} {cs : List Addr} {a : Addr} (n : Mu H cs) (f : Fr H a) : a ∉ cs := fun m => by
  obtain ⟨o, e, _⟩ := n a m
  rw [f.h] at e
  cases e
theorem Mu.sub {H : Hp} {cs ds : List Addr} (n : Mu H cs) (s : ∀ a ∈ ds, a ∈ cs) : Mu H ds := fun a m => n a (s a m)
theorem mu_nil {H : Hp} : Mu H [] := fun _ m => nomatch m
theorem mu_cons {H : Hp} {a : Addr} {o : HO} {l : List Addr} (e : H a = some o) (k : ∀ xs, o ≠ .tup xs) (k2 : ∀ φ, o ≠ .ext φ) (t : Mu H l) : Mu H (a :: l) := fun x m => (List.mem_cons.mp m).elim (fun z => by rw [z]; exact ⟨o, e, k, k2⟩) (t x)
theorem mu_lst {H : Hp} {a : Addr} {xs : List V} {l : List Addr} (e : H a = some (.lst xs)) (t : Mu H l) : Mu H (a :: l) := mu_cons e (fun _ z => nomatch z) (fun _ z => nomatch z) t
theorem mu_ins {H : Hp} {a C dx : Addr} {fs : List (Str × V)} {l : List Addr} (e : H a = some (.ins C dx fs)) (t : Mu H l) : Mu H (a :: l) := mu_cons e (fun _ z => nomatch z) (fun _ z => nomatch z) t
theorem mu_app {H : Hp} {l m : List Addr} (a : Mu H l) (b : Mu H m) : Mu H (l ++ m) := fun x h => (List.mem_append.mp h).elim (a x) (b x)
/-- what does not change stays; what changes is told again -/
theorem Mu.kp {H H1 : Hp} {cs ds : List Addr} (n : Mu H cs) (k : Kp ds H H1) (m : Mu H1 ds) : Mu H1 cs := fun a ha => by
  by_cases e : a ∈ ds
  · exact m a e
  · obtain ⟨o, h1, h2⟩ := n a ha
    exact ⟨o, k.at_ _ _ h1 e, h2⟩
theorem Mu.same {H H1 : Hp} {cs : List Addr} (n : Mu H cs) (s : Same H H1) : Mu H1 cs := fun a m => (n a m).imp fun _ z => ⟨s _ _ z.1, z.2⟩
theorem kp_tup {cs : List Addr} {H H1 : Hp} (k : Kp cs H H1) (n : Mu H cs) {t : Addr} {xs : List V} (h : H t = some (.tup xs)) : H1 t = some (.tup xs) := k.at_ _ _ h (n.tup h)

set_option pp.maxSteps 900
/-! ### the entries of a walk -/
abbrev nV (k : Nat) : V := .int (k : Int)
def WEnt (H : Hp) (x : V) (e : Str × Nat) : Prop := ∃ p : Addr, x = .ref p ∧ H p = some (.tup [.str e.1, .int (e.2 : Int)])
theorem WEnt.kp {H H1 : Hp} {x : V} {e : Str × Nat} {cs : List Addr} (h : WEnt H x e) (k : Kp cs H H1) (m : Mu H cs) : WEnt H1 x e := by
  obtain ⟨p, h1, h2⟩ := h
  exact ⟨p, h1, kp_tup k m h2⟩
structure WLog (H : Hp) (xs : List V) (es : List (Str × Nat)) : Prop where
  len : xs.length = es.length
  at_ : ∀ (q : Nat) (x : V) (e : Str × Nat), xs[q]? = some x → es[q]? = some e → WEnt H x e
theorem WLog.kp {H H1 : Hp} {xs : List V} {es : List (Str × Nat)} {cs : List Addr} (h : WLog H xs es) (k : Kp cs H H1) (m : Mu H cs) : WLog H1 xs es := ⟨h.len, fun q x e a b => (h.at_ q x e a b).kp k m⟩
theorem WLog.nil {H : Hp} : WLog H [] [] := ⟨rfl, fun q x e z => by cases q <;> cases z⟩
theorem WLog.app {H : Hp} {xs ys : List V} {es fs : List (Str × Nat)} (h : WLog H xs es) (g : WLog H ys fs) : WLog H (xs ++ ys) (es ++ fs) := by
  refine ⟨by rw [List.length_append, List.length_append, h.len, g.len], fun q x e a b => ?_⟩
  by_cases c : q < xs.length
  · rw [List.getElem?_append_left c] at a
    rw [List.getElem?_append_left (by rw [← h.len]; exact c)] at b
    exact h.at_ q x e a b
  · rw [List.getElem?_append_right (by omega)] at a
    rw [List.getElem?_append_right (by rw [← h.len]; omega), ← h.len] at b
    exact g.at_ _ x e a b
theorem WLog.one {H : Hp} {x : V} {e : Str × Nat} (h : WEnt H x e) : WLog H [x] [e] := ⟨rfl, fun q y d a b => by
  match q, a, b with
  | 0, a, b =>
    cases a
    cases b
    exact h
  | q + 1, a, _ => cases q <;> cases a⟩
theorem wstep {H0 H1 : Hp} {D t : Addr} {ys : List V} {es : List (Str × Nat)} {e : Str × Nat} (fD : Fr H0 D) (s : Same H0 H1) (eD : H1 D = some (.lst ys)) (wl : WLog H1 ys es) (nt : H1 t = none) :
    upd H1 t (.tup [.str e.1, .int (e.2 : Int)]) D = some (.lst ys) ∧ Same H0 (upd (upd H1 t (.tup [.str e.1, .int (e.2 : Int)])) D (.lst (ys ++ [.ref t]))) ∧ ∃ zs, upd (upd H1 t (.tup [.str e.1, .int (e.2 : Int)])) D (.lst (ys ++ [.ref t])) D = some (.lst zs) ∧ WLog (upd (upd H1 t (.tup [.str e.1, .int (e.2 : Int)])) D (.lst (ys ++ [.ref t]))) zs (es ++ [e]) := by
  have ft := Fr.mk nt
  have st : Same H1 (upd H1 t (.tup [.str e.1, .int (e.2 : Int)])) := same_newF ft
  have eD2 := st _ _ eD
  have mD : Mu (upd H1 t (.tup [.str e.1, .int (e.2 : Int)])) [D] := mu_lst eD2 mu_nil
  have kD : Kp [D] (upd H1 t (.tup [.str e.1, .int (e.2 : Int)])) (upd (upd H1 t (.tup [.str e.1, .int (e.2 : Int)])) D (.lst (ys ++ [.ref t]))) := kp_up memA (kp_refl _ _)
  exact ⟨eD2, same_putG fD (s.trans st), _, upd_same, ((wl.kp (kp_same (cs := []) st) mu_nil).kp kD mD).app (WLog.one (WEnt.kp ⟨t, rfl, upd_same⟩ kD mD))⟩
theorem take_map {α β : Type} (f : α → β) {l : List α} {i : Nat} {x : α} (h : l[i]? = some x) : (l.take (i + 1)).map f = (l.take i).map f ++ [f x] := by
  rw [List.take_succ, h, List.map_append]
  rfl
section
variable {P : Program} {w : World} {K : PySem.W.Frag} {mg : Str → Option Value} {base : Heap}
def spPush : Sp := fun vs H Q _ => ∃ (a : Addr) (ns : List Nat), vs = [.ref a] ∧ H a = some (.lst (ns.map nV)) ∧ ns.length < 4000000 ∧ ∀ p xs H', Fr H p → Same H H' → H' p = some (.lst xs) → WLog H' xs (ns.map fun i => ("push", i)) → Q (.ref p) H'
theorem ok_push (T : Txt K mg) : FnOk P w K mg base CX0 1 T.f_plan_pushes T.d_plan_pushes ["numbers"] spPush := by
  refine T.F_plan_pushes.ok sc_plan_pushes (fun vs H Q E h => ?_) (fun cdv A outer s H vs Q E hr h => ?_)
  · obtain ⟨a, ns, rfl, _⟩ := h
    rfl
  · obtain ⟨a, ns, rfl, ha, hn, q⟩ := h
    refine ⟨_, (pss_one (ps_ret (pe_lc (own := [("number", 1)]) (g := gName 1) (tt := tYes) rfl sc_plan_pushes.nd (pi_list (pv 0)) (blkOk_by (N := n_plan_pushes) (sc := defScope s_plan_pushes) (by decide +kernel)) (fun _ _ _ _ _ => (pg_name (i := 1) sc_plan_pushes.nd rfl (.inl rfl))) (fun _ _ _ _ _ => pts_nil) (fun _ _ _ _ _ => (pe_tup (pa_cons pe_str (pa_cons (pv 1) pa_nil))))))), ?_⟩
    refine ⟨_, rfl, a, rfl, ⟨_, sqlOf ha⟩, fun D nD => ?_⟩
    have fD := Fr.mk nD
    refine lc_it (walk_list (K := K) (a := a) (xs := ns.map nV)) (fun i H' => Same H H' ∧ ∃ ys, H' D = some (.lst ys) ∧ WLog H' ys ((ns.take i).map fun i => (("push" : Str), i))) ⟨same_newF fD, [], upd_same, WLog.nil⟩ (fun i H' _ z => sqlOf (z.1 _ _ ha)) ?_ ?_
    · rintro i x H1 H2 hi ⟨s1, ys, eD, wl⟩ ⟨rfl, hx⟩
      have li := List.length_map (as := ns) nV
      obtain ⟨n, hn', rfl⟩ : ∃ n : Nat, ns[i]? = some n ∧ x = .int (n : Int) := by
        rw [List.getElem?_map] at hx
        obtain ⟨n, h1, h2⟩ := Option.map_eq_some_iff.mp hx
        exact ⟨n, h1, h2.symm⟩
      refine ⟨rfl, ?_⟩
      unfold tYes
      refine ifT rfl ?_
      refine ⟨_, rfl, le2, fun t nt => ?_⟩
      obtain ⟨z1, z2, z3⟩ := wstep (e := ("push", n)) fD s1 eD wl nt
      refine ⟨ys, z1, ?_, z2, ?_⟩
      · rw [wl.len, List.length_map, sizeLine_eq]
        have := List.length_take_le i ns
        omega
      · rw [take_map (fun i => (("push" : Str), i)) hn']
        exact z3
    · rintro H1 ⟨s1, ys, eD, wl⟩
      have hl : ns.length = ns.length := rfl
      rw [List.length_map, ← hl, List.take_length] at wl
      exact q _ _ _ fD s1 eD wl
def spPops : Sp := fun vs H Q _ => ∃ (a : Addr) (ns : List Nat), vs = [.ref a] ∧ H a = some (.lst (ns.map nV)) ∧ ns.length < 4000000 ∧ ∀ p xs H', Fr H p → Same H H' → H' p = some (.lst xs) → WLog H' xs (ns.reverse.map fun i => ("pop", i)) → Q (.ref p) H'
theorem ok_pops (T : Txt K mg) : FnOk P w K mg base CX0 1 T.f_plan_pops T.d_plan_pops ["numbers"] spPops := by
  refine T.F_plan_pops.ok sc_plan_pops (fun vs H Q E h => ?_) (fun cdv A outer s H vs Q E hr h => ?_)
  · obtain ⟨a, ns, rfl, _⟩ := h
    rfl
  · obtain ⟨a, ns, rfl, ha, hn, q⟩ := h
    refine ⟨_, (pss_one (ps_ret (pe_lc (own := [("number", 1)]) (g := gName 1) (tt := tYes) rfl sc_plan_pops.nd (RT.pi_revA (by rfl) T.z_reversed (pv 0)) (blkOk_by (N := n_plan_pops) (sc := defScope s_plan_pops) (by decide +kernel)) (fun _ _ _ _ _ => (pg_name (i := 1) sc_plan_pops.nd rfl (.inl rfl))) (fun _ _ _ _ _ => pts_nil) (fun _ _ _ _ _ => (pe_tup (pa_cons pe_str (pa_cons (pv 1) pa_nil))))))), ?_⟩
    refine ⟨_, rfl, a, _, rfl, .inl ⟨sqlOf ha, fun D nD => ?_⟩⟩
    have fD := Fr.mk nD
    refine lc_it (walk_rev (K := K) (a := a) (xs := ns.map nV)) (fun i H' => Same H H' ∧ ∃ ys, H' D = some (.lst ys) ∧ WLog H' ys ((ns.reverse.take i).map fun i => (("pop" : Str), i))) ⟨same_newF fD, [], upd_same, WLog.nil⟩ (fun i H' _ z => sqlOf (z.1 _ _ ha)) ?_ ?_
    · rintro i x H1 H2 hi ⟨s1, ys, eD, wl⟩ ⟨rfl, hx⟩
      have li := List.length_map (as := ns) nV
      obtain ⟨n, hn', rfl⟩ : ∃ n : Nat, ns.reverse[i]? = some n ∧ x = .int (n : Int) := by
        rw [List.getElem?_map] at hx
        obtain ⟨n, h1, h2⟩ := Option.map_eq_some_iff.mp hx
        rw [li] at h1 hi
        exact ⟨n, by rw [List.getElem?_reverse hi]; exact h1, h2.symm⟩
      refine ⟨rfl, ?_⟩
      unfold tYes
      refine ifT rfl ?_
      refine ⟨_, rfl, le2, fun t nt => ?_⟩
      obtain ⟨z1, z2, z3⟩ := wstep (e := ("pop", n)) fD s1 eD wl nt
      refine ⟨ys, z1, ?_, z2, ?_⟩
      · rw [wl.len, List.length_map, sizeLine_eq]
        have := List.length_take_le i ns.reverse
        rw [li] at hi
        omega
      · rw [take_map (fun i => (("pop" : Str), i)) hn']
        exact z3
    · rintro H1 ⟨s1, ys, eD, wl⟩
      have hl : ns.reverse.length = ns.length := List.length_reverse
      rw [List.length_map, ← hl, List.take_length] at wl
      exact q _ _ _ fD s1 eD wl
end
end Ob

set_option Elab.async false
set_option linter.all false
set_option maxRecDepth 100000
set_option maxHeartbeats 1000000
namespace Ob
open PySem PySem.Spec PyProof.Rows L2
open LamX (Tabs TabB TabS ExtN)

set_option hygiene false in
local macro_rules
  | `(tactic| kp_flats) => `(tactic| first
    | assumption
    | exact upd_same
    | (apply atNew; assumption; kp_flats)
    | (apply atNe; (next => kbo_bools); kp_flats)
    | (apply atSame; assumption; kp_flats)
    | (apply atKp; assumption; (next => kaf_pre); kp_flats))
set_option hygiene false in
local macro_rules
  | `(tactic| kaf_pre) => `(tactic| first
    | assumption
    | exact not_nil
    | (apply not_cons; (next => kbo_bools); kaf_pre)
    | (apply not_app; (next => kaf_pre); kaf_pre))
set_option hygiene false in
local macro_rules
  | `(tactic| kbo_bools) => `(tactic| first
    | assumption
    | (apply Ne.symm; assumption)
    | (apply neN; assumption; kp_flats)
    | (apply neN'; assumption; kp_flats))
set_option hygiene false in
local macro_rules
  | `(tactic| o_reads) => `(tactic| first
    | with_reducible rfl
    | assumption
    | rfl
    | kp_flats
    | (show SqL _ _ _ _; first | assumption | (apply sqlOf; kp_flats) | (apply sqlSame; assumption; o_reads))
    | (show SqT _ _ _ _; first | assumption | (apply sqtOf; kp_flats) | (apply sqtAll; assumption) | (apply sqtSame; assumption; o_reads))
    | (show Cls _ _; first | exact T.cl_Calls | exact T.cl_Outer | exact T.cl_Timed)
    | (show NoAttr _ _ _; first | exact T.n_Calls_entries | exact T.n_Calls_running | exact T.n_Outer_calls | exact T.n_Outer_push_call | exact T.n_Outer_pop_call | exact T.n_Outer_ask_call | exact T.n_Outer_order | exact T.n_Outer_broken | exact T.n_Timed_outer | exact T.n_Timed_given | exact T.n_Timed_now | exact T.n_Timed_held | exact T.n_Timed_limits | exact T.n_Timed_ends)
    | (apply Or.inl; o_reads)
    | (apply Or.inr; o_reads)
    | (apply And.intro; (next => o_reads); o_reads)
    | (apply Exists.intro; o_reads)
    | exact Nat.le_of_ble_eq_true rfl
    | exact Nat.succ_ne_zero _
    | (show Fr _ _; kba_ints)
    | (show Same _ _; kd_subs)
    | (show Kp _ _ _; kxs_still)
    | (show (_ : Nat) ≤ _; simp only [List.length_append, List.length_map, List.length_cons, List.length_nil, List.length_take, List.length_drop, List.length_replicate, List.length_range, sizeLine_eq]; omega)
    | (show _ = none; apply Fr.h; kba_ints)
    | (show Bag _ _; first | assumption | (apply bag_putF; assumption; o_reads) | (apply bag_neF; (next => kbo_bools); o_reads) | (apply bag_kpR; assumption; (next => kaf_pre); o_reads))
    | omega
    | decide)
local macro_rules
  | `(tactic| o_readsAll) => `(tactic| repeat (first
    | (refine fun (pNew : Addr) (nNew : _ = none) => ?_; replace nNew := Fr.mk nNew)
    | (refine fun (xNew dNew : Addr) (nNew : _ = none) (mNew : _ = none) (eNew : dNew ≠ xNew) => ?_; replace nNew := Fr.mk nNew; replace mNew := Fr.mk mNew)
    | (apply And.intro; next => o_reads)
    | apply Exists.intro (α := V)
    | apply Exists.intro (α := Addr)
    | apply Exists.intro (α := Int)
    | apply Exists.intro (α := Bool)
    | apply Exists.intro (α := List V)
    | apply Exists.intro (α := List Nat)
    | apply Exists.intro (α := List (Str × V))
    | apply Exists.intro (α := List _)
    | apply Exists.intro (α := Str)
    | apply Exists.intro (α := HO)
    | apply Exists.intro (α := Sp)
    | apply Exists.intro (α := VK)))
set_option hygiene false in
local macro_rules
  | `(tactic| kba_ints) => `(tactic| first
    | assumption
    | (apply frUp; (first | assumption | (apply Ne.symm; assumption)); kba_ints)
    | (apply noneOf; assumption; intro oF eF; apply Exists.intro; kp_flats)
    | (apply frUp; (next => kbo_bools); kba_ints))
set_option hygiene false in
local macro_rules
  | `(tactic| kxs_still) => `(tactic| first
    | assumption
    | exact kp_refl _ _
    | (apply kp_newF; assumption; kxs_still)
    | (apply kp_new; assumption; kxs_still)
    | (apply kp_up; (next => o_fieldsN); kxs_still)
    | (apply kp_new; (next => kba_ints); kxs_still)
    | (apply kp_sameR; assumption; kxs_still)
    | (apply kp_transR; assumption; kxs_still)
    | (apply kp_freshR; assumption; (next => kaf_suf); kxs_still))
set_option hygiene false in
local macro_rules
  | `(tactic| kaf_suf) => `(tactic| first
    | assumption
    | exact subNil
    | (apply subCons; (first | (apply Or.inl; o_fieldsN) | (apply Or.inr; kba_ints)); kaf_suf)
    | (apply subApp; (next => kaf_suf); kaf_suf))
set_option hygiene false in
local macro_rules
  | `(tactic| o_fieldsN) => `(tactic| first
    | assumption
    | exact memA
    | (apply memB; o_fieldsN)
    | (apply memL; o_fieldsN)
    | (apply memR; o_fieldsN))
set_option hygiene false in
local macro_rules
  | `(tactic| kd_subs) => `(tactic| first
    | assumption
    | exact Same.refl _
    | (apply same_putF; assumption; kd_subs)
    | (apply same_putG; assumption; kd_subs)
    | (apply same_putF; (next => kba_ints); kd_subs)
    | (apply same_transR; assumption; kd_subs))

set_option pp.maxSteps 900
/-! ### the lowest power by the and of both signs -/
theorem and_parts (a b : Nat) : a &&& b = 2 * (a / 2 &&& b / 2) + (a % 2 &&& b % 2) := by
  have h1 : (a &&& b) / 2 = a / 2 &&& b / 2 := Nat.and_div_two
  have h2 : (a &&& b) % 2 = a % 2 &&& b % 2 := by
    have := Nat.and_mod_two_pow (a := a) (b := b) (n := 1)
    simpa using this
  omega
theorem low_and : ∀ n : Nat, n ≠ 0 → n - (n &&& (n - 1)) = low n := by
  intro n
  induction n using Nat.strongRecOn with
  | ind n ih =>
    intro h
    by_cases e : n % 2 = 0
    · obtain ⟨m, rfl⟩ : ∃ m, n = 2 * m := ⟨n / 2, by omega⟩
      have hm : m ≠ 0 := by omega
      have i := ih m (by omega) hm
      rw [low_even h e, and_parts, show 2 * m / 2 = m by omega, show (2 * m - 1) / 2 = m - 1 by omega, show 2 * m % 2 = 0 by omega, Nat.zero_and, ← i]
      omega
    · rw [low_odd (by omega), and_parts, show (n - 1) / 2 = n / 2 by omega, show (n - 1) % 2 = 0 by omega, Nat.and_zero, Nat.and_self]
      omega
theorem low_bits {n : Nat} (h : n ≠ 0) : Builtin.bitAnd (n : Int) (-(n : Int)) = (low n : Int) := by
  have e1 : (Builtin.bitNot (-(n : Int))).toNat = n - 1 := by
    show (-(-(n : Int)) - 1).toNat = n - 1
    omega
  have e2 : n &&& (n - 1) ≤ n := Nat.and_le_left
  rw [bitAnd_pn (by omega) (by omega), e1, Int.toNat_natCast, ← low_and n h]
  omega
theorem low_spec : ∀ n : Nat, n ≠ 0 → ∃ e, low n = 2 ^ e ∧ n % 2 ^ e = 0 ∧ n % 2 ^ (e + 1) ≠ 0 := by
  intro n
  induction n using Nat.strongRecOn with
  | ind n ih =>
    intro h
    by_cases e : n % 2 = 0
    · obtain ⟨m, rfl⟩ : ∃ m, n = 2 * m := ⟨n / 2, by omega⟩
      have hm : m ≠ 0 := by omega
      obtain ⟨k, e1, e2, e3⟩ := ih m (by omega) hm
      refine ⟨k + 1, ?_, ?_, ?_⟩
      · rw [low_even h e, show 2 * m / 2 = m by omega, e1, Nat.pow_succ, Nat.mul_comm]
      · rw [Nat.pow_succ, Nat.mul_comm (2 ^ k) 2, Nat.mul_mod_mul_left, e2]
      · rw [Nat.pow_succ, Nat.mul_comm (2 ^ (k + 1)) 2, Nat.mul_mod_mul_left]
        omega
    · exact ⟨0, low_odd (by omega), Nat.mod_one _, by rw [Nat.zero_add, Nat.pow_one]; omega⟩
/-! ### pieces -/
def szP (a r : Nat) : Nat := if a = 0 then 2 ^ r.log2 else min (2 ^ r.log2) (low a)
def pcF : Nat → Nat → Nat → List (Nat × Nat)
  | 0, _, _ => []
  | f + 1, a, r => if r = 0 then [] else (a, szP a r) :: pcF f (a + szP a r) (r - szP a r)
def enough (k a r : Nat) : Prop := ∃ m, r < 2 ^ m ∧ (((a = 0 ∨ a % 2 ^ m = 0) ∧ m ≤ k) ∨ ∃ j, a ≠ 0 ∧ a % 2 ^ j = 0 ∧ j ≤ 100 ∧ (100 - j) + m + 1 ≤ k)
theorem mod_le {a i j : Nat} (h : a % 2 ^ j = 0) (l : i ≤ j) : a % 2 ^ i = 0 := by
  have d : 2 ^ i ∣ 2 ^ j := Nat.pow_dvd_pow 2 l
  exact Nat.mod_eq_zero_of_dvd (Nat.dvd_trans d (Nat.dvd_of_mod_eq_zero h))
theorem mod_add {a b i : Nat} (h : a % 2 ^ i = 0) (h2 : b % 2 ^ i = 0) : (a + b) % 2 ^ i = 0 := by
  rw [Nat.add_mod, h, h2]
  simp
theorem odd_up {a e : Nat} (h : a % 2 ^ e = 0) (h2 : a % 2 ^ (e + 1) ≠ 0) : (a + 2 ^ e) % 2 ^ (e + 1) = 0 := by
  obtain ⟨q, rfl⟩ := Nat.dvd_of_mod_eq_zero h
  have hp := Nat.two_pow_pos e
  rw [Nat.pow_succ, Nat.mul_mod_mul_left] at h2
  have h3 : q % 2 = 1 := by
    rcases Nat.mod_two_eq_zero_or_one q with z | z
    · rw [z] at h2
      exact absurd rfl h2
    · exact z
  rw [show 2 ^ e * q + 2 ^ e = 2 ^ e * (q + 1) by rw [Nat.mul_add, Nat.mul_one], Nat.pow_succ, Nat.mul_mod_mul_left, show (q + 1) % 2 = 0 by omega, Nat.mul_zero]
theorem szP_le {a r : Nat} (h : r ≠ 0) : szP a r ≤ r := by
  have l2 := log_lo h
  unfold szP
  split
  · exact l2
  · exact Nat.le_trans (Nat.min_le_left _ _) l2
theorem enough_step {k a r : Nat} (h : enough k a r) (hr : r ≠ 0) (hb : a + r ≤ 2 ^ 100) :
    ∃ k', k = k' + 1 ∧ enough k' (a + szP a r) (r - szP a r) ∧ szP a r ≤ r ∧ 0 < szP a r ∧ ∃ j, szP a r = 2 ^ j ∧ a % 2 ^ j = 0 := by
  obtain ⟨m, hm, hc⟩ := h
  have lo := log_lo hr
  have rl := rest_lt hr
  have ll := log_lt hr hm
  have hp := Nat.two_pow_pos r.log2
  rcases hc with ⟨hz, hk⟩ | ⟨j, ha, hj, hj1, hk⟩
  · have es : szP a r = 2 ^ r.log2 := by
      unfold szP
      by_cases z : a = 0
      · rw [if_pos z]
      · rw [if_neg z]
        obtain ⟨e, e1, e2, e3⟩ := low_spec a z
        rw [e1]
        rcases hz with hz | hz
        · exact absurd hz z
        · have : m ≤ e := by
            refine Nat.le_of_not_lt fun q => e3 (mod_le hz (by omega))
          exact Nat.min_eq_left (Nat.pow_le_pow_right (by decide) (by omega))
    have ad : a % 2 ^ r.log2 = 0 := by
      rcases hz with hz | hz
      · rw [hz]
        exact Nat.zero_mod _
      · exact mod_le hz (by omega)
    rw [es]
    exact ⟨k - 1, by omega, ⟨r.log2, rl, .inl ⟨.inr (mod_add ad (Nat.mod_self _)), by omega⟩⟩, lo, hp, _, rfl, ad⟩
  · obtain ⟨e, e1, e2, e3⟩ := low_spec a ha
    have hje : j ≤ e := Nat.le_of_not_lt fun q => e3 (mod_le hj (by omega))
    by_cases c : 2 ^ e ≤ 2 ^ r.log2
    · have es : szP a r = 2 ^ e := by
        unfold szP
        rw [if_neg ha, e1]
        exact Nat.min_eq_right c
      rw [es]
      have he : e < 100 := by
        have h1 : 2 ^ e < 2 ^ 100 := by omega
        exact (Nat.pow_lt_pow_iff_right (by decide)).mp h1
      have hpe := Nat.two_pow_pos e
      exact ⟨k - 1, by omega, ⟨m, by omega, .inr ⟨e + 1, by omega, odd_up e2 e3, by omega, by omega⟩⟩, by omega, hpe, _, rfl, e2⟩
    · have es : szP a r = 2 ^ r.log2 := by
        unfold szP
        rw [if_neg ha, e1]
        exact Nat.min_eq_left (by omega)
      have hle : r.log2 ≤ e := by
        refine Nat.le_of_not_lt fun q => c (Nat.pow_le_pow_right (by decide) (by omega))
      rw [es]
      exact ⟨k - 1, by omega, ⟨r.log2, rl, .inl ⟨.inr (mod_add (mod_le e2 hle) (Nat.mod_self _)), by omega⟩⟩, lo, hp, _, rfl, mod_le e2 hle⟩
theorem enough_all {a r : Nat} (h : a + r ≤ 10 ^ 30) : enough 201 a r := by
  have h1 : (10 ^ 30 : Nat) < 2 ^ 100 := by decide +kernel
  by_cases z : a = 0
  · exact ⟨100, by omega, .inl ⟨.inl z, by decide⟩⟩
  · exact ⟨100, by omega, .inr ⟨0, z, Nat.mod_one _, by decide, by decide⟩⟩
theorem pcF_zero (f a : Nat) : pcF f a 0 = [] := by
  cases f with
  | zero => rfl
  | succ f => exact if_pos rfl
theorem pcF_pos {f a r : Nat} (h : r ≠ 0) : pcF (f + 1) a r = (a, szP a r) :: pcF f (a + szP a r) (r - szP a r) := if_neg h
theorem pcF_len : ∀ (f a r : Nat), (pcF f a r).length ≤ f
  | 0, _, _ => Nat.le_refl _
  | f + 1, a, r => by
    by_cases h : r = 0
    · subst h
      rw [pcF_zero]
      exact Nat.zero_le _
    · rw [pcF_pos h, List.length_cons]
      have := pcF_len f (a + szP a r) (r - szP a r)
      omega
/-- a right list of pieces from a on, to b -/
def okP : Nat → List (Nat × Nat) → Nat → Prop
  | a, [], b => a = b
  | a, (x, s) :: t, b => x = a ∧ (∃ j, s = 2 ^ j ∧ a % 2 ^ j = 0) ∧ a + s ≤ b ∧ (∀ y s', t.head? = some (y, s') → ¬ (s' = s ∧ a % (2 * s) = 0)) ∧ okP (a + s) t b
/-- two neighbours never make one -/
theorem szP_next {a r : Nat} (hr : r ≠ 0) (h : r - szP a r ≠ 0) : ¬ (szP (a + szP a r) (r - szP a r) = szP a r ∧ a % (2 * szP a r) = 0) := by
  rintro ⟨e1, e2⟩
  have es : szP a r = 2 ^ r.log2 := by
    unfold szP
    by_cases z : a = 0
    · rw [if_pos z]
    · rw [if_neg z]
      obtain ⟨e, f1, f2, f3⟩ := low_spec a z
      rw [f1]
      refine Nat.min_eq_left (Nat.le_of_not_lt fun q => ?_)
      have f4 : szP a r = 2 ^ e := by
        unfold szP
        rw [if_neg z, f1]
        exact Nat.min_eq_right (Nat.le_of_lt q)
      rw [f4, show 2 * 2 ^ e = 2 ^ (e + 1) by rw [Nat.pow_succ, Nat.mul_comm]] at e2
      exact f3 e2
  have rl := rest_lt hr
  have le := szP_le (a := a + szP a r) h
  omega
theorem okP_all : ∀ (k a r : Nat), enough k a r → a + r ≤ 2 ^ 100 → okP a (pcF k a r) (a + r)
  | k, a, r, h, hb => by
    by_cases hr : r = 0
    · subst hr
      rw [pcF_zero]
      exact rfl
    · obtain ⟨k', rfl, h2, s1, s0, j, ej, aj⟩ := enough_step h hr hb
      rw [pcF_pos hr]
      refine ⟨rfl, ⟨j, ej, aj⟩, by omega, fun y s' e => ?_, ?_⟩
      · by_cases z : r - szP a r = 0
        · rw [z, pcF_zero] at e
          cases e
        · cases k' with
          | zero => cases e
          | succ k' =>
            rw [pcF_pos z] at e
            obtain ⟨rfl, rfl⟩ := Prod.mk.inj (Option.some.inj e)
            exact szP_next hr z
      · have := okP_all k' (a + szP a r) (r - szP a r) h2 (by omega)
        rw [show a + szP a r + (r - szP a r) = a + r by omega] at this
        exact this
end Ob

set_option Elab.async false
set_option linter.all false
set_option maxRecDepth 100000
set_option maxHeartbeats 1000000
namespace Ob
open PySem PySem.Spec PyProof.Rows L2
open LamX (Tabs TabB TabS ExtN)

set_option hygiene false in
local macro_rules
  | `(tactic| kp_flats) => `(tactic| first
    | assumption
    | exact upd_same
    | (apply atNew; assumption; kp_flats)
    | (apply atNe; (next => kbo_bools); kp_flats)
    | (apply atSame; assumption; kp_flats)
    | (apply atKp; assumption; (next => kaf_pre); kp_flats))
set_option hygiene false in
local macro_rules
  | `(tactic| kaf_pre) => `(tactic| first
    | assumption
    | exact not_nil
    | (apply not_cons; (next => kbo_bools); kaf_pre)
    | (apply not_app; (next => kaf_pre); kaf_pre))
set_option hygiene false in
local macro_rules
  | `(tactic| kbo_bools) => `(tactic| first
    | assumption
    | (apply Ne.symm; assumption)
    | (apply neN; assumption; kp_flats)
    | (apply neN'; assumption; kp_flats))
set_option hygiene false in
local macro_rules
  | `(tactic| o_reads) => `(tactic| first
    | with_reducible rfl
    | assumption
    | rfl
    | kp_flats
    | (show SqL _ _ _ _; first | assumption | (apply sqlOf; kp_flats) | (apply sqlSame; assumption; o_reads))
    | (show SqT _ _ _ _; first | assumption | (apply sqtOf; kp_flats) | (apply sqtAll; assumption) | (apply sqtSame; assumption; o_reads))
    | (show Cls _ _; first | exact T.cl_Calls | exact T.cl_Outer | exact T.cl_Timed)
    | (show NoAttr _ _ _; first | exact T.n_Calls_entries | exact T.n_Calls_running | exact T.n_Outer_calls | exact T.n_Outer_push_call | exact T.n_Outer_pop_call | exact T.n_Outer_ask_call | exact T.n_Outer_order | exact T.n_Outer_broken | exact T.n_Timed_outer | exact T.n_Timed_given | exact T.n_Timed_now | exact T.n_Timed_held | exact T.n_Timed_limits | exact T.n_Timed_ends)
    | (apply Or.inl; o_reads)
    | (apply Or.inr; o_reads)
    | (apply And.intro; (next => o_reads); o_reads)
    | (apply Exists.intro; o_reads)
    | exact Nat.le_of_ble_eq_true rfl
    | exact Nat.succ_ne_zero _
    | (show Fr _ _; kba_ints)
    | (show Same _ _; kd_subs)
    | (show Kp _ _ _; kxs_still)
    | (show (_ : Nat) ≤ _; simp only [List.length_append, List.length_map, List.length_cons, List.length_nil, List.length_take, List.length_drop, List.length_replicate, List.length_range, sizeLine_eq]; omega)
    | (show _ = none; apply Fr.h; kba_ints)
    | (show Bag _ _; first | assumption | (apply bag_putF; assumption; o_reads) | (apply bag_neF; (next => kbo_bools); o_reads) | (apply bag_kpR; assumption; (next => kaf_pre); o_reads))
    | omega
    | decide)
local macro_rules
  | `(tactic| o_readsAll) => `(tactic| repeat (first
    | (refine fun (pNew : Addr) (nNew : _ = none) => ?_; replace nNew := Fr.mk nNew)
    | (refine fun (xNew dNew : Addr) (nNew : _ = none) (mNew : _ = none) (eNew : dNew ≠ xNew) => ?_; replace nNew := Fr.mk nNew; replace mNew := Fr.mk mNew)
    | (apply And.intro; next => o_reads)
    | apply Exists.intro (α := V)
    | apply Exists.intro (α := Addr)
    | apply Exists.intro (α := Int)
    | apply Exists.intro (α := Bool)
    | apply Exists.intro (α := List V)
    | apply Exists.intro (α := List Nat)
    | apply Exists.intro (α := List (Str × V))
    | apply Exists.intro (α := List _)
    | apply Exists.intro (α := Str)
    | apply Exists.intro (α := HO)
    | apply Exists.intro (α := Sp)
    | apply Exists.intro (α := VK)))
set_option hygiene false in
local macro_rules
  | `(tactic| kba_ints) => `(tactic| first
    | assumption
    | (apply frUp; (first | assumption | (apply Ne.symm; assumption)); kba_ints)
    | (apply noneOf; assumption; intro oF eF; apply Exists.intro; kp_flats)
    | (apply frUp; (next => kbo_bools); kba_ints))
set_option hygiene false in
local macro_rules
  | `(tactic| kxs_still) => `(tactic| first
    | assumption
    | exact kp_refl _ _
    | (apply kp_newF; assumption; kxs_still)
    | (apply kp_new; assumption; kxs_still)
    | (apply kp_up; (next => o_fieldsN); kxs_still)
    | (apply kp_new; (next => kba_ints); kxs_still)
    | (apply kp_sameR; assumption; kxs_still)
    | (apply kp_transR; assumption; kxs_still)
    | (apply kp_freshR; assumption; (next => kaf_suf); kxs_still))
set_option hygiene false in
local macro_rules
  | `(tactic| kaf_suf) => `(tactic| first
    | assumption
    | exact subNil
    | (apply subCons; (first | (apply Or.inl; o_fieldsN) | (apply Or.inr; kba_ints)); kaf_suf)
    | (apply subApp; (next => kaf_suf); kaf_suf))
set_option hygiene false in
local macro_rules
  | `(tactic| o_fieldsN) => `(tactic| first
    | assumption
    | exact memA
    | (apply memB; o_fieldsN)
    | (apply memL; o_fieldsN)
    | (apply memR; o_fieldsN))
set_option hygiene false in
local macro_rules
  | `(tactic| kd_subs) => `(tactic| first
    | assumption
    | exact Same.refl _
    | (apply same_putF; assumption; kd_subs)
    | (apply same_putG; assumption; kd_subs)
    | (apply same_putF; (next => kba_ints); kd_subs)
    | (apply same_transR; assumption; kd_subs))

set_option pp.maxSteps 900
section
variable {P : Program} {w : World} {K : PySem.W.Frag} {mg : Str → Option Value} {base : Heap}
def spIsI : Sp := fun vs H Q _ => ∃ i : Int, vs = [.int i] ∧ Q (.bl true) H
theorem ok_isi (T : Txt K mg) : FnOk P w K mg base CX0 1 T.f_is_integer T.d_is_integer ["value"] spIsI := by
  refine T.F_is_integer.ok sc_is_integer (fun vs H Q E h => ?_) (fun cdv A outer s H vs Q E hr h => ?_)
  · obtain ⟨i, rfl, _⟩ := h
    rfl
  · obtain ⟨i, rfl, q⟩ := h
    refine ⟨_, (pss_one (ps_ret (pe_and (pe_callB call_isi (by rfl) T.z_isinstance (by decide +kernel) (pa_cons (pv 0) (pa_cons (pe_bltn (v := .ty "int") (by rfl) T.z_int (by decide +kernel) rfl) pa_nil))) (pe_one (pe_not (pe_callB call_isi (by rfl) T.z_isinstance (by decide +kernel) (pa_cons (pv 0) (pa_cons (pe_bltn (v := .ty "bool") (by rfl) T.z_bool (by decide +kernel) rfl) pa_nil)))))))), ?_⟩
    refine ⟨_, rfl, .int i, .ty "int", .type "int", .type "int", true, rfl, .ty _, .base (.int _), kit_ty (by decide +kernel), true, rfl, iteT ?_⟩
    exact ⟨_, rfl, .int i, .ty "bool", .type "int", .type "bool", false, rfl, .ty _, .base (.int _), kit_ty (by decide +kernel), false, rfl, q⟩
theorem ok_cki (T : Txt K mg) : FnOk P w K mg base CX0 2 T.f_check_integer T.d_check_integer ["value"] (fun vs H Q _ => ∃ i : Int, vs = [.int i] ∧ Q .non H) := by
  have G_is_integer := ok_isi (P := P) (w := w) (base := base) T
  refine T.F_check_integer.ok sc_check_integer (fun vs H Q E h => ?_) (fun cdv A outer s H vs Q E hr h => ?_)
  · obtain ⟨i, rfl, _⟩ := h
    rfl
  · obtain ⟨i, rfl, q⟩ := h
    refine ⟨_, (pss_one (ps_if (pt_not (pt_val (pe_call G_is_integer (hr.mono (by omega)) rfl T.g_is_integer T.F_is_integer.kp T.b_is_integer .nil pass0 (pa_cons (pv 0) pa_nil)))) pss_never pss_nil)), ?_⟩
    exact ⟨_, rfl, i, rfl, true, rfl, iteF q⟩

def spGp : Sp := fun vs H Q _ => ∃ n : Nat, vs = [.int (n : Int)] ∧ n ≠ 0 ∧ n < 2 ^ 200 ∧ Q (.int ((2 ^ n.log2 : Nat) : Int)) H
theorem ok_gp (T : Txt K mg) : FnOk P w K mg base CX0 1 T.f_greatest_power T.d_greatest_power ["number"] spGp := by
  refine T.F_greatest_power.ok sc_greatest_power (fun vs H Q E h => ?_) (fun cdv A outer s H vs Q E hr h => ?_)
  · obtain ⟨n, rfl, _⟩ := h
    rfl
  · obtain ⟨n, rfl, h0, h1, q⟩ := h
    refine ⟨_, (pss_one (ps_ret (pe_op op_shlW pe_int (pe_op op_sub (pe_bits (pv 0)) pe_int)))), ?_⟩
    rw [← gp_eq h0] at q
    exact ⟨_, rfl, _, rfl, _, _, rfl, rfl, _, _, rfl, rfl, gp_ok h0 h1, q⟩

def spLp : Sp := fun vs H Q _ => ∃ n : Nat, vs = [.int (n : Int)] ∧ n ≠ 0 ∧ Q (.int (low n : Int)) H
theorem ok_lp (T : Txt K mg) : FnOk P w K mg base CX0 3 T.f_lowest_power T.d_lowest_power ["number"] spLp := by
  refine T.F_lowest_power.ok sc_lowest_power (fun vs H Q E h => ?_) (fun cdv A outer s H vs Q E hr h => ?_)
  · obtain ⟨n, rfl, _⟩ := h
    rfl
  · obtain ⟨n, rfl, h0, q⟩ := h
    refine ⟨_, (pss_one (ps_ret (pe_op op_and (pv 0) (pe_un un_neg (pv 0))))), ?_⟩
    rw [← low_bits h0] at q
    exact ⟨_, rfl, _, rfl, _, rfl, _, _, rfl, rfl, q⟩
def spPs : Sp := fun vs H Q _ => ∃ a r : Nat, vs = [.int (a : Int), .int (r : Int)] ∧ r ≠ 0 ∧ r < 2 ^ 200 ∧ Q (.int (szP a r : Int)) H
theorem ok_ps (T : Txt K mg) : FnOk P w K mg base CX0 4 T.f_piece_size T.d_piece_size ["first", "room"] spPs := by
  have G_greatest_power := ok_gp (P := P) (w := w) (base := base) T
  have G_lowest_power := ok_lp (P := P) (w := w) (base := base) T
  refine T.F_piece_size.ok sc_piece_size (fun vs H Q E h => ?_) (fun cdv A outer s H vs Q E hr h => ?_)
  · obtain ⟨a, r, rfl, _⟩ := h
    rfl
  · obtain ⟨a, r, rfl, h0, h1, q⟩ := h
    refine ⟨_, (pss_cons (ps_set (i := 2) sc_piece_size.nd rfl (.inl rfl) (pe_call G_greatest_power (hr.mono (by omega)) rfl T.g_greatest_power T.F_greatest_power.kp T.b_greatest_power .nil pass0 (pa_cons (pv 1) pa_nil)))
      (pss_cons (ps_if (pt_cmpR op_eq (pv 0) pe_int (nomark _)) (pss_one (ps_ret (pv 2))) pss_nil)
      (pss_one (ps_ret (pe_callB (call_min2 rfl) (by rfl) T.z_min (by decide +kernel) (pa_cons (pv 2) (pa_cons (pe_call G_lowest_power (hr.mono (by omega)) rfl T.g_lowest_power T.F_lowest_power.kp T.b_lowest_power .nil pass0 (pa_cons (pv 0) pa_nil)) pa_nil))))))), ?_⟩
    refine ⟨_, rfl, r, rfl, h0, h1, _, rfl, rfl, _, rfl, ite2 (fun e => ?_) (fun e => ?_)⟩
    · have e1 := V.int.inj (of_decide_eq_true e)
      have e2 : szP a r = 2 ^ r.log2 := if_pos (by omega)
      rw [e2] at q
      exact ⟨_, rfl, q⟩
    · have e1 : a ≠ 0 := fun z => e (dT (by rw [z]; rfl))
      have e2 : szP a r = min (2 ^ r.log2) (low a) := if_neg e1
      refine ⟨_, rfl, _, rfl, a, rfl, e1, _, _, rfl, ?_⟩
      have e3 : (if (low a : Int) < ((2 ^ r.log2 : Nat) : Int) then (low a : Int) else ((2 ^ r.log2 : Nat) : Int)) = (szP a r : Int) := by
        rw [e2]
        split <;> omega
      rw [e3]
      exact q
/-- a list of pairs at p -/
def PL (H : Hp) (p : Addr) (l : List (Nat × Nat)) : Prop := ∃ ts : List Addr, H p = some (.lst (ts.map V.ref)) ∧ ts.length = l.length ∧
  ∀ (i : Nat) (t : Addr) (x : Nat × Nat), ts[i]? = some t → l[i]? = some x → H t = some (.tup [.int (x.1 : Int), .int (x.2 : Int)])
theorem PL.same {H H1 : Hp} {p : Addr} {l : List (Nat × Nat)} (h : PL H p l) (s : Same H H1) : PL H1 p l := by
  obtain ⟨ts, a, b, c⟩ := h
  exact ⟨ts, s _ _ a, b, fun i t x e1 e2 => s _ _ (c i t x e1 e2)⟩
theorem PL.nil {H : Hp} {p : Addr} : PL (upd H p (.lst [])) p [] := ⟨[], upd_same, rfl, fun i t x e => by simp at e⟩
theorem PL.add {H : Hp} {p t : Addr} {l : List (Nat × Nat)} {ts : List Addr} {x : Nat × Nat} (e1 : H p = some (.lst (ts.map V.ref))) (e2 : ts.length = l.length)
    (e3 : ∀ (i : Nat) (t : Addr) (x : Nat × Nat), ts[i]? = some t → l[i]? = some x → H t = some (.tup [.int (x.1 : Int), .int (x.2 : Int)])) (n : H t = none) :
    PL (upd (upd H t (.tup [.int (x.1 : Int), .int (x.2 : Int)])) p (.lst ((ts.map V.ref) ++ [V.ref t]))) p (l ++ [x]) := by
  have ntp : t ≠ p := (ne_of_none e1 n).symm
  refine ⟨ts ++ [t], by rw [upd_same, List.map_append]; rfl, by rw [List.length_append, List.length_append, e2]; rfl, fun i u y f1 f2 => ?_⟩
  by_cases hi : i < ts.length
  · rw [List.getElem?_append_left hi] at f1
    rw [List.getElem?_append_left (by omega)] at f2
    have g := e3 i u y f1 f2
    have hup : u ≠ p := fun z => by
      rw [z, e1] at g
      cases g
    rw [upd_ne hup, upd_ne (ne_of_none g n)]
    exact g
  · rw [List.getElem?_append_right (by omega)] at f1 f2
    by_cases hz : i - ts.length = 0
    · rw [hz] at f1
      rw [show i - l.length = 0 by omega] at f2
      cases f1
      cases f2
      rw [upd_ne ntp, upd_same]
    · rw [show i - ts.length = (i - ts.length - 1) + 1 by omega] at f1
      simp at f1
end
end Ob

set_option Elab.async false
set_option linter.all false
set_option maxRecDepth 100000
set_option maxHeartbeats 1000000
namespace Ob
open PySem PySem.Spec PyProof.Rows L2
open LamX (Tabs TabB TabS ExtN)

set_option hygiene false in
local macro_rules
  | `(tactic| kp_flats) => `(tactic| first
    | assumption
    | exact upd_same
    | (apply atNew; assumption; kp_flats)
    | (apply atNe; (next => kbo_bools); kp_flats)
    | (apply atSame; assumption; kp_flats)
    | (apply atKp; assumption; (next => kaf_pre); kp_flats))
set_option hygiene false in
local macro_rules
  | `(tactic| kaf_pre) => `(tactic| first
    | assumption
    | exact not_nil
    | (apply not_cons; (next => kbo_bools); kaf_pre)
    | (apply not_app; (next => kaf_pre); kaf_pre))
set_option hygiene false in
local macro_rules
  | `(tactic| kbo_bools) => `(tactic| first
    | assumption
    | (apply Ne.symm; assumption)
    | (apply neN; assumption; kp_flats)
    | (apply neN'; assumption; kp_flats))
set_option hygiene false in
local macro_rules
  | `(tactic| o_reads) => `(tactic| first
    | with_reducible rfl
    | assumption
    | rfl
    | kp_flats
    | (show SqL _ _ _ _; first | assumption | (apply sqlOf; kp_flats) | (apply sqlSame; assumption; o_reads))
    | (show SqT _ _ _ _; first | assumption | (apply sqtOf; kp_flats) | (apply sqtAll; assumption) | (apply sqtSame; assumption; o_reads))
    | (show Cls _ _; first | exact T.cl_Calls | exact T.cl_Outer | exact T.cl_Timed)
    | (show NoAttr _ _ _; first | exact T.n_Calls_entries | exact T.n_Calls_running | exact T.n_Outer_calls | exact T.n_Outer_push_call | exact T.n_Outer_pop_call | exact T.n_Outer_ask_call | exact T.n_Outer_order | exact T.n_Outer_broken | exact T.n_Timed_outer | exact T.n_Timed_given | exact T.n_Timed_now | exact T.n_Timed_held | exact T.n_Timed_limits | exact T.n_Timed_ends)
    | (apply Or.inl; o_reads)
    | (apply Or.inr; o_reads)
    | (apply And.intro; (next => o_reads); o_reads)
    | (apply Exists.intro; o_reads)
    | exact Nat.le_of_ble_eq_true rfl
    | exact Nat.succ_ne_zero _
    | (show Fr _ _; kba_ints)
    | (show Same _ _; kd_subs)
    | (show Kp _ _ _; kxs_still)
    | (show (_ : Nat) ≤ _; simp only [List.length_append, List.length_map, List.length_cons, List.length_nil, List.length_take, List.length_drop, List.length_replicate, List.length_range, sizeLine_eq]; omega)
    | (show _ = none; apply Fr.h; kba_ints)
    | (show Bag _ _; first | assumption | (apply bag_putF; assumption; o_reads) | (apply bag_neF; (next => kbo_bools); o_reads) | (apply bag_kpR; assumption; (next => kaf_pre); o_reads))
    | omega
    | decide)
local macro_rules
  | `(tactic| o_readsAll) => `(tactic| repeat (first
    | (refine fun (pNew : Addr) (nNew : _ = none) => ?_; replace nNew := Fr.mk nNew)
    | (refine fun (xNew dNew : Addr) (nNew : _ = none) (mNew : _ = none) (eNew : dNew ≠ xNew) => ?_; replace nNew := Fr.mk nNew; replace mNew := Fr.mk mNew)
    | (apply And.intro; next => o_reads)
    | apply Exists.intro (α := V)
    | apply Exists.intro (α := Addr)
    | apply Exists.intro (α := Int)
    | apply Exists.intro (α := Bool)
    | apply Exists.intro (α := List V)
    | apply Exists.intro (α := List Nat)
    | apply Exists.intro (α := List (Str × V))
    | apply Exists.intro (α := List _)
    | apply Exists.intro (α := Str)
    | apply Exists.intro (α := HO)
    | apply Exists.intro (α := Sp)
    | apply Exists.intro (α := VK)))
set_option hygiene false in
local macro_rules
  | `(tactic| kba_ints) => `(tactic| first
    | assumption
    | (apply frUp; (first | assumption | (apply Ne.symm; assumption)); kba_ints)
    | (apply noneOf; assumption; intro oF eF; apply Exists.intro; kp_flats)
    | (apply frUp; (next => kbo_bools); kba_ints))
set_option hygiene false in
local macro_rules
  | `(tactic| kxs_still) => `(tactic| first
    | assumption
    | exact kp_refl _ _
    | (apply kp_newF; assumption; kxs_still)
    | (apply kp_new; assumption; kxs_still)
    | (apply kp_up; (next => o_fieldsN); kxs_still)
    | (apply kp_new; (next => kba_ints); kxs_still)
    | (apply kp_sameR; assumption; kxs_still)
    | (apply kp_transR; assumption; kxs_still)
    | (apply kp_freshR; assumption; (next => kaf_suf); kxs_still))
set_option hygiene false in
local macro_rules
  | `(tactic| kaf_suf) => `(tactic| first
    | assumption
    | exact subNil
    | (apply subCons; (first | (apply Or.inl; o_fieldsN) | (apply Or.inr; kba_ints)); kaf_suf)
    | (apply subApp; (next => kaf_suf); kaf_suf))
set_option hygiene false in
local macro_rules
  | `(tactic| o_fieldsN) => `(tactic| first
    | assumption
    | exact memA
    | (apply memB; o_fieldsN)
    | (apply memL; o_fieldsN)
    | (apply memR; o_fieldsN))
set_option hygiene false in
local macro_rules
  | `(tactic| kd_subs) => `(tactic| first
    | assumption
    | exact Same.refl _
    | (apply same_putF; assumption; kd_subs)
    | (apply same_putG; assumption; kd_subs)
    | (apply same_putF; (next => kba_ints); kd_subs)
    | (apply same_transR; assumption; kd_subs))

theorem kp_but {p : Addr} {H H1 : Hp} (b : But p H H1) : Kp [p] H H1 := ⟨fun c o e n => b c o e fun z => n (List.mem_singleton.mpr z)⟩
def spTakeK : Sp := fun vs H Q _ => ∃ (p : Addr) (m : Int), vs = [.ref p, .int m] ∧ Bag H p ∧ 0 < m ∧ m.natAbs < 2 ^ 200 ∧ ∀ r H', 0 ≤ r → r < m → Bag H' p → Kp [p] H H' → Q (.int r) H'
theorem ok_takeK {P : Program} {w : World} {K : PySem.W.Frag} {mg : Str → Option Value} {base : Heap} (T : Txt K mg) : FnOk P w K mg base CX0 1 T.f_l_take T.d_l_take ["_law_bag_here", "_law_many"] spTakeK := by
  have F := ok_take (P := P) (w := w) (base := base) T
  refine ⟨fun vs H Q E h => ?_, fun A outer s H args us vs Q E hr e0 hb r h => F.run A outer s H args us vs Q E hr e0 hb r ?_⟩
  · obtain ⟨p, m, rfl, _⟩ := h
    rfl
  · obtain ⟨p, m, e, h1, h2, h3, q⟩ := h
    exact ⟨p, m, e, h1, h2, h3, fun r H' a b c d => q r H' a b c (kp_but d)⟩
theorem bag_neF {p q : Addr} {H : Hp} {o : HO} (n : p ≠ q) (b : Bag H p) : Bag (upd H q o) p := by
  obtain ⟨g, m, c, e, z⟩ := b
  exact ⟨g, m, c, (upd_ne n).trans e, z⟩
theorem tabsN_kp {T : List NdefX.NTab} {cs : List Addr} {H H1 : Hp} (t : NdefX.TabsN T H) (k : Kp cs H H1) (n : ∀ a ∈ cs, ∃ o, H a = some o ∧ (∀ ps, o ≠ .tbl ps) ∧ ∀ φ, o ≠ .ext φ) : NdefX.TabsN T H1 := fun p hp => by
  obtain ⟨ps, h1, h2, h3⟩ := t p hp
  refine ⟨ps, k.at_ _ _ h1 (fun m => ?_), h2, fun pos cv hc => ?_⟩
  · obtain ⟨o, e, n1, _⟩ := n _ m
    rw [h1] at e
    exact n1 ps (Option.some.inj e).symm
  · obtain ⟨c, e1, e2⟩ := h3 pos cv hc
    refine ⟨c, e1, k.at_ _ _ e2 fun m => ?_⟩
    obtain ⟨o, e, _, n2⟩ := n _ m
    rw [e2] at e
    exact n2 _ (Option.some.inj e).symm

set_option pp.maxSteps 900
open NdefX (TabsN)
open Inf (LClo cut mend cellsOf)
theorem wPP : decide (V.str "push" = V.str "push") = true := by decide +kernel
theorem wOP : decide (V.str "pop" = V.str "push") = false := by decide +kernel
theorem wOO : decide (V.str "pop" = V.str "pop") = true := by decide +kernel
theorem wAP : decide (V.str "ask" = V.str "push") = false := by decide +kernel
theorem wAO : decide (V.str "ask" = V.str "pop") = false := by decide +kernel
theorem wPA : ("push" : Str) ≠ "ask" := by decide +kernel
theorem wOA : ("pop" : Str) ≠ "ask" := by decide +kernel
def stepS (S : List Nat) (e : Str × Nat) : List Nat := if e.1 = "push" then S ++ [e.2] else if e.1 = "pop" then S.dropLast else S
def runW (S : List Nat) (l : List (Str × Nat)) : List Nat := l.foldl stepS S
theorem wOP2 : ¬ ("pop" : Str) = "push" := by decide +kernel
theorem wAP2 : ¬ ("ask" : Str) = "push" := by decide +kernel
theorem wAO2 : ¬ ("ask" : Str) = "pop" := by decide +kernel
theorem run_app {S : List Nat} {a b : List (Str × Nat)} : runW S (a ++ b) = runW (runW S a) b := List.foldl_append ..
section
variable {P : Program} {w : World} {K : PySem.W.Frag} {mg : Str → Option Value} {base : Heap} {n : Nat}
/-- the callable f, called with xs in H: what it does brings Q -/
def Acx (P : Program) (w : World) (K : PySem.W.Frag) (mg : Str → Option Value) (base : Heap) (n : Nat) (f : V) (xs : List V) (H : Hp) (Q : VK) : Prop :=
  ∃ (a : Addr) (o : HO) (sp : Sp), f = .ref a ∧ H a = some o ∧ Inf.FnHO a o ∧ FnR P w K mg base CX0 n a sp ∧ sp xs H Q E0
end
theorem bag_lst {H : Hp} {p : Addr} (b : Bag H p) : ∃ xs, H p = some (.lst xs) := by
  obtain ⟨g, m, c, e, _⟩ := b
  exact ⟨_, e⟩
theorem bag_mu {H : Hp} {p : Addr} (b : Bag H p) : Mu H [p] := by
  obtain ⟨xs, e⟩ := bag_lst b
  exact mu_lst e mu_nil
theorem pSeq {t u : TS} {D : Ends} {σ : L2.St} {H : Hp} (h : t { D with nx := u D } σ H) : tSeq t u D σ H := h
theorem pAsg {te : TE} {g : TG} {D : Ends} {σ : L2.St} {H : Hp} (h : te σ H fun x H1 => g x σ H1 D.nx) : tAsg te g D σ H := h
theorem pOp {r : R2} {ta tb : TE} {σ : L2.St} {H : Hp} {Q : VK} (h : ta σ H fun x H1 => tb σ H1 fun y H2 => r x y H2 Q) : tOp r ta tb σ H Q := h
theorem pIf {c : L2.TT} {t u : TS} {D : Ends} {σ : L2.St} {H : Hp} (h : c σ H fun b H1 => if b = true then t D σ H1 else u D σ H1) : tIfS c t u D σ H := h
theorem pOr {t u : L2.TT} {σ : L2.St} {H : Hp} {Q : Bool → Hp → Prop} (h : t σ H fun c H1 => if c = true then Q true H1 else u σ H1 Q) : tOr t u σ H Q := h
theorem pAnd {t u : L2.TT} {σ : L2.St} {H : Hp} {Q : Bool → Hp → Prop} (h : t σ H fun c H1 => if c = true then u σ H1 Q else Q false H1) : tAnd t u σ H Q := h
theorem pTest {t : TE} {σ : L2.St} {H : Hp} {Q : Bool → Hp → Prop} (h : t σ H fun x H' => ∃ k, x = .bl k ∧ Q k H') : tTest t σ H Q := h
theorem pGN {i : Nat} {x : V} {σ : L2.St} {H : Hp} {N : L2.St → Hp → Prop} (h : N (σ.set i (some x)) H) : gName i x σ H N := h
theorem pNx {D : Ends} {σ : L2.St} {H : Hp} (h : D.nx σ H) : tNext D σ H := h
theorem pRev {K : PySem.W.Frag} {te : TE} {σ : L2.St} {H : Hp} {Q : VK} (h : te σ H fun x H1 => ∃ a xs, x = .ref a ∧ SqL K H1 a xs ∧ ∀ p, H1 p = none → Q (.ref p) (upd H1 p (.lst xs.reverse))) : tRevL K te σ H Q := h
/-- an if whose test says I -/
theorem if_by2 {c : L2.TT} {t u : TS} {D : Ends} {σ : L2.St} {H : Hp} (I : Bool → Hp → Prop) (h : ∀ Q : Bool → Hp → Prop, (∀ b H', I b H' → Q b H') → c σ H Q) (hT : ∀ H', I true H' → t D σ H') (hF : ∀ H', I false H' → u D σ H') : tIfS c t u D σ H :=
  h (fun b H' => if b = true then t D σ H' else u D σ H') fun b H' i => by
    cases b with
    | true => exact (if_pos rfl).mpr (hT H' i)
    | false => exact (if_neg (fun z => nomatch z)).mpr (hF H' i)
/-- a test that answers b where J b holds -/
def Ans (t : L2.TT) (σ : L2.St) (H : Hp) (J : Bool → Hp → Prop) : Prop := ∀ Q : Bool → Hp → Prop, (∀ b H', J b H' → Q b H') → t σ H Q
section
variable {t u : L2.TT} {σ : L2.St} {H : Hp} {J J1 : Bool → Hp → Prop}
theorem ans_or (a : Ans t σ H J1) (hT : ∀ H', J1 true H' → J true H') (hF : ∀ H', J1 false H' → Ans u σ H' J) : Ans (tOr t u) σ H J := fun Q q => a _ fun b H' j => by
  cases b with
  | true => exact (if_pos rfl).mpr (q _ _ (hT H' j))
  | false => exact (if_neg (fun z => nomatch z)).mpr (hF H' j Q q)
end
section
variable {t u : L2.TT} {σ : L2.St} {H : Hp} {J J1 : Bool → Hp → Prop}
theorem ans_and (a : Ans t σ H J1) (hF : ∀ H', J1 false H' → J false H') (hT : ∀ H', J1 true H' → Ans u σ H' J) : Ans (tAnd t u) σ H J := fun Q q => a _ fun b H' j => by
  cases b with
  | true => exact (if_pos rfl).mpr (hT H' j Q q)
  | false => exact (if_neg (fun z => nomatch z)).mpr (q _ _ (hF H' j))
end
section
variable {t u : L2.TT} {σ : L2.St} {H : Hp} {J J1 : Bool → Hp → Prop}
/-- a test that leaves the heap as it is, with the answer b -/
theorem ans_of {b : Bool} (h : ∀ Q : Bool → Hp → Prop, Q b H → t σ H Q) : Ans t σ H (fun c H' => c = b ∧ H' = H) := fun Q q => h Q (q _ _ ⟨rfl, rfl⟩)
end
def lamOf : Stmt → Nat → Expr
  | .Assign _ (.Call _ es _ _) _, i => es.getD i (.Constant .none 0 ⟨0, 0, 0, 0⟩)
  | .Assign _ (.Tuple es _ _) _, i => es.getD i (.Constant .none 0 ⟨0, 0, 0, 0⟩)
  | _, _ => .Constant .none 0 ⟨0, 0, 0, 0⟩
def lamF (q : Str) (cl : List (Str × Addr)) (c : Addr) : Expr → Inf.LF
  | .Lambda ps b sc _ => ⟨q, ps, b, sc, cl, c⟩
  | _ => ⟨q, { posonlyargs := [], args := [], vararg := none, kwonlyargs := [], kw_defaults := [], kwarg := none, defaults := [] }, .Constant .none 0 ⟨0, 0, 0, 0⟩, defScope s_law, cl, c⟩
theorem kp_ext {cs : List Addr} {H H1 : Hp} (k : Kp cs H H1) (n : Mu H cs) {t : Addr} {φ : Heap → Prop} (h : H t = some (.ext φ)) : H1 t = some (.ext φ) := k.at_ _ _ h (n.ext h)
theorem cellAt_kp {cs : List Addr} {H H1 : Hp} {c : Addr} {v : V} (h : Inf.CellAt H c v) (k : Kp cs H H1) (m : Mu H cs) : Inf.CellAt H1 c v := by
  obtain ⟨φ, e1, e2⟩ := h
  exact ⟨φ, kp_ext k m e1, e2⟩
theorem lclo_kp {cs : List Addr} {H H1 : Hp} {f : Addr} {F : Inf.LF} {fr : List Str} {ws : List V} (h : LClo H f F fr ws) (k : Kp cs H H1) (m : Mu H cs) : LClo H1 f F fr ws :=
  ⟨kp_ext k m h.fn, kp_ext k m h.code, h.len, h.dom, h.inj, fun i y e => by
    obtain ⟨c, v, a, b, d⟩ := h.at_ i y e
    exact ⟨c, v, a, b, cellAt_kp d k m⟩⟩
theorem mend_kp {cs ds : List Addr} {H H1 : Hp} (e : ∀ b ∈ cs, ∃ φ, H b = some (.ext φ)) (s : Kp ds (cut cs H) H1) (no : ∀ b ∈ cs, H1 b = none) : Kp ds H (mend cs H H1) := ⟨fun b o h n => by
  by_cases hb : b ∈ cs
  · rw [Inf.mend_in hb]
    exact h
  · rw [Inf.mend_out hb]
    exact s.at_ _ _ ((Inf.cut_out hb).trans h) n⟩
theorem tab_ne {T : List NdefX.NTab} {P : Addr} {nm : Nat → Nat → Str} {H : Hp} {a : Addr} {o : HO} (t : TabsN T H) (m : (P, nm) ∈ T) (e : H a = some o) (n : ∀ ps, o ≠ .tbl ps) : a ≠ P := fun z => by
  obtain ⟨ps, h, _⟩ := t _ m
  have h : H P = some (.tbl ps) := h
  rw [← z, e] at h
  exact n ps (Option.some.inj h)
theorem cv_tel {cells : List (Str × Addr)} {names : List (Str × NameKind)} {N : List Str} {σ : L2.St} {H HT H3 : Hp} {cT : List Addr} (t : Inf.Tel cells names N σ H cT HT) (k : ∀ b, b ∈ cT → H3 b = HT b) : ∀ b o, H3 b = some o → (∀ φ, o ≠ .ext φ) → Inf.cut cT H3 b = some o := fun b o e nx => by
  rw [Inf.cut_out fun m => ?_]
  · exact e
  · obtain ⟨φ, y⟩ := t.ext b m
    rw [k b m, y] at e
    exact nx φ (Option.some.inj e).symm
theorem tel_kp {cells : List (Str × Addr)} {names : List (Str × NameKind)} {N : List Str} {σ : L2.St} {H HT H3 : Hp} {cT ds : List Addr} (t : Inf.Tel cells names N σ H cT HT) (k : Kp ds HT H3) (m : Mu HT ds) : (∀ b, b ∈ cT → H3 b = HT b) ∧ Kp ds H (Inf.cut cT H3) :=
  ⟨fun b hb => by
    obtain ⟨φ, y⟩ := t.ext b hb
    rw [y]
    exact k.at_ _ _ y (m.ext y), ⟨fun b o e n => by
    rw [Inf.cut_out (fun z => by rw [t.no b z] at e; cases e)]
    exact k.at_ _ _ (t.same _ _ e) n⟩⟩
theorem flat_rep (x : V) : ∀ n : Nat, (List.replicate n [x]).flatten = List.replicate n x
  | 0 => rfl
  | n + 1 => by
    rw [List.replicate_succ, List.replicate_succ, List.flatten_cons, flat_rep x n]
    rfl
theorem seq_at {k n : Nat} (h : k < n) : seqIndex? (k : Int) n = some k := by
  unfold seqIndex?
  simp only [if_neg (show ¬ (k : Int) < 0 by omega)]
  rw [if_pos (by rw [Bool.and_eq_true]; exact ⟨decide_eq_true (by omega), decide_eq_true (by omega)⟩)]
  rfl
theorem fr_kp {cs : List Addr} {H H1 : Hp} {a : Addr} (k : Kp cs H H1) (m : Mu H1 cs) (f : Fr H1 a) : Fr H a := noneOf f fun o e => by
  by_cases c : a ∈ cs
  · obtain ⟨o, h, _⟩ := m a c
    exact ⟨o, h⟩
  · exact ⟨o, k.at_ _ _ e c⟩
theorem tabs_same {T : List NdefX.NTab} {H H1 : Hp} (t : TabsN T H) (s : Same H H1) : TabsN T H1 := tabsN_kp t (kp_same (cs := []) s) fun _ z => nomatch z
end Ob

set_option Elab.async false
set_option linter.all false
set_option maxRecDepth 100000
set_option maxHeartbeats 1000000
namespace Ob
open PySem PySem.Spec PyProof.Rows L2
open LamX (Tabs TabB TabS ExtN)

set_option hygiene false in
local macro_rules
  | `(tactic| kp_flats) => `(tactic| first
    | assumption
    | exact upd_same
    | (apply atNew; assumption; kp_flats)
    | (apply atNe; (next => kbo_bools); kp_flats)
    | (apply atSame; assumption; kp_flats)
    | (apply atKp; assumption; (next => kaf_pre); kp_flats))
set_option hygiene false in
local macro_rules
  | `(tactic| kaf_pre) => `(tactic| first
    | assumption
    | exact not_nil
    | (apply not_cons; (next => kbo_bools); kaf_pre)
    | (apply not_app; (next => kaf_pre); kaf_pre))
set_option hygiene false in
local macro_rules
  | `(tactic| kbo_bools) => `(tactic| first
    | assumption
    | (apply Ne.symm; assumption)
    | (apply neN; assumption; kp_flats)
    | (apply neN'; assumption; kp_flats))
set_option hygiene false in
local macro_rules
  | `(tactic| o_reads) => `(tactic| first
    | with_reducible rfl
    | assumption
    | rfl
    | kp_flats
    | (show SqL _ _ _ _; first | assumption | (apply sqlOf; kp_flats) | (apply sqlSame; assumption; o_reads))
    | (show SqT _ _ _ _; first | assumption | (apply sqtOf; kp_flats) | (apply sqtAll; assumption) | (apply sqtSame; assumption; o_reads))
    | (show Cls _ _; first | exact T.cl_Calls | exact T.cl_Outer | exact T.cl_Timed)
    | (show NoAttr _ _ _; first | exact T.n_Calls_entries | exact T.n_Calls_running | exact T.n_Outer_calls | exact T.n_Outer_push_call | exact T.n_Outer_pop_call | exact T.n_Outer_ask_call | exact T.n_Outer_order | exact T.n_Outer_broken | exact T.n_Timed_outer | exact T.n_Timed_given | exact T.n_Timed_now | exact T.n_Timed_held | exact T.n_Timed_limits | exact T.n_Timed_ends)
    | (apply Or.inl; o_reads)
    | (apply Or.inr; o_reads)
    | (apply And.intro; (next => o_reads); o_reads)
    | (apply Exists.intro; o_reads)
    | exact Nat.le_of_ble_eq_true rfl
    | exact Nat.succ_ne_zero _
    | (show Fr _ _; kba_ints)
    | (show Same _ _; kd_subs)
    | (show Kp _ _ _; kxs_still)
    | (show (_ : Nat) ≤ _; simp only [List.length_append, List.length_map, List.length_cons, List.length_nil, List.length_take, List.length_drop, List.length_replicate, List.length_range, sizeLine_eq]; omega)
    | (show _ = none; apply Fr.h; kba_ints)
    | (show Bag _ _; first | assumption | (apply bag_putF; assumption; o_reads) | (apply bag_neF; (next => kbo_bools); o_reads) | (apply bag_kpR; assumption; (next => kaf_pre); o_reads))
    | omega
    | decide)
local macro_rules
  | `(tactic| o_readsAll) => `(tactic| repeat (first
    | (refine fun (pNew : Addr) (nNew : _ = none) => ?_; replace nNew := Fr.mk nNew)
    | (refine fun (xNew dNew : Addr) (nNew : _ = none) (mNew : _ = none) (eNew : dNew ≠ xNew) => ?_; replace nNew := Fr.mk nNew; replace mNew := Fr.mk mNew)
    | (apply And.intro; next => o_reads)
    | apply Exists.intro (α := V)
    | apply Exists.intro (α := Addr)
    | apply Exists.intro (α := Int)
    | apply Exists.intro (α := Bool)
    | apply Exists.intro (α := List V)
    | apply Exists.intro (α := List Nat)
    | apply Exists.intro (α := List (Str × V))
    | apply Exists.intro (α := List _)
    | apply Exists.intro (α := Str)
    | apply Exists.intro (α := HO)
    | apply Exists.intro (α := Sp)
    | apply Exists.intro (α := VK)))
set_option hygiene false in
local macro_rules
  | `(tactic| kba_ints) => `(tactic| first
    | assumption
    | (apply frUp; (first | assumption | (apply Ne.symm; assumption)); kba_ints)
    | (apply noneOf; assumption; intro oF eF; apply Exists.intro; kp_flats)
    | (apply frUp; (next => kbo_bools); kba_ints))
set_option hygiene false in
local macro_rules
  | `(tactic| kxs_still) => `(tactic| first
    | assumption
    | exact kp_refl _ _
    | (apply kp_newF; assumption; kxs_still)
    | (apply kp_new; assumption; kxs_still)
    | (apply kp_up; (next => o_fieldsN); kxs_still)
    | (apply kp_new; (next => kba_ints); kxs_still)
    | (apply kp_sameR; assumption; kxs_still)
    | (apply kp_transR; assumption; kxs_still)
    | (apply kp_freshR; assumption; (next => kaf_suf); kxs_still))
set_option hygiene false in
local macro_rules
  | `(tactic| kaf_suf) => `(tactic| first
    | assumption
    | exact subNil
    | (apply subCons; (first | (apply Or.inl; o_fieldsN) | (apply Or.inr; kba_ints)); kaf_suf)
    | (apply subApp; (next => kaf_suf); kaf_suf))
set_option hygiene false in
local macro_rules
  | `(tactic| o_fieldsN) => `(tactic| first
    | assumption
    | exact memA
    | (apply memB; o_fieldsN)
    | (apply memL; o_fieldsN)
    | (apply memR; o_fieldsN))
set_option hygiene false in
local macro_rules
  | `(tactic| kd_subs) => `(tactic| first
    | assumption
    | exact Same.refl _
    | (apply same_putF; assumption; kd_subs)
    | (apply same_putG; assumption; kd_subs)
    | (apply same_putF; (next => kba_ints); kd_subs)
    | (apply same_transR; assumption; kd_subs))

/-! ### the calls of a collection -/
def CO (C dx l : Addr) (r : Bool) : HO := .ins C dx [("entries", .ref l), ("running", .bl r)]
section
variable {P : Program} {w : World} {K : PySem.W.Frag} {mg : Str → Option Value} {base : Heap} {n : Nat}
def spCI (C : Addr) : Sp := fun vs H Q _ => ∃ (a dx : Addr), vs = [.ref a] ∧ H a = some (.ins C dx []) ∧ ∀ l H', Fr H l → H' a = some (CO C dx l false) → H' l = some (.lst []) → Kp [a] H H' → Q .non H'
theorem ok_ci (T : Txt K mg) : FnOk P w K mg base CX0 1 T.f_Calls_init T.d_Calls_init ["self"] (spCI T.C_Calls) := by
  refine T.F_Calls_init.ok sc_Calls_init (fun vs H Q E h => ?_) (fun cdv A outer s H vs Q E hr h => ?_)
  · obtain ⟨a, dx, rfl, _⟩ := h
    rfl
  · obtain ⟨a, dx, rfl, ha, q⟩ := h
    refine ⟨_, (pss_cons (ps_fld (pv 0) (pe_lst pa_nil) rfl)
      (pss_one (ps_fld (pv 0) pe_bl rfl))), ?_⟩
    o_readsAll
    rename_i l nl
    exact q _ _ nl (by kp_flats) (by kp_flats) (by kxs_still)
def spChk (C : Addr) : Sp := fun vs H Q _ => ∃ (c dx l : Addr), vs = [.ref c] ∧ H c = some (CO C dx l false) ∧ Q .non H
theorem ok_chk (T : Txt K mg) : FnOk P w K mg base CX0 1 T.f_Calls_check T.d_Calls_check ["self"] (spChk T.C_Calls) := by
  refine T.F_Calls_check.ok sc_Calls_check (fun vs H Q E h => ?_) (fun cdv A outer s H vs Q E hr h => ?_)
  · obtain ⟨a, dx, l, rfl, _⟩ := h
    rfl
  · obtain ⟨c, dx, l, rfl, hc, q⟩ := h
    refine ⟨_, (pss_one (ps_if (pt_val (pe_fld (pv 0) rfl)) pss_never pss_nil)), ?_⟩
    o_readsAll
    exact iteF q
/-- the callable f, called with xs in H: what it does brings Q -/
def Act (P : Program) (w : World) (K : PySem.W.Frag) (mg : Str → Option Value) (base : Heap) (n : Nat) (f : V) (xs : List V) (H : Hp) (Q : VK) : Prop :=
  ∃ (a : Addr) (o : HO) (sp : Sp) (Q0 : VK), f = .ref a ∧ H a = some o ∧ Inf.FnHO a o ∧ FnR P w K mg base CX0 n a sp ∧ sp xs H Q0 E0 ∧ ∀ v H', Q0 v H' → Q v H'
theorem Act.imp {f : V} {xs : List V} {H : Hp} {Q Q' : VK} (h : Act P w K mg base n f xs H Q) (i : ∀ v H', Q v H' → Q' v H') : Act P w K mg base n f xs H Q' := by
  obtain ⟨a, o, sp, Q0, h1, h2, h3, h4, h5, h6⟩ := h
  exact ⟨a, o, sp, Q0, h1, h2, h3, h4, h5, fun v H' z => i _ _ (h6 _ _ z)⟩
theorem fnR_q {k : Nat} {f : Addr} {sp : Sp} (F : FnR P w K mg base CX0 k f sp) : FnR P w K mg base CX0 k f (fun vs H Q E => ∃ Q0 : VK, sp vs H Q0 E ∧ ∀ v H', Q0 v H' → Q v H') := fun A outer s H us vs Q E hr e0 r h => by
  obtain ⟨Q0, h0, hi⟩ := h
  refine codeAny_mono (F A outer s H us vs Q0 E hr e0 r h0) fun res s' hq => ?_
  match res, hq with
  | .error e, z => exact z
  | .ok .next, z => exact z
  | .ok .brk, z => exact z
  | .ok .cont, z => exact z
  | .ok (.ret u), z =>
    obtain ⟨v, H', h1, h2, h3, h4, h5, h6⟩ := z
    exact ⟨v, H', h1, h2, h3, h4, h5, hi _ _ h6⟩
/-- run(entry, action, *values) -/
def spRun (P : Program) (w : World) (K : PySem.W.Frag) (mg : Str → Option Value) (base : Heap) (C : Addr) (n : Nat) : Sp := fun vs H Q E => ∃ (c dx l : Addr) (en f : V) (xs : List V), vs = [.ref c, en, f] ++ xs ∧ xs.length ≤ sizeLine ∧ H c = some (CO C dx l false) ∧
  ∀ H1, Kp [c] H H1 → H1 c = some (CO C dx l true) → Act P w K mg base n f xs H1 (fun v H2 => H2 c = some (CO C dx l true) ∧ ∃ es, H2 l = some (.lst es) ∧ es.length < sizeLine ∧
    ∀ H3, Kp [c, l] H2 H3 → H3 c = some (CO C dx l false) → H3 l = some (.lst (es ++ [en])) → Q v H3)
theorem ok_run (T : Txt K mg) : FnR P w K mg base CX0 (n + 1) T.f_Calls_run (spRun P w K mg base T.C_Calls n) := by
  obtain ⟨oc, od, kV, doc, pm, an, cdv, ct, osl, hfd, lk, hcd⟩ := T.F_Calls_run.ex
  rw [hfd] at lk
  have key := StX.fn_star (P := P) (w := w) (mg := mg) (base := base) (CX := CX0) (k := n) (ps := ["self", "entry", "action"]) (pv := "values") (sp := fun us H Q E => ∃ ws rest p H0, us = ws ++ [.ref p] ∧ ws.length = 3 ∧ H0 p = none ∧ H = upd H0 p (.tup rest) ∧ spRun P w K mg base T.C_Calls n (ws ++ rest) H0 Q E) lk hcd sc_Calls_run StX.cxUp_none (fun us rest hl => ?_) (fun A outer s H vs Q E hr h => ?_)
  · refine key.imp fun vs H Q E h => ?_
    have h' := h
    obtain ⟨c, dx, l, en, f, xs, rfl, lx, _⟩ := h
    exact ⟨[.ref c, en, f], xs, rfl, rfl, lx, fun p np => ⟨[.ref c, en, f], xs, p, H, rfl, rfl, np, rfl, h'⟩⟩
  · match us, hl, rest with
    | [a, b, c], _, [] => rfl
    | [a, b, c], _, r :: rs => rfl
  · obtain ⟨ws, rest, p, H0, rfl, hw, np, rfl, c, dx, l, en, f, xs, e1, lx, hc, q⟩ := h
    obtain ⟨rfl, rfl⟩ := List.append_inj e1 hw
    replace np := Fr.mk np
    refine ⟨_, (pss_cons (ps_fld (pv 0) pe_bl rfl)
      (pss_cons (Inf.ps_fin0 (pss_one (ps_set (i := 4) sc_Calls_run.nd rfl (.inl rfl) (Inf.pe_actG (i := 2) (CX := CX0) (k := n) (E := fun _ => E0) rfl (.inl rfl) hr (fun _ _ _ _ _ _ _ z => False.elim z) (pv 3)))) (pss_one (ps_fld (pv 0) pe_bl rfl)))
      (pss_cons (ps_expr (pe_bm PySem.F.plainAttrs_list PySem.F.slot_list_append PySem.F.type_list_append mt_append (pe_fld (pv 0) rfl) (pa_cons (pv 1) pa_nil)))
      (pss_one (ps_ret (pv 4)))))), ?_⟩
    obtain ⟨a, o, sp, Q0, rfl, h2, h3, h4, h5, h6⟩ := q (upd (upd H0 p (.tup rest)) c (CO T.C_Calls dx l true)) (by kxs_still) upd_same
    replace h4 := fnR_q h4
    o_readsAll
    intro v H2 hv
    obtain ⟨hc2, es, hl, hs, q2⟩ := h6 v H2 hv
    have hlc : l ≠ c := neO hl hc2 (fun z => nomatch z)
    o_readsAll
    exact q2 _ (by kxs_still) (by kp_flats) (by kp_flats)
end
end Ob

set_option Elab.async false
set_option linter.all false
set_option maxRecDepth 100000
set_option maxHeartbeats 1000000
namespace Ob
open PySem PySem.Spec PyProof.Rows L2
open LamX (Tabs TabB TabS ExtN)

set_option hygiene false in
local macro_rules
  | `(tactic| kp_flats) => `(tactic| first
    | assumption
    | exact upd_same
    | (apply atNew; assumption; kp_flats)
    | (apply atNe; (next => kbo_bools); kp_flats)
    | (apply atSame; assumption; kp_flats)
    | (apply atKp; assumption; (next => kaf_pre); kp_flats))
set_option hygiene false in
local macro_rules
  | `(tactic| kaf_pre) => `(tactic| first
    | assumption
    | exact not_nil
    | (apply not_cons; (next => kbo_bools); kaf_pre)
    | (apply not_app; (next => kaf_pre); kaf_pre))
set_option hygiene false in
local macro_rules
  | `(tactic| kbo_bools) => `(tactic| first
    | assumption
    | (apply Ne.symm; assumption)
    | (apply neN; assumption; kp_flats)
    | (apply neN'; assumption; kp_flats))
set_option hygiene false in
local macro_rules
  | `(tactic| o_reads) => `(tactic| first
    | with_reducible rfl
    | assumption
    | rfl
    | kp_flats
    | (show SqL _ _ _ _; first | assumption | (apply sqlOf; kp_flats) | (apply sqlSame; assumption; o_reads))
    | (show SqT _ _ _ _; first | assumption | (apply sqtOf; kp_flats) | (apply sqtAll; assumption) | (apply sqtSame; assumption; o_reads))
    | (show Cls _ _; first | exact T.cl_Calls | exact T.cl_Outer | exact T.cl_Timed)
    | (show NoAttr _ _ _; first | exact T.n_Calls_entries | exact T.n_Calls_running | exact T.n_Outer_calls | exact T.n_Outer_push_call | exact T.n_Outer_pop_call | exact T.n_Outer_ask_call | exact T.n_Outer_order | exact T.n_Outer_broken | exact T.n_Timed_outer | exact T.n_Timed_given | exact T.n_Timed_now | exact T.n_Timed_held | exact T.n_Timed_limits | exact T.n_Timed_ends)
    | (apply Or.inl; o_reads)
    | (apply Or.inr; o_reads)
    | (apply And.intro; (next => o_reads); o_reads)
    | (apply Exists.intro; o_reads)
    | exact Nat.le_of_ble_eq_true rfl
    | exact Nat.succ_ne_zero _
    | (show Fr _ _; kba_ints)
    | (show Same _ _; kd_subs)
    | (show Kp _ _ _; kxs_still)
    | (show (_ : Nat) ≤ _; simp only [List.length_append, List.length_map, List.length_cons, List.length_nil, List.length_take, List.length_drop, List.length_replicate, List.length_range, sizeLine_eq]; omega)
    | (show _ = none; apply Fr.h; kba_ints)
    | (show Bag _ _; first | assumption | (apply bag_putF; assumption; o_reads) | (apply bag_neF; (next => kbo_bools); o_reads) | (apply bag_kpR; assumption; (next => kaf_pre); o_reads))
    | omega
    | decide)
local macro_rules
  | `(tactic| o_readsAll) => `(tactic| repeat (first
    | (refine fun (pNew : Addr) (nNew : _ = none) => ?_; replace nNew := Fr.mk nNew)
    | (refine fun (xNew dNew : Addr) (nNew : _ = none) (mNew : _ = none) (eNew : dNew ≠ xNew) => ?_; replace nNew := Fr.mk nNew; replace mNew := Fr.mk mNew)
    | (apply And.intro; next => o_reads)
    | apply Exists.intro (α := V)
    | apply Exists.intro (α := Addr)
    | apply Exists.intro (α := Int)
    | apply Exists.intro (α := Bool)
    | apply Exists.intro (α := List V)
    | apply Exists.intro (α := List Nat)
    | apply Exists.intro (α := List (Str × V))
    | apply Exists.intro (α := List _)
    | apply Exists.intro (α := Str)
    | apply Exists.intro (α := HO)
    | apply Exists.intro (α := Sp)
    | apply Exists.intro (α := VK)))
set_option hygiene false in
local macro_rules
  | `(tactic| kba_ints) => `(tactic| first
    | assumption
    | (apply frUp; (first | assumption | (apply Ne.symm; assumption)); kba_ints)
    | (apply noneOf; assumption; intro oF eF; apply Exists.intro; kp_flats)
    | (apply frUp; (next => kbo_bools); kba_ints))
set_option hygiene false in
local macro_rules
  | `(tactic| kxs_still) => `(tactic| first
    | assumption
    | exact kp_refl _ _
    | (apply kp_newF; assumption; kxs_still)
    | (apply kp_new; assumption; kxs_still)
    | (apply kp_up; (next => o_fieldsN); kxs_still)
    | (apply kp_new; (next => kba_ints); kxs_still)
    | (apply kp_sameR; assumption; kxs_still)
    | (apply kp_transR; assumption; kxs_still)
    | (apply kp_freshR; assumption; (next => kaf_suf); kxs_still))
set_option hygiene false in
local macro_rules
  | `(tactic| kaf_suf) => `(tactic| first
    | assumption
    | exact subNil
    | (apply subCons; (first | (apply Or.inl; o_fieldsN) | (apply Or.inr; kba_ints)); kaf_suf)
    | (apply subApp; (next => kaf_suf); kaf_suf))
set_option hygiene false in
local macro_rules
  | `(tactic| o_fieldsN) => `(tactic| first
    | assumption
    | exact memA
    | (apply memB; o_fieldsN)
    | (apply memL; o_fieldsN)
    | (apply memR; o_fieldsN))
set_option hygiene false in
local macro_rules
  | `(tactic| kd_subs) => `(tactic| first
    | assumption
    | exact Same.refl _
    | (apply same_putF; assumption; kd_subs)
    | (apply same_putG; assumption; kd_subs)
    | (apply same_putF; (next => kba_ints); kd_subs)
    | (apply same_transR; assumption; kd_subs))

set_option pp.maxSteps 900
/-! ### an outer structure, and the calls on it -/
inductive Ca where
  | push (i : Nat) (v : V) | pop (i : Nat) | ask (v : V)
def Ca.ent : Ca → List V
  | .push i _ => [.str "push", .int (i : Int)]
  | .pop i => [.str "pop", .int (i : Int)]
  | .ask _ => [.str "ask"]
/-- the log of these calls -/
structure LogC (H : Hp) (xs : List V) (tr : List Ca) : Prop where
  len : xs.length = tr.length
  at_ : ∀ (q : Nat) (x : V) (e : Ca), xs[q]? = some x → tr[q]? = some e → ∃ p, x = .ref p ∧ H p = some (.tup e.ent)
theorem LogC.kp {H H1 : Hp} {xs : List V} {tr : List Ca} {cs : List Addr} (h : LogC H xs tr) (k : Kp cs H H1) (m : Mu H cs) : LogC H1 xs tr := ⟨h.len, fun q x e a b => by
  obtain ⟨p, h1, h2⟩ := h.at_ q x e a b
  exact ⟨p, h1, kp_tup k m h2⟩⟩
theorem LogC.nil {H : Hp} : LogC H [] [] := ⟨rfl, fun q x e z => by cases q <;> cases z⟩
theorem LogC.add {H : Hp} {xs : List V} {tr : List Ca} {t : Addr} {e : Ca} (h : LogC H xs tr) (ht : H t = some (.tup e.ent)) : LogC H (xs ++ [.ref t]) (tr ++ [e]) := by
  refine ⟨by rw [List.length_append, List.length_append, h.len]; rfl, fun i x y a b => ?_⟩
  have hl := h.len
  by_cases c : i < xs.length
  · rw [List.getElem?_append_left c] at a
    rw [List.getElem?_append_left (by omega)] at b
    exact h.at_ i x y a b
  · rw [List.getElem?_append_right (by omega)] at a
    rw [List.getElem?_append_right (by omega), ← hl] at b
    match i - xs.length, a, b with
    | 0, a, b =>
      cases a
      cases b
      exact ⟨t, rfl, ht⟩
    | r + 1, a, _ => cases r <;> cases a
/-- what stands behind these calls -/
def stC (S : List Nat) : List Ca → List Nat
  | [] => S
  | .push i _ :: l => stC (S ++ [i]) l
  | .pop _ :: l => stC S.dropLast l
  | .ask _ :: l => stC S l
theorem stC_app : ∀ {a b : List Ca} {S : List Nat}, stC S (a ++ b) = stC (stC S a) b
  | [], _, _ => rfl
  | .push _ _ :: a, b, S => stC_app (a := a)
  | .pop _ :: a, b, S => stC_app (a := a)
  | .ask _ :: a, b, S => stC_app (a := a)
/-- three callables: R by the calls that were made; PM what members are, PQ what questions are, An what a question brings -/
structure OS (P : Program) (w : World) (K : PySem.W.Frag) (mg : Str → Option Value) (base : Heap) (n : Nat) (uv : List Addr) (fp fo fa : V) (PM : Nat → V → Prop) (PQ : V → Prop) (R : List Ca → Hp → Prop) (An : List Ca → V → V → Hp → Prop) : Prop where
  rk : ∀ {tr : List Ca} {cs : List Addr} {H H1 : Hp}, R tr H → Kp cs H H1 → Mu H cs → (∀ a ∈ uv, a ∉ cs) → R tr H1
  ak : ∀ {tr : List Ca} {v u : V} {cs : List Addr} {H H1 : Hp}, An tr v u H → Kp cs H H1 → Mu H cs → (∀ r, u = .ref r → r ∉ cs) → An tr v u H1
  mu : ∀ {tr : List Ca} {H : Hp}, R tr H → Mu H uv
  push : ∀ {tr : List Ca} {i : Nat} {v : V} {H : Hp} {Q : VK}, PM i v → tr.length < 1000000 → R tr H → (∀ u H', Kp uv H H' → R (tr ++ [.push i v]) H' → Q u H') → Acx P w K mg base n fp [v] H Q
  pop : ∀ {tr : List Ca} {i : Nat} {S : List Nat} {H : Hp} {Q : VK}, stC [] tr = S ++ [i] → tr.length < 1000000 → R tr H → (∀ u H', Kp uv H H' → R (tr ++ [.pop i]) H' → Q u H') → Acx P w K mg base n fo [] H Q
  ask : ∀ {tr : List Ca} {v : V} {H : Hp} {Q : VK}, PQ v → tr.length < 1000000 → R tr H → (∀ u H', Kp uv H H' → R (tr ++ [.ask v]) H' → An tr v u H' → (∀ r, u = .ref r → H r = none) → Q u H') → Acx P w K mg base n fa [v] H Q
def OO (C dx c : Addr) (fp fo fa : V) (od : Addr) (b : Bool) : HO := .ins C dx [("calls", .ref c), ("push_call", fp), ("pop_call", fo), ("ask_call", fa), ("order", .ref od), ("broken", .bl b)]
/-- an Outer at o: its calls at c, its log at l, its stack at od; the calls tr were made -/
structure OutAt (C CC : Addr) (H : Hp) (o c l od : Addr) (fp fo fa : V) (uv : List Addr) (R : List Ca → Hp → Prop) (tr : List Ca) : Prop where
  ho : ∃ dx, H o = some (OO C dx c fp fo fa od false)
  hc : ∃ dx, H c = some (CO CC dx l false)
  hl : ∃ es, H l = some (.lst es) ∧ LogC H es tr
  hd : H od = some (.lst ((stC [] tr).map nV))
  r : R tr H
  nl : l ≠ od
  nc : o ≠ c
  nu : ∀ a ∈ uv, a ≠ o ∧ a ≠ c ∧ a ≠ l ∧ a ≠ od
theorem OutAt.kp {P : Program} {w : World} {K : PySem.W.Frag} {mg : Str → Option Value} {base : Heap} {n : Nat} {PM : Nat → V → Prop} {PQ : V → Prop} {An : List Ca → V → V → Hp → Prop} {C CC : Addr} {H H1 : Hp} {o c l od : Addr} {fp fo fa : V} {uv : List Addr} {R : List Ca → Hp → Prop} {tr : List Ca} {cs : List Addr} (A : OS P w K mg base n uv fp fo fa PM PQ R An) (h : OutAt C CC H o c l od fp fo fa uv R tr) (k : Kp cs H H1) (m : Mu H cs) (n1 : o ∉ cs) (n2 : c ∉ cs) (n3 : l ∉ cs) (n4 : od ∉ cs) (n5 : ∀ a ∈ uv, a ∉ cs) : OutAt C CC H1 o c l od fp fo fa uv R tr := by
  obtain ⟨⟨d1, e1⟩, ⟨d2, e2⟩, ⟨es, e3, e4⟩, e5, e6, e7, e8, e9⟩ := h
  exact ⟨⟨d1, k.at_ _ _ e1 n1⟩, ⟨d2, k.at_ _ _ e2 n2⟩, ⟨es, k.at_ _ _ e3 n3, e4.kp k m⟩, k.at_ _ _ e5 n4, A.rk e6 k m n5, e7, e8, e9⟩
section
variable {P : Program} {w : World} {K : PySem.W.Frag} {mg : Str → Option Value} {base : Heap} {n : Nat}
theorem act_of {f : V} {xs : List V} {H : Hp} {Q : VK} (h : Acx P w K mg base n f xs H Q) : Act P w K mg base n f xs H Q := by
  obtain ⟨a, o, sp, rfl, h1, h2, h3, h4⟩ := h
  exact ⟨a, o, sp, Q, rfl, h1, h2, h3, h4, fun _ _ z => z⟩
theorem k2_at {H H1 : Hp} {o c l : Addr} {x : HO} (s : Same H H1) (h : H o = some x) (_ : H c = none) (_ : Fr H1 l) : H1 o = some x := s _ _ h
def spOI (C CC : Addr) : Sp := fun vs H Q _ => ∃ (o dx : Addr) (fp fo fa : V), vs = [.ref o, fp, fo, fa] ∧ H o = some (.ins C dx []) ∧
  ∀ c l od H', Fr H c → Fr H l → Fr H od → Kp [o] H H' → l ≠ od → (∃ dx, H' o = some (OO C dx c fp fo fa od false)) → (∃ dx, H' c = some (CO CC dx l false)) → H' l = some (.lst []) → H' od = some (.lst []) → Q .non H'
theorem ok_oi (T : Txt K mg) : FnOk P w K mg base CX0 4 T.f_Outer_init T.d_Outer_init ["self", "push", "pop", "ask"] (spOI T.C_Outer T.C_Calls) := by
  have G_Calls_init := ok_ci (P := P) (w := w) (base := base) T
  refine T.F_Outer_init.ok sc_Outer_init (fun vs H Q E h => ?_) (fun cdv A outer s H vs Q E hr h => ?_)
  · obtain ⟨o, dx, fp, fo, fa, rfl, _⟩ := h
    rfl
  · obtain ⟨o, dx, fp, fo, fa, rfl, ho, q⟩ := h
    refine ⟨_, (pss_cons (ps_fld (pv 0) (pe_make0 ⟨T.mk_Calls, T.m_Calls_init, T.t_Calls_init, T.kp_Calls⟩ G_Calls_init (hr.mono (by omega)) rfl T.gc_Calls T.b_Calls_init .nil pass0) rfl)
      (pss_cons (ps_fld (pv 0) (pv 1) rfl)
      (pss_cons (ps_fld (pv 0) (pv 2) rfl)
      (pss_cons (ps_fld (pv 0) (pv 3) rfl)
      (pss_cons (ps_fld (pv 0) (pe_lst pa_nil) rfl)
      (pss_one (ps_fld (pv 0) pe_bl rfl))))))), ?_⟩
    intro c cdx nc ncdx nxc
    have fc := Fr.mk nc
    have fcd := Fr.mk ncdx
    have e1 : upd (upd H cdx (.own c)) c (.ins T.C_Calls cdx []) c = some (.ins T.C_Calls cdx []) := upd_same
    have s1 : Same H (upd (upd H cdx (.own c)) c (.ins T.C_Calls cdx [])) := same_putG fc (same_newF fcd)
    generalize upd (upd H cdx (.own c)) c (.ins T.C_Calls cdx []) = H1 at e1 s1 ⊢
    refine ⟨c, cdx, rfl, e1, fun l H2 fl ec el k2 => ⟨rfl, ?_⟩⟩
    have ho2 := k2.at_ _ _ (s1 _ _ ho) (not_cons (ne_of_none ho nc) not_nil)
    o_readsAll
    rename_i od nod
    have nco : o ≠ c := ne_of_none ho nc
    have nlo : o ≠ l := ne_of_none (k2_at s1 ho nc fl) fl.h
    have nlc : l ≠ c := neO el ec (fun z => nomatch z)
    have b2 : Kp [o] H H2 := kp_fresh (kp_same s1) k2 (subCons (.inr fc) subNil)
    have b6 := kp_up (o := .ins T.C_Outer dx (putF "ask_call" fa (putF "pop_call" fo (putF "push_call" fp (putF "calls" (.ref c) []))))) memA (kp_up (o := .ins T.C_Outer dx (putF "pop_call" fo (putF "push_call" fp (putF "calls" (.ref c) [])))) memA (kp_up (o := .ins T.C_Outer dx (putF "push_call" fp (putF "calls" (.ref c) []))) memA (kp_up (o := .ins T.C_Outer dx (putF "calls" (.ref c) [])) memA b2)))
    have m6 : Mu (upd (upd (upd (upd H2 o (.ins T.C_Outer dx (putF "calls" (.ref c) []))) o (.ins T.C_Outer dx (putF "push_call" fp (putF "calls" (.ref c) [])))) o (.ins T.C_Outer dx (putF "pop_call" fo (putF "push_call" fp (putF "calls" (.ref c) []))))) o (.ins T.C_Outer dx (putF "ask_call" fa (putF "pop_call" fo (putF "push_call" fp (putF "calls" (.ref c) [])))))) [o] := mu_ins upd_same mu_nil
    have fod : Fr H od := fr_kp b6 m6 nod
    have c6 : upd (upd (upd (upd H2 o (.ins T.C_Outer dx (putF "calls" (.ref c) []))) o (.ins T.C_Outer dx (putF "push_call" fp (putF "calls" (.ref c) [])))) o (.ins T.C_Outer dx (putF "pop_call" fo (putF "push_call" fp (putF "calls" (.ref c) []))))) o (.ins T.C_Outer dx (putF "ask_call" fa (putF "pop_call" fo (putF "push_call" fp (putF "calls" (.ref c) []))))) c = some (CO T.C_Calls cdx l false) := by
      rw [upd_ne nco.symm, upd_ne nco.symm, upd_ne nco.symm, upd_ne nco.symm]
      exact ec
    have l6 : upd (upd (upd (upd H2 o (.ins T.C_Outer dx (putF "calls" (.ref c) []))) o (.ins T.C_Outer dx (putF "push_call" fp (putF "calls" (.ref c) [])))) o (.ins T.C_Outer dx (putF "pop_call" fo (putF "push_call" fp (putF "calls" (.ref c) []))))) o (.ins T.C_Outer dx (putF "ask_call" fa (putF "pop_call" fo (putF "push_call" fp (putF "calls" (.ref c) []))))) l = some (.lst []) := by
      rw [upd_ne nlo.symm, upd_ne nlo.symm, upd_ne nlo.symm, upd_ne nlo.symm]
      exact el
    generalize upd (upd (upd (upd H2 o (.ins T.C_Outer dx (putF "calls" (.ref c) []))) o (.ins T.C_Outer dx (putF "push_call" fp (putF "calls" (.ref c) [])))) o (.ins T.C_Outer dx (putF "pop_call" fo (putF "push_call" fp (putF "calls" (.ref c) []))))) o (.ins T.C_Outer dx (putF "ask_call" fa (putF "pop_call" fo (putF "push_call" fp (putF "calls" (.ref c) []))))) = H6 at nod b6 m6 c6 l6 ⊢
    have noo : o ≠ od := ne_of_none ho fod.h
    refine q c l od _ fc (Fr.mk (s1.free fl.h)) fod (kp_up memA (kp_up memA (kp_new nod b6))) (ne_of_none l6 nod.h) ⟨dx, upd_same⟩ ⟨cdx, ?_⟩ ?_ ?_
    · rw [upd_ne nco.symm, upd_ne nco.symm]
      exact atNew nod c6
    · rw [upd_ne nlo.symm, upd_ne nlo.symm]
      exact atNew nod l6
    · rw [upd_ne noo.symm, upd_ne noo.symm]
      exact upd_same
def spOC (C CC : Addr) : Sp := fun vs H Q _ => ∃ (o c l od : Addr) (fp fo fa : V), vs = [.ref o] ∧ (∃ dx, H o = some (OO C dx c fp fo fa od false)) ∧ (∃ dx, H c = some (CO CC dx l false)) ∧ Q .non H
theorem ok_oc (T : Txt K mg) : FnOk P w K mg base CX0 2 T.f_Outer_check T.d_Outer_check ["self"] (spOC T.C_Outer T.C_Calls) := by
  have G_Calls_check := ok_chk (P := P) (w := w) (base := base) T
  refine T.F_Outer_check.ok sc_Outer_check (fun vs H Q E h => ?_) (fun cdv A outer s H vs Q E hr h => ?_)
  · obtain ⟨o, c, l, od, fp, fo, fa, rfl, _⟩ := h
    rfl
  · obtain ⟨o, c, l, od, fp, fo, fa, rfl, ⟨d1, ho⟩, ⟨d2, hc⟩, q⟩ := h
    refine ⟨_, (pss_cons (ps_expr (pe_meth0 (pe_fld (pv 0) rfl) T.cl_Calls ⟨T.m_Calls_check, T.t_Calls_check, T.k_Calls_check⟩ G_Calls_check (hr.mono (by omega)) T.b_Calls_check .nil pass0))
      (pss_one (ps_if (pt_truth (pe_fld (pv 0) rfl) (by intro _; rfl)) pss_never pss_nil))), ?_⟩
    unfold OO at ho
    o_readsAll
    exact iteF q
end
end Ob

set_option Elab.async false
set_option linter.all false
set_option maxRecDepth 100000
set_option maxHeartbeats 1000000
namespace Ob
open PySem PySem.Spec PyProof.Rows L2
open LamX (Tabs TabB TabS ExtN)

set_option hygiene false in
local macro_rules
  | `(tactic| kp_flats) => `(tactic| first
    | assumption
    | exact upd_same
    | (apply atNew; assumption; kp_flats)
    | (apply atNe; (next => kbo_bools); kp_flats)
    | (apply atSame; assumption; kp_flats)
    | (apply atKp; assumption; (next => kaf_pre); kp_flats))
set_option hygiene false in
local macro_rules
  | `(tactic| kaf_pre) => `(tactic| first
    | assumption
    | exact not_nil
    | (apply not_cons; (next => kbo_bools); kaf_pre)
    | (apply not_app; (next => kaf_pre); kaf_pre))
set_option hygiene false in
local macro_rules
  | `(tactic| kbo_bools) => `(tactic| first
    | assumption
    | (apply Ne.symm; assumption)
    | (apply neN; assumption; kp_flats)
    | (apply neN'; assumption; kp_flats))
set_option hygiene false in
local macro_rules
  | `(tactic| o_reads) => `(tactic| first
    | with_reducible rfl
    | assumption
    | rfl
    | kp_flats
    | (show SqL _ _ _ _; first | assumption | (apply sqlOf; kp_flats) | (apply sqlSame; assumption; o_reads))
    | (show SqT _ _ _ _; first | assumption | (apply sqtOf; kp_flats) | (apply sqtAll; assumption) | (apply sqtSame; assumption; o_reads))
    | (show Cls _ _; first | exact T.cl_Calls | exact T.cl_Outer | exact T.cl_Timed)
    | (show NoAttr _ _ _; first | exact T.n_Calls_entries | exact T.n_Calls_running | exact T.n_Outer_calls | exact T.n_Outer_push_call | exact T.n_Outer_pop_call | exact T.n_Outer_ask_call | exact T.n_Outer_order | exact T.n_Outer_broken | exact T.n_Timed_outer | exact T.n_Timed_given | exact T.n_Timed_now | exact T.n_Timed_held | exact T.n_Timed_limits | exact T.n_Timed_ends)
    | (apply Or.inl; o_reads)
    | (apply Or.inr; o_reads)
    | (apply And.intro; (next => o_reads); o_reads)
    | (apply Exists.intro; o_reads)
    | exact Nat.le_of_ble_eq_true rfl
    | exact Nat.succ_ne_zero _
    | (show Fr _ _; kba_ints)
    | (show Same _ _; kd_subs)
    | (show Kp _ _ _; kxs_still)
    | (show (_ : Nat) ≤ _; simp only [List.length_append, List.length_map, List.length_cons, List.length_nil, List.length_take, List.length_drop, List.length_replicate, List.length_range, sizeLine_eq]; omega)
    | (show _ = none; apply Fr.h; kba_ints)
    | (show Bag _ _; first | assumption | (apply bag_putF; assumption; o_reads) | (apply bag_neF; (next => kbo_bools); o_reads) | (apply bag_kpR; assumption; (next => kaf_pre); o_reads))
    | omega
    | decide)
local macro_rules
  | `(tactic| o_readsAll) => `(tactic| repeat (first
    | (refine fun (pNew : Addr) (nNew : _ = none) => ?_; replace nNew := Fr.mk nNew)
    | (refine fun (xNew dNew : Addr) (nNew : _ = none) (mNew : _ = none) (eNew : dNew ≠ xNew) => ?_; replace nNew := Fr.mk nNew; replace mNew := Fr.mk mNew)
    | (apply And.intro; next => o_reads)
    | apply Exists.intro (α := V)
    | apply Exists.intro (α := Addr)
    | apply Exists.intro (α := Int)
    | apply Exists.intro (α := Bool)
    | apply Exists.intro (α := List V)
    | apply Exists.intro (α := List Nat)
    | apply Exists.intro (α := List (Str × V))
    | apply Exists.intro (α := List _)
    | apply Exists.intro (α := Str)
    | apply Exists.intro (α := HO)
    | apply Exists.intro (α := Sp)
    | apply Exists.intro (α := VK)))
set_option hygiene false in
local macro_rules
  | `(tactic| kba_ints) => `(tactic| first
    | assumption
    | (apply frUp; (first | assumption | (apply Ne.symm; assumption)); kba_ints)
    | (apply noneOf; assumption; intro oF eF; apply Exists.intro; kp_flats)
    | (apply frUp; (next => kbo_bools); kba_ints))
set_option hygiene false in
local macro_rules
  | `(tactic| kxs_still) => `(tactic| first
    | assumption
    | exact kp_refl _ _
    | (apply kp_newF; assumption; kxs_still)
    | (apply kp_new; assumption; kxs_still)
    | (apply kp_up; (next => o_fieldsN); kxs_still)
    | (apply kp_new; (next => kba_ints); kxs_still)
    | (apply kp_sameR; assumption; kxs_still)
    | (apply kp_transR; assumption; kxs_still)
    | (apply kp_freshR; assumption; (next => kaf_suf); kxs_still))
set_option hygiene false in
local macro_rules
  | `(tactic| kaf_suf) => `(tactic| first
    | assumption
    | exact subNil
    | (apply subCons; (first | (apply Or.inl; o_fieldsN) | (apply Or.inr; kba_ints)); kaf_suf)
    | (apply subApp; (next => kaf_suf); kaf_suf))
set_option hygiene false in
local macro_rules
  | `(tactic| o_fieldsN) => `(tactic| first
    | assumption
    | exact memA
    | (apply memB; o_fieldsN)
    | (apply memL; o_fieldsN)
    | (apply memR; o_fieldsN))
set_option hygiene false in
local macro_rules
  | `(tactic| kd_subs) => `(tactic| first
    | assumption
    | exact Same.refl _
    | (apply same_putF; assumption; kd_subs)
    | (apply same_putG; assumption; kd_subs)
    | (apply same_putF; (next => kba_ints); kd_subs)
    | (apply same_transR; assumption; kd_subs))

set_option pp.maxSteps 900
/-! ### following a plan -/
/-- the calls of these entries, with these members -/
def caOf (mb : Nat → V) (e : Str × Nat) : Ca := if e.1 = "push" then .push e.2 (mb e.2) else .pop e.2
/-- each pop takes the last one -/
def PopsOk : List Nat → List (Str × Nat) → Prop
  | _, [] => True
  | S, e :: l => (if e.1 = "push" then True else e.1 = "pop" ∧ ∃ S', S = S' ++ [e.2]) ∧ PopsOk (stepS S e) l
theorem pops_app : ∀ {a b : List (Str × Nat)} {S : List Nat}, PopsOk S (a ++ b) ↔ PopsOk S a ∧ PopsOk (runW S a) b
  | [], b, S => ⟨fun h => ⟨True.intro, h⟩, fun h => h.2⟩
  | e :: a, b, S => by
    have ih := pops_app (a := a) (b := b) (S := stepS S e)
    exact ⟨fun h => ⟨⟨h.1, (ih.mp h.2).1⟩, (ih.mp h.2).2⟩, fun h => ⟨h.1.1, ih.mpr ⟨h.1.2, h.2⟩⟩⟩
theorem st_run {mb : Nat → V} : ∀ {l : List (Str × Nat)} {S : List Nat}, PopsOk S l → stC S (l.map (caOf mb)) = runW S l
  | [], S, _ => rfl
  | (wd, i) :: l, S, h => by
    obtain ⟨h1, h2⟩ := h
    show stC S (caOf mb (wd, i) :: l.map (caOf mb)) = runW (stepS S (wd, i)) l
    by_cases c : wd = "push"
    · subst c
      have e1 : caOf mb (("push" : Str), i) = .push i (mb i) := if_pos rfl
      have e2 : stepS S (("push" : Str), i) = S ++ [i] := if_pos rfl
      rw [e1, e2]
      rw [e2] at h2
      exact st_run h2
    · have h1 : wd = "pop" ∧ ∃ S', S = S' ++ [i] := by
        rw [if_neg c] at h1
        exact h1
      obtain ⟨rfl, _⟩ := h1
      have e1 : caOf mb (("pop" : Str), i) = .pop i := if_neg wOP2
      have e2 : stepS S (("pop" : Str), i) = S.dropLast := by
        show (if ("pop" : Str) = "push" then _ else if ("pop" : Str) = "pop" then _ else _) = _
        rw [if_neg wOP2, if_pos rfl]
      rw [e1, e2]
      rw [e2] at h2
      exact st_run h2
section
variable {P : Program} {w : World} {K : PySem.W.Frag} {mg : Str → Option Value} {base : Heap} {n : Nat}
def spFol (P : Program) (w : World) (K : PySem.W.Frag) (mg : Str → Option Value) (base : Heap) (C CC : Addr) (n : Nat) : Sp := fun vs H Q _ => ∃ (o c l od ea hd : Addr) (fp fo fa : V) (uv : List Addr) (PM : Nat → V → Prop) (PQ : V → Prop) (R : List Ca → Hp → Prop) (An : List Ca → V → V → Hp → Prop) (tr : List Ca) (ys : List V) (es : List (Str × Nat)) (kvs : List (Key × V)) (mb : Nat → V),
  vs = [.ref o, .ref ea, .ref hd] ∧ OS P w K mg base n uv fp fo fa PM PQ R An ∧ OutAt C CC H o c l od fp fo fa uv R tr ∧ H ea = some (.lst ys) ∧ WLog H ys es ∧ H hd = some (.dK kvs) ∧ (∀ e ∈ es, e.1 = "push" → valV kvs (.inl (e.2 : Int)) = some (mb e.2) ∧ PM e.2 (mb e.2)) ∧ PopsOk (stC [] tr) es ∧ tr.length + es.length < 1000000 ∧
  (∀ a ∈ [ea, hd], a ≠ o ∧ a ≠ c ∧ a ≠ l ∧ a ∉ uv) ∧
  ∀ H', Kp (o :: c :: l :: uv) H H' → (∃ dx, H' o = some (OO C dx c fp fo fa od false)) → (∃ dx, H' c = some (CO CC dx l false)) → (∃ xs, H' l = some (.lst xs) ∧ LogC H' xs (tr ++ es.map (caOf mb))) → R (tr ++ es.map (caOf mb)) H' → Q .non H'
theorem ok_fol (T : Txt K mg) : FnOk P w K mg base CX0 (n + 4) T.f_Outer_follow T.d_Outer_follow ["self", "entries", "held"] (spFol P w K mg base T.C_Outer T.C_Calls n) := by
  have G_Calls_run := ok_run (P := P) (w := w) (base := base) (n := n) T
  refine T.F_Outer_follow.ok sc_Outer_follow (fun vs H Q E h => ?_) (fun cdv A outer s H vs Q E hr h => ?_)
  · obtain ⟨o, c, l, od, ea, hd, fp, fo, fa, uv, PM, PQ, R, An, tr, ys, es, kvs, mb, rfl, _⟩ := h
    rfl
  · obtain ⟨o, c, l, od, ea, hd, fp, fo', fa, uv, PM, PQ, R, An, tr, ys, es, kvs, mb, rfl, OA, hO, hea, hw, hhd, hmb, hp, hlen, hne, q⟩ := h
    refine ⟨_, (pss_cons (ps_set (i := 3) sc_Outer_follow.nd rfl (.inl rfl) pe_bl)
      (pss_one (Inf.ps_fin0 (pss_cons (ps_for PassesOwn.never rfl (pi_list (pv 1)) (pg_tup (by rfl) (pgs_cons (pg_name (i := 4) sc_Outer_follow.nd rfl (.inl rfl)) (pgs_cons (pg_name (i := 5) sc_Outer_follow.nd rfl (.inl rfl)) pgs_nil))) (pss_one (ps_if (pt_cmpR op_eq (pv 4) pe_str (nomark _)) (pss_one (ps_expr (pe_methR (pe_fld (pv 0) rfl) T.cl_Calls ⟨T.m_Calls_run, T.t_Calls_run, T.k_Calls_run⟩ G_Calls_run (hr.mono (by omega)) pass0 (pa_cons (pe_tup (pa_cons (pv 4) (pa_cons (pv 5) pa_nil))) (pa_cons (pe_fld (pv 0) rfl) (pa_cons (pe_dget (hu_of hr) (pv 2) (pv 5) (fun _ _ => rfl)) pa_nil)))))) (pss_one (ps_expr (pe_methR (pe_fld (pv 0) rfl) T.cl_Calls ⟨T.m_Calls_run, T.t_Calls_run, T.k_Calls_run⟩ G_Calls_run (hr.mono (by omega)) pass0 (pa_cons (pe_tup (pa_cons (pv 4) (pa_cons (pv 5) pa_nil))) (pa_cons (pe_fld (pv 0) rfl) pa_nil))))))))
        (pss_one (ps_set (i := 3) sc_Outer_follow.nd rfl (.inl rfl) pe_bl))) (pss_one (ps_fld (pv 0) (pv 3) rfl))))), ?_⟩
    obtain ⟨⟨d1, ho⟩, ⟨d2, hc⟩, ⟨xs, hl, hlg⟩, hod, hR, nlod, noc, nu⟩ := hO
    have hwl := hw.len
    refine pGN ?_
    simp only [List.set_cons_succ, List.set_cons_zero]
    have nlo : l ≠ o := neO hl ho (fun z => nomatch z)
    have nlc : l ≠ c := neO hl hc (fun z => nomatch z)
    have uo : o ∉ uv := fun m => (nu o m).1 rfl
    have uc : c ∉ uv := fun m => (nu c m).2.1 rfl
    have ul : l ∉ uv := fun m => (nu l m).2.2.1 rfl
    have mU : Mu H (o :: c :: l :: uv) := mu_ins ho (mu_ins hc (mu_lst hl (OA.mu hR)))
    have nea : ea ∉ o :: c :: l :: uv := by
      obtain ⟨a1, a2, a3, a4⟩ := hne ea memA
      exact not_cons a1 (not_cons a2 (not_cons a3 a4))
    have nhd : hd ∉ o :: c :: l :: uv := by
      obtain ⟨a1, a2, a3, a4⟩ := hne hd (memB memA)
      exact not_cons a1 (not_cons a2 (not_cons a3 a4))
    refine ⟨_, rfl, ea, rfl, ⟨_, sqlOf hea⟩, ?_⟩
    refine for_it (walk_list (K := K) (a := ea) (xs := ys)) (fun k σ H' => ∃ y4 y5, σ = [some (.ref o), some (.ref ea), some (.ref hd), some (.bl true), y4, y5] ∧ Kp (o :: c :: l :: uv) H H' ∧ H' o = some (OO T.C_Outer d1 c fp fo' fa od false) ∧ H' c = some (CO T.C_Calls d2 l false) ∧ (∃ zs, H' l = some (.lst zs) ∧ LogC H' zs (tr ++ (es.take k).map (caOf mb))) ∧ R (tr ++ (es.take k).map (caOf mb)) H') ⟨_, _, rfl, kp_refl _ _, ho, hc, ⟨xs, hl, by rw [List.take_zero, List.map_nil, List.append_nil]; exact hlg⟩, by rw [List.take_zero, List.map_nil, List.append_nil]; exact hR⟩ (fun k σ H' _ ⟨_, _, _, z, _⟩ => sqlOf (z.at_ _ _ hea nea)) ?_ ?_
    · rintro k x σ H4' H4 hk ⟨y4, y5, rfl, k4, ho4, hc4, ⟨zs, hl4, hg4⟩, R4⟩ ⟨rfl, hx⟩
      have hke : k < es.length := by omega
      have hee : es[k]? = some (es[k]'hke) := List.getElem?_eq_getElem hke
      have hsp : es.take k ++ es[k]'hke :: es.drop (k + 1) = es := by
        rw [List.getElem_cons_drop, List.take_append_drop]
      have hmem : es[k]'hke ∈ es := List.getElem_mem hke
      have htk : es.take (k + 1) = es.take k ++ [es[k]'hke] := by
        rw [List.take_succ, hee]
        rfl
      rw [htk, List.map_append, ← List.append_assoc]
      generalize es[k]'hke = e at hee hsp hmem ⊢
      obtain ⟨p, rfl, hp4⟩ := (hw.kp k4 mU).at_ k x e hx hee
      obtain ⟨wd, i⟩ := e
      have hlt : (tr ++ (es.take k).map (caOf mb)).length < 1000000 := by
        rw [List.length_append, List.length_map, List.length_take]
        omega
      have hzl := hg4.len
      have hpk : PopsOk (stC [] (tr ++ (es.take k).map (caOf mb))) [(wd, i)] := by
        rw [← hsp] at hp
        have h1 := pops_app.mp hp
        rw [stC_app, st_run h1.1]
        exact ⟨h1.2.1, True.intro⟩
      -- what is the same for both calls
      have go : ∀ (ac : V) (as : List V) (ca : Ca) (Hn : Hp) (t : Addr) (Q' : VK), Same H4 Hn → Hn t = some (.tup ca.ent) → as.length ≤ 10 →
          (∀ (H6 : Hp) (Qn : VK), R (tr ++ (es.take k).map (caOf mb)) H6 → (∀ u H', Kp uv H6 H' → R ((tr ++ (es.take k).map (caOf mb)) ++ [ca]) H' → Qn u H') → Acx P w K mg base n ac as H6 Qn) →
          (∀ u H8, Kp (o :: c :: l :: uv) H H8 → H8 o = some (OO T.C_Outer d1 c fp fo' fa od false) → H8 c = some (CO T.C_Calls d2 l false) → (∃ zs, H8 l = some (.lst zs) ∧ LogC H8 zs ((tr ++ (es.take k).map (caOf mb)) ++ [ca])) → R ((tr ++ (es.take k).map (caOf mb)) ++ [ca]) H8 → Q' u H8) →
          spRun P w K mg base T.C_Calls n (.ref c :: .ref t :: ac :: as) Hn Q' E0 := by
        intro ac as ca Hn t Q' sn et la hact hq
        have R5 := OA.rk R4 (kp_same (cs := []) sn) mu_nil (fun _ _ => not_nil)
        have hc5 := sn _ _ hc4
        have hl5 := sn _ _ hl4
        have ho5 := sn _ _ ho4
        have g5 := hg4.kp (kp_same (cs := []) sn) mu_nil
        refine ⟨c, d2, l, .ref t, ac, as, rfl, by rw [sizeLine_eq]; omega, hc5, fun H6 k6 ec6 => act_of (hact H6 _ ?_ fun u H7 k7 R7 => ?_)⟩
        · exact OA.rk R5 k6 (mu_ins hc5 mu_nil) (fun a m => not_cons (nu a m).2.1 not_nil)
        · have m5 : Mu Hn [c] := mu_ins hc5 mu_nil
          have R6 := OA.rk R5 k6 m5 (fun a m => not_cons (nu a m).2.1 not_nil)
          have m6 := OA.mu R6
          have ec7 := k7.at_ _ _ ec6 uc
          have el7 := k7.at_ _ _ (k6.at_ _ _ hl5 (not_cons nlc not_nil)) ul
          have eo7 := k7.at_ _ _ (k6.at_ _ _ ho5 (not_cons noc not_nil)) uo
          have g7 := (g5.kp k6 m5).kp k7 m6
          have et7 := kp_tup k7 m6 (kp_tup k6 m5 et)
          refine ⟨ec7, zs, el7, by rw [hzl, sizeLine_eq]; omega, fun H8 k8 ec8 el8 => ?_⟩
          have m7 : Mu H7 [c, l] := mu_ins ec7 (mu_lst el7 mu_nil)
          have kk : Kp (o :: c :: l :: uv) H H8 := kp_trans k4 (kp_trans (kp_same sn) (kp_trans (kp_more k6 (subCons (memB memA) subNil)) (kp_trans (kp_more k7 fun a m => memB (memB (memB m))) (kp_more k8 (subCons (memB memA) (subCons (memB (memB memA)) subNil))))))
          exact hq u H8 kk (k8.at_ _ _ eo7 (not_cons noc (not_cons nlo.symm not_nil))) ec8 ⟨_, el8, (g7.kp k8 m7).add (kp_tup k8 m7 et7)⟩ (OA.rk R7 k8 m7 (fun a m => not_cons (nu a m).2.1 (not_cons (nu a m).2.2.1 not_nil)))
      refine ⟨p, _, rfl, sqtOf hp4, rfl, _, _, rfl, _, _, rfl, rfl, ?_⟩
      refine ⟨_, rfl, rfl, _, rfl, ?_⟩
      by_cases cw : wd = "push"
      · subst cw
        obtain ⟨hv, hPM⟩ := hmb _ hmem rfl
        refine ifT wPP ?_
        have ecn : caOf mb (("push" : Str), i) = .push i (mb i) := if_pos rfl
        refine ⟨_, rfl, o, _, d1, _, _, rfl, ho4, T.cl_Outer, T.n_Outer_calls, rfl, c, d2, _, rfl, hc4, rfl, _, rfl, _, rfl, le2, fun t nt => ?_⟩
        have st := same_newF (o := .tup [.str "push", .int (i : Int)]) (Fr.mk nt)
        have hg : DGet (upd H4 t (.tup [.str "push", .int (i : Int)])) hd (.int (i : Int)) (some (mb i)) := by
          rw [← hv]
          exact DGet.k (k := .inl (i : Int)) (st _ _ (k4.at_ _ _ hhd nhd))
        refine ⟨_, rfl, o, _, d1, _, _, rfl, st _ _ ho4, T.cl_Outer, T.n_Outer_push_call, rfl, _, rfl, _, rfl, hd, _, rfl, hg, ?_⟩
        refine go fp [mb i] (.push i (mb i)) _ t _ st upd_same (show 1 ≤ 10 by decide) (fun H6 Qn R6 hq => OA.push hPM hlt R6 hq) fun u H8 a1 a2 a3 a4 a5 => ?_
        exact ⟨_, _, rfl, a1, a2, a3, by rw [List.map_cons, List.map_nil, ecn]; exact a4, by rw [List.map_cons, List.map_nil, ecn]; exact a5⟩
      · have hpop : wd = "pop" ∧ ∃ S', stC [] (tr ++ (es.take k).map (caOf mb)) = S' ++ [i] := by
          have := hpk.1
          rw [if_neg cw] at this
          exact this
        obtain ⟨rfl, S', hS⟩ := hpop
        refine ifF wOP ?_
        have ecn : caOf mb (("pop" : Str), i) = .pop i := if_neg wOP2
        refine ⟨_, rfl, o, _, d1, _, _, rfl, ho4, T.cl_Outer, T.n_Outer_calls, rfl, c, d2, _, rfl, hc4, rfl, _, rfl, _, rfl, le2, fun t nt => ?_⟩
        have st := same_newF (o := .tup [.str "pop", .int (i : Int)]) (Fr.mk nt)
        refine ⟨_, rfl, o, _, d1, _, _, rfl, st _ _ ho4, T.cl_Outer, T.n_Outer_pop_call, rfl, ?_⟩
        refine go fo' [] (.pop i) _ t _ st upd_same (by decide) (fun H6 Qn R6 hq => OA.pop hS hlt R6 hq) fun u H8 a1 a2 a3 a4 a5 => ?_
        exact ⟨_, _, rfl, a1, a2, a3, by rw [List.map_cons, List.map_nil, ecn]; exact a4, by rw [List.map_cons, List.map_nil, ecn]; exact a5⟩
    · rintro σ H4 ⟨y4, y5, rfl, k4, ho4, hc4, ⟨zs, hl4, hg4⟩, R4⟩
      rw [List.take_of_length_le (by omega)] at hg4 R4
      dsimp only []
      refine pAsg (pGN ?_)
      simp only [List.set_cons_succ, List.set_cons_zero]
      refine ⟨_, rfl, _, rfl, o, _, d1, _, rfl, ho4, T.cl_Outer, T.n_Outer_broken, (show 6 < 1000 by decide), ?_⟩
      have ku : Kp [o] H4 (upd H4 o (OO T.C_Outer d1 c fp fo' fa od false)) := kp_up memA (kp_refl _ _)
      have m4 : Mu H4 [o] := mu_ins ho4 mu_nil
      exact q _ (kp_trans k4 (kp_more ku (subCons memA subNil))) ⟨d1, upd_same⟩ ⟨d2, ku.at_ _ _ hc4 (not_cons noc.symm not_nil)⟩ ⟨zs, ku.at_ _ _ hl4 (not_cons nlo not_nil), hg4.kp ku m4⟩ (OA.rk R4 ku m4 fun a m => not_cons (nu a m).1 not_nil)
end
end Ob

set_option Elab.async false
set_option linter.all false
set_option maxRecDepth 100000
set_option maxHeartbeats 1000000
namespace Ob
open PySem PySem.Spec PyProof.Rows L2
open LamX (Tabs TabB TabS ExtN)

set_option hygiene false in
local macro_rules
  | `(tactic| kp_flats) => `(tactic| first
    | assumption
    | exact upd_same
    | (apply atNew; assumption; kp_flats)
    | (apply atNe; (next => kbo_bools); kp_flats)
    | (apply atSame; assumption; kp_flats)
    | (apply atKp; assumption; (next => kaf_pre); kp_flats))
set_option hygiene false in
local macro_rules
  | `(tactic| kaf_pre) => `(tactic| first
    | assumption
    | exact not_nil
    | (apply not_cons; (next => kbo_bools); kaf_pre)
    | (apply not_app; (next => kaf_pre); kaf_pre))
set_option hygiene false in
local macro_rules
  | `(tactic| kbo_bools) => `(tactic| first
    | assumption
    | (apply Ne.symm; assumption)
    | (apply neN; assumption; kp_flats)
    | (apply neN'; assumption; kp_flats))
set_option hygiene false in
local macro_rules
  | `(tactic| o_reads) => `(tactic| first
    | with_reducible rfl
    | assumption
    | rfl
    | kp_flats
    | (show SqL _ _ _ _; first | assumption | (apply sqlOf; kp_flats) | (apply sqlSame; assumption; o_reads))
    | (show SqT _ _ _ _; first | assumption | (apply sqtOf; kp_flats) | (apply sqtAll; assumption) | (apply sqtSame; assumption; o_reads))
    | (show Cls _ _; first | exact T.cl_Calls | exact T.cl_Outer | exact T.cl_Timed)
    | (show NoAttr _ _ _; first | exact T.n_Calls_entries | exact T.n_Calls_running | exact T.n_Outer_calls | exact T.n_Outer_push_call | exact T.n_Outer_pop_call | exact T.n_Outer_ask_call | exact T.n_Outer_order | exact T.n_Outer_broken | exact T.n_Timed_outer | exact T.n_Timed_given | exact T.n_Timed_now | exact T.n_Timed_held | exact T.n_Timed_limits | exact T.n_Timed_ends)
    | (apply Or.inl; o_reads)
    | (apply Or.inr; o_reads)
    | (apply And.intro; (next => o_reads); o_reads)
    | (apply Exists.intro; o_reads)
    | exact Nat.le_of_ble_eq_true rfl
    | exact Nat.succ_ne_zero _
    | (show Fr _ _; kba_ints)
    | (show Same _ _; kd_subs)
    | (show Kp _ _ _; kxs_still)
    | (show (_ : Nat) ≤ _; simp only [List.length_append, List.length_map, List.length_cons, List.length_nil, List.length_take, List.length_drop, List.length_replicate, List.length_range, sizeLine_eq]; omega)
    | (show _ = none; apply Fr.h; kba_ints)
    | (show Bag _ _; first | assumption | (apply bag_putF; assumption; o_reads) | (apply bag_neF; (next => kbo_bools); o_reads) | (apply bag_kpR; assumption; (next => kaf_pre); o_reads))
    | omega
    | decide)
local macro_rules
  | `(tactic| o_readsAll) => `(tactic| repeat (first
    | (refine fun (pNew : Addr) (nNew : _ = none) => ?_; replace nNew := Fr.mk nNew)
    | (refine fun (xNew dNew : Addr) (nNew : _ = none) (mNew : _ = none) (eNew : dNew ≠ xNew) => ?_; replace nNew := Fr.mk nNew; replace mNew := Fr.mk mNew)
    | (apply And.intro; next => o_reads)
    | apply Exists.intro (α := V)
    | apply Exists.intro (α := Addr)
    | apply Exists.intro (α := Int)
    | apply Exists.intro (α := Bool)
    | apply Exists.intro (α := List V)
    | apply Exists.intro (α := List Nat)
    | apply Exists.intro (α := List (Str × V))
    | apply Exists.intro (α := List _)
    | apply Exists.intro (α := Str)
    | apply Exists.intro (α := HO)
    | apply Exists.intro (α := Sp)
    | apply Exists.intro (α := VK)))
set_option hygiene false in
local macro_rules
  | `(tactic| kba_ints) => `(tactic| first
    | assumption
    | (apply frUp; (first | assumption | (apply Ne.symm; assumption)); kba_ints)
    | (apply noneOf; assumption; intro oF eF; apply Exists.intro; kp_flats)
    | (apply frUp; (next => kbo_bools); kba_ints))
set_option hygiene false in
local macro_rules
  | `(tactic| kxs_still) => `(tactic| first
    | assumption
    | exact kp_refl _ _
    | (apply kp_newF; assumption; kxs_still)
    | (apply kp_new; assumption; kxs_still)
    | (apply kp_up; (next => o_fieldsN); kxs_still)
    | (apply kp_new; (next => kba_ints); kxs_still)
    | (apply kp_sameR; assumption; kxs_still)
    | (apply kp_transR; assumption; kxs_still)
    | (apply kp_freshR; assumption; (next => kaf_suf); kxs_still))
set_option hygiene false in
local macro_rules
  | `(tactic| kaf_suf) => `(tactic| first
    | assumption
    | exact subNil
    | (apply subCons; (first | (apply Or.inl; o_fieldsN) | (apply Or.inr; kba_ints)); kaf_suf)
    | (apply subApp; (next => kaf_suf); kaf_suf))
set_option hygiene false in
local macro_rules
  | `(tactic| o_fieldsN) => `(tactic| first
    | assumption
    | exact memA
    | (apply memB; o_fieldsN)
    | (apply memL; o_fieldsN)
    | (apply memR; o_fieldsN))
set_option hygiene false in
local macro_rules
  | `(tactic| kd_subs) => `(tactic| first
    | assumption
    | exact Same.refl _
    | (apply same_putF; assumption; kd_subs)
    | (apply same_putG; assumption; kd_subs)
    | (apply same_putF; (next => kba_ints); kd_subs)
    | (apply same_transR; assumption; kd_subs))

set_option pp.maxSteps 900
theorem run_lenA : ∀ {l : List (Str × Nat)} {S : List Nat}, (runW S l).length ≤ S.length + l.length
  | [], S => Nat.le_refl _
  | e :: l, S => by
    have h := run_lenA (l := l) (S := stepS S e)
    have h2 : (stepS S e).length ≤ S.length + 1 := by
      unfold stepS
      split
      · rw [List.length_append]
        exact Nat.le_refl _
      · split
        · rw [List.length_dropLast]
          omega
        · omega
    show (runW (stepS S e) l).length ≤ _
    rw [List.length_cons]
    omega
section
variable {P : Program} {w : World} {K : PySem.W.Frag} {mg : Str → Option Value} {base : Heap} {n : Nat}
/-- the stack behind these entries: a new list -/
def spChg : Sp := fun vs H Q _ => ∃ (a b : Addr) (S : List Nat) (ys : List V) (es : List (Str × Nat)), vs = [.ref a, .ref b] ∧ H a = some (.lst (S.map nV)) ∧ H b = some (.lst ys) ∧ WLog H ys es ∧ PopsOk S es ∧ S.length + es.length < 1000000 ∧ ∀ o H', Same H H' → Fr H o → H' o = some (.lst ((runW S es).map nV)) → Q (.ref o) H'
theorem ok_chg (T : Txt K mg) : FnOk P w K mg base CX0 1 T.f_changed_order T.d_changed_order ["order", "entries"] spChg := by
  refine T.F_changed_order.ok sc_changed_order (fun vs H Q E h => ?_) (fun cdv A outer s H vs Q E hr h => ?_)
  · obtain ⟨a, b, S, ys, es, rfl, _⟩ := h
    rfl
  · obtain ⟨a, b, S, ys, es, rfl, ha, hb, hw, hp, hlen, q⟩ := h
    refine ⟨_, (pss_cons (ps_set (i := 2) sc_changed_order.nd rfl (.inl rfl) (pe_callTy call_list_of (by rfl) T.z_list (by decide +kernel) (pa_cons (pv 0) pa_nil)))
      (pss_cons (ps_for PassesOwn.never rfl (pi_list (pv 1)) (pg_tup (by rfl) (pgs_cons (pg_name (i := 3) sc_changed_order.nd rfl (.inl rfl)) (pgs_cons (pg_name (i := 4) sc_changed_order.nd rfl (.inl rfl)) pgs_nil))) (pss_one (ps_if (pt_cmpR op_eq (pv 3) pe_str (nomark _)) (pss_one (ps_expr (pe_bm PySem.F.plainAttrs_list PySem.F.slot_list_append PySem.F.type_list_append mt_append (pv 2) (pa_cons (pv 4) pa_nil)))) (pss_one (ps_expr (pe_bm0 PySem.F.plainAttrs_list PySem.F.slot_list_pop PySem.F.type_list_pop mt_pop (pv 2)))))))
      (pss_one (ps_ret (pv 2))))), ?_⟩
    have hwl := hw.len
    refine ⟨_, rfl, a, _, rfl, .inl (sqlOf ha), fun o no => pGN ?_⟩
    have fo := Fr.mk no
    have s1 := same_newF (o := .lst (S.map nV)) fo
    have eo : upd H o (.lst (S.map nV)) o = some (.lst (S.map nV)) := upd_same
    generalize upd H o (.lst (S.map nV)) = H1 at s1 eo ⊢
    simp only [List.set_cons_succ, List.set_cons_zero]
    refine ⟨_, rfl, b, rfl, ⟨_, sqlOf (s1 _ _ hb)⟩, ?_⟩
    refine for_it (walk_list (K := K) (a := b) (xs := ys)) (fun k σ H' => ∃ y3 y4, σ = [some (.ref a), some (.ref b), some (.ref o), y3, y4] ∧ Same H H' ∧ H' o = some (.lst ((runW S (es.take k)).map nV))) ⟨_, _, rfl, s1, by rw [List.take_zero]; exact eo⟩ (fun k σ H' _ ⟨_, _, _, z, _⟩ => sqlOf (z _ _ hb)) ?_ ?_
    · rintro k x σ H4' H4 hk ⟨y4, y5, rfl, s4, ho4⟩ ⟨rfl, hx⟩
      have hke : k < es.length := by omega
      have hee : es[k]? = some (es[k]'hke) := List.getElem?_eq_getElem hke
      have hsp : es.take k ++ es[k]'hke :: es.drop (k + 1) = es := by
        rw [List.getElem_cons_drop, List.take_append_drop]
      have htk : es.take (k + 1) = es.take k ++ [es[k]'hke] := by
        rw [List.take_succ, hee]
        rfl
      rw [htk, run_app]
      generalize es[k]'hke = e at hee hsp ⊢
      obtain ⟨p, rfl, hp4⟩ := (hw.kp (cs := []) (kp_same s4) mu_nil).at_ k x e hx hee
      obtain ⟨wd, i⟩ := e
      have hpk : PopsOk (runW S (es.take k)) [(wd, i)] := by
        rw [← hsp] at hp
        exact ⟨(pops_app.mp hp).2.1, True.intro⟩
      have hrl := run_lenA (S := S) (l := es.take k)
      rw [List.length_take] at hrl
      generalize runW S (es.take k) = S4 at hpk hrl ho4 ⊢
      refine ⟨p, _, rfl, sqtOf hp4, rfl, _, _, rfl, _, _, rfl, rfl, ?_⟩
      refine ⟨_, rfl, rfl, _, rfl, ?_⟩
      by_cases cw : wd = "push"
      · subst cw
        refine ifT wPP ?_
        refine ⟨_, rfl, .inl ⟨rfl, _, sqlOf ho4⟩, _, rfl, o, _, _, rfl, rfl, ho4, by rw [List.length_map, sizeLine_eq]; omega, ?_⟩
        refine ⟨_, _, rfl, same_putG fo s4, ?_⟩
        have e2 : runW S4 [(("push" : Str), i)] = S4 ++ [i] := by
          show stepS S4 (("push" : Str), i) = _
          unfold stepS
          rw [if_pos rfl]
        rw [upd_same, e2, List.map_append]
        rfl
      · have hpop : wd = "pop" ∧ ∃ S', S4 = S' ++ [i] := by
          have := hpk.1
          rw [if_neg cw] at this
          exact this
        obtain ⟨rfl, S', rfl⟩ := hpop
        refine ifF wOP ?_
        have hlast : ((S' ++ [i]).map nV)[((S' ++ [i]).map nV).length - 1]? = some (nV i) := by
          rw [List.map_append, List.length_append]
          exact List.getElem?_concat_length ..
        refine ⟨_, rfl, .inl ⟨rfl, _, sqlOf ho4⟩, o, _, _, rfl, rfl, ho4, hlast, ?_⟩
        refine ⟨_, _, rfl, same_putG fo s4, ?_⟩
        have e2 : runW (S' ++ [i]) [(("pop" : Str), i)] = S' := by
          show stepS (S' ++ [i]) (("pop" : Str), i) = _
          unfold stepS
          rw [if_neg wOP2, if_pos rfl, List.dropLast_concat]
        rw [upd_same, e2, List.map_append, List.map_cons, List.map_nil, List.dropLast_concat]
    · rintro σ H4 ⟨y3, y4, rfl, s4, ho4⟩
      rw [List.take_of_length_le (by omega)] at ho4
      exact ⟨_, rfl, q o H4 s4 fo ho4⟩
/-- the calls of entries: followed, and the stack is that behind them -/
def spChange (P : Program) (w : World) (K : PySem.W.Frag) (mg : Str → Option Value) (base : Heap) (C CC : Addr) (n : Nat) : Sp := fun vs H Q _ => ∃ (o c l od ea hd : Addr) (fp fo fa : V) (uv : List Addr) (PM : Nat → V → Prop) (PQ : V → Prop) (R : List Ca → Hp → Prop) (An : List Ca → V → V → Hp → Prop) (tr : List Ca) (ys : List V) (es : List (Str × Nat)) (kvs : List (Key × V)) (mb : Nat → V),
  vs = [.ref o, .ref ea, .ref hd] ∧ OS P w K mg base n uv fp fo fa PM PQ R An ∧ OutAt C CC H o c l od fp fo fa uv R tr ∧ H ea = some (.lst ys) ∧ WLog H ys es ∧ H hd = some (.dK kvs) ∧ (∀ e ∈ es, e.1 = "push" → valV kvs (.inl (e.2 : Int)) = some (mb e.2) ∧ PM e.2 (mb e.2)) ∧ PopsOk (stC [] tr) es ∧ tr.length + es.length < 500000 ∧ (stC [] tr).length < 500000 ∧
  (∀ a ∈ [ea, hd], a ≠ o ∧ a ≠ c ∧ a ≠ l ∧ a ∉ uv) ∧
  ∀ od2 H', Kp (o :: c :: l :: uv) H H' → Fr H od2 → OutAt C CC H' o c l od2 fp fo fa uv R (tr ++ es.map (caOf mb)) → Q .non H'
theorem ok_change (T : Txt K mg) : FnOk P w K mg base CX0 (n + 6) T.f_Outer_change T.d_Outer_change ["self", "entries", "held"] (spChange P w K mg base T.C_Outer T.C_Calls n) := by
  have G_Outer_follow := ok_fol (P := P) (w := w) (base := base) (n := n) T
  have G_changed_order := ok_chg (P := P) (w := w) (base := base) T
  refine T.F_Outer_change.ok sc_Outer_change (fun vs H Q E h => ?_) (fun cdv A outer s H vs Q E hr h => ?_)
  · obtain ⟨o, c, l, od, ea, hd, fp, fo, fa, uv, PM, PQ, R, An, tr, ys, es, kvs, mb, rfl, _⟩ := h
    rfl
  · obtain ⟨o, c, l, od, ea, hd, fp, fo, fa, uv, PM, PQ, R, An, tr, ys, es, kvs, mb, rfl, OA, hO, hea, hw, hhd, hmb, hp, hlen, hlen2, hne, q⟩ := h
    refine ⟨_, (pss_cons (ps_expr (pe_meth (pv 0) T.cl_Outer ⟨T.m_Outer_follow, T.t_Outer_follow, T.k_Outer_follow⟩ G_Outer_follow (hr.mono (by omega)) T.b_Outer_follow .nil pass0 (pa_cons (pv 1) (pa_cons (pv 2) pa_nil))))
      (pss_one (ps_fld (pv 0) (pe_call G_changed_order (hr.mono (by omega)) rfl T.g_changed_order T.F_changed_order.kp T.b_changed_order .nil pass0 (pa_cons (pe_fld (pv 0) rfl) (pa_cons (pv 1) pa_nil))) rfl))), ?_⟩
    obtain ⟨⟨d1, ho⟩, ⟨d2, hc⟩, ⟨xs, hl, hlg⟩, hod, hR, nlod, noc, nu⟩ := id hO
    have nlo : l ≠ o := neO hl ho (fun z => nomatch z)
    have ndo : od ≠ o := neO hod ho (fun z => nomatch z)
    have ndc : od ≠ c := neO hod hc (fun z => nomatch z)
    have ud : od ∉ uv := fun m => (nu od m).2.2.2 rfl
    have mU : Mu H (o :: c :: l :: uv) := mu_ins ho (mu_ins hc (mu_lst hl (OA.mu hR)))
    refine ⟨_, rfl, o, d1, _, rfl, ho, rfl, _, rfl, _, rfl, o, c, l, od, ea, hd, fp, fo, fa, uv, PM, PQ, R, An, tr, ys, es, kvs, mb, rfl, OA, hO, hea, hw, hhd, hmb, hp, by omega, hne, fun H1 k1 ⟨d3, ho1⟩ hc1 ⟨zs, hl1, hg1⟩ R1 => ?_⟩
    have hod1 := k1.at_ _ _ hod (not_cons ndo (not_cons ndc (not_cons nlod.symm ud)))
    have nea : ea ∉ o :: c :: l :: uv := by
      obtain ⟨a1, a2, a3, a4⟩ := hne ea memA
      exact not_cons a1 (not_cons a2 (not_cons a3 a4))
    refine ⟨_, rfl, o, _, d3, _, _, rfl, ho1, T.cl_Outer, T.n_Outer_order, rfl, _, rfl, od, ea, stC [] tr, ys, es, rfl, hod1, k1.at_ _ _ hea nea, hw.kp k1 mU, hp, by omega, fun od2 H2 s2 fod2 e2 => ?_⟩
    have ho2 := s2 _ _ ho1
    obtain ⟨d4, hc1⟩ := hc1
    refine ⟨_, rfl, o, _, d3, _, rfl, ho2, T.cl_Outer, T.n_Outer_order, (show 6 < 1000 by decide), ?_⟩
    have ku : Kp [o] H2 (upd H2 o (OO T.C_Outer d3 c fp fo fa od2 false)) := kp_up memA (kp_refl _ _)
    have m2 : Mu H2 [o] := mu_ins ho2 mu_nil
    have n2o : od2 ≠ o := (ne_of_none ho1 fod2.h).symm
    have m1 : Mu H1 (o :: c :: l :: uv) := mu_ins ho1 (mu_ins hc1 (mu_lst hl1 (OA.mu R1)))
    have R2 := OA.rk (OA.rk R1 (kp_same (cs := []) s2) mu_nil (fun _ _ => not_nil)) ku m2 fun a m => not_cons (nu a m).1 not_nil
    refine q od2 _ (kp_trans k1 (kp_trans (kp_same s2) (kp_more ku (subCons memA subNil)))) (fr_kp k1 m1 fod2) ⟨⟨d3, upd_same⟩, ⟨d4, ku.at_ _ _ (s2 _ _ hc1) (not_cons noc.symm not_nil)⟩, ⟨zs, ku.at_ _ _ (s2 _ _ hl1) (not_cons nlo not_nil), (hg1.kp (cs := []) (kp_same s2) mu_nil).kp ku m2⟩, ?_, R2, ne_of_none hl1 fod2.h, noc, fun a m => ⟨(nu a m).1, (nu a m).2.1, (nu a m).2.2.1, fun z => ?_⟩⟩
    · rw [stC_app, st_run hp]
      exact ku.at_ _ _ e2 (not_cons n2o not_nil)
    · obtain ⟨x, hx, _⟩ := OA.mu R1 a m
      rw [z, fod2.h] at hx
      cases hx
end
end Ob

set_option Elab.async false
set_option linter.all false
set_option maxRecDepth 100000
set_option maxHeartbeats 1000000
namespace Ob
open PySem PySem.Spec PyProof.Rows L2
open LamX (Tabs TabB TabS ExtN)

set_option hygiene false in
local macro_rules
  | `(tactic| kp_flats) => `(tactic| first
    | assumption
    | exact upd_same
    | (apply atNew; assumption; kp_flats)
    | (apply atNe; (next => kbo_bools); kp_flats)
    | (apply atSame; assumption; kp_flats)
    | (apply atKp; assumption; (next => kaf_pre); kp_flats))
set_option hygiene false in
local macro_rules
  | `(tactic| kaf_pre) => `(tactic| first
    | assumption
    | exact not_nil
    | (apply not_cons; (next => kbo_bools); kaf_pre)
    | (apply not_app; (next => kaf_pre); kaf_pre))
set_option hygiene false in
local macro_rules
  | `(tactic| kbo_bools) => `(tactic| first
    | assumption
    | (apply Ne.symm; assumption)
    | (apply neN; assumption; kp_flats)
    | (apply neN'; assumption; kp_flats))
set_option hygiene false in
local macro_rules
  | `(tactic| o_reads) => `(tactic| first
    | with_reducible rfl
    | assumption
    | rfl
    | kp_flats
    | (show SqL _ _ _ _; first | assumption | (apply sqlOf; kp_flats) | (apply sqlSame; assumption; o_reads))
    | (show SqT _ _ _ _; first | assumption | (apply sqtOf; kp_flats) | (apply sqtAll; assumption) | (apply sqtSame; assumption; o_reads))
    | (show Cls _ _; first | exact T.cl_Calls | exact T.cl_Outer | exact T.cl_Timed)
    | (show NoAttr _ _ _; first | exact T.n_Calls_entries | exact T.n_Calls_running | exact T.n_Outer_calls | exact T.n_Outer_push_call | exact T.n_Outer_pop_call | exact T.n_Outer_ask_call | exact T.n_Outer_order | exact T.n_Outer_broken | exact T.n_Timed_outer | exact T.n_Timed_given | exact T.n_Timed_now | exact T.n_Timed_held | exact T.n_Timed_limits | exact T.n_Timed_ends)
    | (apply Or.inl; o_reads)
    | (apply Or.inr; o_reads)
    | (apply And.intro; (next => o_reads); o_reads)
    | (apply Exists.intro; o_reads)
    | exact Nat.le_of_ble_eq_true rfl
    | exact Nat.succ_ne_zero _
    | (show Fr _ _; kba_ints)
    | (show Same _ _; kd_subs)
    | (show Kp _ _ _; kxs_still)
    | (show (_ : Nat) ≤ _; simp only [List.length_append, List.length_map, List.length_cons, List.length_nil, List.length_take, List.length_drop, List.length_replicate, List.length_range, sizeLine_eq]; omega)
    | (show _ = none; apply Fr.h; kba_ints)
    | (show Bag _ _; first | assumption | (apply bag_putF; assumption; o_reads) | (apply bag_neF; (next => kbo_bools); o_reads) | (apply bag_kpR; assumption; (next => kaf_pre); o_reads))
    | omega
    | decide)
local macro_rules
  | `(tactic| o_readsAll) => `(tactic| repeat (first
    | (refine fun (pNew : Addr) (nNew : _ = none) => ?_; replace nNew := Fr.mk nNew)
    | (refine fun (xNew dNew : Addr) (nNew : _ = none) (mNew : _ = none) (eNew : dNew ≠ xNew) => ?_; replace nNew := Fr.mk nNew; replace mNew := Fr.mk mNew)
    | (apply And.intro; next => o_reads)
    | apply Exists.intro (α := V)
    | apply Exists.intro (α := Addr)
    | apply Exists.intro (α := Int)
    | apply Exists.intro (α := Bool)
    | apply Exists.intro (α := List V)
    | apply Exists.intro (α := List Nat)
    | apply Exists.intro (α := List (Str × V))
    | apply Exists.intro (α := List _)
    | apply Exists.intro (α := Str)
    | apply Exists.intro (α := HO)
    | apply Exists.intro (α := Sp)
    | apply Exists.intro (α := VK)))
set_option hygiene false in
local macro_rules
  | `(tactic| kba_ints) => `(tactic| first
    | assumption
    | (apply frUp; (first | assumption | (apply Ne.symm; assumption)); kba_ints)
    | (apply noneOf; assumption; intro oF eF; apply Exists.intro; kp_flats)
    | (apply frUp; (next => kbo_bools); kba_ints))
set_option hygiene false in
local macro_rules
  | `(tactic| kxs_still) => `(tactic| first
    | assumption
    | exact kp_refl _ _
    | (apply kp_newF; assumption; kxs_still)
    | (apply kp_new; assumption; kxs_still)
    | (apply kp_up; (next => o_fieldsN); kxs_still)
    | (apply kp_new; (next => kba_ints); kxs_still)
    | (apply kp_sameR; assumption; kxs_still)
    | (apply kp_transR; assumption; kxs_still)
    | (apply kp_freshR; assumption; (next => kaf_suf); kxs_still))
set_option hygiene false in
local macro_rules
  | `(tactic| kaf_suf) => `(tactic| first
    | assumption
    | exact subNil
    | (apply subCons; (first | (apply Or.inl; o_fieldsN) | (apply Or.inr; kba_ints)); kaf_suf)
    | (apply subApp; (next => kaf_suf); kaf_suf))
set_option hygiene false in
local macro_rules
  | `(tactic| o_fieldsN) => `(tactic| first
    | assumption
    | exact memA
    | (apply memB; o_fieldsN)
    | (apply memL; o_fieldsN)
    | (apply memR; o_fieldsN))
set_option hygiene false in
local macro_rules
  | `(tactic| kd_subs) => `(tactic| first
    | assumption
    | exact Same.refl _
    | (apply same_putF; assumption; kd_subs)
    | (apply same_putG; assumption; kd_subs)
    | (apply same_putF; (next => kba_ints); kd_subs)
    | (apply same_transR; assumption; kd_subs))

set_option pp.maxSteps 900
/-! ### the arithmetic of a tick -/
theorem szP_pos {a r : Nat} (h : r ≠ 0) : 0 < szP a r := by
  unfold szP
  split
  · exact Nat.two_pow_pos _
  · rename_i z
    obtain ⟨e, e1, _⟩ := low_spec a z
    rw [e1]
    exact Nat.lt_min.mpr ⟨Nat.two_pow_pos _, Nat.two_pow_pos _⟩
theorem szP_fit {a r : Nat} (hr : r ≠ 0) : ∃ j, szP a r = 2 ^ j ∧ a % 2 ^ j = 0 ∧ 2 ^ j ≤ r := by
  have lo := log_lo hr
  unfold szP
  by_cases z : a = 0
  · rw [if_pos z, z]
    exact ⟨_, rfl, Nat.zero_mod _, lo⟩
  · rw [if_neg z]
    obtain ⟨e, e1, e2, e3⟩ := low_spec a z
    rw [e1]
    by_cases c : r.log2 ≤ e
    · rw [Nat.min_eq_left (Nat.pow_le_pow_right (by decide) c)]
      exact ⟨_, rfl, mod_le e2 c, lo⟩
    · rw [Nat.min_eq_right (Nat.pow_le_pow_right (by decide) (by omega))]
      exact ⟨_, rfl, e2, Nat.le_trans (Nat.pow_le_pow_right (by decide) (by omega)) lo⟩
/-- a piece that begins within another one ends within it -/
theorem dy_within {b j c k : Nat} (h1 : b < c) (h2 : c < b + 2 ^ j) (h3 : b % 2 ^ j = 0) (h4 : c % 2 ^ k = 0) : c + 2 ^ k ≤ b + 2 ^ j := by
  have db := Nat.dvd_of_mod_eq_zero h3
  have dc := Nat.dvd_of_mod_eq_zero h4
  by_cases l : j ≤ k
  · have d1 : 2 ^ j ∣ c := Nat.dvd_trans (Nat.pow_dvd_pow 2 l) dc
    have d2 : 2 ^ j ∣ c - b := Nat.dvd_sub d1 db
    have := Nat.le_of_dvd (by omega) d2
    omega
  · have d0 : 2 ^ k ∣ 2 ^ j := Nat.pow_dvd_pow 2 (by omega)
    have d1 : 2 ^ k ∣ b + 2 ^ j := Nat.dvd_add (Nat.dvd_trans d0 db) d0
    have d2 : 2 ^ k ∣ b + 2 ^ j - c := Nat.dvd_sub d1 dc
    have := Nat.le_of_dvd (by omega) d2
    omega
/-- a piece that has begun by now, and ends at e -/
def Dy (now e : Nat) : Prop := ∃ k b, b ≤ now ∧ e = b + 2 ^ k ∧ b % 2 ^ k = 0
theorem Dy.one (now : Nat) : Dy now (now + 1) := ⟨0, now, Nat.le_refl _, rfl, Nat.mod_one _⟩
theorem Dy.more {now n2 e : Nat} (h : Dy now e) (l : now ≤ n2) : Dy n2 e := by
  obtain ⟨k, b, h1, h2, h3⟩ := h
  exact ⟨k, b, by omega, h2, h3⟩
/-- the present members M, the stack S: the ends never rise along the stack -/
structure TI (now : Nat) (M S : List Nat) (lim en : Nat → Nat) : Prop where
  inc : M.Pairwise (· < ·)
  pm : S.Perm M
  dn : S.Pairwise fun a b => en b ≤ en a
  lo : ∀ i ∈ M, now < en i ∧ en i ≤ lim i
  dy : ∀ i ∈ M, Dy now (en i)
/-- those that end at c are the last ones -/
theorem top_split {en : Nat → Nat} {c : Nat} : ∀ {S : List Nat}, S.Pairwise (fun a b => en b ≤ en a) → (∀ i ∈ S, c ≤ en i) → S = (S.filter fun i => decide (c < en i)) ++ S.filter fun i => decide (en i = c)
  | [], _, _ => rfl
  | a :: S, hp, hl => by
    obtain ⟨h1, h2⟩ := List.pairwise_cons.mp hp
    have ih := top_split h2 fun i m => hl i (List.mem_cons_of_mem _ m)
    have ha := hl a List.mem_cons_self
    by_cases e : en a = c
    · have all : ∀ i ∈ S, en i = c := fun i m => by
        have := h1 i m
        have := hl i (List.mem_cons_of_mem _ m)
        omega
      rw [List.filter_cons_of_neg (by simp [e]), List.filter_cons_of_pos (by simp [e])]
      have f1 : S.filter (fun i => decide (c < en i)) = [] := List.filter_eq_nil_iff.mpr fun i m => by simp [all i m]
      have f2 : S.filter (fun i => decide (en i = c)) = S := List.filter_eq_self.mpr fun i m => by simp [all i m]
      rw [f1, f2]
      rfl
    · rw [List.filter_cons_of_pos (by simp; omega), List.filter_cons_of_neg (by simp [e]), List.cons_append, ← ih]
def endS (en : Nat → Nat) (c : Nat) (S : List Nat) : List Nat := S.filter fun i => decide (en i = c)
def lowS (en : Nat → Nat) (c : Nat) (S : List Nat) : List Nat := S.filter fun i => decide (c < en i)
/-- the ends behind the tick to c -/
def enT (lim en : Nat → Nat) (c : Nat) (i : Nat) : Nat := if en i = c ∧ c < lim i then c + szP c (lim i - c) else en i
theorem TI.add {now : Nat} {M S : List Nat} {lim en : Nat → Nat} {i u : Nat} (h : TI now M S lim en) (hi : ∀ x ∈ M, x < i) (hu : now < u) : TI now (M ++ [i]) (S ++ [i]) (fun x => if x = i then u else lim x) (fun x => if x = i then now + 1 else en x) := by
  have ne : ∀ x ∈ M, x ≠ i := fun x m => Nat.ne_of_lt (hi x m)
  have nes : ∀ x ∈ S, x ≠ i := fun x m => ne x (h.pm.mem_iff.mp m)
  refine ⟨?_, h.pm.append_right _, ?_, fun x m => ?_, fun x m => ?_⟩
  · refine List.pairwise_append.mpr ⟨h.inc, List.pairwise_singleton _ _, fun a ma b mb => ?_⟩
    rw [List.mem_singleton.mp mb]
    exact hi a ma
  · refine List.pairwise_append.mpr ⟨?_, List.pairwise_singleton _ _, fun a ma b mb => ?_⟩
    · refine List.Pairwise.imp_of_mem (fun {a b} ma mb hab => ?_) h.dn
      rw [if_neg (nes a ma), if_neg (nes b mb)]
      exact hab
    · rw [List.mem_singleton.mp mb, if_pos rfl, if_neg (nes a ma)]
      have := (h.lo a (h.pm.mem_iff.mp ma)).1
      omega
  · rcases List.mem_append.mp m with m | m
    · rw [if_neg (ne x m), if_neg (ne x m)]
      exact h.lo x m
    · rw [List.mem_singleton.mp m, if_pos rfl, if_pos rfl]
      omega
  · rcases List.mem_append.mp m with m | m
    · rw [if_neg (ne x m)]
      exact h.dy x m
    · rw [List.mem_singleton.mp m, if_pos rfl]
      exact Dy.one now
theorem TI.tick {now : Nat} {M S : List Nat} {lim en : Nat → Nat} {B : List Nat} (h : TI now M S lim en) (hB : B.Perm ((endS en (now + 1) S).filter fun i => decide (now + 1 < lim i))) (hs : B.Pairwise fun a b => szP (now + 1) (lim b - (now + 1)) ≤ szP (now + 1) (lim a - (now + 1))) :
    TI (now + 1) (M.filter fun i => decide (lim i ≠ now + 1)) (lowS en (now + 1) S ++ B) lim (enT lim en (now + 1)) := by
  have hM : ∀ i ∈ S, i ∈ M := fun i m => h.pm.mem_iff.mp m
  have hsp := top_split (c := now + 1) h.dn fun i m => (h.lo i (hM i m)).1
  have inB : ∀ i ∈ B, en i = now + 1 ∧ now + 1 < lim i ∧ i ∈ M := fun i m => by
    have m1 := hB.mem_iff.mp m
    obtain ⟨m2, e2⟩ := List.mem_filter.mp m1
    obtain ⟨m3, e3⟩ := List.mem_filter.mp m2
    exact ⟨of_decide_eq_true e3, of_decide_eq_true e2, hM i m3⟩
  have inL : ∀ i ∈ lowS en (now + 1) S, now + 1 < en i ∧ i ∈ M := fun i m => by
    obtain ⟨m1, e1⟩ := List.mem_filter.mp m
    exact ⟨of_decide_eq_true e1, hM i m1⟩
  have eB : ∀ i ∈ B, enT lim en (now + 1) i = now + 1 + szP (now + 1) (lim i - (now + 1)) := fun i m => if_pos ⟨(inB i m).1, (inB i m).2.1⟩
  have eL : ∀ i ∈ lowS en (now + 1) S, enT lim en (now + 1) i = en i := fun i m => if_neg fun z => by
    have := (inL i m).1
    have := z.1
    omega
  have pm : (lowS en (now + 1) S ++ B).Perm (M.filter fun i => decide (lim i ≠ now + 1)) := by
    refine List.Perm.trans (hB.append_left _) (List.Perm.trans (List.Perm.of_eq ?_) (h.pm.filter _))
    have e := congrArg (List.filter fun i => decide (lim i ≠ now + 1)) hsp
    rw [e, List.filter_append]
    congr 1
    · refine (List.filter_eq_self.mpr fun i m => ?_).symm
      have h1 := inL i m
      have h2 := h.lo i h1.2
      exact decide_eq_true (by omega)
    · refine List.filter_congr fun i m => ?_
      obtain ⟨m1, e1⟩ := List.mem_filter.mp m
      have e1 := of_decide_eq_true e1
      have h2 := h.lo i (hM i m1)
      by_cases z : lim i = now + 1
      · rw [z, decide_eq_false (Nat.lt_irrefl _), decide_eq_false (fun y => y rfl)]
      · rw [decide_eq_true (show now + 1 < lim i by omega), decide_eq_true z]
  refine ⟨h.inc.filter _, pm, ?_, fun i m => ?_, fun i m => ?_⟩
  · refine List.pairwise_append.mpr ⟨?_, ?_, fun a ma b mb => ?_⟩
    · refine List.Pairwise.imp_of_mem (fun {a b} ma mb hab => ?_) (h.dn.filter _)
      rw [eL a ma, eL b mb]
      exact hab
    · refine List.Pairwise.imp_of_mem (fun {a b} ma mb hab => ?_) hs
      rw [eB a ma, eB b mb]
      omega
    · rw [eL a ma, eB b mb]
      obtain ⟨k, c, h1, h2, h3⟩ := h.dy a (inL a ma).2
      obtain ⟨j, g1, g2, _⟩ := szP_fit (a := now + 1) (r := lim b - (now + 1)) (by have := (inB b mb).2.1; omega)
      rw [g1, h2]
      have := (inL a ma).1
      exact dy_within (by omega) (by omega) h3 g2
  · rcases List.mem_append.mp (pm.mem_iff.mpr m) with m | m
    · rw [eL i m]
      exact ⟨(inL i m).1, (h.lo i (inL i m).2).2⟩
    · rw [eB i m]
      have h1 := (inB i m).2.1
      have h2 := szP_pos (a := now + 1) (r := lim i - (now + 1)) (by omega)
      have h3 := szP_le (a := now + 1) (r := lim i - (now + 1)) (by omega)
      omega
  · rcases List.mem_append.mp (pm.mem_iff.mpr m) with m | m
    · rw [eL i m]
      exact (h.dy i (inL i m).2).more (Nat.le_succ _)
    · rw [eB i m]
      obtain ⟨j, g1, g2, _⟩ := szP_fit (a := now + 1) (r := lim i - (now + 1)) (by have := (inB i m).2.1; omega)
      exact ⟨j, now + 1, Nat.le_refl _, by rw [g1], g2⟩
end Ob

set_option Elab.async false
set_option linter.all false
set_option maxRecDepth 100000
set_option maxHeartbeats 1000000
namespace Ob
open PySem PySem.Spec PyProof.Rows L2
open LamX (Tabs TabB TabS ExtN)

set_option hygiene false in
local macro_rules
  | `(tactic| kp_flats) => `(tactic| first
    | assumption
    | exact upd_same
    | (apply atNew; assumption; kp_flats)
    | (apply atNe; (next => kbo_bools); kp_flats)
    | (apply atSame; assumption; kp_flats)
    | (apply atKp; assumption; (next => kaf_pre); kp_flats))
set_option hygiene false in
local macro_rules
  | `(tactic| kaf_pre) => `(tactic| first
    | assumption
    | exact not_nil
    | (apply not_cons; (next => kbo_bools); kaf_pre)
    | (apply not_app; (next => kaf_pre); kaf_pre))
set_option hygiene false in
local macro_rules
  | `(tactic| kbo_bools) => `(tactic| first
    | assumption
    | (apply Ne.symm; assumption)
    | (apply neN; assumption; kp_flats)
    | (apply neN'; assumption; kp_flats))
set_option hygiene false in
local macro_rules
  | `(tactic| o_reads) => `(tactic| first
    | with_reducible rfl
    | assumption
    | rfl
    | kp_flats
    | (show SqL _ _ _ _; first | assumption | (apply sqlOf; kp_flats) | (apply sqlSame; assumption; o_reads))
    | (show SqT _ _ _ _; first | assumption | (apply sqtOf; kp_flats) | (apply sqtAll; assumption) | (apply sqtSame; assumption; o_reads))
    | (show Cls _ _; first | exact T.cl_Calls | exact T.cl_Outer | exact T.cl_Timed)
    | (show NoAttr _ _ _; first | exact T.n_Calls_entries | exact T.n_Calls_running | exact T.n_Outer_calls | exact T.n_Outer_push_call | exact T.n_Outer_pop_call | exact T.n_Outer_ask_call | exact T.n_Outer_order | exact T.n_Outer_broken | exact T.n_Timed_outer | exact T.n_Timed_given | exact T.n_Timed_now | exact T.n_Timed_held | exact T.n_Timed_limits | exact T.n_Timed_ends)
    | (apply Or.inl; o_reads)
    | (apply Or.inr; o_reads)
    | (apply And.intro; (next => o_reads); o_reads)
    | (apply Exists.intro; o_reads)
    | exact Nat.le_of_ble_eq_true rfl
    | exact Nat.succ_ne_zero _
    | (show Fr _ _; kba_ints)
    | (show Same _ _; kd_subs)
    | (show Kp _ _ _; kxs_still)
    | (show (_ : Nat) ≤ _; simp only [List.length_append, List.length_map, List.length_cons, List.length_nil, List.length_take, List.length_drop, List.length_replicate, List.length_range, sizeLine_eq]; omega)
    | (show _ = none; apply Fr.h; kba_ints)
    | (show Bag _ _; first | assumption | (apply bag_putF; assumption; o_reads) | (apply bag_neF; (next => kbo_bools); o_reads) | (apply bag_kpR; assumption; (next => kaf_pre); o_reads))
    | omega
    | decide)
local macro_rules
  | `(tactic| o_readsAll) => `(tactic| repeat (first
    | (refine fun (pNew : Addr) (nNew : _ = none) => ?_; replace nNew := Fr.mk nNew)
    | (refine fun (xNew dNew : Addr) (nNew : _ = none) (mNew : _ = none) (eNew : dNew ≠ xNew) => ?_; replace nNew := Fr.mk nNew; replace mNew := Fr.mk mNew)
    | (apply And.intro; next => o_reads)
    | apply Exists.intro (α := V)
    | apply Exists.intro (α := Addr)
    | apply Exists.intro (α := Int)
    | apply Exists.intro (α := Bool)
    | apply Exists.intro (α := List V)
    | apply Exists.intro (α := List Nat)
    | apply Exists.intro (α := List (Str × V))
    | apply Exists.intro (α := List _)
    | apply Exists.intro (α := Str)
    | apply Exists.intro (α := HO)
    | apply Exists.intro (α := Sp)
    | apply Exists.intro (α := VK)))
set_option hygiene false in
local macro_rules
  | `(tactic| kba_ints) => `(tactic| first
    | assumption
    | (apply frUp; (first | assumption | (apply Ne.symm; assumption)); kba_ints)
    | (apply noneOf; assumption; intro oF eF; apply Exists.intro; kp_flats)
    | (apply frUp; (next => kbo_bools); kba_ints))
set_option hygiene false in
local macro_rules
  | `(tactic| kxs_still) => `(tactic| first
    | assumption
    | exact kp_refl _ _
    | (apply kp_newF; assumption; kxs_still)
    | (apply kp_new; assumption; kxs_still)
    | (apply kp_up; (next => o_fieldsN); kxs_still)
    | (apply kp_new; (next => kba_ints); kxs_still)
    | (apply kp_sameR; assumption; kxs_still)
    | (apply kp_transR; assumption; kxs_still)
    | (apply kp_freshR; assumption; (next => kaf_suf); kxs_still))
set_option hygiene false in
local macro_rules
  | `(tactic| kaf_suf) => `(tactic| first
    | assumption
    | exact subNil
    | (apply subCons; (first | (apply Or.inl; o_fieldsN) | (apply Or.inr; kba_ints)); kaf_suf)
    | (apply subApp; (next => kaf_suf); kaf_suf))
set_option hygiene false in
local macro_rules
  | `(tactic| o_fieldsN) => `(tactic| first
    | assumption
    | exact memA
    | (apply memB; o_fieldsN)
    | (apply memL; o_fieldsN)
    | (apply memR; o_fieldsN))
set_option hygiene false in
local macro_rules
  | `(tactic| kd_subs) => `(tactic| first
    | assumption
    | exact Same.refl _
    | (apply same_putF; assumption; kd_subs)
    | (apply same_putG; assumption; kd_subs)
    | (apply same_putF; (next => kba_ints); kd_subs)
    | (apply same_transR; assumption; kd_subs))

set_option pp.maxSteps 900
/-! ### dicts by the present numbers -/
def dM (M : List Nat) (f : Nat → V) : List (Key × V) := M.map fun i : Nat => (Sum.inl (i : Int), f i)
theorem dM_val {f : Nat → V} {i : Nat} : ∀ {M : List Nat}, i ∈ M → valV (dM M f) (.inl (i : Int)) = some (f i)
  | j :: M, h => by
    show valV ((Sum.inl (j : Int), f j) :: dM M f) _ = _
    by_cases c : j = i
    · subst c
      exact valV_pos rfl
    · rw [valV_neg (fun z => c (by injection z with z; omega))]
      exact dM_val ((List.mem_cons.mp h).resolve_left fun z => c z.symm)
theorem dM_none {f : Nat → V} {i : Nat} : ∀ {M : List Nat}, i ∉ M → valV (dM M f) (.inl (i : Int)) = none
  | [], _ => rfl
  | j :: M, h => by
    show valV ((Sum.inl (j : Int), f j) :: dM M f) _ = _
    rw [valV_neg (fun z => h (by injection z with z; rw [show i = j by omega]; exact List.mem_cons_self))]
    exact dM_none fun m => h (List.mem_cons_of_mem _ m)
theorem dM_congr {M : List Nat} {f g : Nat → V} (h : ∀ i ∈ M, f i = g i) : dM M f = dM M g := List.map_congr_left fun i m => by rw [h i m]
theorem dM_new {M : List Nat} {f : Nat → V} {i : Nat} {v : V} (h : i ∉ M) : putK (dM M f) (.inl (i : Int)) v = dM (M ++ [i]) (fun x => if x = i then v else f x) := by
  rw [putK_new v (dM_none h)]
  unfold dM
  rw [List.map_append]
  congr 1
  · refine List.map_congr_left fun j m => ?_
    show (_, f j) = (_, if j = i then v else f j)
    rw [if_neg (fun z => h (by rw [← z]; exact m))]
  · show [(_, v)] = [(_, if i = i then v else f i)]
    rw [if_pos rfl]
theorem dM_old {M : List Nat} {f : Nat → V} {i : Nat} {v : V} (h : i ∈ M) : putK (dM M f) (.inl (i : Int)) v = dM M (fun x => if x = i then v else f x) := by
  unfold putK
  rw [valV_any, dM_val h, if_pos (show (some (f i)).isSome = true from rfl)]
  unfold dM
  rw [List.map_map]
  refine List.map_congr_left fun j _ => ?_
  show (if (Sum.inl (j : Int) : Key) = .inl (i : Int) then ((Sum.inl (j : Int) : Key), v) else (Sum.inl (j : Int), f j)) = (Sum.inl (j : Int), if j = i then v else f j)
  by_cases c : j = i
  · rw [c, if_pos rfl, if_pos rfl]
  · rw [if_neg (fun z => c (by injection z with z; omega)), if_neg c]
theorem dM_drop {M : List Nat} {f : Nat → V} {i : Nat} : dropK (dM M f) (.inl (i : Int)) = dM (M.filter fun j => decide (j ≠ i)) f := by
  unfold dropK dM
  rw [List.filter_map]
  refine congrArg _ (List.filter_congr fun j _ => ?_)
  show decide ((Sum.inl (j : Int) : Key) ≠ .inl (i : Int)) = decide (j ≠ i)
  by_cases c : j = i
  · rw [c]
    simp
  · have c' : (Sum.inl (j : Int) : Key) ≠ .inl (i : Int) := fun z => c (by injection z with z; omega)
    simp [c, c']
def iV (f : Nat → Nat) (i : Nat) : V := .int ((f i : Nat) : Int)
/-! ### a Timed -/
def TO (C dx o : Addr) (given now : Nat) (hd lm en : Addr) : HO := .ins C dx [("outer", .ref o), ("given", .int (given : Int)), ("now", .int (now : Int)), ("held", .ref hd), ("limits", .ref lm), ("ends", .ref en)]
structure TmAt (CT C CC : Addr) (H : Hp) (t o c l lm en : Addr) (fp fo fa : V) (uv : List Addr) (PM : Nat → V → Prop) (R : List Ca → Hp → Prop) (tr : List Ca) (given now : Nat) (M : List Nat) (mb : Nat → V) (lim ends : Nat → Nat) : Prop where
  ht : ∃ dx hd, H t = some (TO CT dx o given now hd lm en) ∧ H hd = some (.dK (dM M mb)) ∧ hd ∉ t :: lm :: en :: o :: c :: l :: uv
  out : ∃ od, OutAt C CC H o c l od fp fo fa uv R tr
  hl : H lm = some (.dK (dM M (iV lim)))
  he : H en = some (.dK (dM M (iV ends)))
  ti : TI now M (stC [] tr) lim ends
  gv : ∀ i ∈ M, i < given ∧ PM i (mb i)
  nt : t ≠ o ∧ t ≠ c
  nle : lm ≠ en
  nu : ∀ a ∈ uv, a ≠ t ∧ a ≠ lm ∧ a ≠ en
section
variable {P : Program} {w : World} {K : PySem.W.Frag} {mg : Str → Option Value} {base : Heap} {n : Nat}
def spTI (CT C CC : Addr) : Sp := fun vs H Q _ => ∃ (t dx : Addr) (fp fo fa : V), vs = [.ref t, fp, fo, fa] ∧ H t = some (.ins CT dx []) ∧
  ∀ o c l od lm en hd H', Fr H o → Fr H c → Fr H l → Fr H od → Fr H lm → Fr H en → Fr H hd → Kp [t] H H' → l ≠ od → lm ≠ en → hd ≠ lm → hd ≠ en → o ≠ c → H' t = some (TO CT dx o 0 0 hd lm en) → (∃ dx, H' o = some (OO C dx c fp fo fa od false)) → (∃ dx, H' c = some (CO CC dx l false)) → H' l = some (.lst []) → H' od = some (.lst []) → H' hd = some (.dK []) → H' lm = some (.dK []) → H' en = some (.dK []) → Q .non H'
theorem ok_tmi (T : Txt K mg) : FnOk P w K mg base CX0 8 T.f_Timed_init T.d_Timed_init ["self", "push", "pop", "ask"] (spTI T.C_Timed T.C_Outer T.C_Calls) := by
  have G_Outer_init := ok_oi (P := P) (w := w) (base := base) T
  refine T.F_Timed_init.ok sc_Timed_init (fun vs H Q E h => ?_) (fun cdv A outer s H vs Q E hr h => ?_)
  · obtain ⟨o, dx, fp, fo, fa, rfl, _⟩ := h
    rfl
  · obtain ⟨t, dx, fp, fo, fa, rfl, ht, q⟩ := h
    refine ⟨_, (pss_cons (ps_fld (pv 0) (pe_make ⟨T.mk_Outer, T.m_Outer_init, T.t_Outer_init, T.kp_Outer⟩ G_Outer_init (hr.mono (by omega)) rfl T.gc_Outer T.b_Outer_init .nil pass0 (pa_cons (pv 1) (pa_cons (pv 2) (pa_cons (pv 3) pa_nil)))) rfl)
      (pss_cons (ps_fld (pv 0) pe_int rfl)
      (pss_cons (ps_fld (pv 0) pe_int rfl)
      (pss_cons (ps_fld (pv 0) pe_dnewK rfl)
      (pss_cons (ps_fld (pv 0) pe_dnewK rfl)
      (pss_one (ps_fld (pv 0) pe_dnewK rfl))))))), ?_⟩
    refine ⟨_, rfl, _, rfl, _, rfl, ?_⟩
    intro o odx no nodx nxo
    have fo' := Fr.mk no
    have fox := Fr.mk nodx
    have e1 : upd (upd H odx (.own o)) o (.ins T.C_Outer odx []) o = some (.ins T.C_Outer odx []) := upd_same
    have s1 : Same H (upd (upd H odx (.own o)) o (.ins T.C_Outer odx [])) := same_putG fo' (same_newF fox)
    generalize upd (upd H odx (.own o)) o (.ins T.C_Outer odx []) = H1 at e1 s1 ⊢
    refine ⟨o, odx, fp, fo, fa, rfl, e1, fun c l od H2 fc fl fod k2 nlod eo ec el ed => ⟨rfl, ?_⟩⟩
    have ht2 := k2.at_ _ _ (s1 _ _ ht) (not_cons (ne_of_none ht no) not_nil)
    have nto : t ≠ o := ne_of_none ht no
    have ntc : t ≠ c := ne_of_none (s1 _ _ ht) fc.h
    have ntl : t ≠ l := ne_of_none (s1 _ _ ht) fl.h
    have ntd : t ≠ od := ne_of_none (s1 _ _ ht) fod.h
    have noc : o ≠ c := ne_of_none e1 fc.h
    have fc0 : Fr H c := Fr.mk (s1.free fc.h)
    have fl0 : Fr H l := Fr.mk (s1.free fl.h)
    have fd0 : Fr H od := Fr.mk (s1.free fod.h)
    have k02 : Kp [t] H H2 := kp_fresh (kp_same s1) k2 (subCons (.inr fo') subNil)
    obtain ⟨d3, eo⟩ := eo
    obtain ⟨d4, ec⟩ := ec
    refine ⟨_, rfl, t, _, dx, _, rfl, ht2, T.cl_Timed, T.n_Timed_outer, (show 0 < 1000 by decide), ?_⟩
    have u3 : upd H2 t (.ins T.C_Timed dx (putF "outer" (.ref o) [])) t = some (.ins T.C_Timed dx (putF "outer" (.ref o) [])) := upd_same
    have k3 : Kp [t] H (upd H2 t (.ins T.C_Timed dx (putF "outer" (.ref o) []))) := kp_up memA k02
    replace eo := (kp_up (o := .ins T.C_Timed dx (putF "outer" (.ref o) [])) memA (kp_refl [t] H2)).at_ _ _ eo (not_cons nto.symm not_nil)
    replace ec := (kp_up (o := .ins T.C_Timed dx (putF "outer" (.ref o) [])) memA (kp_refl [t] H2)).at_ _ _ ec (not_cons ntc.symm not_nil)
    replace el := (kp_up (o := .ins T.C_Timed dx (putF "outer" (.ref o) [])) memA (kp_refl [t] H2)).at_ _ _ el (not_cons ntl.symm not_nil)
    replace ed := (kp_up (o := .ins T.C_Timed dx (putF "outer" (.ref o) [])) memA (kp_refl [t] H2)).at_ _ _ ed (not_cons ntd.symm not_nil)
    generalize upd H2 t (.ins T.C_Timed dx (putF "outer" (.ref o) [])) = H3 at u3 k3 eo ec el ed ⊢
    refine ⟨_, rfl, t, _, dx, _, rfl, u3, T.cl_Timed, T.n_Timed_given, (show 1 < 1000 by decide), ?_⟩
    have u4 : upd H3 t (.ins T.C_Timed dx (putF "given" (.int 0) (putF "outer" (.ref o) []))) t = some (.ins T.C_Timed dx (putF "given" (.int 0) (putF "outer" (.ref o) []))) := upd_same
    have k4 : Kp [t] H (upd H3 t (.ins T.C_Timed dx (putF "given" (.int 0) (putF "outer" (.ref o) [])))) := kp_up memA k3
    replace eo := (kp_up (o := .ins T.C_Timed dx (putF "given" (.int 0) (putF "outer" (.ref o) []))) memA (kp_refl [t] H3)).at_ _ _ eo (not_cons nto.symm not_nil)
    replace ec := (kp_up (o := .ins T.C_Timed dx (putF "given" (.int 0) (putF "outer" (.ref o) []))) memA (kp_refl [t] H3)).at_ _ _ ec (not_cons ntc.symm not_nil)
    replace el := (kp_up (o := .ins T.C_Timed dx (putF "given" (.int 0) (putF "outer" (.ref o) []))) memA (kp_refl [t] H3)).at_ _ _ el (not_cons ntl.symm not_nil)
    replace ed := (kp_up (o := .ins T.C_Timed dx (putF "given" (.int 0) (putF "outer" (.ref o) []))) memA (kp_refl [t] H3)).at_ _ _ ed (not_cons ntd.symm not_nil)
    generalize upd H3 t (.ins T.C_Timed dx (putF "given" (.int 0) (putF "outer" (.ref o) []))) = H4 at u4 k4 eo ec el ed ⊢
    refine ⟨_, rfl, t, _, dx, _, rfl, u4, T.cl_Timed, T.n_Timed_now, (show 2 < 1000 by decide), ?_⟩
    have u5 : upd H4 t (.ins T.C_Timed dx (putF "now" (.int 0) (putF "given" (.int 0) (putF "outer" (.ref o) [])))) t = some (.ins T.C_Timed dx (putF "now" (.int 0) (putF "given" (.int 0) (putF "outer" (.ref o) [])))) := upd_same
    have k5 : Kp [t] H (upd H4 t (.ins T.C_Timed dx (putF "now" (.int 0) (putF "given" (.int 0) (putF "outer" (.ref o) []))))) := kp_up memA k4
    replace eo := (kp_up (o := .ins T.C_Timed dx (putF "now" (.int 0) (putF "given" (.int 0) (putF "outer" (.ref o) [])))) memA (kp_refl [t] H4)).at_ _ _ eo (not_cons nto.symm not_nil)
    replace ec := (kp_up (o := .ins T.C_Timed dx (putF "now" (.int 0) (putF "given" (.int 0) (putF "outer" (.ref o) [])))) memA (kp_refl [t] H4)).at_ _ _ ec (not_cons ntc.symm not_nil)
    replace el := (kp_up (o := .ins T.C_Timed dx (putF "now" (.int 0) (putF "given" (.int 0) (putF "outer" (.ref o) [])))) memA (kp_refl [t] H4)).at_ _ _ el (not_cons ntl.symm not_nil)
    replace ed := (kp_up (o := .ins T.C_Timed dx (putF "now" (.int 0) (putF "given" (.int 0) (putF "outer" (.ref o) [])))) memA (kp_refl [t] H4)).at_ _ _ ed (not_cons ntd.symm not_nil)
    generalize upd H4 t (.ins T.C_Timed dx (putF "now" (.int 0) (putF "given" (.int 0) (putF "outer" (.ref o) [])))) = H5 at u5 k5 eo ec el ed ⊢
    intro hd nhd
    have fhd := Fr.mk nhd
    have ghd : Fr H hd := fr_kp k5 (mu_ins u5 mu_nil) fhd
    have nthd : t ≠ hd := ne_of_none ht ghd.h
    have sn5 : Same H5 (upd H5 hd (.dK [])) := same_newF fhd
    have ehd : upd H5 hd (.dK []) hd = some (.dK []) := upd_same
    have kn5 : Kp [t] H (upd H5 hd (.dK [])) := kp_new fhd k5
    replace eo := sn5 _ _ eo
    replace ec := sn5 _ _ ec
    replace el := sn5 _ _ el
    replace ed := sn5 _ _ ed
    replace u5 := sn5 _ _ u5
    generalize upd H5 hd (.dK []) = N5 at sn5 ehd kn5 u5 eo ec el ed ⊢
    refine ⟨_, rfl, t, _, dx, _, rfl, u5, T.cl_Timed, T.n_Timed_held, (show 3 < 1000 by decide), ?_⟩
    have u6 : upd N5 t (.ins T.C_Timed dx (putF "held" (.ref hd) (putF "now" (.int 0) (putF "given" (.int 0) (putF "outer" (.ref o) []))))) t = some (.ins T.C_Timed dx (putF "held" (.ref hd) (putF "now" (.int 0) (putF "given" (.int 0) (putF "outer" (.ref o) []))))) := upd_same
    have k6 : Kp [t] H (upd N5 t (.ins T.C_Timed dx (putF "held" (.ref hd) (putF "now" (.int 0) (putF "given" (.int 0) (putF "outer" (.ref o) [])))))) := kp_up memA kn5
    replace eo := (kp_up (o := .ins T.C_Timed dx (putF "held" (.ref hd) (putF "now" (.int 0) (putF "given" (.int 0) (putF "outer" (.ref o) []))))) memA (kp_refl [t] N5)).at_ _ _ eo (not_cons nto.symm not_nil)
    replace ec := (kp_up (o := .ins T.C_Timed dx (putF "held" (.ref hd) (putF "now" (.int 0) (putF "given" (.int 0) (putF "outer" (.ref o) []))))) memA (kp_refl [t] N5)).at_ _ _ ec (not_cons ntc.symm not_nil)
    replace el := (kp_up (o := .ins T.C_Timed dx (putF "held" (.ref hd) (putF "now" (.int 0) (putF "given" (.int 0) (putF "outer" (.ref o) []))))) memA (kp_refl [t] N5)).at_ _ _ el (not_cons ntl.symm not_nil)
    replace ed := (kp_up (o := .ins T.C_Timed dx (putF "held" (.ref hd) (putF "now" (.int 0) (putF "given" (.int 0) (putF "outer" (.ref o) []))))) memA (kp_refl [t] N5)).at_ _ _ ed (not_cons ntd.symm not_nil)
    replace ehd := (kp_up (o := .ins T.C_Timed dx (putF "held" (.ref hd) (putF "now" (.int 0) (putF "given" (.int 0) (putF "outer" (.ref o) []))))) memA (kp_refl [t] N5)).at_ _ _ ehd (not_cons nthd.symm not_nil)
    generalize upd N5 t (.ins T.C_Timed dx (putF "held" (.ref hd) (putF "now" (.int 0) (putF "given" (.int 0) (putF "outer" (.ref o) []))))) = H6 at u6 k6 eo ec el ed ehd ⊢
    intro lm nlm
    have nhdlm : hd ≠ lm := ne_of_none ehd nlm
    have flm := Fr.mk nlm
    have glm : Fr H lm := fr_kp k6 (mu_ins u6 mu_nil) flm
    have ntlm : t ≠ lm := ne_of_none ht glm.h
    have sn6 : Same H6 (upd H6 lm (.dK [])) := same_newF flm
    have elm : upd H6 lm (.dK []) lm = some (.dK []) := upd_same
    have kn6 : Kp [t] H (upd H6 lm (.dK [])) := kp_new flm k6
    replace eo := sn6 _ _ eo
    replace ec := sn6 _ _ ec
    replace el := sn6 _ _ el
    replace ed := sn6 _ _ ed
    replace ehd := sn6 _ _ ehd
    replace u6 := sn6 _ _ u6
    generalize upd H6 lm (.dK []) = N6 at sn6 elm kn6 u6 eo ec el ed ehd ⊢
    refine ⟨_, rfl, t, _, dx, _, rfl, u6, T.cl_Timed, T.n_Timed_limits, (show 4 < 1000 by decide), ?_⟩
    have u7 : upd N6 t (.ins T.C_Timed dx (putF "limits" (.ref lm) (putF "held" (.ref hd) (putF "now" (.int 0) (putF "given" (.int 0) (putF "outer" (.ref o) [])))))) t = some (.ins T.C_Timed dx (putF "limits" (.ref lm) (putF "held" (.ref hd) (putF "now" (.int 0) (putF "given" (.int 0) (putF "outer" (.ref o) [])))))) := upd_same
    have k7 : Kp [t] H (upd N6 t (.ins T.C_Timed dx (putF "limits" (.ref lm) (putF "held" (.ref hd) (putF "now" (.int 0) (putF "given" (.int 0) (putF "outer" (.ref o) []))))))) := kp_up memA kn6
    replace eo := (kp_up (o := .ins T.C_Timed dx (putF "limits" (.ref lm) (putF "held" (.ref hd) (putF "now" (.int 0) (putF "given" (.int 0) (putF "outer" (.ref o) [])))))) memA (kp_refl [t] N6)).at_ _ _ eo (not_cons nto.symm not_nil)
    replace ec := (kp_up (o := .ins T.C_Timed dx (putF "limits" (.ref lm) (putF "held" (.ref hd) (putF "now" (.int 0) (putF "given" (.int 0) (putF "outer" (.ref o) [])))))) memA (kp_refl [t] N6)).at_ _ _ ec (not_cons ntc.symm not_nil)
    replace el := (kp_up (o := .ins T.C_Timed dx (putF "limits" (.ref lm) (putF "held" (.ref hd) (putF "now" (.int 0) (putF "given" (.int 0) (putF "outer" (.ref o) [])))))) memA (kp_refl [t] N6)).at_ _ _ el (not_cons ntl.symm not_nil)
    replace ed := (kp_up (o := .ins T.C_Timed dx (putF "limits" (.ref lm) (putF "held" (.ref hd) (putF "now" (.int 0) (putF "given" (.int 0) (putF "outer" (.ref o) [])))))) memA (kp_refl [t] N6)).at_ _ _ ed (not_cons ntd.symm not_nil)
    replace ehd := (kp_up (o := .ins T.C_Timed dx (putF "limits" (.ref lm) (putF "held" (.ref hd) (putF "now" (.int 0) (putF "given" (.int 0) (putF "outer" (.ref o) [])))))) memA (kp_refl [t] N6)).at_ _ _ ehd (not_cons nthd.symm not_nil)
    replace elm := (kp_up (o := .ins T.C_Timed dx (putF "limits" (.ref lm) (putF "held" (.ref hd) (putF "now" (.int 0) (putF "given" (.int 0) (putF "outer" (.ref o) [])))))) memA (kp_refl [t] N6)).at_ _ _ elm (not_cons ntlm.symm not_nil)
    generalize upd N6 t (.ins T.C_Timed dx (putF "limits" (.ref lm) (putF "held" (.ref hd) (putF "now" (.int 0) (putF "given" (.int 0) (putF "outer" (.ref o) [])))))) = H7 at u7 k7 eo ec el ed ehd elm ⊢
    intro en nen
    have nhden : hd ≠ en := ne_of_none ehd nen
    have nlmen : lm ≠ en := ne_of_none elm nen
    have fen := Fr.mk nen
    have gen : Fr H en := fr_kp k7 (mu_ins u7 mu_nil) fen
    have nten : t ≠ en := ne_of_none ht gen.h
    have sn7 : Same H7 (upd H7 en (.dK [])) := same_newF fen
    have een : upd H7 en (.dK []) en = some (.dK []) := upd_same
    have kn7 : Kp [t] H (upd H7 en (.dK [])) := kp_new fen k7
    replace eo := sn7 _ _ eo
    replace ec := sn7 _ _ ec
    replace el := sn7 _ _ el
    replace ed := sn7 _ _ ed
    replace ehd := sn7 _ _ ehd
    replace elm := sn7 _ _ elm
    replace u7 := sn7 _ _ u7
    generalize upd H7 en (.dK []) = N7 at sn7 een kn7 u7 eo ec el ed ehd elm ⊢
    refine ⟨_, rfl, t, _, dx, _, rfl, u7, T.cl_Timed, T.n_Timed_ends, (show 5 < 1000 by decide), ?_⟩
    have u8 : upd N7 t (.ins T.C_Timed dx (putF "ends" (.ref en) (putF "limits" (.ref lm) (putF "held" (.ref hd) (putF "now" (.int 0) (putF "given" (.int 0) (putF "outer" (.ref o) []))))))) t = some (.ins T.C_Timed dx (putF "ends" (.ref en) (putF "limits" (.ref lm) (putF "held" (.ref hd) (putF "now" (.int 0) (putF "given" (.int 0) (putF "outer" (.ref o) []))))))) := upd_same
    have k8 : Kp [t] H (upd N7 t (.ins T.C_Timed dx (putF "ends" (.ref en) (putF "limits" (.ref lm) (putF "held" (.ref hd) (putF "now" (.int 0) (putF "given" (.int 0) (putF "outer" (.ref o) [])))))))) := kp_up memA kn7
    replace eo := (kp_up (o := .ins T.C_Timed dx (putF "ends" (.ref en) (putF "limits" (.ref lm) (putF "held" (.ref hd) (putF "now" (.int 0) (putF "given" (.int 0) (putF "outer" (.ref o) []))))))) memA (kp_refl [t] N7)).at_ _ _ eo (not_cons nto.symm not_nil)
    replace ec := (kp_up (o := .ins T.C_Timed dx (putF "ends" (.ref en) (putF "limits" (.ref lm) (putF "held" (.ref hd) (putF "now" (.int 0) (putF "given" (.int 0) (putF "outer" (.ref o) []))))))) memA (kp_refl [t] N7)).at_ _ _ ec (not_cons ntc.symm not_nil)
    replace el := (kp_up (o := .ins T.C_Timed dx (putF "ends" (.ref en) (putF "limits" (.ref lm) (putF "held" (.ref hd) (putF "now" (.int 0) (putF "given" (.int 0) (putF "outer" (.ref o) []))))))) memA (kp_refl [t] N7)).at_ _ _ el (not_cons ntl.symm not_nil)
    replace ed := (kp_up (o := .ins T.C_Timed dx (putF "ends" (.ref en) (putF "limits" (.ref lm) (putF "held" (.ref hd) (putF "now" (.int 0) (putF "given" (.int 0) (putF "outer" (.ref o) []))))))) memA (kp_refl [t] N7)).at_ _ _ ed (not_cons ntd.symm not_nil)
    replace ehd := (kp_up (o := .ins T.C_Timed dx (putF "ends" (.ref en) (putF "limits" (.ref lm) (putF "held" (.ref hd) (putF "now" (.int 0) (putF "given" (.int 0) (putF "outer" (.ref o) []))))))) memA (kp_refl [t] N7)).at_ _ _ ehd (not_cons nthd.symm not_nil)
    replace elm := (kp_up (o := .ins T.C_Timed dx (putF "ends" (.ref en) (putF "limits" (.ref lm) (putF "held" (.ref hd) (putF "now" (.int 0) (putF "given" (.int 0) (putF "outer" (.ref o) []))))))) memA (kp_refl [t] N7)).at_ _ _ elm (not_cons ntlm.symm not_nil)
    replace een := (kp_up (o := .ins T.C_Timed dx (putF "ends" (.ref en) (putF "limits" (.ref lm) (putF "held" (.ref hd) (putF "now" (.int 0) (putF "given" (.int 0) (putF "outer" (.ref o) []))))))) memA (kp_refl [t] N7)).at_ _ _ een (not_cons nten.symm not_nil)
    generalize upd N7 t (.ins T.C_Timed dx (putF "ends" (.ref en) (putF "limits" (.ref lm) (putF "held" (.ref hd) (putF "now" (.int 0) (putF "given" (.int 0) (putF "outer" (.ref o) []))))))) = H8 at u8 k8 eo ec el ed ehd elm een ⊢
    refine q o c l od lm en hd _ fo' fc0 fl0 fd0 glm gen ghd k8 nlod nlmen nhdlm nhden noc u8 ⟨d3, eo⟩ ⟨d4, ec⟩ el ed ehd elm een
end
end Ob

set_option Elab.async false
set_option linter.all false
set_option maxRecDepth 100000
set_option maxHeartbeats 1000000
namespace Ob
open PySem PySem.Spec PyProof.Rows L2
open LamX (Tabs TabB TabS ExtN)

set_option hygiene false in
local macro_rules
  | `(tactic| kp_flats) => `(tactic| first
    | assumption
    | exact upd_same
    | (apply atNew; assumption; kp_flats)
    | (apply atNe; (next => kbo_bools); kp_flats)
    | (apply atSame; assumption; kp_flats)
    | (apply atKp; assumption; (next => kaf_pre); kp_flats))
set_option hygiene false in
local macro_rules
  | `(tactic| kaf_pre) => `(tactic| first
    | assumption
    | exact not_nil
    | (apply not_cons; (next => kbo_bools); kaf_pre)
    | (apply not_app; (next => kaf_pre); kaf_pre))
set_option hygiene false in
local macro_rules
  | `(tactic| kbo_bools) => `(tactic| first
    | assumption
    | (apply Ne.symm; assumption)
    | (apply neN; assumption; kp_flats)
    | (apply neN'; assumption; kp_flats))
set_option hygiene false in
local macro_rules
  | `(tactic| o_reads) => `(tactic| first
    | with_reducible rfl
    | assumption
    | rfl
    | kp_flats
    | (show SqL _ _ _ _; first | assumption | (apply sqlOf; kp_flats) | (apply sqlSame; assumption; o_reads))
    | (show SqT _ _ _ _; first | assumption | (apply sqtOf; kp_flats) | (apply sqtAll; assumption) | (apply sqtSame; assumption; o_reads))
    | (show Cls _ _; first | exact T.cl_Calls | exact T.cl_Outer | exact T.cl_Timed)
    | (show NoAttr _ _ _; first | exact T.n_Calls_entries | exact T.n_Calls_running | exact T.n_Outer_calls | exact T.n_Outer_push_call | exact T.n_Outer_pop_call | exact T.n_Outer_ask_call | exact T.n_Outer_order | exact T.n_Outer_broken | exact T.n_Timed_outer | exact T.n_Timed_given | exact T.n_Timed_now | exact T.n_Timed_held | exact T.n_Timed_limits | exact T.n_Timed_ends)
    | (apply Or.inl; o_reads)
    | (apply Or.inr; o_reads)
    | (apply And.intro; (next => o_reads); o_reads)
    | (apply Exists.intro; o_reads)
    | exact Nat.le_of_ble_eq_true rfl
    | exact Nat.succ_ne_zero _
    | (show Fr _ _; kba_ints)
    | (show Same _ _; kd_subs)
    | (show Kp _ _ _; kxs_still)
    | (show (_ : Nat) ≤ _; simp only [List.length_append, List.length_map, List.length_cons, List.length_nil, List.length_take, List.length_drop, List.length_replicate, List.length_range, sizeLine_eq]; omega)
    | (show _ = none; apply Fr.h; kba_ints)
    | (show Bag _ _; first | assumption | (apply bag_putF; assumption; o_reads) | (apply bag_neF; (next => kbo_bools); o_reads) | (apply bag_kpR; assumption; (next => kaf_pre); o_reads))
    | omega
    | decide)
local macro_rules
  | `(tactic| o_readsAll) => `(tactic| repeat (first
    | (refine fun (pNew : Addr) (nNew : _ = none) => ?_; replace nNew := Fr.mk nNew)
    | (refine fun (xNew dNew : Addr) (nNew : _ = none) (mNew : _ = none) (eNew : dNew ≠ xNew) => ?_; replace nNew := Fr.mk nNew; replace mNew := Fr.mk mNew)
    | (apply And.intro; next => o_reads)
    | apply Exists.intro (α := V)
    | apply Exists.intro (α := Addr)
    | apply Exists.intro (α := Int)
    | apply Exists.intro (α := Bool)
    | apply Exists.intro (α := List V)
    | apply Exists.intro (α := List Nat)
    | apply Exists.intro (α := List (Str × V))
    | apply Exists.intro (α := List _)
    | apply Exists.intro (α := Str)
    | apply Exists.intro (α := HO)
    | apply Exists.intro (α := Sp)
    | apply Exists.intro (α := VK)))
set_option hygiene false in
local macro_rules
  | `(tactic| kba_ints) => `(tactic| first
    | assumption
    | (apply frUp; (first | assumption | (apply Ne.symm; assumption)); kba_ints)
    | (apply noneOf; assumption; intro oF eF; apply Exists.intro; kp_flats)
    | (apply frUp; (next => kbo_bools); kba_ints))
set_option hygiene false in
local macro_rules
  | `(tactic| kxs_still) => `(tactic| first
    | assumption
    | exact kp_refl _ _
    | (apply kp_newF; assumption; kxs_still)
    | (apply kp_new; assumption; kxs_still)
    | (apply kp_up; (next => o_fieldsN); kxs_still)
    | (apply kp_new; (next => kba_ints); kxs_still)
    | (apply kp_sameR; assumption; kxs_still)
    | (apply kp_transR; assumption; kxs_still)
    | (apply kp_freshR; assumption; (next => kaf_suf); kxs_still))
set_option hygiene false in
local macro_rules
  | `(tactic| kaf_suf) => `(tactic| first
    | assumption
    | exact subNil
    | (apply subCons; (first | (apply Or.inl; o_fieldsN) | (apply Or.inr; kba_ints)); kaf_suf)
    | (apply subApp; (next => kaf_suf); kaf_suf))
set_option hygiene false in
local macro_rules
  | `(tactic| o_fieldsN) => `(tactic| first
    | assumption
    | exact memA
    | (apply memB; o_fieldsN)
    | (apply memL; o_fieldsN)
    | (apply memR; o_fieldsN))
set_option hygiene false in
local macro_rules
  | `(tactic| kd_subs) => `(tactic| first
    | assumption
    | exact Same.refl _
    | (apply same_putF; assumption; kd_subs)
    | (apply same_putG; assumption; kd_subs)
    | (apply same_putF; (next => kba_ints); kd_subs)
    | (apply same_transR; assumption; kd_subs))

set_option pp.maxSteps 900
section
variable {P : Program} {w : World} {K : PySem.W.Frag} {mg : Str → Option Value} {base : Heap} {n : Nat}
def spUnt : Sp := fun vs H Q _ => ∃ (u c : Nat), vs = [.int (u : Int), .int (c : Int)] ∧ c < u ∧ u ≤ 1000000000 ∧ Q .non H
theorem ok_unt (T : Txt K mg) : FnOk P w K mg base CX0 4 T.f_check_until T.d_check_until ["until", "clock"] spUnt := by
  have G_check_integer := ok_cki (P := P) (w := w) (base := base) T
  refine T.F_check_until.ok sc_check_until (fun vs H Q E h => ?_) (fun cdv A outer s H vs Q E hr h => ?_)
  · obtain ⟨u, c, rfl, _⟩ := h
    rfl
  · obtain ⟨u, c, rfl, hc, hu, q⟩ := h
    refine ⟨_, (pss_cons (ps_expr (pe_call G_check_integer (hr.mono (by omega)) rfl T.g_check_integer T.F_check_integer.kp T.b_check_integer .nil pass0 (pa_cons (pv 0) pa_nil)))
      (pss_one (ps_if (PW.pt (pw_or (pt_cmpR op_le (pv 0) (pv 1) (nomark _)) (pw_or1 (pt_cmpR op_gt (pv 0) (ClX.pe_cval (pe_glob (v := .ref T.C_Timed) rfl T.gc_Timed rfl)) (nomark _))))) pss_never pss_nil))), ?_⟩
    refine ⟨_, rfl, (u : Int), rfl, ?_⟩
    dsimp only []
    refine pIf (pOr (pTest (pOp ?_)))
    refine ⟨_, rfl, _, rfl, _, _, rfl, rfl, _, rfl, ifF (decide_eq_false (by omega)) ?_⟩
    refine pTest (pOp ?_)
    refine ⟨_, rfl, _, _, _, _, rfl, T.cr_Timed, T.cv_LAST, _, _, rfl, rfl, _, rfl, ifF (decide_eq_false (by omega)) (pNx q)⟩
theorem kb_add {K : PySem.W.Frag} {f : Addr} {fd : FuncData} (F : Fun K "add" "Timed.add" s_Timed_add f fd) :
    KBn K fd ["self", "member", "until"] 2 ["until"] (fun us ws => us ++ ws) (fun vs zs => vs ++ zs) := by
  obtain ⟨oc, od, kV, doc, pm, an, cdv, ct, osl, rfl, lk, hcd⟩ := F.ex
  exact ⟨fun s us ws X l1 l2 => match us, ws, l1, l2 with | [a, b], [c], _, _ => .of_eq rfl, fun r q => r.append q⟩
end
end Ob

set_option Elab.async false
set_option linter.all false
set_option maxRecDepth 100000
set_option maxHeartbeats 1000000
namespace Ob
open PySem PySem.Spec PyProof.Rows L2
open LamX (Tabs TabB TabS ExtN)

set_option hygiene false in
local macro_rules
  | `(tactic| kp_flats) => `(tactic| first
    | assumption
    | exact upd_same
    | (apply atNew; assumption; kp_flats)
    | (apply atNe; (next => kbo_bools); kp_flats)
    | (apply atSame; assumption; kp_flats)
    | (apply atKp; assumption; (next => kaf_pre); kp_flats))
set_option hygiene false in
local macro_rules
  | `(tactic| kaf_pre) => `(tactic| first
    | assumption
    | exact not_nil
    | (apply not_cons; (next => kbo_bools); kaf_pre)
    | (apply not_app; (next => kaf_pre); kaf_pre))
set_option hygiene false in
local macro_rules
  | `(tactic| kbo_bools) => `(tactic| first
    | assumption
    | (apply Ne.symm; assumption)
    | (apply neN; assumption; kp_flats)
    | (apply neN'; assumption; kp_flats))
set_option hygiene false in
local macro_rules
  | `(tactic| o_reads) => `(tactic| first
    | with_reducible rfl
    | assumption
    | rfl
    | kp_flats
    | (show SqL _ _ _ _; first | assumption | (apply sqlOf; kp_flats) | (apply sqlSame; assumption; o_reads))
    | (show SqT _ _ _ _; first | assumption | (apply sqtOf; kp_flats) | (apply sqtAll; assumption) | (apply sqtSame; assumption; o_reads))
    | (show Cls _ _; first | exact T.cl_Calls | exact T.cl_Outer | exact T.cl_Timed)
    | (show NoAttr _ _ _; first | exact T.n_Calls_entries | exact T.n_Calls_running | exact T.n_Outer_calls | exact T.n_Outer_push_call | exact T.n_Outer_pop_call | exact T.n_Outer_ask_call | exact T.n_Outer_order | exact T.n_Outer_broken | exact T.n_Timed_outer | exact T.n_Timed_given | exact T.n_Timed_now | exact T.n_Timed_held | exact T.n_Timed_limits | exact T.n_Timed_ends)
    | (apply Or.inl; o_reads)
    | (apply Or.inr; o_reads)
    | (apply And.intro; (next => o_reads); o_reads)
    | (apply Exists.intro; o_reads)
    | exact Nat.le_of_ble_eq_true rfl
    | exact Nat.succ_ne_zero _
    | (show Fr _ _; kba_ints)
    | (show Same _ _; kd_subs)
    | (show Kp _ _ _; kxs_still)
    | (show (_ : Nat) ≤ _; simp only [List.length_append, List.length_map, List.length_cons, List.length_nil, List.length_take, List.length_drop, List.length_replicate, List.length_range, sizeLine_eq]; omega)
    | (show _ = none; apply Fr.h; kba_ints)
    | (show Bag _ _; first | assumption | (apply bag_putF; assumption; o_reads) | (apply bag_neF; (next => kbo_bools); o_reads) | (apply bag_kpR; assumption; (next => kaf_pre); o_reads))
    | omega
    | decide)
local macro_rules
  | `(tactic| o_readsAll) => `(tactic| repeat (first
    | (refine fun (pNew : Addr) (nNew : _ = none) => ?_; replace nNew := Fr.mk nNew)
    | (refine fun (xNew dNew : Addr) (nNew : _ = none) (mNew : _ = none) (eNew : dNew ≠ xNew) => ?_; replace nNew := Fr.mk nNew; replace mNew := Fr.mk mNew)
    | (apply And.intro; next => o_reads)
    | apply Exists.intro (α := V)
    | apply Exists.intro (α := Addr)
    | apply Exists.intro (α := Int)
    | apply Exists.intro (α := Bool)
    | apply Exists.intro (α := List V)
    | apply Exists.intro (α := List Nat)
    | apply Exists.intro (α := List (Str × V))
    | apply Exists.intro (α := List _)
    | apply Exists.intro (α := Str)
    | apply Exists.intro (α := HO)
    | apply Exists.intro (α := Sp)
    | apply Exists.intro (α := VK)))
set_option hygiene false in
local macro_rules
  | `(tactic| kba_ints) => `(tactic| first
    | assumption
    | (apply frUp; (first | assumption | (apply Ne.symm; assumption)); kba_ints)
    | (apply noneOf; assumption; intro oF eF; apply Exists.intro; kp_flats)
    | (apply frUp; (next => kbo_bools); kba_ints))
set_option hygiene false in
local macro_rules
  | `(tactic| kxs_still) => `(tactic| first
    | assumption
    | exact kp_refl _ _
    | (apply kp_newF; assumption; kxs_still)
    | (apply kp_new; assumption; kxs_still)
    | (apply kp_up; (next => o_fieldsN); kxs_still)
    | (apply kp_new; (next => kba_ints); kxs_still)
    | (apply kp_sameR; assumption; kxs_still)
    | (apply kp_transR; assumption; kxs_still)
    | (apply kp_freshR; assumption; (next => kaf_suf); kxs_still))
set_option hygiene false in
local macro_rules
  | `(tactic| kaf_suf) => `(tactic| first
    | assumption
    | exact subNil
    | (apply subCons; (first | (apply Or.inl; o_fieldsN) | (apply Or.inr; kba_ints)); kaf_suf)
    | (apply subApp; (next => kaf_suf); kaf_suf))
set_option hygiene false in
local macro_rules
  | `(tactic| o_fieldsN) => `(tactic| first
    | assumption
    | exact memA
    | (apply memB; o_fieldsN)
    | (apply memL; o_fieldsN)
    | (apply memR; o_fieldsN))
set_option hygiene false in
local macro_rules
  | `(tactic| kd_subs) => `(tactic| first
    | assumption
    | exact Same.refl _
    | (apply same_putF; assumption; kd_subs)
    | (apply same_putG; assumption; kd_subs)
    | (apply same_putF; (next => kba_ints); kd_subs)
    | (apply same_transR; assumption; kd_subs))

set_option pp.maxSteps 900
theorem dM_len {M : List Nat} {f : Nat → V} : (dM M f).length = M.length := List.length_map ..
section
variable {P : Program} {w : World} {K : PySem.W.Frag} {mg : Str → Option Value} {base : Heap} {n : Nat}
def spTAdd (P : Program) (w : World) (K : PySem.W.Frag) (mg : Str → Option Value) (base : Heap) (CT C CC : Addr) (n : Nat) : Sp := fun vs H Q _ => ∃ (t o c l lm en : Addr) (fp fo fa m : V) (uv : List Addr) (PM : Nat → V → Prop) (PQ : V → Prop) (R : List Ca → Hp → Prop) (An : List Ca → V → V → Hp → Prop) (tr : List Ca) (given now u : Nat) (M : List Nat) (mb : Nat → V) (lim ends : Nat → Nat),
  vs = [.ref t, m, .int (u : Int)] ∧ OS P w K mg base n uv fp fo fa PM PQ R An ∧ TmAt CT C CC H t o c l lm en fp fo fa uv PM R tr given now M mb lim ends ∧ PM given m ∧ now < u ∧ u ≤ 1000000000 ∧ tr.length < 400000 ∧ M.length < 400000 ∧
  ∀ H', Kp (t :: lm :: en :: o :: c :: l :: uv) H H' → TmAt CT C CC H' t o c l lm en fp fo fa uv PM R (tr ++ [.push given m]) (given + 1) now (M ++ [given]) (fun x => if x = given then m else mb x) (fun x => if x = given then u else lim x) (fun x => if x = given then now + 1 else ends x) → Q (.int (given : Int)) H'
theorem ok_tadd (T : Txt K mg) : FnOk P w K mg base CX0 (n + 12) T.f_Timed_add T.d_Timed_add ["self", "member", "until"] (spTAdd P w K mg base T.C_Timed T.C_Outer T.C_Calls n) := by
  have G_Outer_check := ok_oc (P := P) (w := w) (base := base) T
  have G_check_until := ok_unt (P := P) (w := w) (base := base) T
  have G_Outer_change := ok_change (P := P) (w := w) (base := base) (n := n) T
  refine T.F_Timed_add.ok sc_Timed_add (fun vs H Q E h => ?_) (fun cdv A outer s H vs Q E hr h => ?_)
  · obtain ⟨t, o, c, l, lm, en, fp, fo, fa, m, uv, PM, PQ, R, An, tr, given, now, u, M, mb, lim, ends, rfl, _⟩ := h
    rfl
  · obtain ⟨t, o, c, l, lm, en, fp, fo, fa, m, uv, PM, PQ, R, An, tr, given, now, u, M, mb, lim, ends, rfl, OA, hT, hPM, hu1, hu2, htl, hML, q⟩ := h
    refine ⟨_, (pss_cons (ps_expr (pe_meth0 (pe_fld (pv 0) rfl) T.cl_Outer ⟨T.m_Outer_check, T.t_Outer_check, T.k_Outer_check⟩ G_Outer_check (hr.mono (by omega)) T.b_Outer_check .nil pass0))
      (pss_cons (ps_expr (pe_call G_check_until (hr.mono (by omega)) rfl T.g_check_until T.F_check_until.kp T.b_check_until .nil pass0 (pa_cons (pv 2) (pa_cons (pe_fld (pv 0) rfl) pa_nil))))
      (pss_cons (ps_set (i := 3) sc_Timed_add.nd rfl (.inl rfl) (pe_fld (pv 0) rfl))
      (pss_cons (ps_set (i := 4) sc_Timed_add.nd rfl (.inl rfl) (Inf.pe_dstar (pe_fld (pv 0) rfl) (pv 3) (pv 1)))
      (pss_cons (ps_expr (pe_meth (pe_fld (pv 0) rfl) T.cl_Outer ⟨T.m_Outer_change, T.t_Outer_change, T.k_Outer_change⟩ G_Outer_change (hr.mono (by omega)) T.b_Outer_change .nil pass0 (pa_cons (pe_lst (pa_cons (pe_tup (pa_cons pe_str (pa_cons (pv 3) pa_nil))) pa_nil)) (pa_cons (pv 4) pa_nil))))
      (pss_cons (ps_fld (pv 0) (pv 4) rfl)
      (pss_cons (ps_dput (hu_of hr) (pe_fld (pv 0) rfl) (pv 3) (pe_callTy call_int1 (by rfl) T.z_int (by decide +kernel) (pa_cons (pv 2) pa_nil)) rfl)
      (pss_cons (ps_dput (hu_of hr) (pe_fld (pv 0) rfl) (pv 3) (pe_op op_add (pe_fld (pv 0) rfl) pe_int) rfl)
      (pss_cons (ps_fld (pv 0) (pe_op op_add (pv 3) pe_int) rfl)
      (pss_one (ps_ret (pv 3)))))))))))), ?_⟩
    obtain ⟨⟨dx, hd, ht, hhd, nhd⟩, ⟨od, hO⟩, hlm, hen, hti, hgv, ⟨nto, ntc⟩, nle, nuv⟩ := id hT
    obtain ⟨⟨d1, ho⟩, ⟨d2, hc⟩, ⟨xs, hl, hlg⟩, hod, hR, nlod, noc, nu⟩ := id hO
    refine ⟨_, rfl, t, _, dx, _, _, rfl, ht, T.cl_Timed, T.n_Timed_outer, rfl, o, d1, _, rfl, ho, rfl, o, c, l, od, fp, fo, fa, rfl, ⟨d1, ho⟩, ⟨d2, hc⟩, ?_⟩
    refine ⟨_, rfl, _, rfl, t, _, dx, _, _, rfl, ht, T.cl_Timed, T.n_Timed_now, rfl, u, now, rfl, hu1, hu2, ?_⟩
    refine ⟨_, rfl, t, _, dx, _, _, rfl, ht, T.cl_Timed, T.n_Timed_given, rfl, pGN ?_⟩
    simp only [List.set_cons_succ, List.set_cons_zero]
    intro p np
    have fp' := Fr.mk np
    have npt : t ≠ p := ne_of_none ht np
    have nph : hd ≠ p := ne_of_none hhd np
    refine ⟨_, rfl, t, _, dx, _, .ref hd, rfl, atNe npt ht, T.cl_Timed, T.n_Timed_held, rfl, hd, _, rfl, nph, upd_same, .inl (atNe nph hhd), by rw [dM_len, sizeLine_eq]; omega, fun b2 nb2 => ⟨_, rfl, _, rfl, .inl (given : Int), m, rfl, ?_⟩⟩
    have npb : p ≠ b2 := ne_of_none (H := upd (upd H p (.dK [])) p (.dK (dM M mb))) upd_same nb2
    refine ⟨npb, atNe npb upd_same, upd_same, ?_⟩
    have hgn : given ∉ M := fun z => Nat.lt_irrefl _ (hgv given z).1
    rw [dM_new hgn]
    have s1 : Same H (upd (upd (upd (upd (upd H p (.dK [])) p (.dK (dM M mb))) b2 (.dK [])) b2 (.dK [(Sum.inl (given : Int), m)])) p (.dK (dM (M ++ [given]) fun x => if x = given then m else mb x))) := fun b o e => by
      have n1 := ne_of_none e np
      have e2 : upd (upd H p (.dK [])) p (.dK (dM M mb)) b = some o := by
        rw [upd_ne n1, upd_ne n1]
        exact e
      have n2 := ne_of_none e2 nb2
      rw [upd_ne n1, upd_ne n2, upd_ne n2]
      exact e2
    have ep : upd (upd (upd (upd (upd H p (.dK [])) p (.dK (dM M mb))) b2 (.dK [])) b2 (.dK [(Sum.inl (given : Int), m)])) p (.dK (dM (M ++ [given]) fun x => if x = given then m else mb x)) p = some (.dK (dM (M ++ [given]) fun x => if x = given then m else mb x)) := upd_same
    generalize upd (upd (upd (upd (upd H p (.dK [])) p (.dK (dM M mb))) b2 (.dK [])) b2 (.dK [(Sum.inl (given : Int), m)])) p (.dK (dM (M ++ [given]) fun x => if x = given then m else mb x)) = H2 at s1 ep ⊢
    refine pGN ?_
    simp only [List.set_cons_succ, List.set_cons_zero]
    refine ⟨_, rfl, t, _, dx, _, _, rfl, s1 _ _ ht, T.cl_Timed, T.n_Timed_outer, rfl, o, d1, _, rfl, s1 _ _ ho, rfl, _, rfl, le2, fun ta nta => ⟨(by decide : 1 ≤ sizeLine), fun la nla => ⟨_, rfl, ?_⟩⟩⟩
    have s2 := same_newF (o := .tup [.str "push", .int (given : Int)]) (Fr.mk nta)
    have s3 := same_newF (o := .lst [.ref ta]) (Fr.mk nla)
    have eta : upd (upd H2 ta (.tup [.str "push", .int (given : Int)])) la (.lst [.ref ta]) ta = some (.tup [.str "push", .int (given : Int)]) := atNew (Fr.mk nla) upd_same
    have ela : upd (upd H2 ta (.tup [.str "push", .int (given : Int)])) la (.lst [.ref ta]) la = some (.lst [.ref ta]) := upd_same
    have s5 := s1.trans (s2.trans s3)
    have ep5 := (s2.trans s3) _ _ ep
    have fla : Fr H la := Fr.mk (s1.free (s2.free nla))
    generalize upd (upd H2 ta (.tup [.str "push", .int (given : Int)])) la (.lst [.ref ta]) = H5 at s2 s3 eta ela s5 ep5 ⊢
    have O5 := hO.kp OA (kp_same (cs := []) s5) mu_nil not_nil not_nil not_nil not_nil (fun _ _ => not_nil)
    have hw : WLog H5 [.ref ta] [(("push" : Str), given)] := ⟨rfl, fun q x e a b => by
      match q, a, b with
      | 0, a, b =>
        cases a
        cases b
        exact ⟨ta, rfl, eta⟩
      | q + 1, a, _ => cases q <;> cases a⟩
    have lS : (stC [] tr).length = M.length := hti.pm.length_eq
    have mu0 := OA.mu hR
    have neF : ∀ {a : Addr}, Fr H a → a ≠ o ∧ a ≠ c ∧ a ≠ l ∧ a ∉ uv := fun f => ⟨(ne_of_none ho f.h).symm, (ne_of_none hc f.h).symm, (ne_of_none hl f.h).symm, mu0.fr f⟩
    refine ⟨o, c, l, od, la, p, fp, fo, fa, uv, PM, PQ, R, An, tr, [.ref ta], [(("push" : Str), given)], dM (M ++ [given]) (fun x => if x = given then m else mb x), (fun x => if x = given then m else mb x), rfl, OA, O5, ela, hw, ep5, fun e he _ => ?_, ⟨by rw [if_pos rfl]; exact True.intro, True.intro⟩, by show tr.length + 1 < _; omega, by omega, fun a ha => ?_, fun od2 H6 k6 fod2 O6 => ?_⟩
    · rw [List.mem_singleton.mp he]
      refine ⟨dM_val (List.mem_append.mpr (.inr (List.mem_singleton.mpr rfl))), ?_⟩
      show PM given (if given = given then m else mb given)
      rw [if_pos rfl]
      exact hPM
    · rcases List.mem_cons.mp ha with rfl | ha
      · exact neF fla
      · rw [List.mem_singleton.mp ha]
        exact neF fp'
    have hca : List.map (caOf fun x => if x = given then m else mb x) [(("push" : Str), given)] = [.push given m] := by
      show [caOf _ (("push" : Str), given)] = _
      unfold caOf
      rw [if_pos rfl]
      show [Ca.push given (if given = given then m else mb given)] = _
      rw [if_pos rfl]
    rw [hca] at O6
    have ntl : t ≠ l := neO ht hl (fun z => nomatch z)
    have ut : t ∉ uv := fun z => (nuv t z).1 rfl
    have ulm : lm ∉ uv := fun z => (nuv lm z).2.1 rfl
    have uen : en ∉ uv := fun z => (nuv en z).2.2 rfl
    have nlmU : lm ∉ o :: c :: l :: uv := not_cons (neO hlm ho (fun z => nomatch z)) (not_cons (neO hlm hc (fun z => nomatch z)) (not_cons (neO hlm hl (fun z => nomatch z)) ulm))
    have nenU : en ∉ o :: c :: l :: uv := not_cons (neO hen ho (fun z => nomatch z)) (not_cons (neO hen hc (fun z => nomatch z)) (not_cons (neO hen hl (fun z => nomatch z)) uen))
    have ht6 := k6.at_ _ _ (s5 _ _ ht) (not_cons nto (not_cons ntc (not_cons ntl ut)))
    have hlm6 := k6.at_ _ _ (s5 _ _ hlm) nlmU
    have hen6 := k6.at_ _ _ (s5 _ _ hen) nenU
    have npU : p ∉ o :: c :: l :: uv := by
      obtain ⟨a1, a2, a3, a4⟩ := neF fp'
      exact not_cons a1 (not_cons a2 (not_cons a3 a4))
    have ep6 := k6.at_ _ _ ep5 npU
    have ntlm : t ≠ lm := neO ht hlm (fun z => nomatch z)
    have nten : t ≠ en := neO ht hen (fun z => nomatch z)
    have nplm : p ≠ lm := (ne_of_none hlm np).symm
    have npen : p ≠ en := (ne_of_none hen np).symm
    -- the members
    refine ⟨_, rfl, _, rfl, t, _, dx, _, rfl, ht6, T.cl_Timed, T.n_Timed_held, (show 6 < 1000 by decide), ?_⟩
    have ht7 : upd H6 t (TO T.C_Timed dx o given now p lm en) t = some (TO T.C_Timed dx o given now p lm en) := upd_same
    have k7 : Kp [t, lm, en] H6 (upd H6 t (TO T.C_Timed dx o given now p lm en)) := kp_up memA (kp_refl _ _)
    show tSeq _ _ _ _ (upd H6 t (TO T.C_Timed dx o given now p lm en))
    have hlm7 : upd H6 t (TO T.C_Timed dx o given now p lm en) lm = some (.dK (dM M (iV lim))) := by rw [upd_ne ntlm.symm]; exact hlm6
    have hen7 : upd H6 t (TO T.C_Timed dx o given now p lm en) en = some (.dK (dM M (iV ends))) := by rw [upd_ne nten.symm]; exact hen6
    have ep7 : upd H6 t (TO T.C_Timed dx o given now p lm en) p = some (.dK (dM (M ++ [given]) fun x => if x = given then m else mb x)) := by rw [upd_ne npt.symm]; exact ep6
    generalize upd H6 t (TO T.C_Timed dx o given now p lm en) = H7 at ht7 k7 hlm7 hen7 ep7 ⊢
    have hP := DPut.k (k := .inl (given : Int)) (v := .int (u : Int)) hlm7 (by rw [dM_len, sizeLine_eq]; omega)
    rw [dM_new hgn] at hP
    refine ⟨_, rfl, .inl ⟨_, rfl, _, rfl, t, _, dx, _, _, rfl, ht7, T.cl_Timed, T.n_Timed_limits, rfl, _, rfl, lm, _, rfl, hP, ?_⟩⟩
    have k8 : Kp [t, lm, en] H6 (upd H7 lm (.dK (dM (M ++ [given]) fun x => if x = given then .int (u : Int) else iV lim x))) := kp_up (memB memA) k7
    have hlm8 : upd H7 lm (.dK (dM (M ++ [given]) fun x => if x = given then .int (u : Int) else iV lim x)) lm = some (.dK (dM (M ++ [given]) fun x => if x = given then .int (u : Int) else iV lim x)) := upd_same
    have ht8 : upd H7 lm (.dK (dM (M ++ [given]) fun x => if x = given then .int (u : Int) else iV lim x)) t = some (TO T.C_Timed dx o given now p lm en) := by rw [upd_ne ntlm]; exact ht7
    have hen8 : upd H7 lm (.dK (dM (M ++ [given]) fun x => if x = given then .int (u : Int) else iV lim x)) en = some (.dK (dM M (iV ends))) := by rw [upd_ne nle.symm]; exact hen7
    have ep8 : upd H7 lm (.dK (dM (M ++ [given]) fun x => if x = given then .int (u : Int) else iV lim x)) p = some (.dK (dM (M ++ [given]) fun x => if x = given then m else mb x)) := by rw [upd_ne nplm]; exact ep7
    generalize upd H7 lm (.dK (dM (M ++ [given]) fun x => if x = given then .int (u : Int) else iV lim x)) = H8 at k8 hlm8 ht8 hen8 ep8 ⊢
    have hP := DPut.k (k := .inl (given : Int)) (v := .int ((now : Int) + 1)) hen8 (by rw [dM_len, sizeLine_eq]; omega)
    rw [dM_new hgn] at hP
    refine ⟨_, rfl, t, _, dx, _, _, rfl, ht8, T.cl_Timed, T.n_Timed_now, rfl, _, _, rfl, rfl, _, rfl, t, _, dx, _, _, rfl, ht8, T.cl_Timed, T.n_Timed_ends, rfl, _, rfl, en, _, rfl, hP, ?_⟩
    have k9 : Kp [t, lm, en] H6 (upd H8 en (.dK (dM (M ++ [given]) fun x => if x = given then .int ((now : Int) + 1) else iV ends x))) := kp_up (memB (memB memA)) k8
    have hen9 : upd H8 en (.dK (dM (M ++ [given]) fun x => if x = given then .int ((now : Int) + 1) else iV ends x)) en = some (.dK (dM (M ++ [given]) fun x => if x = given then .int ((now : Int) + 1) else iV ends x)) := upd_same
    have ht9 : upd H8 en (.dK (dM (M ++ [given]) fun x => if x = given then .int ((now : Int) + 1) else iV ends x)) t = some (TO T.C_Timed dx o given now p lm en) := by rw [upd_ne nten]; exact ht8
    have hlm9 : upd H8 en (.dK (dM (M ++ [given]) fun x => if x = given then .int ((now : Int) + 1) else iV ends x)) lm = some (.dK (dM (M ++ [given]) fun x => if x = given then .int (u : Int) else iV lim x)) := by rw [upd_ne nle]; exact hlm8
    have ep9 : upd H8 en (.dK (dM (M ++ [given]) fun x => if x = given then .int ((now : Int) + 1) else iV ends x)) p = some (.dK (dM (M ++ [given]) fun x => if x = given then m else mb x)) := by rw [upd_ne npen]; exact ep8
    generalize upd H8 en (.dK (dM (M ++ [given]) fun x => if x = given then .int ((now : Int) + 1) else iV ends x)) = H9 at k9 hen9 ht9 hlm9 ep9 ⊢
    refine ⟨_, rfl, _, _, rfl, rfl, _, rfl, t, _, dx, _, rfl, ht9, T.cl_Timed, T.n_Timed_given, (show 6 < 1000 by decide), ?_⟩
    have k10 : Kp [t, lm, en] H6 (upd H9 t (TO T.C_Timed dx o (given + 1) now p lm en)) := kp_up memA k9
    have kt : Kp [t] H9 (upd H9 t (TO T.C_Timed dx o (given + 1) now p lm en)) := kp_up memA (kp_refl _ _)
    refine ⟨_, rfl, ?_⟩
    have m6 : Mu H6 [t, lm, en] := mu_ins ht6 (mu_cons hlm6 (fun _ z => nomatch z) (fun _ z => nomatch z) (mu_cons hen6 (fun _ z => nomatch z) (fun _ z => nomatch z) mu_nil))
    have O10 := O6.kp OA k10 m6 (not_cons nto.symm (not_cons (neO ho hlm (fun z => nomatch z)) (not_cons (neO ho hen (fun z => nomatch z)) not_nil))) (not_cons ntc.symm (not_cons (neO hc hlm (fun z => nomatch z)) (not_cons (neO hc hen (fun z => nomatch z)) not_nil))) (not_cons ntl.symm (not_cons (neO hl hlm (fun z => nomatch z)) (not_cons (neO hl hen (fun z => nomatch z)) not_nil))) (not_cons (fun z => ne_of_none (s5 _ _ ht) (Fr.mk (fod2.h)).h (by rw [z])) (not_cons (fun z => ne_of_none (s5 _ _ hlm) fod2.h (by rw [z])) (not_cons (fun z => ne_of_none (s5 _ _ hen) fod2.h (by rw [z])) not_nil))) (fun a m => not_cons (nuv a m).1 (not_cons (nuv a m).2.1 (not_cons (nuv a m).2.2 not_nil)))
    show Q (.int (given : Int)) (upd H9 t (TO T.C_Timed dx o (given + 1) now p lm en))
    have kU : Kp (t :: lm :: en :: o :: c :: l :: uv) H (upd H9 t (TO T.C_Timed dx o (given + 1) now p lm en)) := kp_trans (kp_same s5) (kp_trans (kp_more k6 fun a m => memB (memB (memB m))) (kp_more k10 (subCons memA (subCons (memB memA) (subCons (memB (memB memA)) subNil)))))
    have npT : p ∉ t :: lm :: en :: o :: c :: l :: uv := not_cons npt.symm (not_cons nplm (not_cons npen npU))
    have hst : stC [] (tr ++ [.push given m]) = stC [] tr ++ [given] := by
      rw [stC_app]
      rfl
    refine q _ kU ⟨⟨dx, p, upd_same, by rw [upd_ne npt.symm]; exact ep9, npT⟩, ⟨od2, O10⟩, ?_, ?_, ?_, fun i mi => ?_, ⟨nto, ntc⟩, nle, nuv⟩
    · rw [upd_ne ntlm.symm, hlm9]
      refine congrArg (fun x => some (HO.dK x)) (dM_congr fun i _ => ?_)
      show (if i = given then V.int (u : Int) else V.int ((lim i : Nat) : Int)) = V.int (((if i = given then u else lim i : Nat)) : Int)
      split <;> rfl
    · rw [upd_ne nten.symm, hen9]
      refine congrArg (fun x => some (HO.dK x)) (dM_congr fun i _ => ?_)
      show (if i = given then V.int ((now : Int) + 1) else V.int ((ends i : Nat) : Int)) = V.int (((if i = given then now + 1 else ends i : Nat)) : Int)
      split <;> rfl
    · rw [hst]
      exact hti.add (fun x mx => (hgv x mx).1) hu1
    · rcases List.mem_append.mp mi with mi | mi
      · have h1 := hgv i mi
        have ne : i ≠ given := Nat.ne_of_lt h1.1
        refine ⟨Nat.lt_succ_of_lt h1.1, ?_⟩
        show PM i (if i = given then m else mb i)
        rw [if_neg ne]
        exact h1.2
      · rw [List.mem_singleton.mp mi]
        refine ⟨Nat.lt_succ_self _, ?_⟩
        show PM given (if given = given then m else mb given)
        rw [if_pos rfl]
        exact hPM
end
end Ob

set_option Elab.async false
set_option linter.all false
set_option maxRecDepth 100000
set_option maxHeartbeats 1000000
namespace Ob
open PySem PySem.Spec PyProof.Rows L2
open LamX (Tabs TabB TabS ExtN)

set_option hygiene false in
local macro_rules
  | `(tactic| kp_flats) => `(tactic| first
    | assumption
    | exact upd_same
    | (apply atNew; assumption; kp_flats)
    | (apply atNe; (next => kbo_bools); kp_flats)
    | (apply atSame; assumption; kp_flats)
    | (apply atKp; assumption; (next => kaf_pre); kp_flats))
set_option hygiene false in
local macro_rules
  | `(tactic| kaf_pre) => `(tactic| first
    | assumption
    | exact not_nil
    | (apply not_cons; (next => kbo_bools); kaf_pre)
    | (apply not_app; (next => kaf_pre); kaf_pre))
set_option hygiene false in
local macro_rules
  | `(tactic| kbo_bools) => `(tactic| first
    | assumption
    | (apply Ne.symm; assumption)
    | (apply neN; assumption; kp_flats)
    | (apply neN'; assumption; kp_flats))
set_option hygiene false in
local macro_rules
  | `(tactic| o_reads) => `(tactic| first
    | with_reducible rfl
    | assumption
    | rfl
    | kp_flats
    | (show SqL _ _ _ _; first | assumption | (apply sqlOf; kp_flats) | (apply sqlSame; assumption; o_reads))
    | (show SqT _ _ _ _; first | assumption | (apply sqtOf; kp_flats) | (apply sqtAll; assumption) | (apply sqtSame; assumption; o_reads))
    | (show Cls _ _; first | exact T.cl_Calls | exact T.cl_Outer | exact T.cl_Timed)
    | (show NoAttr _ _ _; first | exact T.n_Calls_entries | exact T.n_Calls_running | exact T.n_Outer_calls | exact T.n_Outer_push_call | exact T.n_Outer_pop_call | exact T.n_Outer_ask_call | exact T.n_Outer_order | exact T.n_Outer_broken | exact T.n_Timed_outer | exact T.n_Timed_given | exact T.n_Timed_now | exact T.n_Timed_held | exact T.n_Timed_limits | exact T.n_Timed_ends)
    | (apply Or.inl; o_reads)
    | (apply Or.inr; o_reads)
    | (apply And.intro; (next => o_reads); o_reads)
    | (apply Exists.intro; o_reads)
    | exact Nat.le_of_ble_eq_true rfl
    | exact Nat.succ_ne_zero _
    | (show Fr _ _; kba_ints)
    | (show Same _ _; kd_subs)
    | (show Kp _ _ _; kxs_still)
    | (show (_ : Nat) ≤ _; simp only [List.length_append, List.length_map, List.length_cons, List.length_nil, List.length_take, List.length_drop, List.length_replicate, List.length_range, sizeLine_eq]; omega)
    | (show _ = none; apply Fr.h; kba_ints)
    | (show Bag _ _; first | assumption | (apply bag_putF; assumption; o_reads) | (apply bag_neF; (next => kbo_bools); o_reads) | (apply bag_kpR; assumption; (next => kaf_pre); o_reads))
    | omega
    | decide)
local macro_rules
  | `(tactic| o_readsAll) => `(tactic| repeat (first
    | (refine fun (pNew : Addr) (nNew : _ = none) => ?_; replace nNew := Fr.mk nNew)
    | (refine fun (xNew dNew : Addr) (nNew : _ = none) (mNew : _ = none) (eNew : dNew ≠ xNew) => ?_; replace nNew := Fr.mk nNew; replace mNew := Fr.mk mNew)
    | (apply And.intro; next => o_reads)
    | apply Exists.intro (α := V)
    | apply Exists.intro (α := Addr)
    | apply Exists.intro (α := Int)
    | apply Exists.intro (α := Bool)
    | apply Exists.intro (α := List V)
    | apply Exists.intro (α := List Nat)
    | apply Exists.intro (α := List (Str × V))
    | apply Exists.intro (α := List _)
    | apply Exists.intro (α := Str)
    | apply Exists.intro (α := HO)
    | apply Exists.intro (α := Sp)
    | apply Exists.intro (α := VK)))
set_option hygiene false in
local macro_rules
  | `(tactic| kba_ints) => `(tactic| first
    | assumption
    | (apply frUp; (first | assumption | (apply Ne.symm; assumption)); kba_ints)
    | (apply noneOf; assumption; intro oF eF; apply Exists.intro; kp_flats)
    | (apply frUp; (next => kbo_bools); kba_ints))
set_option hygiene false in
local macro_rules
  | `(tactic| kxs_still) => `(tactic| first
    | assumption
    | exact kp_refl _ _
    | (apply kp_newF; assumption; kxs_still)
    | (apply kp_new; assumption; kxs_still)
    | (apply kp_up; (next => o_fieldsN); kxs_still)
    | (apply kp_new; (next => kba_ints); kxs_still)
    | (apply kp_sameR; assumption; kxs_still)
    | (apply kp_transR; assumption; kxs_still)
    | (apply kp_freshR; assumption; (next => kaf_suf); kxs_still))
set_option hygiene false in
local macro_rules
  | `(tactic| kaf_suf) => `(tactic| first
    | assumption
    | exact subNil
    | (apply subCons; (first | (apply Or.inl; o_fieldsN) | (apply Or.inr; kba_ints)); kaf_suf)
    | (apply subApp; (next => kaf_suf); kaf_suf))
set_option hygiene false in
local macro_rules
  | `(tactic| o_fieldsN) => `(tactic| first
    | assumption
    | exact memA
    | (apply memB; o_fieldsN)
    | (apply memL; o_fieldsN)
    | (apply memR; o_fieldsN))
set_option hygiene false in
local macro_rules
  | `(tactic| kd_subs) => `(tactic| first
    | assumption
    | exact Same.refl _
    | (apply same_putF; assumption; kd_subs)
    | (apply same_putG; assumption; kd_subs)
    | (apply same_putF; (next => kba_ints); kd_subs)
    | (apply same_transR; assumption; kd_subs))

set_option pp.maxSteps 900
open NdefX (TabsN)
theorem cut_drop {xs : List V} {n : Nat} : cutV xs (some (n : Int)) none = xs.drop n := by
  unfold cutV
  simp [HT.sIx]
  rw [if_neg (by omega)]
  by_cases h : n ≤ xs.length
  · rw [Nat.min_eq_left h]
    exact List.take_of_length_le (by rw [List.length_drop]; exact Nat.le_refl _)
  · rw [Nat.min_eq_right (by omega), List.drop_eq_nil_of_le (Nat.le_refl _), List.drop_eq_nil_of_le (by omega), List.take_nil]
section
variable {P : Program} {w : World} {K : PySem.W.Frag} {mg : Str → Option Value} {base : Heap} {n : Nat}
def spEnd (CT C : Addr) : Sp := fun vs H Q _ => ∃ (t dx o d1 c hd lm en od : Addr) (fp fo fa : V) (given now : Nat) (M S : List Nat) (lim ends : Nat → Nat), vs = [.ref t] ∧ H t = some (TO CT dx o given now hd lm en) ∧ H o = some (OO C d1 c fp fo fa od false) ∧ H od = some (.lst (S.map nV)) ∧ H en = some (.dK (dM M (iV ends))) ∧ TI now M S lim ends ∧ M.length < 400000 ∧
  ∀ r H', Same H H' → Fr H r → H' r = some (.lst ((endS ends (now + 1) S).map nV)) → Q (.ref r) H'
theorem ok_end (T : Txt K mg) : FnOk P w K mg base CX0 1 T.f_ending_numbers T.d_ending_numbers ["timed"] (spEnd T.C_Timed T.C_Outer) := by
  refine T.F_ending_numbers.ok sc_ending_numbers (fun vs H Q E h => ?_) (fun cdv A outer s H vs Q E hr h => ?_)
  · obtain ⟨t, dx, o, d1, c, hd, lm, en, od, fp, fo, fa, given, now, M, S, lim, ends, rfl, _⟩ := h
    rfl
  · obtain ⟨t, dx, o, d1, c, hd, lm, en, od, fp, fo, fa, given, now, M, S, lim, ends, rfl, ht, ho, hod, hen, hti, hML, q⟩ := h
    refine ⟨_, (pss_cons (ps_set (i := 1) sc_ending_numbers.nd rfl (.inl rfl) (pe_fld (pe_fld (pv 0) rfl) rfl))
      (pss_cons (ps_set (i := 2) sc_ending_numbers.nd rfl (.inl rfl) (pe_callB call_len_seq (by rfl) T.z_len (by decide +kernel) (pa_cons (pv 1) pa_nil)))
      (pss_cons (ps_while PassesOwn.never (PW.pt (pw_and (pt_cmpR op_gt (pv 2) pe_int (nomark _)) (pw_and1 (pt_cmpR op_eq (pe_dget (hu_of hr) (pe_fld (pv 0) rfl) (pe_ix (r := rIxL K) ix_list (pv 1) (pe_op op_sub (pv 2) pe_int) (fun _ _ => rfl)) (fun _ _ => rfl)) (pe_op op_add (pe_fld (pv 0) rfl) pe_int) (nomark _))))) (pss_one (ps_aug (i := 2) sc_ending_numbers.nd rfl (.inl rfl) pe_int ip_sub)))
      (pss_one (ps_ret (pe_slice sl_list (pv 1) (po_some (pv 2)) po_none)))))), ?_⟩
    have hM : ∀ i ∈ S, i ∈ M := fun i m => hti.pm.mem_iff.mp m
    have hsp : S = lowS ends (now + 1) S ++ endS ends (now + 1) S := top_split (c := now + 1) hti.dn fun i m => (hti.lo i (hM i m)).1
    have hLS : (lowS ends (now + 1) S).length ≤ S.length := List.length_filter_le _ _
    have lS : S.length = M.length := hti.pm.length_eq
    have hlm : (S.map nV).length = S.length := List.length_map ..
    refine ⟨_, rfl, t, _, dx, _, _, rfl, ht, T.cl_Timed, T.n_Timed_outer, rfl, o, _, d1, _, _, rfl, ho, T.cl_Outer, T.n_Outer_order, rfl, pGN ?_⟩
    simp only [List.set_cons_succ, List.set_cons_zero]
    refine ⟨_, rfl, od, _, rfl, .inl (sqlOf hod), pGN ?_⟩
    simp only [List.set_cons_succ, List.set_cons_zero]
    rw [hlm]
    refine ⟨fun m σ H' => m = intAt σ 2 ∧ H' = H ∧ ∃ k : Nat, σ = [some (.ref t), some (.ref od), some (.int (k : Int))] ∧ (lowS ends (now + 1) S).length ≤ k ∧ k ≤ S.length, ⟨_, rfl, rfl, S.length, rfl, hLS, Nat.le_refl _⟩, ?_⟩
    rintro _ σ H' ⟨rfl, rfl, k, rfl, hk1, hk2⟩
    refine ⟨_, rfl, _, _, rfl, rfl, _, rfl, ?_⟩
    have hgetL : ∀ i, S[k - 1]? = some i → (lowS ends (now + 1) S).length < k → ends i = now + 1 := fun i hi hk => by
      rw [hsp, List.getElem?_append_right (show (lowS ends (now + 1) S).length ≤ k - 1 by omega)] at hi
      exact of_decide_eq_true (List.mem_filter.mp (List.mem_of_getElem? hi)).2
    have hgetR : ∀ i, S[k - 1]? = some i → k = (lowS ends (now + 1) S).length → 0 < k → ends i ≠ now + 1 := fun i hi hk h0 => by
      rw [hsp, List.getElem?_append_left (show k - 1 < (lowS ends (now + 1) S).length by omega)] at hi
      have := of_decide_eq_true (List.mem_filter.mp (List.mem_of_getElem? hi)).2
      omega
    have fin : k = (lowS ends (now + 1) S).length → tSl (rSlL K) (tVar 1) (tPart (tVar 2)) tNoPart [some (.ref t), some (.ref od), some (.int (k : Int))] H' Q := fun hk => by
      refine ⟨_, rfl, _, rfl, _, rfl, od, _, rfl, sqlOf hod, fun r nr => ?_⟩
      rw [cut_drop, ← List.map_drop]
      have hd : S.drop k = endS ends (now + 1) S := by
        have := congrArg (List.drop k) hsp
        rw [this, hk]
        exact List.drop_left
      rw [hd]
      exact q r _ (same_newF (Fr.mk nr)) (Fr.mk nr) upd_same
    by_cases hk0 : 0 < k
    · refine ifT (decide_eq_true (by omega)) ?_
      obtain ⟨i, hi⟩ : ∃ i, S[k - 1]? = some i := ⟨_, List.getElem?_eq_getElem (by omega)⟩
      have hiM := hM i (List.mem_of_getElem? hi)
      have hg : DGet H' en (.int (i : Int)) (some (iV ends i)) := by
        rw [← dM_val (f := iV ends) hiM]
        exact DGet.k (k := .inl (i : Int)) hen
      have hat : atI (S.map nV) ((k : Int) - 1) = some (nV i) := by
        rw [show (k : Int) - 1 = ((k - 1 : Nat) : Int) by omega]
        exact atI_nat (j := k - 1) (by rw [List.getElem?_map, hi]; rfl)
      refine ⟨_, rfl, t, _, dx, _, _, rfl, ht, T.cl_Timed, T.n_Timed_ends, rfl, _, rfl, _, rfl, _, _, rfl, rfl, od, _, _, _, rfl, rfl, sqlOf hod, hat, en, _, rfl, hg, ?_⟩
      refine ⟨_, rfl, t, _, dx, _, _, rfl, ht, T.cl_Timed, T.n_Timed_now, rfl, _, _, rfl, rfl, rfl, _, rfl, ?_⟩
      by_cases hz : (lowS ends (now + 1) S).length < k
      · have he := hgetL i hi hz
        refine ifT (decide_eq_true (by show V.int ((ends i : Nat) : Int) = V.int ((now : Int) + 1); rw [he]; rfl)) ?_
        refine ⟨fun σ' H'' => σ' = [some (.ref t), some (.ref od), some (.int ((k - 1 : Nat) : Int))] ∧ H'' = H', ?_, ?_⟩
        · rintro σ' H'' ⟨rfl, rfl⟩
          refine ⟨_, ?_, rfl, rfl, k - 1, rfl, by omega, by omega⟩
          show (((k - 1 : Nat) : Int)).toNat < ((k : Int)).toNat
          omega
        · refine ⟨_, rfl, _, _, rfl, rfl, ?_, rfl⟩
          show [_, _, some (V.int ((k : Int) - 1))] = _
          rw [show (k : Int) - 1 = ((k - 1 : Nat) : Int) by omega]
      · have hk' : k = (lowS ends (now + 1) S).length := by omega
        have he := hgetR i hi hk' hk0
        refine ifF (decide_eq_false fun z => he (by injection z with z; omega)) ?_
        exact fin hk'
    · refine ifF (decide_eq_false (by omega)) ?_
      refine ifF rfl ?_
      exact fin (by omega)
end
end Ob

set_option Elab.async false
set_option linter.all false
set_option maxRecDepth 100000
set_option maxHeartbeats 1000000
namespace Ob
open PySem PySem.Spec PyProof.Rows L2
open LamX (Tabs TabB TabS ExtN)

set_option hygiene false in
local macro_rules
  | `(tactic| kp_flats) => `(tactic| first
    | assumption
    | exact upd_same
    | (apply atNew; assumption; kp_flats)
    | (apply atNe; (next => kbo_bools); kp_flats)
    | (apply atSame; assumption; kp_flats)
    | (apply atKp; assumption; (next => kaf_pre); kp_flats))
set_option hygiene false in
local macro_rules
  | `(tactic| kaf_pre) => `(tactic| first
    | assumption
    | exact not_nil
    | (apply not_cons; (next => kbo_bools); kaf_pre)
    | (apply not_app; (next => kaf_pre); kaf_pre))
set_option hygiene false in
local macro_rules
  | `(tactic| kbo_bools) => `(tactic| first
    | assumption
    | (apply Ne.symm; assumption)
    | (apply neN; assumption; kp_flats)
    | (apply neN'; assumption; kp_flats))
set_option hygiene false in
local macro_rules
  | `(tactic| o_reads) => `(tactic| first
    | with_reducible rfl
    | assumption
    | rfl
    | kp_flats
    | (show SqL _ _ _ _; first | assumption | (apply sqlOf; kp_flats) | (apply sqlSame; assumption; o_reads))
    | (show SqT _ _ _ _; first | assumption | (apply sqtOf; kp_flats) | (apply sqtAll; assumption) | (apply sqtSame; assumption; o_reads))
    | (show Cls _ _; first | exact T.cl_Calls | exact T.cl_Outer | exact T.cl_Timed)
    | (show NoAttr _ _ _; first | exact T.n_Calls_entries | exact T.n_Calls_running | exact T.n_Outer_calls | exact T.n_Outer_push_call | exact T.n_Outer_pop_call | exact T.n_Outer_ask_call | exact T.n_Outer_order | exact T.n_Outer_broken | exact T.n_Timed_outer | exact T.n_Timed_given | exact T.n_Timed_now | exact T.n_Timed_held | exact T.n_Timed_limits | exact T.n_Timed_ends)
    | (apply Or.inl; o_reads)
    | (apply Or.inr; o_reads)
    | (apply And.intro; (next => o_reads); o_reads)
    | (apply Exists.intro; o_reads)
    | exact Nat.le_of_ble_eq_true rfl
    | exact Nat.succ_ne_zero _
    | (show Fr _ _; kba_ints)
    | (show Same _ _; kd_subs)
    | (show Kp _ _ _; kxs_still)
    | (show (_ : Nat) ≤ _; simp only [List.length_append, List.length_map, List.length_cons, List.length_nil, List.length_take, List.length_drop, List.length_replicate, List.length_range, sizeLine_eq]; omega)
    | (show _ = none; apply Fr.h; kba_ints)
    | (show Bag _ _; first | assumption | (apply bag_putF; assumption; o_reads) | (apply bag_neF; (next => kbo_bools); o_reads) | (apply bag_kpR; assumption; (next => kaf_pre); o_reads))
    | omega
    | decide)
local macro_rules
  | `(tactic| o_readsAll) => `(tactic| repeat (first
    | (refine fun (pNew : Addr) (nNew : _ = none) => ?_; replace nNew := Fr.mk nNew)
    | (refine fun (xNew dNew : Addr) (nNew : _ = none) (mNew : _ = none) (eNew : dNew ≠ xNew) => ?_; replace nNew := Fr.mk nNew; replace mNew := Fr.mk mNew)
    | (apply And.intro; next => o_reads)
    | apply Exists.intro (α := V)
    | apply Exists.intro (α := Addr)
    | apply Exists.intro (α := Int)
    | apply Exists.intro (α := Bool)
    | apply Exists.intro (α := List V)
    | apply Exists.intro (α := List Nat)
    | apply Exists.intro (α := List (Str × V))
    | apply Exists.intro (α := List _)
    | apply Exists.intro (α := Str)
    | apply Exists.intro (α := HO)
    | apply Exists.intro (α := Sp)
    | apply Exists.intro (α := VK)))
set_option hygiene false in
local macro_rules
  | `(tactic| kba_ints) => `(tactic| first
    | assumption
    | (apply frUp; (first | assumption | (apply Ne.symm; assumption)); kba_ints)
    | (apply noneOf; assumption; intro oF eF; apply Exists.intro; kp_flats)
    | (apply frUp; (next => kbo_bools); kba_ints))
set_option hygiene false in
local macro_rules
  | `(tactic| kxs_still) => `(tactic| first
    | assumption
    | exact kp_refl _ _
    | (apply kp_newF; assumption; kxs_still)
    | (apply kp_new; assumption; kxs_still)
    | (apply kp_up; (next => o_fieldsN); kxs_still)
    | (apply kp_new; (next => kba_ints); kxs_still)
    | (apply kp_sameR; assumption; kxs_still)
    | (apply kp_transR; assumption; kxs_still)
    | (apply kp_freshR; assumption; (next => kaf_suf); kxs_still))
set_option hygiene false in
local macro_rules
  | `(tactic| kaf_suf) => `(tactic| first
    | assumption
    | exact subNil
    | (apply subCons; (first | (apply Or.inl; o_fieldsN) | (apply Or.inr; kba_ints)); kaf_suf)
    | (apply subApp; (next => kaf_suf); kaf_suf))
set_option hygiene false in
local macro_rules
  | `(tactic| o_fieldsN) => `(tactic| first
    | assumption
    | exact memA
    | (apply memB; o_fieldsN)
    | (apply memL; o_fieldsN)
    | (apply memR; o_fieldsN))
set_option hygiene false in
local macro_rules
  | `(tactic| kd_subs) => `(tactic| first
    | assumption
    | exact Same.refl _
    | (apply same_putF; assumption; kd_subs)
    | (apply same_putG; assumption; kd_subs)
    | (apply same_putF; (next => kba_ints); kd_subs)
    | (apply same_transR; assumption; kd_subs))

set_option pp.maxSteps 900
open NdefX (TabsN)
def nm_next_pieces : Nat → Nat → Str := fun l _ => if l = 196 then ("next_pieces" : Str) ++ ".<locals>." ++ "<lambda>" else ("next_pieces" : Str) ++ ".<locals>." ++ "<lambda>"
def nm_l_outer : Nat → Nat → Str := fun l _ => if l = 235 then ("_law_outer" : Str) ++ ".<locals>." ++ "_law_asks" else if l = 231 then ("_law_outer" : Str) ++ ".<locals>." ++ "_law_pops" else if l = 227 then ("_law_outer" : Str) ++ ".<locals>." ++ "_law_pushes" else ("_law_outer" : Str) ++ ".<locals>." ++ "<lambda>"
def nm_law : Nat → Nat → Str := fun l _ => if l = 292 then ("law" : Str) ++ ".<locals>." ++ "<lambda>" else if l = 284 then ("law" : Str) ++ ".<locals>." ++ "<lambda>" else ("law" : Str) ++ ".<locals>." ++ "<lambda>"
def TT {K : PySem.W.Frag} {mg : Str → Option Value} (T : Txt K mg) : List NdefX.NTab := [(T.p_next_pieces, nm_next_pieces), (T.p_l_outer, nm_l_outer), (T.p_law, nm_law)]
theorem hm_next_pieces {K : PySem.W.Frag} {mg : Str → Option Value} (T : Txt K mg) : (T.p_next_pieces, nm_next_pieces) ∈ TT T := List.mem_cons_self ..
theorem hu_next_pieces {K : PySem.W.Frag} {mg : Str → Option Value} (T : Txt K mg) : ∀ p ∈ TT T, p.1 = T.p_next_pieces → p.2 = nm_next_pieces := fun p m e => by
  rcases List.mem_cons.mp m with rfl | m
  · exact rfl
  rcases List.mem_cons.mp m with rfl | m
  · exact absurd e.symm T.pne_next_pieces_l_outer
  rcases List.mem_cons.mp m with rfl | m
  · exact absurd e.symm T.pne_next_pieces_law
  · cases m
theorem hm_l_outer {K : PySem.W.Frag} {mg : Str → Option Value} (T : Txt K mg) : (T.p_l_outer, nm_l_outer) ∈ TT T := List.mem_cons_of_mem _ (List.mem_cons_self ..)
theorem hu_l_outer {K : PySem.W.Frag} {mg : Str → Option Value} (T : Txt K mg) : ∀ p ∈ TT T, p.1 = T.p_l_outer → p.2 = nm_l_outer := fun p m e => by
  rcases List.mem_cons.mp m with rfl | m
  · exact absurd e T.pne_next_pieces_l_outer
  rcases List.mem_cons.mp m with rfl | m
  · exact rfl
  rcases List.mem_cons.mp m with rfl | m
  · exact absurd e.symm T.pne_l_outer_law
  · cases m
theorem hm_law {K : PySem.W.Frag} {mg : Str → Option Value} (T : Txt K mg) : (T.p_law, nm_law) ∈ TT T := List.mem_cons_of_mem _ (List.mem_cons_of_mem _ (List.mem_cons_self ..))
theorem hu_law {K : PySem.W.Frag} {mg : Str → Option Value} (T : Txt K mg) : ∀ p ∈ TT T, p.1 = T.p_law → p.2 = nm_law := fun p m e => by
  rcases List.mem_cons.mp m with rfl | m
  · exact absurd e T.pne_next_pieces_law
  rcases List.mem_cons.mp m with rfl | m
  · exact absurd e T.pne_l_outer_law
  rcases List.mem_cons.mp m with rfl | m
  · exact rfl
  · cases m
def kwOf : Stmt → Nat → Expr
  | .Return (some (.Call _ _ kws _)) _, i => (kws.map Keyword.value).getD i (.Constant .none 0 ⟨0, 0, 0, 0⟩)
  | _, _ => .Constant .none 0 ⟨0, 0, 0, 0⟩
def qKey : Str := ("next_pieces" : Str) ++ ".<locals>." ++ "<lambda>"
def LK (cl : List (Str × Addr)) (c : Addr) : Inf.LF := lamF qKey cl c (kwOf ((defBody s_next_pieces).getD 3 (.Pass ⟨0, 0, 0, 0⟩)) 0)
theorem scKey : NdefX.NScope ["piece"] ["piece"] [] (LK [] 0).scope := NdefX.nscope_by (by decide +kernel)
theorem key_lam (cl : List (Str × Addr)) (c : Addr) : Inf.KeyLam (LK cl c) "piece" :=
  ⟨scKey, ⟨_, _, _, _, _, _, _, _, _, _, _, rfl⟩, fun pm ctv v => rfl, by decide⟩
theorem pairLe_trans (a b c : Addr × Int × Int) (h1 : Inf.pairLe a b = true) (h2 : Inf.pairLe b c = true) : Inf.pairLe a c = true := by
  have h1 := of_decide_eq_true h1
  have h2 := of_decide_eq_true h2
  exact decide_eq_true (by omega)
theorem pairLe_total (a b : Addr × Int × Int) : (Inf.pairLe a b || Inf.pairLe b a) = true := by
  rw [Bool.or_eq_true]
  by_cases h : -a.2.2 < -b.2.2 ∨ (-a.2.2 = -b.2.2 ∧ a.2.1 ≤ b.2.1)
  · exact .inl (decide_eq_true h)
  · exact .inr (decide_eq_true (by omega))
/-- pairs (number, size) at these addresses -/
structure PrAt (H : Hp) (ts : List Addr) (B : List Nat) (sz : Nat → Nat) : Prop where
  len : ts.length = B.length
  at_ : ∀ (q : Nat) (t : Addr) (i : Nat), ts[q]? = some t → B[q]? = some i → H t = some (.tup [.int (i : Int), .int ((sz i : Nat) : Int)])
section
variable {P : Program} {w : World} {K : PySem.W.Frag} {mg : Str → Option Value} {base : Heap} {n : Nat}
def spNext (T : Txt K mg) : Sp := fun vs H Q _ => ∃ (t dx o hd lm en a : Addr) (given now : Nat) (M E : List Nat) (lim : Nat → Nat), vs = [.ref t, .ref a] ∧ H t = some (TO T.C_Timed dx o given now hd lm en) ∧ H a = some (.lst (E.map nV)) ∧ H lm = some (.dK (dM M (iV lim))) ∧ (∀ i ∈ E, i ∈ M ∧ lim i ≤ 1000000000 ∧ now < lim i) ∧ E.length < 400000 ∧ TabsN (TT T) H ∧
  ∀ r H' ts B, Kp [T.p_next_pieces] H H' → TabsN (TT T) H' → Fr H r → H' r = some (.lst (ts.map V.ref)) → PrAt H' ts B (fun i => szP (now + 1) (lim i - (now + 1))) → B.Perm (E.filter fun i => decide (now + 1 < lim i)) → (B.Pairwise fun a b => szP (now + 1) (lim b - (now + 1)) < szP (now + 1) (lim a - (now + 1)) ∨ (szP (now + 1) (lim a - (now + 1)) = szP (now + 1) (lim b - (now + 1)) ∧ a ≤ b)) → Q (.ref r) H'
theorem ok_next (T : Txt K mg) (TB : LamX.TabB base mg T.c_next_pieces T.p_next_pieces) : FnOk P w K mg base CX0 8 T.f_next_pieces T.d_next_pieces ["timed", "ending"] (spNext T) := by
  have G_piece_size := ok_ps (P := P) (w := w) (base := base) T
  refine T.F_next_pieces.ok sc_next_pieces (fun vs H Q E h => ?_) (fun A outer s H vs Q E hr h => ?_)
  · obtain ⟨t, dx, o, hd, lm, en, a, given, now, M, E, lim, rfl, _⟩ := h
    rfl
  · obtain ⟨t, dx, o, hd, lm, en, a, given, now, M, E, lim, rfl, ht, ha, hlm, hE, hEL, t0, q⟩ := h
    refine ⟨_, (pss_cons (ps_set (i := 2) sc_next_pieces.nd rfl (.inl rfl) (pe_op op_add (pe_fld (pv 0) rfl) pe_int))
      (pss_cons (ps_set (i := 3) sc_next_pieces.nd rfl (.inl rfl) (pe_lst pa_nil))
      (pss_cons (ps_for (passes_of rfl) rfl (pi_list (pv 1)) (pg_name (i := 4) sc_next_pieces.nd rfl (.inl rfl)) (pss_cons (ps_set (i := 5) sc_next_pieces.nd rfl (.inl rfl) (pe_op op_sub (pe_dget (hu_of hr) (pe_fld (pv 0) rfl) (pv 4) (fun _ _ => rfl)) (pv 2)))
        (pss_one (ps_if (pt_cmpR op_gt (pv 5) pe_int (nomark _)) (pss_one (ps_expr (pe_bm PySem.F.plainAttrs_list PySem.F.slot_list_append PySem.F.type_list_append mt_append (pv 3) (pa_cons (pe_tup (pa_cons (pv 4) (pa_cons (pe_call G_piece_size (hr.mono (by omega)) rfl T.g_piece_size T.F_piece_size.kp T.b_piece_size .nil pass0 (pa_cons (pv 2) (pa_cons (pv 5) pa_nil))) pa_nil))) pa_nil)))) pss_nil))))
      (pss_one (ps_ret (pe_callBK (Inf.cr_sortKey hr) (by rfl) T.z_sorted (by decide +kernel) (pa_cons (pv 3) pa_nil) (pk_cons (Inf.pe_lamP (T := TT T) (nm := nm_next_pieces) (c := T.c_next_pieces) (P := T.p_next_pieces) TB rfl (hm_next_pieces T) rfl (hu_next_pieces T) rfl (NdefX.ndef_free (sc := defScope s_next_pieces) (fr := []) (by decide +kernel))) pk_nil))))))), ?_⟩
    refine ⟨_, rfl, t, _, dx, _, _, rfl, ht, T.cl_Timed, T.n_Timed_now, rfl, _, _, rfl, rfl, pGN ?_⟩
    simp only [List.set_cons_succ, List.set_cons_zero]
    refine ⟨Nat.zero_le _, fun fo nfo => pGN ?_⟩
    simp only [List.set_cons_succ, List.set_cons_zero]
    have fF := Fr.mk nfo
    have s1 := same_newF (o := .lst []) fF
    have eF : upd H fo (.lst []) fo = some (.lst []) := upd_same
    generalize upd H fo (.lst []) = H1 at s1 eF ⊢
    refine ⟨_, rfl, a, rfl, ⟨_, sqlOf (s1 _ _ ha)⟩, ?_⟩
    refine for_it (walk_list (K := K) (a := a) (xs := E.map nV)) (fun k σ H' => ∃ y4 y5 bs, σ = [some (.ref t), some (.ref a), some (.int ((now : Int) + 1)), some (.ref fo), y4, y5] ∧ Same H H' ∧ H' fo = some (.lst (bs.map fun b : Addr × Int × Int => V.ref b.1)) ∧ (∀ b ∈ bs, H' b.1 = some (.tup [.int b.2.1, .int b.2.2])) ∧ bs.map (·.2) = ((E.take k).filter fun i => decide (now + 1 < lim i)).map (fun i : Nat => ((i : Int), ((szP (now + 1) (lim i - (now + 1)) : Nat) : Int)))) ⟨_, _, [], rfl, s1, eF, (fun _ z => nomatch z), rfl⟩ (fun k σ H' _ ⟨_, _, _, _, z, _⟩ => sqlOf (z _ _ ha)) ?_ ?_
    · rintro k x σ H4' H4 hk ⟨y4, y5, bs, rfl, s4, hf4, hb4, hm4⟩ ⟨rfl, hx⟩
      rw [List.length_map] at hk
      rw [List.getElem?_map] at hx
      obtain ⟨i, hi, rfl⟩ := Option.map_eq_some_iff.mp hx
      obtain ⟨hiM, hi2, hi3⟩ := hE i (List.mem_of_getElem? hi)
      have htk : E.take (k + 1) = E.take k ++ [i] := by
        rw [List.take_succ, hi]
        rfl
      have hbl : bs.length ≤ k := by
        have h1 := congrArg List.length hm4
        rw [List.length_map, List.length_map] at h1
        have h2 := List.length_filter_le (fun i => decide (now + 1 < lim i)) (E.take k)
        rw [List.length_take] at h2
        omega
      have hg : DGet H4 lm (.int (i : Int)) (some (iV lim i)) := by
        rw [← dM_val (f := iV lim) hiM]
        exact DGet.k (k := .inl (i : Int)) (s4 _ _ hlm)
      rw [htk, List.filter_append]
      refine ⟨_, rfl, t, _, dx, _, _, rfl, s4 _ _ ht, T.cl_Timed, T.n_Timed_limits, rfl, _, rfl, lm, _, rfl, hg, _, rfl, _, _, rfl, rfl, pGN ?_⟩
      simp only [List.set_cons_succ, List.set_cons_zero]
      refine ⟨_, rfl, _, _, rfl, rfl, _, rfl, ?_⟩
      by_cases hr : now + 1 < lim i
      · refine ifT (decide_eq_true (by show (0 : Int) < ((lim i : Nat) : Int) - ((now : Int) + 1); omega)) ?_
        have hfl : [i].filter (fun i => decide (now + 1 < lim i)) = [i] := List.filter_cons_of_pos (by simpa using hr)
        rw [hfl, List.map_append]
        refine ⟨_, rfl, .inl ⟨rfl, _, sqlOf hf4⟩, _, rfl, _, rfl, _, rfl, now + 1, lim i - (now + 1), ?_, by omega, ?_, le2, fun u nu => ?_⟩
        · show [V.int ((now : Int) + 1), V.int (((lim i : Nat) : Int) - ((now : Int) + 1))] = [V.int ((now + 1 : Nat) : Int), V.int ((lim i - (now + 1) : Nat) : Int)]
          rw [show ((lim i : Nat) : Int) - ((now : Int) + 1) = ((lim i - (now + 1) : Nat) : Int) by omega]
          rfl
        · have : (2 : Nat) ^ 200 > 1000000000 := by decide
          omega
        · have fu := Fr.mk nu
          have su := same_newF (o := .tup [.int (i : Int), .int ((szP (now + 1) (lim i - (now + 1)) : Nat) : Int)]) fu
          have nuf : fo ≠ u := ne_of_none hf4 nu
          refine ⟨fo, _, _, rfl, rfl, atNew fu hf4, by rw [List.length_map, sizeLine_eq]; omega, ?_⟩
          have kf : Kp [fo] H4 (upd (upd H4 u (.tup [.int (i : Int), .int ((szP (now + 1) (lim i - (now + 1)) : Nat) : Int)])) fo (.lst (bs.map (fun b : Addr × Int × Int => V.ref b.1) ++ [.ref u]))) := kp_up memA (kp_new fu (kp_refl _ _))
          have mf : Mu H4 [fo] := mu_lst hf4 mu_nil
          refine ⟨_, _, bs ++ [(u, (i : Int), ((szP (now + 1) (lim i - (now + 1)) : Nat) : Int))], rfl, same_putG fF (s4.trans su), by rw [upd_same, List.map_append]; rfl, fun b mb => ?_, by rw [List.map_append, hm4]; rfl⟩
          rcases List.mem_append.mp mb with mb | mb
          · exact kp_tup kf mf (hb4 b mb)
          · rw [List.mem_singleton.mp mb, upd_ne nuf.symm]
            exact upd_same
      · refine ifF (decide_eq_false (by show ¬ (0 : Int) < ((lim i : Nat) : Int) - ((now : Int) + 1); omega)) ?_
        have hfl : [i].filter (fun i => decide (now + 1 < lim i)) = [] := List.filter_cons_of_neg (by simpa using hr)
        rw [hfl, List.append_nil]
        exact ⟨_, _, bs, rfl, s4, hf4, hb4, hm4⟩
    · rintro σ H4 ⟨y4, y5, bs, rfl, s4, hf4, hb4, hm4⟩
      rw [List.take_of_length_le (by rw [List.length_map]; exact Nat.le_refl _)] at hm4
      have t4 := tabs_same t0 s4
      refine ⟨_, rfl, t4, fun fk ck H6 k6 n6 tb6 nf6 hf6 hc6 => ?_⟩
      obtain ⟨cl, hf6⟩ : ∃ cl, H6 fk = some (Inf.LamO fk (LK cl ck)) := ⟨_, hf6⟩
      have hc6 : H6 ck = some (LamX.CodeO ck qKey) := hc6
      have k6 : Kp [T.p_next_pieces] H4 H6 := ⟨fun b o e n => k6 b o e fun z => n (by rw [z]; exact memA)⟩
      have mt : Mu H4 [T.p_next_pieces] := by
        obtain ⟨ps, h, _⟩ := t4 _ (hm_next_pieces T)
        exact mu_cons h (fun _ z => nomatch z) (fun _ z => nomatch z) mu_nil
      have hf46 := k6.at_ _ _ hf4 (not_cons (tab_ne t4 (hm_next_pieces T) hf4 (fun _ z => nomatch z)) not_nil)
      have hb6 : ∀ b ∈ bs, H6 b.1 = some (.tup [.int b.2.1, .int b.2.2]) := fun b mb => kp_tup k6 mt (hb4 b mb)
      refine ⟨fo, fk, LK cl ck, "piece", bs, rfl, rfl, sqlOf hf46, hb6, key_lam cl ck, hf6, hc6, fun r nr => ?_⟩
      have fr := Fr.mk nr
      have sr := same_newF (o := .lst ((bs.mergeSort Inf.pairLe).map fun b => V.ref b.1)) fr
      have hpm : (bs.mergeSort Inf.pairLe).Perm bs := List.mergeSort_perm _ _
      have hpw := List.pairwise_mergeSort (le := Inf.pairLe) pairLe_trans pairLe_total bs
      have hof : ∀ b ∈ bs, ∃ i : Nat, b.2 = ((i : Int), ((szP (now + 1) (lim i - (now + 1)) : Nat) : Int)) := fun b mb => by
        have h1 : b.2 ∈ bs.map (·.2) := List.mem_map.mpr ⟨b, mb, rfl⟩
        rw [hm4] at h1
        obtain ⟨i, _, e⟩ := List.mem_map.mp h1
        exact ⟨i, e.symm⟩
      generalize hL : bs.mergeSort Inf.pairLe = L at sr hpm hpw ⊢
      have hofL : ∀ b ∈ L, ∃ i : Nat, b.2 = ((i : Int), ((szP (now + 1) (lim i - (now + 1)) : Nat) : Int)) := fun b mb => hof b (hpm.mem_iff.mp mb)
      refine q r _ (L.map (·.1)) (L.map fun b => b.2.1.toNat) (kp_trans (kp_same s4) (kp_trans k6 (kp_same sr))) (tabs_same tb6 sr) (Fr.mk (s4.free (n6 _ nr))) (by rw [upd_same, List.map_map]; rfl) ⟨by rw [List.length_map, List.length_map], fun q2 u i e1 e2 => ?_⟩ ?_ ?_
      · rw [List.getElem?_map] at e1 e2
        obtain ⟨b, hb, rfl⟩ := Option.map_eq_some_iff.mp e1
        rw [hb] at e2
        have e2 : b.2.1.toNat = i := Option.some.inj e2
        have mb := List.mem_of_getElem? hb
        obtain ⟨j, hj⟩ := hofL b mb
        have h6 := sr _ _ (hb6 b (hpm.mem_iff.mp mb))
        rw [hj] at h6 e2
        have e3 : j = i := by
          have e2 : ((j : Int)).toNat = i := e2
          omega
        subst e3
        exact h6
      · refine (hpm.map _).trans (List.Perm.of_eq ?_)
        have h1 := congrArg (List.map fun x : Int × Int => x.1.toNat) hm4
        rw [List.map_map, List.map_map] at h1
        refine Eq.trans h1 (Eq.trans (List.map_congr_left fun i _ => ?_) (List.map_id _))
        show ((i : Int)).toNat = id i
        exact Int.toNat_natCast i
      · refine List.pairwise_map.mpr (List.Pairwise.imp_of_mem (fun {x y} mx my h => ?_) hpw)
        obtain ⟨i, hi⟩ := hofL x mx
        obtain ⟨j, hj⟩ := hofL y my
        have h := of_decide_eq_true h
        rw [hi, hj] at h ⊢
        show szP (now + 1) (lim ((j : Int)).toNat - (now + 1)) < szP (now + 1) (lim ((i : Int)).toNat - (now + 1)) ∨ (szP (now + 1) (lim ((i : Int)).toNat - (now + 1)) = szP (now + 1) (lim ((j : Int)).toNat - (now + 1)) ∧ ((i : Int)).toNat ≤ ((j : Int)).toNat)
        rw [Int.toNat_natCast, Int.toNat_natCast]
        have h : -((szP (now + 1) (lim i - (now + 1)) : Nat) : Int) < -((szP (now + 1) (lim j - (now + 1)) : Nat) : Int) ∨ (-((szP (now + 1) (lim i - (now + 1)) : Nat) : Int) = -((szP (now + 1) (lim j - (now + 1)) : Nat) : Int) ∧ (i : Int) ≤ (j : Int)) := h
        omega
end
end Ob

set_option Elab.async false
set_option linter.all false
set_option maxRecDepth 100000
set_option maxHeartbeats 1000000
namespace Ob
open PySem PySem.Spec PyProof.Rows L2
open LamX (Tabs TabB TabS ExtN)

set_option hygiene false in
local macro_rules
  | `(tactic| kp_flats) => `(tactic| first
    | assumption
    | exact upd_same
    | (apply atNew; assumption; kp_flats)
    | (apply atNe; (next => kbo_bools); kp_flats)
    | (apply atSame; assumption; kp_flats)
    | (apply atKp; assumption; (next => kaf_pre); kp_flats))
set_option hygiene false in
local macro_rules
  | `(tactic| kaf_pre) => `(tactic| first
    | assumption
    | exact not_nil
    | (apply not_cons; (next => kbo_bools); kaf_pre)
    | (apply not_app; (next => kaf_pre); kaf_pre))
set_option hygiene false in
local macro_rules
  | `(tactic| kbo_bools) => `(tactic| first
    | assumption
    | (apply Ne.symm; assumption)
    | (apply neN; assumption; kp_flats)
    | (apply neN'; assumption; kp_flats))
set_option hygiene false in
local macro_rules
  | `(tactic| o_reads) => `(tactic| first
    | with_reducible rfl
    | assumption
    | rfl
    | kp_flats
    | (show SqL _ _ _ _; first | assumption | (apply sqlOf; kp_flats) | (apply sqlSame; assumption; o_reads))
    | (show SqT _ _ _ _; first | assumption | (apply sqtOf; kp_flats) | (apply sqtAll; assumption) | (apply sqtSame; assumption; o_reads))
    | (show Cls _ _; first | exact T.cl_Calls | exact T.cl_Outer | exact T.cl_Timed)
    | (show NoAttr _ _ _; first | exact T.n_Calls_entries | exact T.n_Calls_running | exact T.n_Outer_calls | exact T.n_Outer_push_call | exact T.n_Outer_pop_call | exact T.n_Outer_ask_call | exact T.n_Outer_order | exact T.n_Outer_broken | exact T.n_Timed_outer | exact T.n_Timed_given | exact T.n_Timed_now | exact T.n_Timed_held | exact T.n_Timed_limits | exact T.n_Timed_ends)
    | (apply Or.inl; o_reads)
    | (apply Or.inr; o_reads)
    | (apply And.intro; (next => o_reads); o_reads)
    | (apply Exists.intro; o_reads)
    | exact Nat.le_of_ble_eq_true rfl
    | exact Nat.succ_ne_zero _
    | (show Fr _ _; kba_ints)
    | (show Same _ _; kd_subs)
    | (show Kp _ _ _; kxs_still)
    | (show (_ : Nat) ≤ _; simp only [List.length_append, List.length_map, List.length_cons, List.length_nil, List.length_take, List.length_drop, List.length_replicate, List.length_range, sizeLine_eq]; omega)
    | (show _ = none; apply Fr.h; kba_ints)
    | (show Bag _ _; first | assumption | (apply bag_putF; assumption; o_reads) | (apply bag_neF; (next => kbo_bools); o_reads) | (apply bag_kpR; assumption; (next => kaf_pre); o_reads))
    | omega
    | decide)
local macro_rules
  | `(tactic| o_readsAll) => `(tactic| repeat (first
    | (refine fun (pNew : Addr) (nNew : _ = none) => ?_; replace nNew := Fr.mk nNew)
    | (refine fun (xNew dNew : Addr) (nNew : _ = none) (mNew : _ = none) (eNew : dNew ≠ xNew) => ?_; replace nNew := Fr.mk nNew; replace mNew := Fr.mk mNew)
    | (apply And.intro; next => o_reads)
    | apply Exists.intro (α := V)
    | apply Exists.intro (α := Addr)
    | apply Exists.intro (α := Int)
    | apply Exists.intro (α := Bool)
    | apply Exists.intro (α := List V)
    | apply Exists.intro (α := List Nat)
    | apply Exists.intro (α := List (Str × V))
    | apply Exists.intro (α := List _)
    | apply Exists.intro (α := Str)
    | apply Exists.intro (α := HO)
    | apply Exists.intro (α := Sp)
    | apply Exists.intro (α := VK)))
set_option hygiene false in
local macro_rules
  | `(tactic| kba_ints) => `(tactic| first
    | assumption
    | (apply frUp; (first | assumption | (apply Ne.symm; assumption)); kba_ints)
    | (apply noneOf; assumption; intro oF eF; apply Exists.intro; kp_flats)
    | (apply frUp; (next => kbo_bools); kba_ints))
set_option hygiene false in
local macro_rules
  | `(tactic| kxs_still) => `(tactic| first
    | assumption
    | exact kp_refl _ _
    | (apply kp_newF; assumption; kxs_still)
    | (apply kp_new; assumption; kxs_still)
    | (apply kp_up; (next => o_fieldsN); kxs_still)
    | (apply kp_new; (next => kba_ints); kxs_still)
    | (apply kp_sameR; assumption; kxs_still)
    | (apply kp_transR; assumption; kxs_still)
    | (apply kp_freshR; assumption; (next => kaf_suf); kxs_still))
set_option hygiene false in
local macro_rules
  | `(tactic| kaf_suf) => `(tactic| first
    | assumption
    | exact subNil
    | (apply subCons; (first | (apply Or.inl; o_fieldsN) | (apply Or.inr; kba_ints)); kaf_suf)
    | (apply subApp; (next => kaf_suf); kaf_suf))
set_option hygiene false in
local macro_rules
  | `(tactic| o_fieldsN) => `(tactic| first
    | assumption
    | exact memA
    | (apply memB; o_fieldsN)
    | (apply memL; o_fieldsN)
    | (apply memR; o_fieldsN))
set_option hygiene false in
local macro_rules
  | `(tactic| kd_subs) => `(tactic| first
    | assumption
    | exact Same.refl _
    | (apply same_putF; assumption; kd_subs)
    | (apply same_putG; assumption; kd_subs)
    | (apply same_putF; (next => kba_ints); kd_subs)
    | (apply same_transR; assumption; kd_subs))

set_option pp.maxSteps 900
section
variable {P : Program} {w : World} {K : PySem.W.Frag} {mg : Str → Option Value} {base : Heap} {n : Nat}
def spMoves : Sp := fun vs H Q _ => ∃ (a b : Addr) (E : List Nat) (ts : List Addr) (B : List Nat) (sz : Nat → Nat), vs = [.ref a, .ref b] ∧ H a = some (.lst (E.map nV)) ∧ H b = some (.lst (ts.map V.ref)) ∧ PrAt H ts B sz ∧ E.length < 400000 ∧ B.length < 400000 ∧
  ∀ r xs H', Same H H' → Fr H r → H' r = some (.lst xs) → WLog H' xs ((E.reverse.map fun i => (("pop" : Str), i)) ++ B.map fun i => (("push" : Str), i)) → Q (.ref r) H'
theorem ok_moves (T : Txt K mg) : FnOk P w K mg base CX0 4 T.f_plan_moves T.d_plan_moves ["ending", "begun"] spMoves := by
  have G_plan_pops := ok_pops (P := P) (w := w) (base := base) T
  have G_plan_pushes := ok_push (P := P) (w := w) (base := base) T
  refine T.F_plan_moves.ok sc_plan_moves (fun vs H Q E h => ?_) (fun cdv A outer s H vs Q E hr h => ?_)
  · obtain ⟨a, b, E, ts, B, sz, rfl, _⟩ := h
    rfl
  · obtain ⟨a, b, E, ts, B, sz, rfl, ha, hb, hp, hE, hB, q⟩ := h
    refine ⟨_, (pss_one (ps_ret (pe_op op_cat (pe_call G_plan_pops (hr.mono (by omega)) rfl T.g_plan_pops T.F_plan_pops.kp T.b_plan_pops .nil pass0 (pa_cons (pv 0) pa_nil)) (pe_call G_plan_pushes (hr.mono (by omega)) rfl T.g_plan_pushes T.F_plan_pushes.kp T.b_plan_pushes .nil pass0 (pa_cons (pe_lc (own := [("number", 2), ("size", 3)]) (g := (gTup K 2 (gCons (gName 2) (gCons (gName 3) gNil)))) (tt := tYes) rfl sc_plan_moves.nd (pi_list (pv 1)) (blkOk_by (N := n_plan_moves) (sc := defScope s_plan_moves) (by decide +kernel)) (fun _ _ _ _ _ => (pg_tup (by rfl) (pgs_cons (pg_name (i := 2) sc_plan_moves.nd rfl (.inl rfl)) (pgs_cons (pg_name (i := 3) sc_plan_moves.nd rfl (.inl rfl)) pgs_nil)))) (fun _ _ _ _ _ => pts_nil) (fun _ _ _ _ _ => (pv 2))) pa_nil))))), ?_⟩
    have hpl := hp.len
    refine ⟨_, rfl, a, E, rfl, ha, by omega, fun r1 xs1 H1 fr1 s1 e1 w1 => ?_⟩
    have hb1 := s1 _ _ hb
    refine ⟨_, rfl, b, rfl, ⟨_, sqlOf hb1⟩, fun D nD => ?_⟩
    have fD := Fr.mk nD
    refine lc_it (walk_list (K := K) (a := b) (xs := ts.map V.ref)) (fun i H' => Same H1 H' ∧ H' D = some (.lst ((B.take i).map nV))) ⟨same_newF fD, upd_same⟩ (fun i H' _ z => sqlOf (z.1 _ _ hb1)) ?_ ?_
    · rintro i x H2' H2 hi ⟨s2, eD⟩ ⟨rfl, hx⟩
      rw [List.length_map] at hi
      rw [List.getElem?_map] at hx
      obtain ⟨u, hu, rfl⟩ := Option.map_eq_some_iff.mp hx
      obtain ⟨j, hj⟩ : ∃ j, B[i]? = some j := ⟨_, List.getElem?_eq_getElem (by omega)⟩
      have hu2 := s2 _ _ (s1 _ _ (hp.at_ i u j hu hj))
      refine ⟨u, _, rfl, sqtOf hu2, rfl, _, _, rfl, _, _, rfl, rfl, rfl, ?_⟩
      unfold tYes
      refine ifT rfl ?_
      refine ⟨_, rfl, _, eD, by rw [List.length_map, List.length_take, sizeLine_eq]; omega, same_putG fD s2, ?_⟩
      rw [upd_same, List.take_succ, hj, List.map_append]
      rfl
    · rintro H2 ⟨s2, eD⟩
      rw [List.take_of_length_le (by rw [List.length_map]; omega)] at eD
      refine ⟨D, B, rfl, eD, by omega, fun r2 xs2 H3 fr2 s3 e3 w3 => ?_⟩
      have s13 := s2.trans s3
      have e13 := s13 _ _ e1
      have w13 := w1.kp (cs := []) (kp_same s13) mu_nil
      have l1 := w1.len
      have l3 := w3.len
      rw [List.length_map, List.length_reverse] at l1
      rw [List.length_map] at l3
      refine ⟨r1, r2, xs1, xs2, rfl, rfl, e13, e3, by rw [sizeLine_eq]; omega, fun p np => ?_⟩
      have sp := same_newF (o := .lst (xs1 ++ xs2)) (Fr.mk np)
      have s03 := s1.trans s13
      exact q p _ _ (s03.trans sp) (Fr.mk (s03.free np)) upd_same ((w13.app w3).kp (cs := []) (kp_same sp) mu_nil)
end
end Ob

set_option Elab.async false
set_option linter.all false
set_option maxRecDepth 100000
set_option maxHeartbeats 1000000
namespace Ob
open PySem PySem.Spec PyProof.Rows L2
open LamX (Tabs TabB TabS ExtN)

set_option hygiene false in
local macro_rules
  | `(tactic| kp_flats) => `(tactic| first
    | assumption
    | exact upd_same
    | (apply atNew; assumption; kp_flats)
    | (apply atNe; (next => kbo_bools); kp_flats)
    | (apply atSame; assumption; kp_flats)
    | (apply atKp; assumption; (next => kaf_pre); kp_flats))
set_option hygiene false in
local macro_rules
  | `(tactic| kaf_pre) => `(tactic| first
    | assumption
    | exact not_nil
    | (apply not_cons; (next => kbo_bools); kaf_pre)
    | (apply not_app; (next => kaf_pre); kaf_pre))
set_option hygiene false in
local macro_rules
  | `(tactic| kbo_bools) => `(tactic| first
    | assumption
    | (apply Ne.symm; assumption)
    | (apply neN; assumption; kp_flats)
    | (apply neN'; assumption; kp_flats))
set_option hygiene false in
local macro_rules
  | `(tactic| o_reads) => `(tactic| first
    | with_reducible rfl
    | assumption
    | rfl
    | kp_flats
    | (show SqL _ _ _ _; first | assumption | (apply sqlOf; kp_flats) | (apply sqlSame; assumption; o_reads))
    | (show SqT _ _ _ _; first | assumption | (apply sqtOf; kp_flats) | (apply sqtAll; assumption) | (apply sqtSame; assumption; o_reads))
    | (show Cls _ _; first | exact T.cl_Calls | exact T.cl_Outer | exact T.cl_Timed)
    | (show NoAttr _ _ _; first | exact T.n_Calls_entries | exact T.n_Calls_running | exact T.n_Outer_calls | exact T.n_Outer_push_call | exact T.n_Outer_pop_call | exact T.n_Outer_ask_call | exact T.n_Outer_order | exact T.n_Outer_broken | exact T.n_Timed_outer | exact T.n_Timed_given | exact T.n_Timed_now | exact T.n_Timed_held | exact T.n_Timed_limits | exact T.n_Timed_ends)
    | (apply Or.inl; o_reads)
    | (apply Or.inr; o_reads)
    | (apply And.intro; (next => o_reads); o_reads)
    | (apply Exists.intro; o_reads)
    | exact Nat.le_of_ble_eq_true rfl
    | exact Nat.succ_ne_zero _
    | (show Fr _ _; kba_ints)
    | (show Same _ _; kd_subs)
    | (show Kp _ _ _; kxs_still)
    | (show (_ : Nat) ≤ _; simp only [List.length_append, List.length_map, List.length_cons, List.length_nil, List.length_take, List.length_drop, List.length_replicate, List.length_range, sizeLine_eq]; omega)
    | (show _ = none; apply Fr.h; kba_ints)
    | (show Bag _ _; first | assumption | (apply bag_putF; assumption; o_reads) | (apply bag_neF; (next => kbo_bools); o_reads) | (apply bag_kpR; assumption; (next => kaf_pre); o_reads))
    | omega
    | decide)
local macro_rules
  | `(tactic| o_readsAll) => `(tactic| repeat (first
    | (refine fun (pNew : Addr) (nNew : _ = none) => ?_; replace nNew := Fr.mk nNew)
    | (refine fun (xNew dNew : Addr) (nNew : _ = none) (mNew : _ = none) (eNew : dNew ≠ xNew) => ?_; replace nNew := Fr.mk nNew; replace mNew := Fr.mk mNew)
    | (apply And.intro; next => o_reads)
    | apply Exists.intro (α := V)
    | apply Exists.intro (α := Addr)
    | apply Exists.intro (α := Int)
    | apply Exists.intro (α := Bool)
    | apply Exists.intro (α := List V)
    | apply Exists.intro (α := List Nat)
    | apply Exists.intro (α := List (Str × V))
    | apply Exists.intro (α := List _)
    | apply Exists.intro (α := Str)
    | apply Exists.intro (α := HO)
    | apply Exists.intro (α := Sp)
    | apply Exists.intro (α := VK)))
set_option hygiene false in
local macro_rules
  | `(tactic| kba_ints) => `(tactic| first
    | assumption
    | (apply frUp; (first | assumption | (apply Ne.symm; assumption)); kba_ints)
    | (apply noneOf; assumption; intro oF eF; apply Exists.intro; kp_flats)
    | (apply frUp; (next => kbo_bools); kba_ints))
set_option hygiene false in
local macro_rules
  | `(tactic| kxs_still) => `(tactic| first
    | assumption
    | exact kp_refl _ _
    | (apply kp_newF; assumption; kxs_still)
    | (apply kp_new; assumption; kxs_still)
    | (apply kp_up; (next => o_fieldsN); kxs_still)
    | (apply kp_new; (next => kba_ints); kxs_still)
    | (apply kp_sameR; assumption; kxs_still)
    | (apply kp_transR; assumption; kxs_still)
    | (apply kp_freshR; assumption; (next => kaf_suf); kxs_still))
set_option hygiene false in
local macro_rules
  | `(tactic| kaf_suf) => `(tactic| first
    | assumption
    | exact subNil
    | (apply subCons; (first | (apply Or.inl; o_fieldsN) | (apply Or.inr; kba_ints)); kaf_suf)
    | (apply subApp; (next => kaf_suf); kaf_suf))
set_option hygiene false in
local macro_rules
  | `(tactic| o_fieldsN) => `(tactic| first
    | assumption
    | exact memA
    | (apply memB; o_fieldsN)
    | (apply memL; o_fieldsN)
    | (apply memR; o_fieldsN))
set_option hygiene false in
local macro_rules
  | `(tactic| kd_subs) => `(tactic| first
    | assumption
    | exact Same.refl _
    | (apply same_putF; assumption; kd_subs)
    | (apply same_putG; assumption; kd_subs)
    | (apply same_putF; (next => kba_ints); kd_subs)
    | (apply same_transR; assumption; kd_subs))

set_option pp.maxSteps 900
/-- a dict made over another one's pairs -/
theorem dc_items {d : Addr} {o : Obj} {ks : List (Key × V)} {g : TG} {tt : L2.TT} {tk tv : TE} {vs : List Nat} {σ : L2.St} {H1 : Hp} {D : Addr} {Qd : Hp → Prop} (Pv : Nat → Hp → Prop) (h0 : Pv 0 (upd H1 D (.dK []))) (hl : ∀ i H, Pv i H → H d = some (.frz o (.dK ks)))
    (hs : ∀ i k v T H, ks[i]? = some (k, v) → Pv i H → H T = none → g (.ref T) (wipe σ vs) (upd H T (.tup [kV k, v])) fun σ2 H2 => wipe σ2 vs = wipe σ vs ∧ tt σ2 H2 fun b H3 =>
      if b = true then tk σ2 H3 fun y H4 => tv σ2 H4 fun z H5 => ∃ kvs k, y = kV k ∧ H5 D = some (.dK kvs) ∧ kvs.length < sizeLine ∧ Pv (i + 1) (upd H5 D (.dK (putK kvs k z))) else Pv (i + 1) H3) (hd : ∀ H, Pv ks.length H → Qd H) :
    ∃ W : Nat → Nat → Hp → Prop, (∃ m, W 0 m (upd H1 D (.dK []))) ∧ ∀ i m H, W i m H →
      ((Iti d o ks).stop i H ∧ Qd H) ∨ ((Iti d o ks).go i H ∧ ∃ Nx : Hp → Prop, (∀ H', Nx H' → ∃ m', m' < m ∧ W (i + 1) m' H') ∧ ∀ x H', (Iti d o ks).yld i H x H' → g x (wipe σ vs) H' fun σ2 H2 => wipe σ2 vs = wipe σ vs ∧ tt σ2 H2 fun b H3 =>
        if b = true then tk σ2 H3 fun y H4 => tv σ2 H4 fun z H5 => ∃ kvs k, y = kV k ∧ H5 D = some (.dK kvs) ∧ kvs.length < sizeLine ∧ Nx (upd H5 D (.dK (putK kvs k z))) else Nx H3) := by
  refine ⟨fun i m H => m = ks.length - i ∧ i ≤ ks.length ∧ Pv i H, ⟨ks.length, rfl, Nat.zero_le _, h0⟩, ?_⟩
  rintro i m H ⟨rfl, hi, p⟩
  by_cases hlt : i < ks.length
  · refine .inr ⟨⟨hl i H p, hlt⟩, Pv (i + 1), fun H' p' => ⟨ks.length - (i + 1), by omega, rfl, hlt, p'⟩, fun x H' y => ?_⟩
    obtain ⟨T, k, v, e1, e2, e3, e4⟩ := y
    subst e2
    subst e4
    exact hs i k v T H e1 p e3
  · have e : i = ks.length := by omega
    subst e
    exact .inl ⟨⟨hl _ H p, Nat.le_refl _⟩, hd H p⟩
theorem in_nat (x : Nat) : ∀ F : List Nat, inV (.int (x : Int)) (F.map fun k : Nat => V.int (k : Int)) = decide (x ∈ F)
  | [] => rfl
  | y :: F => by
    have i := in_nat x F
    unfold inV at i ⊢
    rw [List.map_cons, List.any_cons, i]
    have e : eqV (V.int (y : Int)) (V.int (x : Int)) = decide (y = x) := by
      show decide ((y : Int) = (x : Int)) = decide (y = x)
      by_cases z : y = x
      · rw [dT z, z, dT rfl]
      · rw [dF z, dF fun w => z (by omega)]
    rw [e]
    by_cases z : y = x
    · rw [dT z, dT (show x ∈ y :: F by rw [z]; exact List.mem_cons_self ..)]
      rfl
    · rw [dF z, Bool.false_or]
      by_cases m : x ∈ F
      · rw [dT m, dT (List.mem_cons_of_mem _ m)]
      · rw [dF m, dF fun w => (List.mem_cons.mp w).elim (fun q => z q.symm) m]
theorem flat_nats (F : List Nat) : (F.map fun k : Nat => V.int (k : Int)).all flatV = true := by
  rw [List.all_map]
  exact List.all_eq_true.mpr fun _ _ => rfl

theorem dM_at {M : List Nat} {f : Nat → V} {i : Nat} {k : Key} {v : V} (h : (dM M f)[i]? = some (k, v)) : ∃ j : Nat, M[i]? = some j ∧ k = .inl (j : Int) ∧ v = f j := by
  unfold dM at h
  rw [List.getElem?_map] at h
  obtain ⟨j, hj, e⟩ := Option.map_eq_some_iff.mp h
  injection e with e1 e2
  exact ⟨j, hj, e1.symm, e2.symm⟩
section
variable {P : Program} {w : World} {K : PySem.W.Frag} {mg : Str → Option Value} {base : Heap} {n : Nat}
def spWo : Sp := fun vs H Q _ => ∃ (a b : Addr) (M G : List Nat) (mb : Nat → V), vs = [.ref a, .ref b] ∧ H a = some (.dK (dM M mb)) ∧ H b = some (.lst (G.map nV)) ∧ M.Nodup ∧ M.length < 400000 ∧ ∀ r H', Same H H' → Fr H r → H' r = some (.dK (dM (M.filter fun i => decide (i ∉ G)) mb)) → Q (.ref r) H'
theorem ok_wo (T : Txt K mg) : FnOk P w K mg base CX0 1 T.f_without T.d_without ["held", "numbers"] spWo := by
  refine T.F_without.ok sc_without (fun vs H Q E h => ?_) (fun cdv A outer s H vs Q E hr h => ?_)
  · obtain ⟨a, b, M, G, mb, rfl, _⟩ := h
    rfl
  · obtain ⟨a, b, M, G, mb, rfl, h1, h2, hnd, hML, q⟩ := h
    refine ⟨_, (pss_one (ps_ret (pe_lock (pe_dc (own := [("number", 3), ("member", 2)]) (g := (gTup K 2 (gCons (gName 3) (gCons (gName 2) gNil))))  rfl sc_without.nd (pi_items (pv 0)) (blkOk_by (N := n_without) (sc := defScope s_without) (by decide +kernel)) (fun _ _ _ _ _ => (pg_tup (by rfl) (pgs_cons (pg_name (i := 3) sc_without.nd rfl (.inl rfl)) (pgs_cons (pg_name (i := 2) sc_without.nd rfl (.inl rfl)) pgs_nil)))) (fun _ _ _ _ _ => (pts_one (pt_cmpR (show OpR _ _ (rIn K true) from op_notIn_seq) (pv 3) (pv 1) (by rfl)))) (fun _ _ _ _ _ => (pv 3)) (fun _ _ _ _ _ => (pv 2)))))), ?_⟩
    refine ⟨a, _, h1, True.intro, fun od => ?_⟩
    generalize hF : upd H a (.frz od (.dK (dM M mb))) = F
    have ea : F a = some (.frz od (.dK (dM M mb))) := by
      rw [← hF]
      exact upd_same
    have en : ∀ b o, b ≠ a → H b = some o → F b = some o := fun b o nb e => by
      rw [← hF, upd_ne nb]
      exact e
    have nba : b ≠ a := fun z => by
      rw [z, h1] at h2
      cases h2
    have eb := en b _ nba h2
    refine ⟨_, rfl, a, od, _, rfl, ea, fun D nD => ?_⟩
    have fD := Fr.mk nD
    refine dc_items (fun i H' => Same F H' ∧ H' D = some (.dK (dM ((M.take i).filter fun i => decide (i ∉ G)) mb))) ⟨same_newF fD, upd_same⟩ (fun i H' h => h.1 _ _ ea) ?_ ?_
    · rintro i k v T2 H2 hk ⟨s2, e2⟩ nT
      have fT := Fr.mk nT
      obtain ⟨j, hj, rfl, rfl⟩ := dM_at hk
      have s3 : Same H2 (upd H2 T2 (.tup [kV (.inl (j : Int)), mb j])) := same_newF fT
      have li : i < M.length := (List.getElem?_eq_some_iff.mp hj).1
      have htk : M.take (i + 1) = M.take i ++ [j] := by
        rw [List.take_succ, hj]
        rfl
      have hjn : j ∉ M.take i := fun z => by
        have h3 : (M.take (i + 1)).Nodup := (List.take_sublist _ _).nodup hnd
        rw [htk] at h3
        exact (List.nodup_append.mp h3).2.2 j z j (List.mem_singleton.mpr rfl) rfl
      have v1 := in_nat j G
      rw [htk, List.filter_append]
      refine ⟨T2, _, rfl, sqtOf upd_same, rfl, _, _, rfl, _, _, rfl, rfl, rfl, ?_⟩
      refine ⟨_, rfl, _, rfl, b, _, rfl, .inl (sqlOf (s3 _ _ (s2 _ _ eb))), rfl, flat_nats G, _, rfl, ?_⟩
      by_cases c0 : j ∈ G
      · refine ifF ?_ ⟨s2.trans s3, ?_⟩
        · rw [if_pos rfl]
          show (!inV (V.int (j : Int)) (G.map fun k : Nat => V.int (k : Int))) = false
          rw [v1, dT c0]
          rfl
        · rw [s3 _ _ e2, List.filter_cons_of_neg (by simp [c0]), List.filter_nil, List.append_nil]
      · refine ifT ?_ ?_
        · rw [if_pos rfl]
          show (!inV (V.int (j : Int)) (G.map fun k : Nat => V.int (k : Int))) = true
          rw [v1, dF c0]
          rfl
        refine ⟨_, rfl, _, rfl, _, .inl (j : Int), rfl, s3 _ _ e2, ?_, ⟨?_, ?_⟩⟩
        · have h3 := List.length_filter_le (fun i => decide (i ∉ G)) (M.take i)
          rw [List.length_take] at h3
          show ((List.map _ _ : List (Key × V))).length < _
          rw [List.length_map, sizeLine_eq]
          omega
        · exact same_putG fD (s2.trans s3)
        · rw [upd_same, dM_new (fun z => hjn (List.mem_filter.mp z).1), List.filter_cons_of_pos (by simp [c0]), List.filter_nil]
          refine congrArg (fun x => some (HO.dK x)) (dM_congr fun x _ => ?_)
          show (if x = j then mb j else mb x) = mb x
          by_cases e : x = j
          · rw [if_pos e, e]
          · rw [if_neg e]
    · rintro H2 ⟨s2, e2⟩
      rw [show (dM M mb).length = M.length from List.length_map .., List.take_length] at e2
      refine ⟨s2 _ _ ea, ?_⟩
      refine q D _ (fun x o e => ?_) ?_ ?_
      · by_cases c : x = a
        · rw [c, upd_same, ← h1, ← c, e]
        · rw [upd_ne c]
          exact s2 _ _ (en x o c e)
      · exact Fr.mk (by
          have z := nD
          rw [← hF, upd_ne (Ne.symm (ne_of_none ea nD))] at z
          exact z)
      · rw [upd_ne (Ne.symm (ne_of_none ea nD))]
        exact e2
end
end Ob

set_option Elab.async false
set_option linter.all false
set_option maxRecDepth 100000
set_option maxHeartbeats 1000000
namespace Ob
open PySem PySem.Spec PyProof.Rows L2
open LamX (Tabs TabB TabS ExtN)

set_option hygiene false in
local macro_rules
  | `(tactic| kp_flats) => `(tactic| first
    | assumption
    | exact upd_same
    | (apply atNew; assumption; kp_flats)
    | (apply atNe; (next => kbo_bools); kp_flats)
    | (apply atSame; assumption; kp_flats)
    | (apply atKp; assumption; (next => kaf_pre); kp_flats))
set_option hygiene false in
local macro_rules
  | `(tactic| kaf_pre) => `(tactic| first
    | assumption
    | exact not_nil
    | (apply not_cons; (next => kbo_bools); kaf_pre)
    | (apply not_app; (next => kaf_pre); kaf_pre))
set_option hygiene false in
local macro_rules
  | `(tactic| kbo_bools) => `(tactic| first
    | assumption
    | (apply Ne.symm; assumption)
    | (apply neN; assumption; kp_flats)
    | (apply neN'; assumption; kp_flats))
set_option hygiene false in
local macro_rules
  | `(tactic| o_reads) => `(tactic| first
    | with_reducible rfl
    | assumption
    | rfl
    | kp_flats
    | (show SqL _ _ _ _; first | assumption | (apply sqlOf; kp_flats) | (apply sqlSame; assumption; o_reads))
    | (show SqT _ _ _ _; first | assumption | (apply sqtOf; kp_flats) | (apply sqtAll; assumption) | (apply sqtSame; assumption; o_reads))
    | (show Cls _ _; first | exact T.cl_Calls | exact T.cl_Outer | exact T.cl_Timed)
    | (show NoAttr _ _ _; first | exact T.n_Calls_entries | exact T.n_Calls_running | exact T.n_Outer_calls | exact T.n_Outer_push_call | exact T.n_Outer_pop_call | exact T.n_Outer_ask_call | exact T.n_Outer_order | exact T.n_Outer_broken | exact T.n_Timed_outer | exact T.n_Timed_given | exact T.n_Timed_now | exact T.n_Timed_held | exact T.n_Timed_limits | exact T.n_Timed_ends)
    | (apply Or.inl; o_reads)
    | (apply Or.inr; o_reads)
    | (apply And.intro; (next => o_reads); o_reads)
    | (apply Exists.intro; o_reads)
    | exact Nat.le_of_ble_eq_true rfl
    | exact Nat.succ_ne_zero _
    | (show Fr _ _; kba_ints)
    | (show Same _ _; kd_subs)
    | (show Kp _ _ _; kxs_still)
    | (show (_ : Nat) ≤ _; simp only [List.length_append, List.length_map, List.length_cons, List.length_nil, List.length_take, List.length_drop, List.length_replicate, List.length_range, sizeLine_eq]; omega)
    | (show _ = none; apply Fr.h; kba_ints)
    | (show Bag _ _; first | assumption | (apply bag_putF; assumption; o_reads) | (apply bag_neF; (next => kbo_bools); o_reads) | (apply bag_kpR; assumption; (next => kaf_pre); o_reads))
    | omega
    | decide)
local macro_rules
  | `(tactic| o_readsAll) => `(tactic| repeat (first
    | (refine fun (pNew : Addr) (nNew : _ = none) => ?_; replace nNew := Fr.mk nNew)
    | (refine fun (xNew dNew : Addr) (nNew : _ = none) (mNew : _ = none) (eNew : dNew ≠ xNew) => ?_; replace nNew := Fr.mk nNew; replace mNew := Fr.mk mNew)
    | (apply And.intro; next => o_reads)
    | apply Exists.intro (α := V)
    | apply Exists.intro (α := Addr)
    | apply Exists.intro (α := Int)
    | apply Exists.intro (α := Bool)
    | apply Exists.intro (α := List V)
    | apply Exists.intro (α := List Nat)
    | apply Exists.intro (α := List (Str × V))
    | apply Exists.intro (α := List _)
    | apply Exists.intro (α := Str)
    | apply Exists.intro (α := HO)
    | apply Exists.intro (α := Sp)
    | apply Exists.intro (α := VK)))
set_option hygiene false in
local macro_rules
  | `(tactic| kba_ints) => `(tactic| first
    | assumption
    | (apply frUp; (first | assumption | (apply Ne.symm; assumption)); kba_ints)
    | (apply noneOf; assumption; intro oF eF; apply Exists.intro; kp_flats)
    | (apply frUp; (next => kbo_bools); kba_ints))
set_option hygiene false in
local macro_rules
  | `(tactic| kxs_still) => `(tactic| first
    | assumption
    | exact kp_refl _ _
    | (apply kp_newF; assumption; kxs_still)
    | (apply kp_new; assumption; kxs_still)
    | (apply kp_up; (next => o_fieldsN); kxs_still)
    | (apply kp_new; (next => kba_ints); kxs_still)
    | (apply kp_sameR; assumption; kxs_still)
    | (apply kp_transR; assumption; kxs_still)
    | (apply kp_freshR; assumption; (next => kaf_suf); kxs_still))
set_option hygiene false in
local macro_rules
  | `(tactic| kaf_suf) => `(tactic| first
    | assumption
    | exact subNil
    | (apply subCons; (first | (apply Or.inl; o_fieldsN) | (apply Or.inr; kba_ints)); kaf_suf)
    | (apply subApp; (next => kaf_suf); kaf_suf))
set_option hygiene false in
local macro_rules
  | `(tactic| o_fieldsN) => `(tactic| first
    | assumption
    | exact memA
    | (apply memB; o_fieldsN)
    | (apply memL; o_fieldsN)
    | (apply memR; o_fieldsN))
set_option hygiene false in
local macro_rules
  | `(tactic| kd_subs) => `(tactic| first
    | assumption
    | exact Same.refl _
    | (apply same_putF; assumption; kd_subs)
    | (apply same_putG; assumption; kd_subs)
    | (apply same_putF; (next => kba_ints); kd_subs)
    | (apply same_transR; assumption; kd_subs))

set_option pp.maxSteps 900
/-- a field within a comprehension: the fragment is named -/
theorem pe_fldK {X : Cx} (K : PySem.W.Frag) (hK : X.K = K) {e : Expr} {f : Str} {pos : Pos} {ta : TE} (he : PE X e ta) (hb : attributeBase e f X.env (eval e X.env) = eval e X.env) : PE X (.Attribute e f pos) (tFld K ta f) := by
  subst hK
  exact pe_fld he hb
section
variable {P : Program} {w : World} {K : PySem.W.Frag} {mg : Str → Option Value} {base : Heap} {n : Nat}
def spLet (CT : Addr) : Sp := fun vs H Q _ => ∃ (t dx o hd lm en a : Addr) (given c : Nat) (M E : List Nat) (mb : Nat → V) (lim ends : Nat → Nat), vs = [.ref t, .ref a] ∧ H t = some (TO CT dx o given c hd lm en) ∧ H a = some (.lst (E.map nV)) ∧ H hd = some (.dK (dM M mb)) ∧ H lm = some (.dK (dM M (iV lim))) ∧ H en = some (.dK (dM M (iV ends))) ∧ (∀ i ∈ E, i ∈ M) ∧ E.Nodup ∧ M.Nodup ∧ M.length < 400000 ∧ E.length < 400000 ∧ lm ≠ en ∧ hd ≠ lm ∧ hd ≠ en ∧
  ∀ r hd2 H' (G : List Nat), Kp [t, lm, en] H H' → Fr H r → H' r = some (.lst (G.map nV)) → G.Perm (E.filter fun i => decide (lim i = c)) → G.Pairwise (· ≤ ·) → H' t = some (TO CT dx o given c hd2 lm en) → (hd2 = hd ∨ Fr H hd2) →
    H' hd2 = some (.dK (dM (M.filter fun i => decide (i ∉ G)) mb)) → H' lm = some (.dK (dM (M.filter fun i => decide (i ∉ G)) (iV lim))) → H' en = some (.dK (dM (M.filter fun i => decide (i ∉ G)) (iV ends))) → Q (.ref r) H'
theorem ok_let (T : Txt K mg) : FnOk P w K mg base CX0 4 T.f_let_go T.d_let_go ["timed", "ending"] (spLet T.C_Timed) := by
  have G_without := ok_wo (P := P) (w := w) (base := base) T
  refine T.F_let_go.ok sc_let_go (fun vs H Q E h => ?_) (fun cdv A outer s H vs Q E hr h => ?_)
  · obtain ⟨t, dx, o, hd, lm, en, a, given, c, M, E, mb, lim, ends, rfl, _⟩ := h
    rfl
  · obtain ⟨t, dx, o, hd, lm, en, a, given, c, M, E, mb, lim, ends, rfl, ht, ha, hhd, hlm, hen, hEM, hEn, hMn, hML, hEL, nle, nhl, nhe, q⟩ := h
    refine ⟨_, (pss_cons (ps_set (i := 2) sc_let_go.nd rfl (.inl rfl) (pe_callB (r := rSortedI K) cr_sortedI (by rfl) T.z_sorted (by decide +kernel) (pa_cons (pe_lc (own := [("number", 3)]) (g := gName 3)  rfl sc_let_go.nd (pi_list (pv 1)) (blkOk_by (N := n_let_go) (sc := defScope s_let_go) (by decide +kernel)) (fun _ _ _ _ _ => (pg_name (i := 3) sc_let_go.nd rfl (.inl rfl))) (fun _ _ _ _ _ => (pts_one (pt_cmpR op_eq (pe_dget (by exact hu_of hr) (pe_fldK K rfl (pv 0) rfl) (pv 3) (fun _ _ => rfl)) (pe_fldK K rfl (pv 0) rfl) (nomark _)))) (fun _ _ _ _ _ => (pv 3))) pa_nil)))
      (pss_cons (ps_if (pt_cmpR op_gt (pe_callB call_len_seq (by rfl) T.z_len (by decide +kernel) (pa_cons (pv 2) pa_nil)) pe_int (nomark _)) (pss_one (ps_fld (pv 0) (pe_call G_without (hr.mono (by omega)) rfl T.g_without T.F_without.kp T.b_without .nil pass0 (pa_cons (pe_fld (pv 0) rfl) (pa_cons (pv 2) pa_nil))) rfl)) pss_nil)
      (pss_cons (ps_for PassesOwn.never rfl (pi_list (pv 2)) (pg_name (i := 3) sc_let_go.nd rfl (.inl rfl)) (pss_cons (ps_ddel (pe_fld (pv 0) rfl) (pv 3))
        (pss_one (ps_ddel (pe_fld (pv 0) rfl) (pv 3)))))
      (pss_one (ps_ret (pv 2)))))), ?_⟩
    refine ⟨_, rfl, a, rfl, ⟨_, sqlOf ha⟩, fun D nD => ?_⟩
    have fD := Fr.mk nD
    refine lc_it (walk_list (K := K) (a := a) (xs := E.map nV)) (fun i H' => Same H H' ∧ H' D = some (.lst (((E.take i).filter fun i => decide (lim i = c)).map nV))) ⟨same_newF fD, upd_same⟩ (fun i H' _ z => sqlOf (z.1 _ _ ha)) ?_ ?_
    · rintro i x H2' H2 hi ⟨s2, eD⟩ ⟨rfl, hx⟩
      rw [List.length_map] at hi
      rw [List.getElem?_map] at hx
      obtain ⟨j, hj, rfl⟩ := Option.map_eq_some_iff.mp hx
      have hjM := hEM j (List.mem_of_getElem? hj)
      have hg : DGet H2 lm (.int (j : Int)) (some (iV lim j)) := by
        rw [← dM_val (f := iV lim) hjM]
        exact DGet.k (k := .inl (j : Int)) (s2 _ _ hlm)
      rw [List.take_succ, hj, List.filter_append]
      refine ⟨rfl, ?_⟩
      refine ⟨_, rfl, t, _, dx, _, _, rfl, s2 _ _ ht, T.cl_Timed, T.n_Timed_limits, rfl, _, rfl, lm, _, rfl, hg, _, rfl, t, _, dx, _, _, rfl, s2 _ _ ht, T.cl_Timed, T.n_Timed_now, rfl, rfl, _, rfl, ?_⟩
      by_cases e : lim j = c
      · refine ifT (decide_eq_true (by show V.int ((lim j : Nat) : Int) = V.int (c : Int); rw [e])) ?_
        have hfl : (some j).toList.filter (fun i => decide (lim i = c)) = [j] := List.filter_cons_of_pos (by simpa using e)
        rw [hfl, List.map_append]
        refine ⟨_, rfl, _, eD, ?_, same_putG fD s2, upd_same⟩
        rw [List.length_map, sizeLine_eq]
        have h3 := List.length_filter_le (fun i => decide (lim i = c)) (E.take i)
        rw [List.length_take] at h3
        omega
      · refine ifF (decide_eq_false fun z => e (by
          have z : V.int ((lim j : Nat) : Int) = V.int (c : Int) := z
          injection z with z
          omega)) ?_
        have hfl : (some j).toList.filter (fun i => decide (lim i = c)) = [] := List.filter_cons_of_neg (by simpa using e)
        rw [hfl, List.append_nil]
        exact ⟨s2, eD⟩
    · rintro H2 ⟨s2, eD⟩
      rw [List.take_of_length_le (by rw [List.length_map]; exact Nat.le_refl _)] at eD
      have eD2 : SqL K H2 D (((E.filter fun i => decide (lim i = c)).map fun i : Nat => (i : Int)).map V.int) := by
        have := sqlOf (K := K) eD
        rw [show (E.filter fun i => decide (lim i = c)).map nV = ((E.filter fun i => decide (lim i = c)).map fun i : Nat => (i : Int)).map V.int by rw [List.map_map]; rfl] at this
        exact this
      refine ⟨D, _, rfl, eD2, fun ns' r hpm hso nr => pGN ?_⟩
      simp only [List.set_cons_succ, List.set_cons_zero]
      obtain ⟨G, rfl⟩ : ∃ G : List Nat, ns' = G.map fun i : Nat => (i : Int) := ⟨ns'.map Int.toNat, by
        rw [List.map_map]
        refine (Eq.trans (List.map_congr_left fun z mz => ?_) (List.map_id _)).symm
        obtain ⟨i, _, rfl⟩ := List.mem_map.mp (hpm.mem_iff.mp mz)
        show (((i : Int)).toNat : Int) = (i : Int)
        rw [Int.toNat_natCast]⟩
      have hG : G.Perm (E.filter fun i => decide (lim i = c)) := by
        have h1 := hpm.map Int.toNat
        have hid : ∀ l : List Nat, (l.map fun i : Nat => (i : Int)).map Int.toNat = l := fun l => by
          rw [List.map_map]
          exact Eq.trans (List.map_congr_left fun i _ => Int.toNat_natCast i) (List.map_id _)
        rw [hid, hid] at h1
        exact h1
      have hGs : G.Pairwise (· ≤ ·) := List.Pairwise.imp (fun h => by omega) (List.pairwise_map.mp hso)
      have fr := Fr.mk nr
      have er : upd H2 r (.lst ((G.map fun i : Nat => (i : Int)).map V.int)) r = some (.lst (G.map nV)) := by
        rw [upd_same, List.map_map]
        rfl
      have s3 := s2.trans (same_newF (o := .lst ((G.map fun i : Nat => (i : Int)).map V.int)) fr)
      have fr0 : Fr H r := Fr.mk (s2.free nr)
      generalize upd H2 r (.lst ((G.map fun i : Nat => (i : Int)).map V.int)) = H3 at er s3 ⊢
      have hGn : G.Nodup := hG.nodup_iff.mpr (hEn.filter _)
      have hGM : ∀ j ∈ G, j ∈ M := fun j m => hEM j (List.mem_filter.mp (hG.mem_iff.mp m)).1
      have hGl : G.length < 400000 := by
        have h1 := hG.length_eq
        have h2 := List.length_filter_le (fun i => decide (lim i = c)) E
        omega
      have ntl : t ≠ lm := neO ht hlm (fun z => nomatch z)
      have nte : t ≠ en := neO ht hen (fun z => nomatch z)
      have nrl : r ≠ lm := (ne_of_none hlm fr0.h).symm
      have nre : r ≠ en := (ne_of_none hen fr0.h).symm
      have loop : ∀ (hd2 : Addr) (H4 : Hp), Kp [t] H3 H4 → H4 t = some (TO T.C_Timed dx o given c hd2 lm en) → H4 hd2 = some (.dK (dM (M.filter fun i => decide (i ∉ G)) mb)) → (hd2 = hd ∨ Fr H hd2) → hd2 ≠ lm → hd2 ≠ en → r ≠ t →
          tSeq (tFor (iList K (tVar 2)) (gName 3) (tSeq (sDDel (tFld K (tVar 0) "limits") (tVar 3)) (sDDel (tFld K (tVar 0) "ends") (tVar 3)))) (tRet (tVar 2)) { nx := fun _ H' => Q V.non H', rt := Q } [some (.ref t), some (.ref a), some (.ref r), none] H4 := by
        intro hd2 H4 k4 ht4 hh4 hor n1 n2 nrt
        have er4 := k4.at_ _ _ er (not_cons nrt not_nil)
        have hl4 := k4.at_ _ _ (s3 _ _ hlm) (not_cons ntl.symm not_nil)
        have he4 := k4.at_ _ _ (s3 _ _ hen) (not_cons nte.symm not_nil)
        have f0 : M.filter (fun i => decide (i ∉ G.take 0)) = M := List.filter_eq_self.mpr fun i _ => by simp
        refine ⟨_, rfl, r, rfl, ⟨_, sqlOf er4⟩, ?_⟩
        refine for_it (walk_list (K := K) (a := r) (xs := G.map nV)) (fun k σ H' => ∃ y3, σ = [some (.ref t), some (.ref a), some (.ref r), y3] ∧ Kp [lm, en] H4 H' ∧ H' lm = some (.dK (dM (M.filter fun i => decide (i ∉ G.take k)) (iV lim))) ∧ H' en = some (.dK (dM (M.filter fun i => decide (i ∉ G.take k)) (iV ends)))) ⟨_, rfl, kp_refl _ _, by rw [f0]; exact hl4, by rw [f0]; exact he4⟩ (fun k σ H' _ ⟨_, _, z, _⟩ => sqlOf (z.at_ _ _ er4 (not_cons nrl (not_cons nre not_nil)))) ?_ ?_
        · rintro k x σ H5' H5 hk ⟨y3, rfl, k5, hl5, he5⟩ ⟨rfl, hx⟩
          rw [List.getElem?_map] at hx
          obtain ⟨j, hj, rfl⟩ := Option.map_eq_some_iff.mp hx
          have htk : G.take (k + 1) = G.take k ++ [j] := by
            rw [List.take_succ, hj]
            rfl
          have hjn : j ∉ G.take k := fun z => by
            have h3 : (G.take (k + 1)).Nodup := (List.take_sublist _ _).nodup hGn
            rw [htk] at h3
            exact (List.nodup_append.mp h3).2.2 j z j (List.mem_singleton.mpr rfl) rfl
          have hjf : j ∈ M.filter (fun i => decide (i ∉ G.take k)) := List.mem_filter.mpr ⟨hGM j (List.mem_of_getElem? hj), decide_eq_true hjn⟩
          have hff : (M.filter fun i => decide (i ∉ G.take k)).filter (fun i => decide (i ≠ j)) = M.filter fun i => decide (i ∉ G.take (k + 1)) := by
            rw [List.filter_filter]
            refine List.filter_congr fun i _ => ?_
            rw [htk]
            simp [List.mem_append, and_comm]
          have ht5 := k5.at_ _ _ ht4 (not_cons ntl (not_cons nte not_nil))
          refine ⟨_, rfl, t, _, dx, _, _, rfl, ht5, T.cl_Timed, T.n_Timed_limits, rfl, _, rfl, lm, _, (Sum.inl (j : Int) : Key), rfl, hl5, rfl, by rw [dM_val hjf]; rfl, ?_⟩
          rw [dM_drop, hff]
          have ht6 : upd H5 lm (.dK (dM (M.filter fun i => decide (i ∉ G.take (k + 1))) (iV lim))) t = some (TO T.C_Timed dx o given c hd2 lm en) := by rw [upd_ne ntl]; exact ht5
          have he6 : upd H5 lm (.dK (dM (M.filter fun i => decide (i ∉ G.take (k + 1))) (iV lim))) en = some (.dK (dM (M.filter fun i => decide (i ∉ G.take k)) (iV ends))) := by rw [upd_ne nle.symm]; exact he5
          refine ⟨_, rfl, t, _, dx, _, _, rfl, ht6, T.cl_Timed, T.n_Timed_ends, rfl, _, rfl, en, _, (Sum.inl (j : Int) : Key), rfl, he6, rfl, by rw [dM_val hjf]; rfl, ?_⟩
          rw [dM_drop, hff]
          exact ⟨_, rfl, kp_up (memB memA) (kp_up memA k5), by rw [upd_ne nle]; exact upd_same, upd_same⟩
        · rintro σ H5 ⟨y3, rfl, k5, hl5, he5⟩
          rw [List.take_of_length_le (by rw [List.length_map]; exact Nat.le_refl _)] at hl5 he5
          refine ⟨_, rfl, q r hd2 H5 G (kp_trans (kp_same s3) (kp_trans (kp_more k4 (subCons memA subNil)) (kp_more k5 fun x m => memB m))) fr0 (k5.at_ _ _ er4 (not_cons nrl (not_cons nre not_nil))) hG hGs (k5.at_ _ _ ht4 (not_cons ntl (not_cons nte not_nil))) hor (k5.at_ _ _ hh4 (not_cons n1 (not_cons n2 not_nil))) hl5 he5⟩
      have nrt : r ≠ t := (ne_of_none ht fr0.h).symm
      have hGlm : (G.map nV).length = G.length := List.length_map ..
      refine ⟨_, rfl, r, _, rfl, .inl (sqlOf er), _, _, rfl, rfl, _, rfl, ?_⟩
      by_cases hz : 0 < G.length
      · refine ifT (decide_eq_true (by rw [hGlm]; omega)) ?_
        refine ⟨_, rfl, t, _, dx, _, _, rfl, s3 _ _ ht, T.cl_Timed, T.n_Timed_held, rfl, _, rfl, hd, r, M, G, mb, rfl, s3 _ _ hhd, er, hMn, hML, fun hd2 H4 s4 f4 e4 => ?_⟩
        have f40 : Fr H hd2 := Fr.mk (s3.free f4.h)
        have ht4 := s4 _ _ (s3 _ _ ht)
        refine ⟨_, rfl, t, _, dx, _, rfl, ht4, T.cl_Timed, T.n_Timed_held, (show 6 < 1000 by decide), ?_⟩
        exact loop hd2 _ (kp_trans (kp_same s4) (kp_up memA (kp_refl _ _))) upd_same (by rw [upd_ne (ne_of_none ht f40.h).symm]; exact e4) (.inr f40) (ne_of_none hlm f40.h).symm (ne_of_none hen f40.h).symm nrt
      · have hG0 : G = [] := List.length_eq_zero_iff.mp (by omega)
        refine ifF (decide_eq_false (by rw [hGlm]; omega)) ?_
        have f0 : M.filter (fun i => decide (i ∉ G)) = M := List.filter_eq_self.mpr fun i _ => by rw [hG0]; simp
        exact loop hd _ (kp_refl _ _) (s3 _ _ ht) (by rw [f0]; exact s3 _ _ hhd) (.inl rfl) nhl nhe nrt
end
end Ob

set_option Elab.async false
set_option linter.all false
set_option maxRecDepth 100000
set_option maxHeartbeats 1000000
namespace Ob
open PySem PySem.Spec PyProof.Rows L2
open LamX (Tabs TabB TabS ExtN)

set_option hygiene false in
local macro_rules
  | `(tactic| kp_flats) => `(tactic| first
    | assumption
    | exact upd_same
    | (apply atNew; assumption; kp_flats)
    | (apply atNe; (next => kbo_bools); kp_flats)
    | (apply atSame; assumption; kp_flats)
    | (apply atKp; assumption; (next => kaf_pre); kp_flats))
set_option hygiene false in
local macro_rules
  | `(tactic| kaf_pre) => `(tactic| first
    | assumption
    | exact not_nil
    | (apply not_cons; (next => kbo_bools); kaf_pre)
    | (apply not_app; (next => kaf_pre); kaf_pre))
set_option hygiene false in
local macro_rules
  | `(tactic| kbo_bools) => `(tactic| first
    | assumption
    | (apply Ne.symm; assumption)
    | (apply neN; assumption; kp_flats)
    | (apply neN'; assumption; kp_flats))
set_option hygiene false in
local macro_rules
  | `(tactic| o_reads) => `(tactic| first
    | with_reducible rfl
    | assumption
    | rfl
    | kp_flats
    | (show SqL _ _ _ _; first | assumption | (apply sqlOf; kp_flats) | (apply sqlSame; assumption; o_reads))
    | (show SqT _ _ _ _; first | assumption | (apply sqtOf; kp_flats) | (apply sqtAll; assumption) | (apply sqtSame; assumption; o_reads))
    | (show Cls _ _; first | exact T.cl_Calls | exact T.cl_Outer | exact T.cl_Timed)
    | (show NoAttr _ _ _; first | exact T.n_Calls_entries | exact T.n_Calls_running | exact T.n_Outer_calls | exact T.n_Outer_push_call | exact T.n_Outer_pop_call | exact T.n_Outer_ask_call | exact T.n_Outer_order | exact T.n_Outer_broken | exact T.n_Timed_outer | exact T.n_Timed_given | exact T.n_Timed_now | exact T.n_Timed_held | exact T.n_Timed_limits | exact T.n_Timed_ends)
    | (apply Or.inl; o_reads)
    | (apply Or.inr; o_reads)
    | (apply And.intro; (next => o_reads); o_reads)
    | (apply Exists.intro; o_reads)
    | exact Nat.le_of_ble_eq_true rfl
    | exact Nat.succ_ne_zero _
    | (show Fr _ _; kba_ints)
    | (show Same _ _; kd_subs)
    | (show Kp _ _ _; kxs_still)
    | (show (_ : Nat) ≤ _; simp only [List.length_append, List.length_map, List.length_cons, List.length_nil, List.length_take, List.length_drop, List.length_replicate, List.length_range, sizeLine_eq]; omega)
    | (show _ = none; apply Fr.h; kba_ints)
    | (show Bag _ _; first | assumption | (apply bag_putF; assumption; o_reads) | (apply bag_neF; (next => kbo_bools); o_reads) | (apply bag_kpR; assumption; (next => kaf_pre); o_reads))
    | omega
    | decide)
local macro_rules
  | `(tactic| o_readsAll) => `(tactic| repeat (first
    | (refine fun (pNew : Addr) (nNew : _ = none) => ?_; replace nNew := Fr.mk nNew)
    | (refine fun (xNew dNew : Addr) (nNew : _ = none) (mNew : _ = none) (eNew : dNew ≠ xNew) => ?_; replace nNew := Fr.mk nNew; replace mNew := Fr.mk mNew)
    | (apply And.intro; next => o_reads)
    | apply Exists.intro (α := V)
    | apply Exists.intro (α := Addr)
    | apply Exists.intro (α := Int)
    | apply Exists.intro (α := Bool)
    | apply Exists.intro (α := List V)
    | apply Exists.intro (α := List Nat)
    | apply Exists.intro (α := List (Str × V))
    | apply Exists.intro (α := List _)
    | apply Exists.intro (α := Str)
    | apply Exists.intro (α := HO)
    | apply Exists.intro (α := Sp)
    | apply Exists.intro (α := VK)))
set_option hygiene false in
local macro_rules
  | `(tactic| kba_ints) => `(tactic| first
    | assumption
    | (apply frUp; (first | assumption | (apply Ne.symm; assumption)); kba_ints)
    | (apply noneOf; assumption; intro oF eF; apply Exists.intro; kp_flats)
    | (apply frUp; (next => kbo_bools); kba_ints))
set_option hygiene false in
local macro_rules
  | `(tactic| kxs_still) => `(tactic| first
    | assumption
    | exact kp_refl _ _
    | (apply kp_newF; assumption; kxs_still)
    | (apply kp_new; assumption; kxs_still)
    | (apply kp_up; (next => o_fieldsN); kxs_still)
    | (apply kp_new; (next => kba_ints); kxs_still)
    | (apply kp_sameR; assumption; kxs_still)
    | (apply kp_transR; assumption; kxs_still)
    | (apply kp_freshR; assumption; (next => kaf_suf); kxs_still))
set_option hygiene false in
local macro_rules
  | `(tactic| kaf_suf) => `(tactic| first
    | assumption
    | exact subNil
    | (apply subCons; (first | (apply Or.inl; o_fieldsN) | (apply Or.inr; kba_ints)); kaf_suf)
    | (apply subApp; (next => kaf_suf); kaf_suf))
set_option hygiene false in
local macro_rules
  | `(tactic| o_fieldsN) => `(tactic| first
    | assumption
    | exact memA
    | (apply memB; o_fieldsN)
    | (apply memL; o_fieldsN)
    | (apply memR; o_fieldsN))
set_option hygiene false in
local macro_rules
  | `(tactic| kd_subs) => `(tactic| first
    | assumption
    | exact Same.refl _
    | (apply same_putF; assumption; kd_subs)
    | (apply same_putG; assumption; kd_subs)
    | (apply same_putF; (next => kba_ints); kd_subs)
    | (apply same_transR; assumption; kd_subs))

set_option pp.maxSteps 900
open NdefX (TabsN)
section
variable {P : Program} {w : World} {K : PySem.W.Frag} {mg : Str → Option Value} {base : Heap} {n : Nat}
/-- the calls of a tick: those that end are popped, the new pieces pushed -/
def tickW (E B : List Nat) : List (Str × Nat) := (E.reverse.map fun i => (("pop" : Str), i)) ++ B.map fun i => (("push" : Str), i)
theorem pops_revA : ∀ {R S : List Nat}, PopsOk (S ++ R.reverse) (R.map fun i => (("pop" : Str), i)) ∧ runW (S ++ R.reverse) (R.map fun i => (("pop" : Str), i)) = S
  | [], S => ⟨True.intro, List.append_nil S⟩
  | i :: R, S => by
    have ih := pops_revA (R := R) (S := S)
    have e : S ++ (i :: R).reverse = (S ++ R.reverse) ++ [i] := by rw [List.reverse_cons, List.append_assoc]
    have hs : stepS ((S ++ R.reverse) ++ [i]) (("pop" : Str), i) = S ++ R.reverse := by
      unfold stepS
      rw [if_neg wOP2, if_pos rfl, List.dropLast_concat]
    rw [e]
    refine ⟨⟨?_, ?_⟩, ?_⟩
    · rw [if_neg wOP2]
      exact ⟨rfl, S ++ R.reverse, rfl⟩
    · rw [hs]
      exact ih.1
    · show runW (stepS _ _) _ = _
      rw [hs]
      exact ih.2
theorem pops_rev {E S : List Nat} : PopsOk (S ++ E) (E.reverse.map fun i => (("pop" : Str), i)) ∧ runW (S ++ E) (E.reverse.map fun i => (("pop" : Str), i)) = S := by
  have := pops_revA (R := E.reverse) (S := S)
  rw [List.reverse_reverse] at this
  exact this
theorem push_ok : ∀ {B S : List Nat}, PopsOk S (B.map fun i => (("push" : Str), i)) ∧ runW S (B.map fun i => (("push" : Str), i)) = S ++ B
  | [], S => ⟨True.intro, (List.append_nil S).symm⟩
  | i :: B, S => by
    have hs : stepS S (("push" : Str), i) = S ++ [i] := by
      unfold stepS
      rw [if_pos rfl]
    have ih := push_ok (B := B) (S := S ++ [i])
    refine ⟨⟨?_, ?_⟩, ?_⟩
    · rw [if_pos rfl]
      exact True.intro
    · rw [hs]
      exact ih.1
    · show runW (stepS _ _) _ = _
      rw [hs, ih.2, List.append_assoc]
      rfl
theorem tick_ok {E B S : List Nat} : PopsOk (S ++ E) (tickW E B) ∧ runW (S ++ E) (tickW E B) = S ++ B := by
  obtain ⟨h1, h2⟩ := pops_rev (E := E) (S := S)
  obtain ⟨g1, g2⟩ := push_ok (B := B) (S := S)
  unfold tickW
  refine ⟨pops_app.mpr ⟨h1, by rw [h2]; exact g1⟩, by rw [run_app, h2, g2]⟩
end
end Ob

set_option Elab.async false
set_option linter.all false
set_option maxRecDepth 100000
set_option maxHeartbeats 1000000
namespace Ob
open PySem PySem.Spec PyProof.Rows L2
open LamX (Tabs TabB TabS ExtN)

set_option hygiene false in
local macro_rules
  | `(tactic| kp_flats) => `(tactic| first
    | assumption
    | exact upd_same
    | (apply atNew; assumption; kp_flats)
    | (apply atNe; (next => kbo_bools); kp_flats)
    | (apply atSame; assumption; kp_flats)
    | (apply atKp; assumption; (next => kaf_pre); kp_flats))
set_option hygiene false in
local macro_rules
  | `(tactic| kaf_pre) => `(tactic| first
    | assumption
    | exact not_nil
    | (apply not_cons; (next => kbo_bools); kaf_pre)
    | (apply not_app; (next => kaf_pre); kaf_pre))
set_option hygiene false in
local macro_rules
  | `(tactic| kbo_bools) => `(tactic| first
    | assumption
    | (apply Ne.symm; assumption)
    | (apply neN; assumption; kp_flats)
    | (apply neN'; assumption; kp_flats))
set_option hygiene false in
local macro_rules
  | `(tactic| o_reads) => `(tactic| first
    | with_reducible rfl
    | assumption
    | rfl
    | kp_flats
    | (show SqL _ _ _ _; first | assumption | (apply sqlOf; kp_flats) | (apply sqlSame; assumption; o_reads))
    | (show SqT _ _ _ _; first | assumption | (apply sqtOf; kp_flats) | (apply sqtAll; assumption) | (apply sqtSame; assumption; o_reads))
    | (show Cls _ _; first | exact T.cl_Calls | exact T.cl_Outer | exact T.cl_Timed)
    | (show NoAttr _ _ _; first | exact T.n_Calls_entries | exact T.n_Calls_running | exact T.n_Outer_calls | exact T.n_Outer_push_call | exact T.n_Outer_pop_call | exact T.n_Outer_ask_call | exact T.n_Outer_order | exact T.n_Outer_broken | exact T.n_Timed_outer | exact T.n_Timed_given | exact T.n_Timed_now | exact T.n_Timed_held | exact T.n_Timed_limits | exact T.n_Timed_ends)
    | (apply Or.inl; o_reads)
    | (apply Or.inr; o_reads)
    | (apply And.intro; (next => o_reads); o_reads)
    | (apply Exists.intro; o_reads)
    | exact Nat.le_of_ble_eq_true rfl
    | exact Nat.succ_ne_zero _
    | (show Fr _ _; kba_ints)
    | (show Same _ _; kd_subs)
    | (show Kp _ _ _; kxs_still)
    | (show (_ : Nat) ≤ _; simp only [List.length_append, List.length_map, List.length_cons, List.length_nil, List.length_take, List.length_drop, List.length_replicate, List.length_range, sizeLine_eq]; omega)
    | (show _ = none; apply Fr.h; kba_ints)
    | (show Bag _ _; first | assumption | (apply bag_putF; assumption; o_reads) | (apply bag_neF; (next => kbo_bools); o_reads) | (apply bag_kpR; assumption; (next => kaf_pre); o_reads))
    | omega
    | decide)
local macro_rules
  | `(tactic| o_readsAll) => `(tactic| repeat (first
    | (refine fun (pNew : Addr) (nNew : _ = none) => ?_; replace nNew := Fr.mk nNew)
    | (refine fun (xNew dNew : Addr) (nNew : _ = none) (mNew : _ = none) (eNew : dNew ≠ xNew) => ?_; replace nNew := Fr.mk nNew; replace mNew := Fr.mk mNew)
    | (apply And.intro; next => o_reads)
    | apply Exists.intro (α := V)
    | apply Exists.intro (α := Addr)
    | apply Exists.intro (α := Int)
    | apply Exists.intro (α := Bool)
    | apply Exists.intro (α := List V)
    | apply Exists.intro (α := List Nat)
    | apply Exists.intro (α := List (Str × V))
    | apply Exists.intro (α := List _)
    | apply Exists.intro (α := Str)
    | apply Exists.intro (α := HO)
    | apply Exists.intro (α := Sp)
    | apply Exists.intro (α := VK)))
set_option hygiene false in
local macro_rules
  | `(tactic| kba_ints) => `(tactic| first
    | assumption
    | (apply frUp; (first | assumption | (apply Ne.symm; assumption)); kba_ints)
    | (apply noneOf; assumption; intro oF eF; apply Exists.intro; kp_flats)
    | (apply frUp; (next => kbo_bools); kba_ints))
set_option hygiene false in
local macro_rules
  | `(tactic| kxs_still) => `(tactic| first
    | assumption
    | exact kp_refl _ _
    | (apply kp_newF; assumption; kxs_still)
    | (apply kp_new; assumption; kxs_still)
    | (apply kp_up; (next => o_fieldsN); kxs_still)
    | (apply kp_new; (next => kba_ints); kxs_still)
    | (apply kp_sameR; assumption; kxs_still)
    | (apply kp_transR; assumption; kxs_still)
    | (apply kp_freshR; assumption; (next => kaf_suf); kxs_still))
set_option hygiene false in
local macro_rules
  | `(tactic| kaf_suf) => `(tactic| first
    | assumption
    | exact subNil
    | (apply subCons; (first | (apply Or.inl; o_fieldsN) | (apply Or.inr; kba_ints)); kaf_suf)
    | (apply subApp; (next => kaf_suf); kaf_suf))
set_option hygiene false in
local macro_rules
  | `(tactic| o_fieldsN) => `(tactic| first
    | assumption
    | exact memA
    | (apply memB; o_fieldsN)
    | (apply memL; o_fieldsN)
    | (apply memR; o_fieldsN))
set_option hygiene false in
local macro_rules
  | `(tactic| kd_subs) => `(tactic| first
    | assumption
    | exact Same.refl _
    | (apply same_putF; assumption; kd_subs)
    | (apply same_putG; assumption; kd_subs)
    | (apply same_putF; (next => kba_ints); kd_subs)
    | (apply same_transR; assumption; kd_subs))

set_option pp.maxSteps 900
open NdefX (TabsN)
theorem tabsN_kpU {T : List NdefX.NTab} {cs : List Addr} {H H1 : Hp} (t : TabsN T H) (k : Kp cs H H1) (m : Mu H cs) (n : ∀ p ∈ T, p.1 ∉ cs) : TabsN T H1 := fun p hp => by
  obtain ⟨ps, h1, h2, h3⟩ := t p hp
  refine ⟨ps, k.at_ _ _ h1 (n p hp), h2, fun pos cv hc => ?_⟩
  obtain ⟨c, e1, e2⟩ := h3 pos cv hc
  exact ⟨c, e1, k.at_ _ _ e2 (m.ext e2)⟩
section
variable {P : Program} {w : World} {K : PySem.W.Frag} {mg : Str → Option Value} {base : Heap} {n : Nat}
def spTick (P : Program) (w : World) (K : PySem.W.Frag) (mg : Str → Option Value) (base : Heap) (T : Txt K mg) (n : Nat) : Sp := fun vs H Q _ => ∃ (t o c l lm en : Addr) (fp fo fa : V) (uv : List Addr) (PM : Nat → V → Prop) (PQ : V → Prop) (R : List Ca → Hp → Prop) (An : List Ca → V → V → Hp → Prop) (tr : List Ca) (given now : Nat) (M : List Nat) (mb : Nat → V) (lim ends : Nat → Nat),
  vs = [.ref t] ∧ OS P w K mg base n uv fp fo fa PM PQ R An ∧ TmAt T.C_Timed T.C_Outer T.C_Calls H t o c l lm en fp fo fa uv PM R tr given now M mb lim ends ∧ TabsN (TT T) H ∧ (∀ p ∈ TT T, p.1 ∉ uv) ∧ tr.length < 390000 ∧ M.length < 50000 ∧ (∀ i ∈ M, lim i ≤ 1000000000) ∧
  ∀ r H' (B G S1 : List Nat), Kp (T.p_next_pieces :: t :: lm :: en :: o :: c :: l :: uv) H H' → TabsN (TT T) H' → Fr H r → H' r = some (.lst (G.map nV)) → G.Pairwise (· < ·) → (∀ i, i ∈ G ↔ i ∈ M ∧ lim i = now + 1) → stC [] tr = S1 ++ endS ends (now + 1) (stC [] tr) → B.Perm ((endS ends (now + 1) (stC [] tr)).filter fun i => decide (now + 1 < lim i)) → (B.Pairwise fun a b => szP (now + 1) (lim b - (now + 1)) < szP (now + 1) (lim a - (now + 1)) ∨ (szP (now + 1) (lim a - (now + 1)) = szP (now + 1) (lim b - (now + 1)) ∧ a ≤ b)) →
    TmAt T.C_Timed T.C_Outer T.C_Calls H' t o c l lm en fp fo fa uv PM R (tr ++ (tickW (endS ends (now + 1) (stC [] tr)) B).map (caOf mb)) given (now + 1) (M.filter fun i => decide (lim i ≠ now + 1)) mb lim (enT lim ends (now + 1)) → Q (.ref r) H'
theorem ok_tick (T : Txt K mg) (TB : LamX.TabB base mg T.c_next_pieces T.p_next_pieces) : FnOk P w K mg base CX0 (n + 14) T.f_Timed_tick T.d_Timed_tick ["self"] (spTick P w K mg base T n) := by
  have G_Outer_check := ok_oc (P := P) (w := w) (base := base) T
  have G_ending_numbers := ok_end (P := P) (w := w) (base := base) T
  have G_next_pieces := ok_next (P := P) (w := w) T TB
  have G_plan_moves := ok_moves (P := P) (w := w) (base := base) T
  have G_Outer_change := ok_change (P := P) (w := w) (base := base) (n := n) T
  have G_let_go := ok_let (P := P) (w := w) (base := base) T
  refine T.F_Timed_tick.ok sc_Timed_tick (fun vs H Q E h => ?_) (fun cdv A outer s H vs Q E hr h => ?_)
  · obtain ⟨t, o, c, l, lm, en, fp, fo, fa, uv, PM, PQ, R, An, tr, given, now, M, mb, lim, ends, rfl, _⟩ := h
    rfl
  · obtain ⟨t, o, c, l, lm, en, fp, fo, fa, uv, PM, PQ, R, An, tr, given, now, M, mb, lim, ends, rfl, OA, hT, t0, npt, htl, hML, hLB, q⟩ := h
    refine ⟨_, (pss_cons (ps_expr (pe_meth0 (pe_fld (pv 0) rfl) T.cl_Outer ⟨T.m_Outer_check, T.t_Outer_check, T.k_Outer_check⟩ G_Outer_check (hr.mono (by omega)) T.b_Outer_check .nil pass0))
      (pss_cons (ps_set (i := 1) sc_Timed_tick.nd rfl (.inl rfl) (pe_call G_ending_numbers (hr.mono (by omega)) rfl T.g_ending_numbers T.F_ending_numbers.kp T.b_ending_numbers .nil pass0 (pa_cons (pv 0) pa_nil)))
      (pss_cons (ps_set (i := 2) sc_Timed_tick.nd rfl (.inl rfl) (pe_call G_next_pieces (hr.mono (by omega)) rfl T.g_next_pieces T.F_next_pieces.kp T.b_next_pieces .nil pass0 (pa_cons (pv 0) (pa_cons (pv 1) pa_nil))))
      (pss_cons (ps_expr (pe_meth (pe_fld (pv 0) rfl) T.cl_Outer ⟨T.m_Outer_change, T.t_Outer_change, T.k_Outer_change⟩ G_Outer_change (hr.mono (by omega)) T.b_Outer_change .nil pass0 (pa_cons (pe_call G_plan_moves (hr.mono (by omega)) rfl T.g_plan_moves T.F_plan_moves.kp T.b_plan_moves .nil pass0 (pa_cons (pv 1) (pa_cons (pv 2) pa_nil))) (pa_cons (pe_fld (pv 0) rfl) pa_nil))))
      (pss_cons (ps_fldaug (pv 0) pe_int in_add)
      (pss_cons (ps_for PassesOwn.never rfl (pi_list (pv 2)) (pg_tup (by rfl) (pgs_cons (pg_name (i := 3) sc_Timed_tick.nd rfl (.inl rfl)) (pgs_cons (pg_name (i := 4) sc_Timed_tick.nd rfl (.inl rfl)) pgs_nil))) (pss_one (ps_dput (hu_of hr) (pe_fld (pv 0) rfl) (pv 3) (pe_op op_add (pe_fld (pv 0) rfl) (pv 4)) rfl)))
      (pss_one (ps_ret (pe_call G_let_go (hr.mono (by omega)) rfl T.g_let_go T.F_let_go.kp T.b_let_go .nil pass0 (pa_cons (pv 0) (pa_cons (pv 1) pa_nil))))))))))), ?_⟩
    obtain ⟨⟨dx, hd, ht, hhd, nhd⟩, ⟨od, hO⟩, hlm, hen, hti, hgv, ⟨nto, ntc⟩, nle, nuv⟩ := id hT
    obtain ⟨⟨d1, ho⟩, ⟨d2, hc⟩, ⟨xs, hl, hlg⟩, hod, hR, nlod, noc, nu⟩ := id hO
    have npu : T.p_next_pieces ∉ uv := npt _ (hm_next_pieces T)
    have hM : ∀ i ∈ stC [] tr, i ∈ M := fun i m => hti.pm.mem_iff.mp m
    have lS : (stC [] tr).length = M.length := hti.pm.length_eq
    have hsp : stC [] tr = lowS ends (now + 1) (stC [] tr) ++ endS ends (now + 1) (stC [] tr) := top_split (c := now + 1) hti.dn fun i m => (hti.lo i (hM i m)).1
    refine ⟨_, rfl, t, _, dx, _, _, rfl, ht, T.cl_Timed, T.n_Timed_outer, rfl, o, d1, _, rfl, ho, rfl, o, c, l, od, fp, fo, fa, rfl, ⟨d1, ho⟩, ⟨d2, hc⟩, ?_⟩
    refine ⟨_, rfl, t, dx, o, d1, c, hd, lm, en, od, fp, fo, fa, given, now, M, stC [] tr, lim, ends, rfl, ht, ho, hod, hen, hti, by omega, fun r1 H1 s1 fr1 e1 => pGN ?_⟩
    simp only [List.set_cons_succ, List.set_cons_zero]
    have hEl : (endS ends (now + 1) (stC [] tr)).length ≤ M.length := by
      rw [← lS]
      exact List.length_filter_le _ _
    have hEM : ∀ i ∈ endS ends (now + 1) (stC [] tr), i ∈ M ∧ ends i = now + 1 := fun i m => ⟨hM i (List.mem_filter.mp m).1, of_decide_eq_true (List.mem_filter.mp m).2⟩
    refine ⟨_, rfl, _, rfl, t, dx, o, hd, lm, en, r1, given, now, M, endS ends (now + 1) (stC [] tr), lim, rfl, s1 _ _ ht, e1, s1 _ _ hlm, fun i m => ⟨(hEM i m).1, hLB i (hEM i m).1, by have := hti.lo i (hEM i m).1; omega⟩, by omega, tabs_same t0 s1, fun r2 H2 ts B k2 t2 fr2 e2 hpr hBp hBs => pGN ?_⟩
    simp only [List.set_cons_succ, List.set_cons_zero]
    have t1 := tabs_same t0 s1
    have nt : ∀ {a : Addr} {x : HO}, H1 a = some x → (∀ ps, x ≠ .tbl ps) → a ∉ [T.p_next_pieces] := fun e n => not_cons (tab_ne t1 (hm_next_pieces T) e n) not_nil
    have up : ∀ {a : Addr} {x : HO}, H a = some x → (∀ ps, x ≠ .tbl ps) → H2 a = some x := fun e n => k2.at_ _ _ (s1 _ _ e) (nt (s1 _ _ e) n)
    have mt : Mu H1 [T.p_next_pieces] := by
      obtain ⟨ps, h, _⟩ := t1 _ (hm_next_pieces T)
      exact mu_cons h (fun _ z => nomatch z) (fun _ z => nomatch z) mu_nil
    have O2 := (hO.kp OA (kp_same (cs := []) s1) mu_nil not_nil not_nil not_nil not_nil (fun _ _ => not_nil)).kp OA k2 mt (nt (s1 _ _ ho) (fun _ z => nomatch z)) (nt (s1 _ _ hc) (fun _ z => nomatch z)) (nt (s1 _ _ hl) (fun _ z => nomatch z)) (nt (s1 _ _ hod) (fun _ z => nomatch z)) (fun a m => not_cons (fun z => npu (by rw [← z]; exact m)) not_nil)
    have e12 := k2.at_ _ _ e1 (nt e1 (fun _ z => nomatch z))
    have hBl : B.length ≤ M.length := by
      have h1 := hBp.length_eq
      have h2 := List.length_filter_le (fun i => decide (now + 1 < lim i)) (endS ends (now + 1) (stC [] tr))
      omega
    refine ⟨_, rfl, t, _, dx, _, _, rfl, up ht (fun _ z => nomatch z), T.cl_Timed, T.n_Timed_outer, rfl, o, d1, _, rfl, up ho (fun _ z => nomatch z), rfl, _, rfl, _, rfl, r1, r2, endS ends (now + 1) (stC [] tr), ts, B, (fun i => szP (now + 1) (lim i - (now + 1))), rfl, e12, e2, hpr, by omega, by omega, fun r3 ys H3 s3 fr3 e3 w3 => ?_⟩
    generalize hE0 : endS ends (now + 1) (stC [] tr) = E at *
    generalize hL0 : lowS ends (now + 1) (stC [] tr) = L at *
    have up3 : ∀ {a : Addr} {x : HO}, H a = some x → (∀ ps, x ≠ .tbl ps) → H3 a = some x := fun e n => s3 _ _ (up e n)
    have O3 := O2.kp OA (kp_same (cs := []) s3) mu_nil not_nil not_nil not_nil not_nil (fun _ _ => not_nil)
    have m2 : Mu H2 [T.p_next_pieces] := by
      obtain ⟨ps, h, _⟩ := t2 _ (hm_next_pieces T)
      exact mu_cons h (fun _ z => nomatch z) (fun _ z => nomatch z) mu_nil
    have fr30 : Fr H r3 := Fr.mk (s1.free (fr_kp k2 m2 fr3).h)
    have mu0 := OA.mu hR
    have hBM : ∀ i ∈ B, i ∈ M := fun i m => (hEM i (List.mem_filter.mp (hBp.mem_iff.mp m)).1).1
    have htw : (tickW E B).length = E.length + B.length := by
      unfold tickW
      rw [List.length_append, List.length_map, List.length_map, List.length_reverse]
    have hpo : PopsOk (stC [] tr) (tickW E B) := by
      have := (tick_ok (E := E) (B := B) (S := L)).1
      rw [← hsp] at this
      exact this
    have hdU : hd ≠ o ∧ hd ≠ c ∧ hd ≠ l ∧ hd ∉ uv := by
      refine ⟨fun z => nhd (by rw [z]; exact memB (memB (memB memA))), fun z => nhd (by rw [z]; exact memB (memB (memB (memB memA)))), fun z => nhd (by rw [z]; exact memB (memB (memB (memB (memB memA))))), fun z => nhd (memB (memB (memB (memB (memB (memB z))))))⟩
    refine ⟨_, rfl, t, _, dx, _, _, rfl, up3 ht (fun _ z => nomatch z), T.cl_Timed, T.n_Timed_held, rfl, o, c, l, od, r3, hd, fp, fo, fa, uv, PM, PQ, R, An, tr, ys, tickW E B, dM M mb, mb, rfl, OA, O3, e3, w3, up3 hhd (fun _ z => nomatch z), fun e me ew => ?_, hpo, by omega, by omega, fun a ma => ?_, fun od2 H4 k4 fod2 O4 => ?_⟩
    · have heB : e.2 ∈ B := by
        rcases List.mem_append.mp me with me | me
        · obtain ⟨i, _, rfl⟩ := List.mem_map.mp me
          exact absurd ew wOP2
        · obtain ⟨i, mi, rfl⟩ := List.mem_map.mp me
          exact mi
      exact ⟨dM_val (hBM _ heB), (hgv _ (hBM _ heB)).2⟩
    · rcases List.mem_cons.mp ma with rfl | ma
      · exact ⟨(ne_of_none ho fr30.h).symm, (ne_of_none hc fr30.h).symm, (ne_of_none hl fr30.h).symm, mu0.fr fr30⟩
      · rw [List.mem_singleton.mp ma]
        exact hdU
    have ntl : t ≠ l := neO ht hl (fun z => nomatch z)
    have ut : t ∉ uv := fun z => (nuv t z).1 rfl
    have tU : t ∉ o :: c :: l :: uv := not_cons nto (not_cons ntc (not_cons ntl ut))
    have nlmU : lm ∉ o :: c :: l :: uv := not_cons (neO hlm ho (fun z => nomatch z)) (not_cons (neO hlm hc (fun z => nomatch z)) (not_cons (neO hlm hl (fun z => nomatch z)) (fun z => (nuv lm z).2.1 rfl)))
    have nenU : en ∉ o :: c :: l :: uv := not_cons (neO hen ho (fun z => nomatch z)) (not_cons (neO hen hc (fun z => nomatch z)) (not_cons (neO hen hl (fun z => nomatch z)) (fun z => (nuv en z).2.2 rfl)))
    have hdU2 : hd ∉ o :: c :: l :: uv := not_cons hdU.1 (not_cons hdU.2.1 (not_cons hdU.2.2.1 hdU.2.2.2))
    have ht4 := k4.at_ _ _ (up3 ht (fun _ z => nomatch z)) tU
    have hlm4 := k4.at_ _ _ (up3 hlm (fun _ z => nomatch z)) nlmU
    have hen4 := k4.at_ _ _ (up3 hen (fun _ z => nomatch z)) nenU
    have hhd4 := k4.at_ _ _ (up3 hhd (fun _ z => nomatch z)) hdU2
    have fr20 : Fr H r2 := Fr.mk (s1.free fr2.h)
    have r2U : r2 ∉ o :: c :: l :: uv := not_cons (ne_of_none ho fr20.h).symm (not_cons (ne_of_none hc fr20.h).symm (not_cons (ne_of_none hl fr20.h).symm (mu0.fr fr20)))
    have r1U : r1 ∉ o :: c :: l :: uv := not_cons (ne_of_none ho fr1.h).symm (not_cons (ne_of_none hc fr1.h).symm (not_cons (ne_of_none hl fr1.h).symm (mu0.fr fr1)))
    have e24 := k4.at_ _ _ (s3 _ _ e2) r2U
    have e14 := k4.at_ _ _ (s3 _ _ e12) r1U
    obtain ⟨⟨d3, ho3⟩, ⟨d4, hc3⟩, ⟨zs3, hl3, _⟩, _, hR3, _⟩ := id O3
    have mU3 : Mu H3 (o :: c :: l :: uv) := mu_ins ho3 (mu_ins hc3 (mu_lst hl3 (OA.mu hR3)))
    have hpr4 : ∀ (q : Nat) (u : Addr) (i : Nat), ts[q]? = some u → B[q]? = some i → H4 u = some (.tup [.int (i : Int), .int ((szP (now + 1) (lim i - (now + 1)) : Nat) : Int)]) := fun q u i a b => kp_tup k4 mU3 (s3 _ _ (hpr.at_ q u i a b))
    have ntlm : t ≠ lm := neO ht hlm (fun z => nomatch z)
    have nten : t ≠ en := neO ht hen (fun z => nomatch z)
    have nth : t ≠ hd := neO ht hhd (fun z => nomatch z)
    have nr2t : t ≠ r2 := ne_of_none ht fr20.h
    have nr1t : t ≠ r1 := ne_of_none ht fr1.h
    have nhl : hd ≠ lm := fun z => nhd (by rw [z]; exact memB memA)
    have nhe : hd ≠ en := fun z => nhd (by rw [z]; exact memB (memB memA))
    dsimp only []
    refine pSeq ⟨_, rfl, t, _, dx, _, _, rfl, ht4, T.cl_Timed, T.n_Timed_now, rfl, _, _, rfl, rfl, dx, _, ht4, (show 6 < 1000 by decide), ?_⟩
    show tSeq _ _ _ _ (upd H4 t (TO T.C_Timed dx o given (now + 1) hd lm en))
    have k45 : Kp [t, lm, en] H4 (upd H4 t (TO T.C_Timed dx o given (now + 1) hd lm en)) := kp_up memA (kp_refl _ _)
    have kt : Kp [t] H4 (upd H4 t (TO T.C_Timed dx o given (now + 1) hd lm en)) := kp_up memA (kp_refl _ _)
    have m4t : Mu H4 [t] := mu_ins ht4 mu_nil
    have ht5 : upd H4 t (TO T.C_Timed dx o given (now + 1) hd lm en) t = some (TO T.C_Timed dx o given (now + 1) hd lm en) := upd_same
    have hlm5 := kt.at_ _ _ hlm4 (not_cons ntlm.symm not_nil)
    have hen5 := kt.at_ _ _ hen4 (not_cons nten.symm not_nil)
    have hhd5 := kt.at_ _ _ hhd4 (not_cons nth.symm not_nil)
    have e25 := kt.at_ _ _ e24 (not_cons nr2t.symm not_nil)
    have e15 := kt.at_ _ _ e14 (not_cons nr1t.symm not_nil)
    have hpr5 : ∀ (q : Nat) (u : Addr) (i : Nat), ts[q]? = some u → B[q]? = some i → upd H4 t (TO T.C_Timed dx o given (now + 1) hd lm en) u = some (.tup [.int (i : Int), .int ((szP (now + 1) (lim i - (now + 1)) : Nat) : Int)]) := fun q u i a b => kp_tup kt m4t (hpr4 q u i a b)
    generalize upd H4 t (TO T.C_Timed dx o given (now + 1) hd lm en) = H5 at k45 kt ht5 hlm5 hen5 hhd5 e25 e15 hpr5 ⊢
    have nr2e : r2 ≠ en := (ne_of_none hen fr20.h).symm
    have nr1e : r1 ≠ en := (ne_of_none hen fr1.h).symm
    have hpl := hpr.len
    have men : Mu H5 [en] := mu_cons hen5 (fun _ z => nomatch z) (fun _ z => nomatch z) mu_nil
    refine pSeq ⟨_, rfl, r2, rfl, ⟨_, sqlOf e25⟩, ?_⟩
    refine for_it (walk_list (K := K) (a := r2) (xs := ts.map V.ref)) (fun k σ H' => ∃ y3 y4, σ = [some (.ref t), some (.ref r1), some (.ref r2), y3, y4] ∧ Kp [en] H5 H' ∧ H' en = some (.dK (dM M (iV fun i => if i ∈ B.take k then now + 1 + szP (now + 1) (lim i - (now + 1)) else ends i)))) ⟨_, _, rfl, kp_refl _ _, by rw [hen5]; exact congrArg (fun x => some (HO.dK x)) (dM_congr fun i _ => by unfold iV; dsimp only; rw [List.take_zero, if_neg (fun z => nomatch z)])⟩ (fun k σ H' _ ⟨_, _, _, z, _⟩ => sqlOf (z.at_ _ _ e25 (not_cons nr2e not_nil))) ?_ ?_
    · rintro k x σ H6' H6 hk ⟨y3, y4, rfl, k6, he6⟩ ⟨rfl, hx⟩
      rw [List.length_map] at hk
      rw [List.getElem?_map] at hx
      obtain ⟨u, hu, rfl⟩ := Option.map_eq_some_iff.mp hx
      obtain ⟨j, hj⟩ : ∃ j, B[k]? = some j := ⟨_, List.getElem?_eq_getElem (by omega)⟩
      have hu6 := kp_tup k6 men (hpr5 k u j hu hj)
      have ht6 := k6.at_ _ _ ht5 (not_cons nten not_nil)
      have hjM := hBM j (List.mem_of_getElem? hj)
      have hP := DPut.k (k := .inl (j : Int)) (v := .int (((now + 1 : Nat) : Int) + ((szP (now + 1) (lim j - (now + 1)) : Nat) : Int))) he6 (by rw [show ∀ f, (dM M f).length = M.length from fun f => List.length_map .., sizeLine_eq]; omega)
      rw [dM_old hjM] at hP
      refine ⟨u, _, rfl, sqtOf hu6, rfl, _, _, rfl, _, _, rfl, rfl, ?_⟩
      refine ⟨_, rfl, t, _, dx, _, _, rfl, ht6, T.cl_Timed, T.n_Timed_now, rfl, _, rfl, _, _, rfl, rfl, _, rfl, t, _, dx, _, _, rfl, ht6, T.cl_Timed, T.n_Timed_ends, rfl, _, rfl, en, _, rfl, hP, ?_⟩
      refine ⟨_, _, rfl, kp_up memA k6, ?_⟩
      rw [upd_same]
      refine congrArg (fun x => some (HO.dK x)) (dM_congr fun i _ => ?_)
      have htk : B.take (k + 1) = B.take k ++ [j] := by
        rw [List.take_succ, hj]
        rfl
      rw [htk]
      unfold iV
      dsimp only
      by_cases e : i = j
      · subst e
        rw [if_pos rfl, if_pos (List.mem_append.mpr (.inr (List.mem_singleton.mpr rfl)))]
        rfl
      · rw [if_neg e]
        by_cases m : i ∈ B.take k
        · rw [if_pos m, if_pos (List.mem_append.mpr (.inl m))]
        · rw [if_neg m, if_neg (fun z => (List.mem_append.mp z).elim m fun z => e (List.mem_singleton.mp z))]
    · rintro σ H6 ⟨y3, y4, rfl, k6, he6⟩
      rw [List.take_of_length_le (by rw [List.length_map, hpl]; exact Nat.le_refl _)] at he6
      have inE : ∀ i, i ∈ E ↔ i ∈ M ∧ ends i = now + 1 := fun i => by
        rw [← hE0]
        exact ⟨fun z => ⟨hM i (List.mem_filter.mp z).1, of_decide_eq_true (List.mem_filter.mp z).2⟩, fun z => List.mem_filter.mpr ⟨hti.pm.mem_iff.mpr z.1, decide_eq_true z.2⟩⟩
      have inB : ∀ i, i ∈ B ↔ i ∈ M ∧ ends i = now + 1 ∧ now + 1 < lim i := fun i => by
        rw [hBp.mem_iff, List.mem_filter, inE]
        exact ⟨fun z => ⟨z.1.1, z.1.2, of_decide_eq_true z.2⟩, fun z => ⟨⟨z.1, z.2.1⟩, decide_eq_true z.2.2⟩⟩
      have hends : dM M (iV fun i => if i ∈ B then now + 1 + szP (now + 1) (lim i - (now + 1)) else ends i) = dM M (iV (enT lim ends (now + 1))) := dM_congr fun i mi => by
        unfold iV enT
        dsimp only
        by_cases z : ends i = now + 1 ∧ now + 1 < lim i
        · rw [if_pos z, if_pos ((inB i).mpr ⟨mi, z.1, z.2⟩)]
        · rw [if_neg z, if_neg (fun y => z ((inB i).mp y).2)]
      rw [hends] at he6
      have ht6 := k6.at_ _ _ ht5 (not_cons nten not_nil)
      have hMn : M.Nodup := hti.inc.imp fun h => Nat.ne_of_lt h
      have hEn : E.Nodup := by
        rw [← hE0]
        exact (hti.pm.nodup_iff.mpr hMn).filter _
      have hlm6 := k6.at_ _ _ hlm5 (not_cons nle not_nil)
      have hhd6 := k6.at_ _ _ hhd5 (not_cons nhe not_nil)
      have m4 : Mu H4 [t, lm, en] := mu_ins ht4 (mu_cons hlm4 (fun _ z => nomatch z) (fun _ z => nomatch z) (mu_cons hen4 (fun _ z => nomatch z) (fun _ z => nomatch z) mu_nil))
      refine ⟨_, rfl, _, rfl, t, dx, o, hd, lm, en, r1, given, now + 1, M, E, mb, lim, enT lim ends (now + 1), rfl, ht6, k6.at_ _ _ e15 (not_cons nr1e not_nil), hhd6, hlm6, he6, fun i m => ((inE i).mp m).1, hEn, hMn, by omega, by omega, nle, nhl, nhe, fun r hd2 H7 G k7 frr err hGp hGs ht7 hor hh7 hl7 he7 => ?_⟩
      have inG : ∀ i, i ∈ G ↔ i ∈ M ∧ lim i = now + 1 := fun i => by
        rw [hGp.mem_iff, List.mem_filter, inE]
        refine ⟨fun z => ⟨z.1.1, of_decide_eq_true z.2⟩, fun z => ⟨⟨z.1, ?_⟩, decide_eq_true z.2⟩⟩
        have := hti.lo i z.1
        omega
      have hMf : (M.filter fun i => decide (i ∉ G)) = M.filter fun i => decide (lim i ≠ now + 1) := List.filter_congr fun i mi => by
        exact decide_eq_decide.mpr ⟨fun y z => y ((inG i).mpr ⟨mi, z⟩), fun y z => y ((inG i).mp z).2⟩
      rw [hMf] at hh7 hl7 he7
      have k47 : Kp [t, lm, en] H4 H7 := kp_trans k45 (kp_trans (kp_more k6 (subCons (memB (memB memA)) subNil)) k7)
      have O7 := O4.kp OA k47 m4 (not_cons nto.symm (not_cons (neO ho hlm (fun z => nomatch z)) (not_cons (neO ho hen (fun z => nomatch z)) not_nil))) (not_cons ntc.symm (not_cons (neO hc hlm (fun z => nomatch z)) (not_cons (neO hc hen (fun z => nomatch z)) not_nil))) (not_cons ntl.symm (not_cons (neO hl hlm (fun z => nomatch z)) (not_cons (neO hl hen (fun z => nomatch z)) not_nil))) (not_cons (fun z => ne_of_none (up3 ht (fun _ z => nomatch z)) fod2.h (by rw [z])) (not_cons (fun z => ne_of_none (up3 hlm (fun _ z => nomatch z)) fod2.h (by rw [z])) (not_cons (fun z => ne_of_none (up3 hen (fun _ z => nomatch z)) fod2.h (by rw [z])) not_nil))) (fun a m => not_cons (nuv a m).1 (not_cons (nuv a m).2.1 (not_cons (nuv a m).2.2 not_nil)))
      have hst : stC [] (tr ++ (tickW E B).map (caOf mb)) = L ++ B := by
        rw [stC_app, st_run hpo]
        have := (tick_ok (E := E) (B := B) (S := L)).2
        rw [← hsp] at this
        exact this
      have kA : Kp (T.p_next_pieces :: t :: lm :: en :: o :: c :: l :: uv) H H7 := kp_trans (kp_same s1) (kp_trans (kp_more k2 (subCons memA subNil)) (kp_trans (kp_same s3) (kp_trans (kp_more k4 fun a m => memB (memB (memB (memB m)))) (kp_more k47 (subCons (memB memA) (subCons (memB (memB memA)) (subCons (memB (memB (memB memA))) subNil)))))))
      have tne : ∀ {a : Addr} {x : HO}, H3 a = some x → (∀ ps, x ≠ .tbl ps) → ∀ p ∈ TT T, p.1 ≠ a := fun {a x} e n p hp z => by
        obtain ⟨ps, h, _⟩ := (tabs_same t2 s3) p hp
        rw [z, e] at h
        exact n ps (Option.some.inj h)
      have t4 : TabsN (TT T) H4 := tabsN_kpU (tabs_same t2 s3) k4 mU3 fun p hp => not_cons (tne ho3 (fun _ z => nomatch z) p hp) (not_cons (tne hc3 (fun _ z => nomatch z) p hp) (not_cons (tne hl3 (fun _ z => nomatch z) p hp) (npt p hp)))
      have t7 : TabsN (TT T) H7 := tabsN_kpU t4 k47 m4 fun p hp => not_cons (tne (up3 ht (fun _ z => nomatch z)) (fun _ z => nomatch z) p hp) (not_cons (tne (up3 hlm (fun _ z => nomatch z)) (fun _ z => nomatch z) p hp) (not_cons (tne (up3 hen (fun _ z => nomatch z)) (fun _ z => nomatch z) p hp) not_nil))
      have hTI := TI.tick (B := B) hti (by rw [hE0]; exact hBp) (hBs.imp fun {a b} z => by omega)
      rw [hL0] at hTI
      have k46 : Kp [t, lm, en] H4 H6 := kp_trans k45 (kp_more k6 (subCons (memB (memB memA)) subNil))
      have nod2 : od2 ∉ [t, lm, en] := not_cons (fun z => ne_of_none (up3 ht (fun _ z => nomatch z)) fod2.h (by rw [z])) (not_cons (fun z => ne_of_none (up3 hlm (fun _ z => nomatch z)) fod2.h (by rw [z])) (not_cons (fun z => ne_of_none (up3 hen (fun _ z => nomatch z)) fod2.h (by rw [z])) not_nil))
      have O6 := O4.kp OA k46 m4 (not_cons nto.symm (not_cons (neO ho hlm (fun z => nomatch z)) (not_cons (neO ho hen (fun z => nomatch z)) not_nil))) (not_cons ntc.symm (not_cons (neO hc hlm (fun z => nomatch z)) (not_cons (neO hc hen (fun z => nomatch z)) not_nil))) (not_cons ntl.symm (not_cons (neO hl hlm (fun z => nomatch z)) (not_cons (neO hl hen (fun z => nomatch z)) not_nil))) nod2 (fun a m => not_cons (nuv a m).1 (not_cons (nuv a m).2.1 (not_cons (nuv a m).2.2 not_nil)))
      obtain ⟨⟨d5, ho6⟩, ⟨d6, hc6⟩, ⟨zs6, hl6, _⟩, _, hR6, _⟩ := O6
      have t6 : TabsN (TT T) H6 := tabsN_kpU t4 k46 m4 fun p hp => not_cons (tne (up3 ht (fun _ z => nomatch z)) (fun _ z => nomatch z) p hp) (not_cons (tne (up3 hlm (fun _ z => nomatch z)) (fun _ z => nomatch z) p hp) (not_cons (tne (up3 hen (fun _ z => nomatch z)) (fun _ z => nomatch z) p hp) not_nil))
      have m6 : Mu H6 (T.p_next_pieces :: t :: lm :: en :: o :: c :: l :: uv) := by
        obtain ⟨ps, hps, _⟩ := t6 _ (hm_next_pieces T)
        exact mu_cons hps (fun _ z => nomatch z) (fun _ z => nomatch z) (mu_ins ht6 (mu_cons hlm6 (fun _ z => nomatch z) (fun _ z => nomatch z) (mu_cons he6 (fun _ z => nomatch z) (fun _ z => nomatch z) (mu_ins ho6 (mu_ins hc6 (mu_lst hl6 (OA.mu hR6)))))))
      have kA6 : Kp (T.p_next_pieces :: t :: lm :: en :: o :: c :: l :: uv) H H6 := kp_trans (kp_same s1) (kp_trans (kp_more k2 (subCons memA subNil)) (kp_trans (kp_same s3) (kp_trans (kp_more k4 fun a m => memB (memB (memB (memB m)))) (kp_more k46 (subCons (memB memA) (subCons (memB (memB memA)) (subCons (memB (memB (memB memA))) subNil)))))))
      have nh2 : hd2 ∉ t :: lm :: en :: o :: c :: l :: uv := by
        rcases hor with rfl | f
        · exact nhd
        · exact fun z => m6.fr f (memB z)
      exact q r H7 B G L kA t7 (fr_kp kA6 m6 frr) err (hGs.imp₂ (fun {a b} p q => Nat.lt_of_le_of_ne p q) (hGp.nodup_iff.mpr (hEn.filter _))) inG hsp hBp hBs ⟨⟨dx, hd2, ht7, hh7, nh2⟩, ⟨od2, O7⟩, hl7, he7, by rw [hst]; exact hTI, fun i mi => hgv i (List.mem_filter.mp mi).1, ⟨nto, ntc⟩, nle, nuv⟩
end
end Ob

set_option Elab.async false
set_option linter.all false
set_option maxRecDepth 100000
set_option maxHeartbeats 1000000
namespace Ob
open PySem PySem.Spec PyProof.Rows L2
open LamX (Tabs TabB TabS ExtN)

set_option hygiene false in
local macro_rules
  | `(tactic| kp_flats) => `(tactic| first
    | assumption
    | exact upd_same
    | (apply atNew; assumption; kp_flats)
    | (apply atNe; (next => kbo_bools); kp_flats)
    | (apply atSame; assumption; kp_flats)
    | (apply atKp; assumption; (next => kaf_pre); kp_flats))
set_option hygiene false in
local macro_rules
  | `(tactic| kaf_pre) => `(tactic| first
    | assumption
    | exact not_nil
    | (apply not_cons; (next => kbo_bools); kaf_pre)
    | (apply not_app; (next => kaf_pre); kaf_pre))
set_option hygiene false in
local macro_rules
  | `(tactic| kbo_bools) => `(tactic| first
    | assumption
    | (apply Ne.symm; assumption)
    | (apply neN; assumption; kp_flats)
    | (apply neN'; assumption; kp_flats))
set_option hygiene false in
local macro_rules
  | `(tactic| o_reads) => `(tactic| first
    | with_reducible rfl
    | assumption
    | rfl
    | kp_flats
    | (show SqL _ _ _ _; first | assumption | (apply sqlOf; kp_flats) | (apply sqlSame; assumption; o_reads))
    | (show SqT _ _ _ _; first | assumption | (apply sqtOf; kp_flats) | (apply sqtAll; assumption) | (apply sqtSame; assumption; o_reads))
    | (show Cls _ _; first | exact T.cl_Calls | exact T.cl_Outer | exact T.cl_Timed)
    | (show NoAttr _ _ _; first | exact T.n_Calls_entries | exact T.n_Calls_running | exact T.n_Outer_calls | exact T.n_Outer_push_call | exact T.n_Outer_pop_call | exact T.n_Outer_ask_call | exact T.n_Outer_order | exact T.n_Outer_broken | exact T.n_Timed_outer | exact T.n_Timed_given | exact T.n_Timed_now | exact T.n_Timed_held | exact T.n_Timed_limits | exact T.n_Timed_ends)
    | (apply Or.inl; o_reads)
    | (apply Or.inr; o_reads)
    | (apply And.intro; (next => o_reads); o_reads)
    | (apply Exists.intro; o_reads)
    | exact Nat.le_of_ble_eq_true rfl
    | exact Nat.succ_ne_zero _
    | (show Fr _ _; kba_ints)
    | (show Same _ _; kd_subs)
    | (show Kp _ _ _; kxs_still)
    | (show (_ : Nat) ≤ _; simp only [List.length_append, List.length_map, List.length_cons, List.length_nil, List.length_take, List.length_drop, List.length_replicate, List.length_range, sizeLine_eq]; omega)
    | (show _ = none; apply Fr.h; kba_ints)
    | (show Bag _ _; first | assumption | (apply bag_putF; assumption; o_reads) | (apply bag_neF; (next => kbo_bools); o_reads) | (apply bag_kpR; assumption; (next => kaf_pre); o_reads))
    | omega
    | decide)
local macro_rules
  | `(tactic| o_readsAll) => `(tactic| repeat (first
    | (refine fun (pNew : Addr) (nNew : _ = none) => ?_; replace nNew := Fr.mk nNew)
    | (refine fun (xNew dNew : Addr) (nNew : _ = none) (mNew : _ = none) (eNew : dNew ≠ xNew) => ?_; replace nNew := Fr.mk nNew; replace mNew := Fr.mk mNew)
    | (apply And.intro; next => o_reads)
    | apply Exists.intro (α := V)
    | apply Exists.intro (α := Addr)
    | apply Exists.intro (α := Int)
    | apply Exists.intro (α := Bool)
    | apply Exists.intro (α := List V)
    | apply Exists.intro (α := List Nat)
    | apply Exists.intro (α := List (Str × V))
    | apply Exists.intro (α := List _)
    | apply Exists.intro (α := Str)
    | apply Exists.intro (α := HO)
    | apply Exists.intro (α := Sp)
    | apply Exists.intro (α := VK)))
set_option hygiene false in
local macro_rules
  | `(tactic| kba_ints) => `(tactic| first
    | assumption
    | (apply frUp; (first | assumption | (apply Ne.symm; assumption)); kba_ints)
    | (apply noneOf; assumption; intro oF eF; apply Exists.intro; kp_flats)
    | (apply frUp; (next => kbo_bools); kba_ints))
set_option hygiene false in
local macro_rules
  | `(tactic| kxs_still) => `(tactic| first
    | assumption
    | exact kp_refl _ _
    | (apply kp_newF; assumption; kxs_still)
    | (apply kp_new; assumption; kxs_still)
    | (apply kp_up; (next => o_fieldsN); kxs_still)
    | (apply kp_new; (next => kba_ints); kxs_still)
    | (apply kp_sameR; assumption; kxs_still)
    | (apply kp_transR; assumption; kxs_still)
    | (apply kp_freshR; assumption; (next => kaf_suf); kxs_still))
set_option hygiene false in
local macro_rules
  | `(tactic| kaf_suf) => `(tactic| first
    | assumption
    | exact subNil
    | (apply subCons; (first | (apply Or.inl; o_fieldsN) | (apply Or.inr; kba_ints)); kaf_suf)
    | (apply subApp; (next => kaf_suf); kaf_suf))
set_option hygiene false in
local macro_rules
  | `(tactic| o_fieldsN) => `(tactic| first
    | assumption
    | exact memA
    | (apply memB; o_fieldsN)
    | (apply memL; o_fieldsN)
    | (apply memR; o_fieldsN))
set_option hygiene false in
local macro_rules
  | `(tactic| kd_subs) => `(tactic| first
    | assumption
    | exact Same.refl _
    | (apply same_putF; assumption; kd_subs)
    | (apply same_putG; assumption; kd_subs)
    | (apply same_putF; (next => kba_ints); kd_subs)
    | (apply same_transR; assumption; kd_subs))

set_option pp.maxSteps 900
open NdefX (TabsN)
section
variable {P : Program} {w : World} {K : PySem.W.Frag} {mg : Str → Option Value} {base : Heap} {n : Nat}
def spTStk (CT C CC : Addr) : Sp := fun vs H Q _ => ∃ (t o c l lm en : Addr) (fp fo fa : V) (uv : List Addr) (PM : Nat → V → Prop) (R : List Ca → Hp → Prop) (tr : List Ca) (given now : Nat) (M : List Nat) (mb : Nat → V) (lim ends : Nat → Nat), vs = [.ref t] ∧ TmAt CT C CC H t o c l lm en fp fo fa uv PM R tr given now M mb lim ends ∧
  ∀ r, H r = none → Q (.ref r) (upd H r (.lst ((stC [] tr).map nV)))
theorem ok_tstk (T : Txt K mg) : FnOk P w K mg base CX0 4 T.f_Timed_stack T.d_Timed_stack ["self"] (spTStk T.C_Timed T.C_Outer T.C_Calls) := by
  have G_Calls_check := ok_chk (P := P) (w := w) (base := base) T
  refine T.F_Timed_stack.ok sc_Timed_stack (fun vs H Q E h => ?_) (fun cdv A outer s H vs Q E hr h => ?_)
  · obtain ⟨t, o, c, l, lm, en, fp, fo, fa, uv, PM, R, tr, given, now, M, mb, lim, ends, rfl, _⟩ := h
    rfl
  · obtain ⟨t, o, c, l, lm, en, fp, fo, fa, uv, PM, R, tr, given, now, M, mb, lim, ends, rfl, hT, q⟩ := h
    refine ⟨_, (pss_cons (ps_expr (pe_meth0 (pe_fld (pe_fld (pv 0) rfl) rfl) T.cl_Calls ⟨T.m_Calls_check, T.t_Calls_check, T.k_Calls_check⟩ G_Calls_check (hr.mono (by omega)) T.b_Calls_check .nil pass0))
      (pss_one (ps_ret (pe_callTy call_list_of (by rfl) T.z_list (by decide +kernel) (pa_cons (pe_fld (pe_fld (pv 0) rfl) rfl) pa_nil))))), ?_⟩
    obtain ⟨⟨dx, hd, ht, hhd, nhd⟩, ⟨od, hO⟩, _⟩ := id hT
    obtain ⟨⟨d1, ho⟩, ⟨d2, hc⟩, _, hod, _⟩ := id hO
    refine ⟨_, rfl, t, _, dx, _, _, rfl, ht, T.cl_Timed, T.n_Timed_outer, rfl, o, _, d1, _, _, rfl, ho, T.cl_Outer, T.n_Outer_calls, rfl, c, d2, _, rfl, hc, rfl, c, d2, l, rfl, hc, ?_⟩
    exact ⟨_, rfl, t, _, dx, _, _, rfl, ht, T.cl_Timed, T.n_Timed_outer, rfl, o, _, d1, _, _, rfl, ho, T.cl_Outer, T.n_Outer_order, rfl, od, _, rfl, .inl (sqlOf hod), q⟩
def spTLog (CT C CC : Addr) : Sp := fun vs H Q _ => ∃ (t o c l lm en : Addr) (fp fo fa : V) (uv : List Addr) (PM : Nat → V → Prop) (R : List Ca → Hp → Prop) (tr : List Ca) (given now : Nat) (M : List Nat) (mb : Nat → V) (lim ends : Nat → Nat), vs = [.ref t] ∧ TmAt CT C CC H t o c l lm en fp fo fa uv PM R tr given now M mb lim ends ∧
  ∀ r es H', Same H H' → Fr H r → H' r = some (.lst es) → LogC H' es tr → Q (.ref r) H'
theorem ok_tlog (T : Txt K mg) : FnOk P w K mg base CX0 1 T.f_Timed_log T.d_Timed_log ["self"] (spTLog T.C_Timed T.C_Outer T.C_Calls) := by
  refine T.F_Timed_log.ok sc_Timed_log (fun vs H Q E h => ?_) (fun cdv A outer s H vs Q E hr h => ?_)
  · obtain ⟨t, o, c, l, lm, en, fp, fo, fa, uv, PM, R, tr, given, now, M, mb, lim, ends, rfl, _⟩ := h
    rfl
  · obtain ⟨t, o, c, l, lm, en, fp, fo, fa, uv, PM, R, tr, given, now, M, mb, lim, ends, rfl, hT, q⟩ := h
    refine ⟨_, (pss_one (ps_ret (pe_callTy call_list_of (by rfl) T.z_list (by decide +kernel) (pa_cons (pe_fld (pe_fld (pe_fld (pv 0) rfl) rfl) rfl) pa_nil)))), ?_⟩
    obtain ⟨⟨dx, hd, ht, hhd, nhd⟩, ⟨od, hO⟩, _⟩ := id hT
    obtain ⟨⟨d1, ho⟩, ⟨d2, hc⟩, ⟨es, hl, hlg⟩, _⟩ := id hO
    refine ⟨_, rfl, t, _, dx, _, _, rfl, ht, T.cl_Timed, T.n_Timed_outer, rfl, o, _, d1, _, _, rfl, ho, T.cl_Outer, T.n_Outer_calls, rfl, c, _, d2, _, _, rfl, hc, T.cl_Calls, T.n_Calls_entries, rfl, l, _, rfl, .inl (sqlOf hl), fun r nr => ?_⟩
    have s1 := same_newF (o := .lst es) (Fr.mk nr)
    exact q r es _ s1 (Fr.mk nr) upd_same (hlg.kp (cs := []) (kp_same s1) mu_nil)
end
end Ob

set_option Elab.async false
set_option linter.all false
set_option maxRecDepth 100000
set_option maxHeartbeats 1000000
namespace Ob
open PySem PySem.Spec PyProof.Rows L2
open LamX (Tabs TabB TabS ExtN)

set_option hygiene false in
local macro_rules
  | `(tactic| kp_flats) => `(tactic| first
    | assumption
    | exact upd_same
    | (apply atNew; assumption; kp_flats)
    | (apply atNe; (next => kbo_bools); kp_flats)
    | (apply atSame; assumption; kp_flats)
    | (apply atKp; assumption; (next => kaf_pre); kp_flats))
set_option hygiene false in
local macro_rules
  | `(tactic| kaf_pre) => `(tactic| first
    | assumption
    | exact not_nil
    | (apply not_cons; (next => kbo_bools); kaf_pre)
    | (apply not_app; (next => kaf_pre); kaf_pre))
set_option hygiene false in
local macro_rules
  | `(tactic| kbo_bools) => `(tactic| first
    | assumption
    | (apply Ne.symm; assumption)
    | (apply neN; assumption; kp_flats)
    | (apply neN'; assumption; kp_flats))
set_option hygiene false in
local macro_rules
  | `(tactic| o_reads) => `(tactic| first
    | with_reducible rfl
    | assumption
    | rfl
    | kp_flats
    | (show SqL _ _ _ _; first | assumption | (apply sqlOf; kp_flats) | (apply sqlSame; assumption; o_reads))
    | (show SqT _ _ _ _; first | assumption | (apply sqtOf; kp_flats) | (apply sqtAll; assumption) | (apply sqtSame; assumption; o_reads))
    | (show Cls _ _; first | exact T.cl_Calls | exact T.cl_Outer | exact T.cl_Timed)
    | (show NoAttr _ _ _; first | exact T.n_Calls_entries | exact T.n_Calls_running | exact T.n_Outer_calls | exact T.n_Outer_push_call | exact T.n_Outer_pop_call | exact T.n_Outer_ask_call | exact T.n_Outer_order | exact T.n_Outer_broken | exact T.n_Timed_outer | exact T.n_Timed_given | exact T.n_Timed_now | exact T.n_Timed_held | exact T.n_Timed_limits | exact T.n_Timed_ends)
    | (apply Or.inl; o_reads)
    | (apply Or.inr; o_reads)
    | (apply And.intro; (next => o_reads); o_reads)
    | (apply Exists.intro; o_reads)
    | exact Nat.le_of_ble_eq_true rfl
    | exact Nat.succ_ne_zero _
    | (show Fr _ _; kba_ints)
    | (show Same _ _; kd_subs)
    | (show Kp _ _ _; kxs_still)
    | (show (_ : Nat) ≤ _; simp only [List.length_append, List.length_map, List.length_cons, List.length_nil, List.length_take, List.length_drop, List.length_replicate, List.length_range, sizeLine_eq]; omega)
    | (show _ = none; apply Fr.h; kba_ints)
    | (show Bag _ _; first | assumption | (apply bag_putF; assumption; o_reads) | (apply bag_neF; (next => kbo_bools); o_reads) | (apply bag_kpR; assumption; (next => kaf_pre); o_reads))
    | omega
    | decide)
local macro_rules
  | `(tactic| o_readsAll) => `(tactic| repeat (first
    | (refine fun (pNew : Addr) (nNew : _ = none) => ?_; replace nNew := Fr.mk nNew)
    | (refine fun (xNew dNew : Addr) (nNew : _ = none) (mNew : _ = none) (eNew : dNew ≠ xNew) => ?_; replace nNew := Fr.mk nNew; replace mNew := Fr.mk mNew)
    | (apply And.intro; next => o_reads)
    | apply Exists.intro (α := V)
    | apply Exists.intro (α := Addr)
    | apply Exists.intro (α := Int)
    | apply Exists.intro (α := Bool)
    | apply Exists.intro (α := List V)
    | apply Exists.intro (α := List Nat)
    | apply Exists.intro (α := List (Str × V))
    | apply Exists.intro (α := List _)
    | apply Exists.intro (α := Str)
    | apply Exists.intro (α := HO)
    | apply Exists.intro (α := Sp)
    | apply Exists.intro (α := VK)))
set_option hygiene false in
local macro_rules
  | `(tactic| kba_ints) => `(tactic| first
    | assumption
    | (apply frUp; (first | assumption | (apply Ne.symm; assumption)); kba_ints)
    | (apply noneOf; assumption; intro oF eF; apply Exists.intro; kp_flats)
    | (apply frUp; (next => kbo_bools); kba_ints))
set_option hygiene false in
local macro_rules
  | `(tactic| kxs_still) => `(tactic| first
    | assumption
    | exact kp_refl _ _
    | (apply kp_newF; assumption; kxs_still)
    | (apply kp_new; assumption; kxs_still)
    | (apply kp_up; (next => o_fieldsN); kxs_still)
    | (apply kp_new; (next => kba_ints); kxs_still)
    | (apply kp_sameR; assumption; kxs_still)
    | (apply kp_transR; assumption; kxs_still)
    | (apply kp_freshR; assumption; (next => kaf_suf); kxs_still))
set_option hygiene false in
local macro_rules
  | `(tactic| kaf_suf) => `(tactic| first
    | assumption
    | exact subNil
    | (apply subCons; (first | (apply Or.inl; o_fieldsN) | (apply Or.inr; kba_ints)); kaf_suf)
    | (apply subApp; (next => kaf_suf); kaf_suf))
set_option hygiene false in
local macro_rules
  | `(tactic| o_fieldsN) => `(tactic| first
    | assumption
    | exact memA
    | (apply memB; o_fieldsN)
    | (apply memL; o_fieldsN)
    | (apply memR; o_fieldsN))
set_option hygiene false in
local macro_rules
  | `(tactic| kd_subs) => `(tactic| first
    | assumption
    | exact Same.refl _
    | (apply same_putF; assumption; kd_subs)
    | (apply same_putG; assumption; kd_subs)
    | (apply same_putF; (next => kba_ints); kd_subs)
    | (apply same_transR; assumption; kd_subs))

set_option pp.maxSteps 900
open NdefX (TabsN)
section
variable {P : Program} {w : World} {K : PySem.W.Frag} {mg : Str → Option Value} {base : Heap} {n : Nat}
/-- what the next addition adds to the log: a list of one entry -/
def spTPAdd (T : Txt K mg) : Sp := fun vs H Q _ => ∃ (t o c l lm en : Addr) (fp fo fa : V) (uv : List Addr) (PM : Nat → V → Prop) (R : List Ca → Hp → Prop) (tr : List Ca) (given now : Nat) (M : List Nat) (mb : Nat → V) (lim ends : Nat → Nat), vs = [.ref t] ∧ TmAt T.C_Timed T.C_Outer T.C_Calls H t o c l lm en fp fo fa uv PM R tr given now M mb lim ends ∧
  ∀ r xs H', Same H H' → Fr H r → H' r = some (.lst xs) → WLog H' xs [(("push" : Str), given)] → Q (.ref r) H'
theorem ok_tpadd (T : Txt K mg) : FnOk P w K mg base CX0 4 T.f_Timed_plan_add T.d_Timed_plan_add ["self"] (spTPAdd T) := by
  have G_Outer_check := ok_oc (P := P) (w := w) (base := base) T
  refine T.F_Timed_plan_add.ok sc_Timed_plan_add (fun vs H Q E h => ?_) (fun cdv A outer s H vs Q E hr h => ?_)
  · obtain ⟨t, o, c, l, lm, en, fp, fo, fa, uv, PM, R, tr, given, now, M, mb, lim, ends, rfl, _⟩ := h
    rfl
  · obtain ⟨t, o, c, l, lm, en, fp, fo, fa, uv, PM, R, tr, given, now, M, mb, lim, ends, rfl, hT, q⟩ := h
    refine ⟨_, (pss_cons (ps_expr (pe_meth0 (pe_fld (pv 0) rfl) T.cl_Outer ⟨T.m_Outer_check, T.t_Outer_check, T.k_Outer_check⟩ G_Outer_check (hr.mono (by omega)) T.b_Outer_check .nil pass0))
      (pss_one (ps_ret (pe_lst (pa_cons (pe_tup (pa_cons pe_str (pa_cons (pe_fld (pv 0) rfl) pa_nil))) pa_nil))))), ?_⟩
    obtain ⟨⟨dx, hd, ht, hhd, nhd⟩, ⟨od, hO⟩, _⟩ := id hT
    obtain ⟨⟨d1, ho⟩, ⟨d2, hc⟩, _⟩ := id hO
    refine ⟨_, rfl, t, _, dx, _, _, rfl, ht, T.cl_Timed, T.n_Timed_outer, rfl, o, d1, _, rfl, ho, rfl, o, c, l, od, fp, fo, fa, rfl, ⟨d1, ho⟩, ⟨d2, hc⟩, ?_⟩
    refine ⟨_, rfl, t, _, dx, _, _, rfl, ht, T.cl_Timed, T.n_Timed_given, rfl, le2, fun ta nta => ⟨(by decide : 1 ≤ sizeLine), fun la nla => ?_⟩⟩
    have s2 := same_newF (o := .tup [.str "push", .int (given : Int)]) (Fr.mk nta)
    have s3 := same_newF (o := .lst [.ref ta]) (Fr.mk nla)
    refine q la _ _ (s2.trans s3) (Fr.mk (s2.free nla)) upd_same ⟨rfl, fun k x e a b => ?_⟩
    match k, a, b with
    | 0, a, b =>
      cases a
      cases b
      exact ⟨ta, rfl, s3 _ _ upd_same⟩
    | k + 1, a, _ => cases k <;> cases a
end
end Ob

set_option Elab.async false
set_option linter.all false
set_option maxRecDepth 100000
set_option maxHeartbeats 1000000
namespace Ob
open PySem PySem.Spec PyProof.Rows L2
open LamX (Tabs TabB TabS ExtN)

set_option hygiene false in
local macro_rules
  | `(tactic| kp_flats) => `(tactic| first
    | assumption
    | exact upd_same
    | (apply atNew; assumption; kp_flats)
    | (apply atNe; (next => kbo_bools); kp_flats)
    | (apply atSame; assumption; kp_flats)
    | (apply atKp; assumption; (next => kaf_pre); kp_flats))
set_option hygiene false in
local macro_rules
  | `(tactic| kaf_pre) => `(tactic| first
    | assumption
    | exact not_nil
    | (apply not_cons; (next => kbo_bools); kaf_pre)
    | (apply not_app; (next => kaf_pre); kaf_pre))
set_option hygiene false in
local macro_rules
  | `(tactic| kbo_bools) => `(tactic| first
    | assumption
    | (apply Ne.symm; assumption)
    | (apply neN; assumption; kp_flats)
    | (apply neN'; assumption; kp_flats))
set_option hygiene false in
local macro_rules
  | `(tactic| o_reads) => `(tactic| first
    | with_reducible rfl
    | assumption
    | rfl
    | kp_flats
    | (show SqL _ _ _ _; first | assumption | (apply sqlOf; kp_flats) | (apply sqlSame; assumption; o_reads))
    | (show SqT _ _ _ _; first | assumption | (apply sqtOf; kp_flats) | (apply sqtAll; assumption) | (apply sqtSame; assumption; o_reads))
    | (show Cls _ _; first | exact T.cl_Calls | exact T.cl_Outer | exact T.cl_Timed)
    | (show NoAttr _ _ _; first | exact T.n_Calls_entries | exact T.n_Calls_running | exact T.n_Outer_calls | exact T.n_Outer_push_call | exact T.n_Outer_pop_call | exact T.n_Outer_ask_call | exact T.n_Outer_order | exact T.n_Outer_broken | exact T.n_Timed_outer | exact T.n_Timed_given | exact T.n_Timed_now | exact T.n_Timed_held | exact T.n_Timed_limits | exact T.n_Timed_ends)
    | (apply Or.inl; o_reads)
    | (apply Or.inr; o_reads)
    | (apply And.intro; (next => o_reads); o_reads)
    | (apply Exists.intro; o_reads)
    | exact Nat.le_of_ble_eq_true rfl
    | exact Nat.succ_ne_zero _
    | (show Fr _ _; kba_ints)
    | (show Same _ _; kd_subs)
    | (show Kp _ _ _; kxs_still)
    | (show (_ : Nat) ≤ _; simp only [List.length_append, List.length_map, List.length_cons, List.length_nil, List.length_take, List.length_drop, List.length_replicate, List.length_range, sizeLine_eq]; omega)
    | (show _ = none; apply Fr.h; kba_ints)
    | (show Bag _ _; first | assumption | (apply bag_putF; assumption; o_reads) | (apply bag_neF; (next => kbo_bools); o_reads) | (apply bag_kpR; assumption; (next => kaf_pre); o_reads))
    | omega
    | decide)
local macro_rules
  | `(tactic| o_readsAll) => `(tactic| repeat (first
    | (refine fun (pNew : Addr) (nNew : _ = none) => ?_; replace nNew := Fr.mk nNew)
    | (refine fun (xNew dNew : Addr) (nNew : _ = none) (mNew : _ = none) (eNew : dNew ≠ xNew) => ?_; replace nNew := Fr.mk nNew; replace mNew := Fr.mk mNew)
    | (apply And.intro; next => o_reads)
    | apply Exists.intro (α := V)
    | apply Exists.intro (α := Addr)
    | apply Exists.intro (α := Int)
    | apply Exists.intro (α := Bool)
    | apply Exists.intro (α := List V)
    | apply Exists.intro (α := List Nat)
    | apply Exists.intro (α := List (Str × V))
    | apply Exists.intro (α := List _)
    | apply Exists.intro (α := Str)
    | apply Exists.intro (α := HO)
    | apply Exists.intro (α := Sp)
    | apply Exists.intro (α := VK)))
set_option hygiene false in
local macro_rules
  | `(tactic| kba_ints) => `(tactic| first
    | assumption
    | (apply frUp; (first | assumption | (apply Ne.symm; assumption)); kba_ints)
    | (apply noneOf; assumption; intro oF eF; apply Exists.intro; kp_flats)
    | (apply frUp; (next => kbo_bools); kba_ints))
set_option hygiene false in
local macro_rules
  | `(tactic| kxs_still) => `(tactic| first
    | assumption
    | exact kp_refl _ _
    | (apply kp_newF; assumption; kxs_still)
    | (apply kp_new; assumption; kxs_still)
    | (apply kp_up; (next => o_fieldsN); kxs_still)
    | (apply kp_new; (next => kba_ints); kxs_still)
    | (apply kp_sameR; assumption; kxs_still)
    | (apply kp_transR; assumption; kxs_still)
    | (apply kp_freshR; assumption; (next => kaf_suf); kxs_still))
set_option hygiene false in
local macro_rules
  | `(tactic| kaf_suf) => `(tactic| first
    | assumption
    | exact subNil
    | (apply subCons; (first | (apply Or.inl; o_fieldsN) | (apply Or.inr; kba_ints)); kaf_suf)
    | (apply subApp; (next => kaf_suf); kaf_suf))
set_option hygiene false in
local macro_rules
  | `(tactic| o_fieldsN) => `(tactic| first
    | assumption
    | exact memA
    | (apply memB; o_fieldsN)
    | (apply memL; o_fieldsN)
    | (apply memR; o_fieldsN))
set_option hygiene false in
local macro_rules
  | `(tactic| kd_subs) => `(tactic| first
    | assumption
    | exact Same.refl _
    | (apply same_putF; assumption; kd_subs)
    | (apply same_putG; assumption; kd_subs)
    | (apply same_putF; (next => kba_ints); kd_subs)
    | (apply same_transR; assumption; kd_subs))

set_option pp.maxSteps 900
open NdefX (TabsN)
section
variable {P : Program} {w : World} {K : PySem.W.Frag} {mg : Str → Option Value} {base : Heap} {n : Nat}
/-- what the next tick adds to the log -/
def spPTick (T : Txt K mg) : Sp := fun vs H Q _ => ∃ (t o c l lm en : Addr) (fp fo fa : V) (uv : List Addr) (PM : Nat → V → Prop) (R : List Ca → Hp → Prop) (tr : List Ca) (given now : Nat) (M : List Nat) (mb : Nat → V) (lim ends : Nat → Nat), vs = [.ref t] ∧ TmAt T.C_Timed T.C_Outer T.C_Calls H t o c l lm en fp fo fa uv PM R tr given now M mb lim ends ∧ TabsN (TT T) H ∧ M.length < 50000 ∧ (∀ i ∈ M, lim i ≤ 1000000000) ∧
  ∀ r xs B H', Kp [T.p_next_pieces] H H' → TabsN (TT T) H' → Fr H r → H' r = some (.lst xs) → WLog H' xs (tickW (endS ends (now + 1) (stC [] tr)) B) → B.Perm ((endS ends (now + 1) (stC [] tr)).filter fun i => decide (now + 1 < lim i)) → (B.Pairwise fun a b => szP (now + 1) (lim b - (now + 1)) < szP (now + 1) (lim a - (now + 1)) ∨ (szP (now + 1) (lim a - (now + 1)) = szP (now + 1) (lim b - (now + 1)) ∧ a ≤ b)) → Q (.ref r) H'
theorem ok_ptick (T : Txt K mg) (TB : LamX.TabB base mg T.c_next_pieces T.p_next_pieces) : FnOk P w K mg base CX0 14 T.f_Timed_plan_tick T.d_Timed_plan_tick ["self"] (spPTick T) := by
  have G_Outer_check := ok_oc (P := P) (w := w) (base := base) T
  have G_ending_numbers := ok_end (P := P) (w := w) (base := base) T
  have G_next_pieces := ok_next (P := P) (w := w) T TB
  have G_plan_moves := ok_moves (P := P) (w := w) (base := base) T
  refine T.F_Timed_plan_tick.ok sc_Timed_plan_tick (fun vs H Q E h => ?_) (fun cdv A outer s H vs Q E hr h => ?_)
  · obtain ⟨t, o, c, l, lm, en, fp, fo, fa, uv, PM, R, tr, given, now, M, mb, lim, ends, rfl, _⟩ := h
    rfl
  · obtain ⟨t, o, c, l, lm, en, fp, fo, fa, uv, PM, R, tr, given, now, M, mb, lim, ends, rfl, hT, t0, hML, hLB, q⟩ := h
    refine ⟨_, (pss_cons (ps_expr (pe_meth0 (pe_fld (pv 0) rfl) T.cl_Outer ⟨T.m_Outer_check, T.t_Outer_check, T.k_Outer_check⟩ G_Outer_check (hr.mono (by omega)) T.b_Outer_check .nil pass0))
      (pss_cons (ps_set (i := 1) sc_Timed_plan_tick.nd rfl (.inl rfl) (pe_call G_ending_numbers (hr.mono (by omega)) rfl T.g_ending_numbers T.F_ending_numbers.kp T.b_ending_numbers .nil pass0 (pa_cons (pv 0) pa_nil)))
      (pss_one (ps_ret (pe_call G_plan_moves (hr.mono (by omega)) rfl T.g_plan_moves T.F_plan_moves.kp T.b_plan_moves .nil pass0 (pa_cons (pv 1) (pa_cons (pe_call G_next_pieces (hr.mono (by omega)) rfl T.g_next_pieces T.F_next_pieces.kp T.b_next_pieces .nil pass0 (pa_cons (pv 0) (pa_cons (pv 1) pa_nil))) pa_nil))))))), ?_⟩
    obtain ⟨⟨dx, hd, ht, hhd, nhd⟩, ⟨od, hO⟩, hlm, hen, hti, hgv, ⟨nto, ntc⟩, nle, nuv⟩ := id hT
    obtain ⟨⟨d1, ho⟩, ⟨d2, hc⟩, ⟨xs, hl, hlg⟩, hod, hR, nlod, noc, nu⟩ := id hO
    have hM : ∀ i ∈ stC [] tr, i ∈ M := fun i m => hti.pm.mem_iff.mp m
    have lS : (stC [] tr).length = M.length := hti.pm.length_eq
    refine ⟨_, rfl, t, _, dx, _, _, rfl, ht, T.cl_Timed, T.n_Timed_outer, rfl, o, d1, _, rfl, ho, rfl, o, c, l, od, fp, fo, fa, rfl, ⟨d1, ho⟩, ⟨d2, hc⟩, ?_⟩
    refine ⟨_, rfl, t, dx, o, d1, c, hd, lm, en, od, fp, fo, fa, given, now, M, stC [] tr, lim, ends, rfl, ht, ho, hod, hen, hti, by omega, fun r1 H1 s1 fr1 e1 => pGN ?_⟩
    simp only [List.set_cons_succ, List.set_cons_zero]
    have hEl : (endS ends (now + 1) (stC [] tr)).length ≤ M.length := by
      rw [← lS]
      exact List.length_filter_le _ _
    have hEM : ∀ i ∈ endS ends (now + 1) (stC [] tr), i ∈ M ∧ ends i = now + 1 := fun i m => ⟨hM i (List.mem_filter.mp m).1, of_decide_eq_true (List.mem_filter.mp m).2⟩
    refine ⟨_, rfl, _, rfl, _, rfl, t, dx, o, hd, lm, en, r1, given, now, M, endS ends (now + 1) (stC [] tr), lim, rfl, s1 _ _ ht, e1, s1 _ _ hlm, fun i m => ⟨(hEM i m).1, hLB i (hEM i m).1, by have := hti.lo i (hEM i m).1; omega⟩, by omega, tabs_same t0 s1, fun r2 H2 ts B k2 t2 fr2 e2 hpr hBp hBs => ?_⟩
    have t1 := tabs_same t0 s1
    have e12 := k2.at_ _ _ e1 (not_cons (tab_ne t1 (hm_next_pieces T) e1 (fun _ z => nomatch z)) not_nil)
    have m2 : Mu H1 [T.p_next_pieces] := by
      obtain ⟨ps, h, _⟩ := t1 _ (hm_next_pieces T)
      exact mu_cons h (fun _ z => nomatch z) (fun _ z => nomatch z) mu_nil
    have m3 : Mu H2 [T.p_next_pieces] := by
      obtain ⟨ps, h, _⟩ := t2 _ (hm_next_pieces T)
      exact mu_cons h (fun _ z => nomatch z) (fun _ z => nomatch z) mu_nil
    have hBl : B.length ≤ M.length := by
      have h1 := hBp.length_eq
      have h2 := List.length_filter_le (fun i => decide (now + 1 < lim i)) (endS ends (now + 1) (stC [] tr))
      omega
    refine ⟨r1, r2, endS ends (now + 1) (stC [] tr), ts, B, (fun i => szP (now + 1) (lim i - (now + 1))), rfl, e12, e2, hpr, by omega, by omega, fun r3 ys H3 s3 fr3 e3 w3 => ?_⟩
    exact q r3 ys B H3 (kp_trans (kp_same s1) (kp_trans k2 (kp_same s3))) (tabs_same t2 s3) (Fr.mk (s1.free (fr_kp k2 m3 fr3).h)) e3 w3 hBp hBs
end
end Ob

set_option Elab.async false
set_option linter.all false
set_option maxRecDepth 100000
set_option maxHeartbeats 1000000
namespace Ob
open PySem PySem.Spec PyProof.Rows L2
open LamX (Tabs TabB TabS ExtN)

set_option hygiene false in
local macro_rules
  | `(tactic| kp_flats) => `(tactic| first
    | assumption
    | exact upd_same
    | (apply atNew; assumption; kp_flats)
    | (apply atNe; (next => kbo_bools); kp_flats)
    | (apply atSame; assumption; kp_flats)
    | (apply atKp; assumption; (next => kaf_pre); kp_flats))
set_option hygiene false in
local macro_rules
  | `(tactic| kaf_pre) => `(tactic| first
    | assumption
    | exact not_nil
    | (apply not_cons; (next => kbo_bools); kaf_pre)
    | (apply not_app; (next => kaf_pre); kaf_pre))
set_option hygiene false in
local macro_rules
  | `(tactic| kbo_bools) => `(tactic| first
    | assumption
    | (apply Ne.symm; assumption)
    | (apply neN; assumption; kp_flats)
    | (apply neN'; assumption; kp_flats))
set_option hygiene false in
local macro_rules
  | `(tactic| o_reads) => `(tactic| first
    | with_reducible rfl
    | assumption
    | rfl
    | kp_flats
    | (show SqL _ _ _ _; first | assumption | (apply sqlOf; kp_flats) | (apply sqlSame; assumption; o_reads))
    | (show SqT _ _ _ _; first | assumption | (apply sqtOf; kp_flats) | (apply sqtAll; assumption) | (apply sqtSame; assumption; o_reads))
    | (show Cls _ _; first | exact T.cl_Calls | exact T.cl_Outer | exact T.cl_Timed)
    | (show NoAttr _ _ _; first | exact T.n_Calls_entries | exact T.n_Calls_running | exact T.n_Outer_calls | exact T.n_Outer_push_call | exact T.n_Outer_pop_call | exact T.n_Outer_ask_call | exact T.n_Outer_order | exact T.n_Outer_broken | exact T.n_Timed_outer | exact T.n_Timed_given | exact T.n_Timed_now | exact T.n_Timed_held | exact T.n_Timed_limits | exact T.n_Timed_ends)
    | (apply Or.inl; o_reads)
    | (apply Or.inr; o_reads)
    | (apply And.intro; (next => o_reads); o_reads)
    | (apply Exists.intro; o_reads)
    | exact Nat.le_of_ble_eq_true rfl
    | exact Nat.succ_ne_zero _
    | (show Fr _ _; kba_ints)
    | (show Same _ _; kd_subs)
    | (show Kp _ _ _; kxs_still)
    | (show (_ : Nat) ≤ _; simp only [List.length_append, List.length_map, List.length_cons, List.length_nil, List.length_take, List.length_drop, List.length_replicate, List.length_range, sizeLine_eq]; omega)
    | (show _ = none; apply Fr.h; kba_ints)
    | (show Bag _ _; first | assumption | (apply bag_putF; assumption; o_reads) | (apply bag_neF; (next => kbo_bools); o_reads) | (apply bag_kpR; assumption; (next => kaf_pre); o_reads))
    | omega
    | decide)
local macro_rules
  | `(tactic| o_readsAll) => `(tactic| repeat (first
    | (refine fun (pNew : Addr) (nNew : _ = none) => ?_; replace nNew := Fr.mk nNew)
    | (refine fun (xNew dNew : Addr) (nNew : _ = none) (mNew : _ = none) (eNew : dNew ≠ xNew) => ?_; replace nNew := Fr.mk nNew; replace mNew := Fr.mk mNew)
    | (apply And.intro; next => o_reads)
    | apply Exists.intro (α := V)
    | apply Exists.intro (α := Addr)
    | apply Exists.intro (α := Int)
    | apply Exists.intro (α := Bool)
    | apply Exists.intro (α := List V)
    | apply Exists.intro (α := List Nat)
    | apply Exists.intro (α := List (Str × V))
    | apply Exists.intro (α := List _)
    | apply Exists.intro (α := Str)
    | apply Exists.intro (α := HO)
    | apply Exists.intro (α := Sp)
    | apply Exists.intro (α := VK)))
set_option hygiene false in
local macro_rules
  | `(tactic| kba_ints) => `(tactic| first
    | assumption
    | (apply frUp; (first | assumption | (apply Ne.symm; assumption)); kba_ints)
    | (apply noneOf; assumption; intro oF eF; apply Exists.intro; kp_flats)
    | (apply frUp; (next => kbo_bools); kba_ints))
set_option hygiene false in
local macro_rules
  | `(tactic| kxs_still) => `(tactic| first
    | assumption
    | exact kp_refl _ _
    | (apply kp_newF; assumption; kxs_still)
    | (apply kp_new; assumption; kxs_still)
    | (apply kp_up; (next => o_fieldsN); kxs_still)
    | (apply kp_new; (next => kba_ints); kxs_still)
    | (apply kp_sameR; assumption; kxs_still)
    | (apply kp_transR; assumption; kxs_still)
    | (apply kp_freshR; assumption; (next => kaf_suf); kxs_still))
set_option hygiene false in
local macro_rules
  | `(tactic| kaf_suf) => `(tactic| first
    | assumption
    | exact subNil
    | (apply subCons; (first | (apply Or.inl; o_fieldsN) | (apply Or.inr; kba_ints)); kaf_suf)
    | (apply subApp; (next => kaf_suf); kaf_suf))
set_option hygiene false in
local macro_rules
  | `(tactic| o_fieldsN) => `(tactic| first
    | assumption
    | exact memA
    | (apply memB; o_fieldsN)
    | (apply memL; o_fieldsN)
    | (apply memR; o_fieldsN))
set_option hygiene false in
local macro_rules
  | `(tactic| kd_subs) => `(tactic| first
    | assumption
    | exact Same.refl _
    | (apply same_putF; assumption; kd_subs)
    | (apply same_putG; assumption; kd_subs)
    | (apply same_putF; (next => kba_ints); kd_subs)
    | (apply same_transR; assumption; kd_subs))

set_option pp.maxSteps 900
open NdefX (TabsN)
open Inf (Clo cut mend cellsOf cut_at mend_at)
/-! ### the callables of the law: a list of members, and notes of the calls -/
abbrev qO (x : Str) : Str := ("_law_outer" : Str) ++ ".<locals>." ++ x
abbrev FPu (cl : List (Str × Addr)) (c : Addr) : NdefX.NF := NdefX.NF.of s_l_outer_pushes "_law_pushes" (qO "_law_pushes") cl c
abbrev FPo (cl : List (Str × Addr)) (c : Addr) : NdefX.NF := NdefX.NF.of s_l_outer_pops "_law_pops" (qO "_law_pops") cl c
abbrev FAs (cl : List (Str × Addr)) (c : Addr) : NdefX.NF := NdefX.NF.of s_l_outer_asks "_law_asks" (qO "_law_asks") cl c
theorem clo_kp {cs : List Addr} {H H1 : Hp} {f : Addr} {F : NdefX.NF} {fr : List Str} {ws : List V} (h : Clo H f F fr ws) (k : Kp cs H H1) (m : Mu H cs) : Clo H1 f F fr ws :=
  ⟨kp_ext k m h.fn, kp_ext k m h.code, h.len, h.dom, h.inj, fun i y e => by
    obtain ⟨c, v, a, b, d⟩ := h.at_ i y e
    exact ⟨c, v, a, b, kp_ext k m d⟩⟩
theorem kp_mend {cs ds : List Addr} {H H1 : Hp} (k : Kp ds (cut cs H) H1) : Kp ds H (mend cs H H1) := ⟨fun b o h n => by
  by_cases hb : b ∈ cs
  · rw [Inf.mend_in hb]
    exact h
  · rw [Inf.mend_out hb]
    exact k.at_ _ _ ((Inf.cut_out hb).trans h) n⟩
/-- the members that stand behind these calls -/
def stV (S : List V) : List Ca → List V
  | [] => S
  | .push _ v :: l => stV (S ++ [v]) l
  | .pop _ :: l => stV S.dropLast l
  | .ask _ :: l => stV S l
theorem stV_app : ∀ {a b : List Ca} {S : List V}, stV S (a ++ b) = stV (stV S a) b
  | [], _, _ => rfl
  | .push _ _ :: a, b, S => stV_app (a := a)
  | .pop _ :: a, b, S => stV_app (a := a)
  | .ask _ :: a, b, S => stV_app (a := a)
theorem stV_len : ∀ {l : List Ca} {S : List V} {S' : List Nat}, S.length = S'.length → (stV S l).length = (stC S' l).length
  | [], _, _, h => h
  | .push i v :: l, S, S', h => stV_len (l := l) (by rw [List.length_append, List.length_append, h]; rfl)
  | .pop i :: l, S, S', h => stV_len (l := l) (by rw [List.length_dropLast, List.length_dropLast, h])
  | .ask v :: l, S, S', h => stV_len (l := l) h
theorem stC_len : ∀ {l : List Ca} {S : List Nat}, (stC S l).length ≤ S.length + l.length
  | [], S => Nat.le_refl _
  | .push i v :: l, S => by
    have h := stC_len (l := l) (S := S ++ [i])
    rw [List.length_append, List.length_singleton] at h
    show (stC (S ++ [i]) l).length ≤ _
    rw [List.length_cons]
    omega
  | .pop i :: l, S => by
    have h := stC_len (l := l) (S := S.dropLast)
    rw [List.length_dropLast] at h
    show (stC S.dropLast l).length ≤ _
    rw [List.length_cons]
    omega
  | .ask v :: l, S => by
    have h := stC_len (l := l) (S := S)
    show (stC S l).length ≤ _
    rw [List.length_cons]
    omega
/-- the notes of these calls -/
def ntC (S : List V) : List Ca → List (List V)
  | [] => []
  | .push _ v :: l => [.str "push", v] :: ntC (S ++ [v]) l
  | .pop _ :: l => [.str "pop", S.getLastD .non] :: ntC S.dropLast l
  | .ask v :: l => [.str "ask", v] :: ntC S l
theorem ntC_app : ∀ {a b : List Ca} {S : List V}, ntC S (a ++ b) = ntC S a ++ ntC (stV S a) b
  | [], _, _ => rfl
  | .push _ _ :: a, b, S => congrArg (_ :: ·) (ntC_app (a := a))
  | .pop _ :: a, b, S => congrArg (_ :: ·) (ntC_app (a := a))
  | .ask _ :: a, b, S => congrArg (_ :: ·) (ntC_app (a := a))
theorem ntC_len : ∀ {l : List Ca} {S : List V}, (ntC S l).length = l.length
  | [], _ => rfl
  | .push _ _ :: l, S => congrArg (· + 1) (ntC_len (l := l))
  | .pop _ :: l, S => congrArg (· + 1) (ntC_len (l := l))
  | .ask _ :: l, S => congrArg (· + 1) (ntC_len (l := l))
/-- tuples of these values -/
structure TupL (H : Hp) (xs : List V) (ls : List (List V)) : Prop where
  len : xs.length = ls.length
  at_ : ∀ (q : Nat) (x : V) (l : List V), xs[q]? = some x → ls[q]? = some l → ∃ p, x = .ref p ∧ H p = some (.tup l)
theorem TupL.kp {H H1 : Hp} {xs : List V} {ls : List (List V)} {cs : List Addr} (h : TupL H xs ls) (k : Kp cs H H1) (m : Mu H cs) : TupL H1 xs ls := ⟨h.len, fun q x e a b => by
  obtain ⟨p, h1, h2⟩ := h.at_ q x e a b
  exact ⟨p, h1, kp_tup k m h2⟩⟩
theorem TupL.nil {H : Hp} : TupL H [] [] := ⟨rfl, fun q x e z => by cases q <;> cases z⟩
theorem TupL.add {H : Hp} {xs : List V} {ls : List (List V)} {t : Addr} {e : List V} (h : TupL H xs ls) (ht : H t = some (.tup e)) : TupL H (xs ++ [.ref t]) (ls ++ [e]) := by
  refine ⟨by rw [List.length_append, List.length_append, h.len]; rfl, fun i x y a b => ?_⟩
  have hl := h.len
  by_cases c : i < xs.length
  · rw [List.getElem?_append_left c] at a
    rw [List.getElem?_append_left (by omega)] at b
    exact h.at_ i x y a b
  · rw [List.getElem?_append_right (by omega)] at a
    rw [List.getElem?_append_right (by omega), ← hl] at b
    match i - xs.length, a, b with
    | 0, a, b =>
      cases a
      cases b
      exact ⟨t, rfl, ht⟩
    | r + 1, a, _ => cases r <;> cases a
def spPu : List (Option V) → Sp := fun ws vs H Q _ => ∃ (ph pn : Addr) (v : V) (xs ns : List V), ws = [some (.ref ph), some (.ref pn)] ∧ vs = [v] ∧ H ph = some (.lst xs) ∧ H pn = some (.lst ns) ∧ ph ≠ pn ∧ xs.length < 2000000 ∧ ns.length < 2000000 ∧
  ∀ p H', Kp [ph, pn] H H' → H' p = some (.tup [.str "push", v]) → H' pn = some (.lst (ns ++ [.ref p])) → H' ph = some (.lst (xs ++ [v])) → Q .non H'
def spPo : List (Option V) → Sp := fun ws vs H Q _ => ∃ (ph pn : Addr) (v : V) (xs ns : List V), ws = [some (.ref ph), some (.ref pn)] ∧ vs = [] ∧ H ph = some (.lst (xs ++ [v])) ∧ H pn = some (.lst ns) ∧ ph ≠ pn ∧ ns.length < 2000000 ∧
  ∀ p H', Kp [ph, pn] H H' → H' p = some (.tup [.str "pop", v]) → H' pn = some (.lst (ns ++ [.ref p])) → H' ph = some (.lst xs) → Q .non H'
section
variable {P : Program} {w : World} {K : PySem.W.Frag} {mg : Str → Option Value} {base : Heap}
theorem nok_pu (T : Txt K mg) {f c : Addr} {cl : List (Str × Addr)} : NdefX.NOk P w K mg base CX0 1 f (FPu cl c) ["_law_one"] fr_l_outer_pushes spPu := by
  refine NdefX.nok_of (F := FPu cl c) sc_l_outer_pushes (fun _ _ _ us hl => match us, hl with | [_], _ => rfl) (fun ws vs H Q E h => ?_) (fun A outer s H vs ws Q E hr hf hc hl h => ?_)
  · obtain ⟨ph, pn, v, xs, ns, _, rfl, _⟩ := h
    rfl
  · obtain ⟨ph, pn, v, xs, ns, rfl, rfl, h1, h2, hne, l1, l2, q⟩ := h
    refine ⟨_, (pss_cons (ps_expr (pe_bm PySem.F.plainAttrs_list PySem.F.slot_list_append PySem.F.type_list_append mt_append (pv 2) (pa_cons (pe_tup (pa_cons pe_str (pa_cons (pv 0) pa_nil))) pa_nil)))
      (pss_one (ps_expr (pe_bm PySem.F.plainAttrs_list PySem.F.slot_list_append PySem.F.type_list_append mt_append (pv 1) (pa_cons (pv 0) pa_nil))))), ?_⟩
    refine ⟨_, rfl, .inl ⟨rfl, _, sqlOf h2⟩, _, rfl, le2, fun p np => ?_⟩
    have fp := Fr.mk np
    refine ⟨pn, _, _, rfl, rfl, atNew fp h2, by rw [sizeLine_eq]; omega, ?_⟩
    have npn : pn ≠ p := ne_of_none h2 np
    have nph : ph ≠ p := ne_of_none h1 np
    have e1 : (upd (upd H p (.tup [.str "push", v])) pn (.lst (ns ++ [.ref p]))) ph = some (.lst xs) := by
      rw [upd_ne hne, upd_ne nph]
      exact h1
    refine ⟨_, rfl, .inl ⟨rfl, _, sqlOf e1⟩, _, rfl, ph, _, _, rfl, rfl, e1, by rw [sizeLine_eq]; omega, ?_⟩
    refine q p _ (kp_up memA (kp_up (memB memA) (kp_new fp (kp_refl _ _)))) ?_ ?_ upd_same
    · rw [upd_ne nph.symm, upd_ne npn.symm]
      exact upd_same
    · rw [upd_ne hne.symm]
      exact upd_same
theorem nok_po (T : Txt K mg) {f c : Addr} {cl : List (Str × Addr)} : NdefX.NOk P w K mg base CX0 1 f (FPo cl c) [] fr_l_outer_pops spPo := by
  refine NdefX.nok_of (F := FPo cl c) sc_l_outer_pops (fun _ _ _ us hl => match us, hl with | [], _ => rfl) (fun ws vs H Q E h => ?_) (fun A outer s H vs ws Q E hr hf hc hl h => ?_)
  · obtain ⟨ph, pn, v, xs, ns, _, rfl, _⟩ := h
    rfl
  · obtain ⟨ph, pn, v, xs, ns, rfl, rfl, h1, h2, hne, l2, q⟩ := h
    refine ⟨_, (pss_cons (ps_expr (pe_bm PySem.F.plainAttrs_list PySem.F.slot_list_append PySem.F.type_list_append mt_append (pv 1) (pa_cons (pe_tup (pa_cons pe_str (pa_cons (pe_ix (r := rIxL K) ix_list (pv 0) (pe_un un_neg pe_int) (fun _ _ => rfl)) pa_nil))) pa_nil)))
      (pss_one (ps_expr (pe_bm0 PySem.F.plainAttrs_list PySem.F.slot_list_pop PySem.F.type_list_pop mt_pop (pv 0))))), ?_⟩
    have hlast : (xs ++ [v])[(xs ++ [v]).length - 1]? = some v := by
      rw [List.length_append, List.length_singleton, Nat.add_sub_cancel, List.getElem?_append_right (Nat.le_refl _), Nat.sub_self]
      rfl
    refine ⟨_, rfl, .inl ⟨rfl, _, sqlOf h2⟩, _, rfl, _, rfl, ph, _, -1, v, rfl, rfl, sqlOf h1, atI_last xs v, le2, fun p np => ?_⟩
    have fp := Fr.mk np
    refine ⟨pn, _, _, rfl, rfl, atNew fp h2, by rw [sizeLine_eq]; omega, ?_⟩
    have npn : pn ≠ p := ne_of_none h2 np
    have nph : ph ≠ p := ne_of_none h1 np
    have e1 : (upd (upd H p (.tup [.str "pop", v])) pn (.lst (ns ++ [.ref p]))) ph = some (.lst (xs ++ [v])) := by
      rw [upd_ne hne, upd_ne nph]
      exact h1
    refine ⟨_, rfl, .inl ⟨rfl, _, sqlOf e1⟩, ph, _, _, rfl, rfl, e1, hlast, ?_⟩
    rw [List.dropLast_concat]
    refine q p _ (kp_up memA (kp_up (memB memA) (kp_new fp (kp_refl _ _)))) ?_ ?_ upd_same
    · rw [upd_ne nph.symm, upd_ne npn.symm]
      exact upd_same
    · rw [upd_ne hne.symm]
      exact upd_same
def spAs : List (Option V) → Sp := fun ws vs H Q _ => ∃ (ph pn : Addr) (m : Nat) (ks : List Int) (ns : List V), ws = [some (.ref ph), some (.ref pn)] ∧ vs = [.int (m : Int)] ∧ H ph = some (.lst (ks.map V.int)) ∧ H pn = some (.lst ns) ∧ ph ≠ pn ∧ ns.length < 2000000 ∧
  ∀ p r H' (zs : List Int), Kp [pn] H H' → H' p = some (.tup [.str "ask", .int (m : Int)]) → H' pn = some (.lst (ns ++ [.ref p])) → zs.Perm ks → zs.Pairwise (· ≤ ·) → Fr H r → H' r = some (.lst ((zs.take m).map V.int)) → Q (.ref r) H'
theorem nok_as (T : Txt K mg) {f c : Addr} {cl : List (Str × Addr)} : NdefX.NOk P w K mg base CX0 1 f (FAs cl c) ["_law_topic"] fr_l_outer_asks spAs := by
  refine NdefX.nok_of (F := FAs cl c) sc_l_outer_asks (fun _ _ _ us hl => match us, hl with | [_], _ => rfl) (fun ws vs H Q E h => ?_) (fun A outer s H vs ws Q E hr hf hc hl h => ?_)
  · obtain ⟨ph, pn, m, ks, ns, _, rfl, _⟩ := h
    rfl
  · obtain ⟨ph, pn, m, ks, ns, rfl, rfl, h1, h2, hne, l2, q⟩ := h
    refine ⟨_, (pss_cons (ps_expr (pe_bm PySem.F.plainAttrs_list PySem.F.slot_list_append PySem.F.type_list_append mt_append (pv 2) (pa_cons (pe_tup (pa_cons pe_str (pa_cons (pv 0) pa_nil))) pa_nil)))
      (pss_one (ps_ret (pe_slice sl_list (pe_callB (r := rSortedI K) cr_sortedI (by rfl) T.z_sorted (by decide +kernel) (pa_cons (pv 1) pa_nil)) po_none (po_some (pv 0)))))), ?_⟩
    refine ⟨_, rfl, .inl ⟨rfl, _, sqlOf h2⟩, _, rfl, le2, fun p np => ?_⟩
    have fp := Fr.mk np
    refine ⟨pn, _, _, rfl, rfl, atNew fp h2, by rw [sizeLine_eq]; omega, ?_⟩
    have npn : pn ≠ p := ne_of_none h2 np
    have nph : ph ≠ p := ne_of_none h1 np
    have e1 : (upd (upd H p (.tup [.str "ask", .int (m : Int)])) pn (.lst (ns ++ [.ref p]))) ph = some (.lst (ks.map V.int)) := by
      rw [upd_ne hne, upd_ne nph]
      exact h1
    have e2 : (upd (upd H p (.tup [.str "ask", .int (m : Int)])) pn (.lst (ns ++ [.ref p]))) pn = some (.lst (ns ++ [.ref p])) := upd_same
    have e3 : (upd (upd H p (.tup [.str "ask", .int (m : Int)])) pn (.lst (ns ++ [.ref p]))) p = some (.tup [.str "ask", .int (m : Int)]) := by
      rw [upd_ne npn.symm]
      exact upd_same
    have k1 : Kp [pn] H (upd (upd H p (.tup [.str "ask", .int (m : Int)])) pn (.lst (ns ++ [.ref p]))) := kp_up memA (kp_new fp (kp_refl _ _))
    have m1 : Mu H [pn] := mu_lst h2 mu_nil
    generalize upd (upd H p (.tup [.str "ask", .int (m : Int)])) pn (.lst (ns ++ [.ref p])) = H1 at e1 e2 e3 k1 ⊢
    refine ⟨_, rfl, ph, ks, rfl, sqlOf e1, fun zs a hz1 hz2 na => ⟨_, rfl, _, rfl, a, _, rfl, sqlOf upd_same, fun r nr => ?_⟩⟩
    have s1 := same_newF (o := .lst (zs.map V.int)) (Fr.mk na)
    have s2 := same_newF (o := .lst (cutV (zs.map V.int) none (some (m : Int)))) (Fr.mk nr)
    have hcut : cutV (zs.map V.int) none (some (m : Int)) = (zs.take m).map V.int := by
      unfold cutV
      rw [List.length_map, HT.sIx_none, HT.sIx_nat, List.drop_zero, Nat.sub_zero, List.map_take]
      by_cases c : m ≤ zs.length
      · rw [Nat.min_eq_left c]
      · rw [Nat.min_eq_right (by omega), List.take_of_length_le (by rw [List.length_map]; omega), List.take_of_length_le (by rw [List.length_map]; omega)]
    rw [hcut] at s2 ⊢
    refine q p r _ zs (kp_trans k1 (kp_same (s1.trans s2))) (s2 _ _ (s1 _ _ e3)) (s2 _ _ (s1 _ _ e2)) hz1 hz2 (fr_kp k1 (mu_lst e2 mu_nil) (Fr.mk (s1.free nr))) upd_same
/-- what the def has told of its three callables -/
structure CL3 where
  (clp clo cla : List (Str × Addr))
  (fp cp fo co fa ca ph pn : Addr)
/-- the three callables stand -/
def CO3 (c : CL3) (H : Hp) : Prop := Clo H c.fp (FPu c.clp c.cp) fr_l_outer_pushes [.ref c.ph, .ref c.pn] ∧ Clo H c.fo (FPo c.clo c.co) fr_l_outer_pops [.ref c.ph, .ref c.pn] ∧ Clo H c.fa (FAs c.cla c.ca) fr_l_outer_asks [.ref c.ph, .ref c.pn]
theorem CO3.kp {c : CL3} {cs : List Addr} {H H1 : Hp} (h : CO3 c H) (k : Kp cs H H1) (m : Mu H cs) : CO3 c H1 := ⟨clo_kp h.1 k m, clo_kp h.2.1 k m, clo_kp h.2.2 k m⟩
def RU (c : CL3) (tr : List Ca) (H : Hp) : Prop := CO3 c H ∧ H c.ph = some (.lst (stV [] tr)) ∧ c.ph ≠ c.pn ∧ ∃ ns, H c.pn = some (.lst ns) ∧ TupL H ns (ntC [] tr)
theorem osU (T : Txt K mg) {c : CL3} {PM : Nat → V → Prop} : OS P w K mg base 2 [c.ph, c.pn] (.ref c.fp) (.ref c.fo) (.ref c.fa) PM (fun _ => False) (RU c) (fun _ _ _ _ => True) where
  rk := fun h k m n => ⟨h.1.kp k m, k.at_ _ _ h.2.1 (n c.ph memA), h.2.2.1, by
    obtain ⟨ns, h1, h2⟩ := h.2.2.2
    exact ⟨ns, k.at_ _ _ h1 (n c.pn (memB memA)), h2.kp k m⟩⟩
  ak := fun h _ _ _ => h
  mu := fun h => by
    obtain ⟨ns, h1, h2⟩ := h.2.2.2
    exact mu_lst h.2.1 (mu_lst h1 mu_nil)
  push := fun {tr i v H Q} hv ht h q => by
    obtain ⟨hc, h1, hne, ns, h2, h3⟩ := id h
    have l1 := stV_len (l := tr) (S := []) (S' := []) rfl
    have l2 := stC_len (l := tr) (S := [])
    have l3 := h3.len
    rw [ntC_len] at l3
    have l0 : ([] : List Nat).length = 0 := rfl
    have m0 : Mu H [c.ph, c.pn] := mu_lst h1 (mu_lst h2 mu_nil)
    have g := hc.1
    refine ⟨c.fp, _, _, rfl, g.fn, Inf.fnHO_of, (Inf.clo_fnR (nok_pu T)).mono (by omega), _, g, c.ph, c.pn, v, stV [] tr, ns, rfl, rfl, cut_at (g.out h1 (fun _ z => nomatch z)) h1, cut_at (g.out h2 (fun _ z => nomatch z)) h2, hne, by omega, by omega, fun p H1 k1 et e2 e1 gg => ?_⟩
    have kk := kp_mend k1
    refine q _ _ kk ⟨hc.kp kk m0, ?_, hne, _, mend_at gg e2, ?_⟩
    · rw [mend_at gg e1, stV_app]
      rfl
    · rw [ntC_app]
      exact (h3.kp kk m0).add (mend_at gg et)
  pop := fun {tr i S H Q} hs ht h q => by
    obtain ⟨hc, h1, hne, ns, h2, h3⟩ := id h
    have l1 := stV_len (l := tr) (S := []) (S' := []) rfl
    have l3 := h3.len
    rw [ntC_len] at l3
    have m0 : Mu H [c.ph, c.pn] := mu_lst h1 (mu_lst h2 mu_nil)
    obtain ⟨xs, v, hxs⟩ : ∃ xs v, stV [] tr = xs ++ [v] := by
      rw [hs, List.length_append] at l1
      have hne : stV [] tr ≠ [] := fun z => by
        rw [z] at l1
        cases l1
      exact ⟨_, _, (List.dropLast_concat_getLast hne).symm⟩
    have h1' := h1
    rw [hxs] at h1'
    have g := hc.2.1
    refine ⟨c.fo, _, _, rfl, g.fn, Inf.fnHO_of, (Inf.clo_fnR (nok_po T)).mono (by omega), _, g, c.ph, c.pn, v, xs, ns, rfl, rfl, cut_at (g.out h1' (fun _ z => nomatch z)) h1', cut_at (g.out h2 (fun _ z => nomatch z)) h2, hne, by omega, fun p H1 k1 et e2 e1 gg => ?_⟩
    have kk := kp_mend k1
    refine q _ _ kk ⟨hc.kp kk m0, ?_, hne, _, mend_at gg e2, ?_⟩
    · rw [mend_at gg e1, stV_app, hxs]
      show _ = some (HO.lst (xs ++ [v]).dropLast)
      rw [List.dropLast_concat]
    · rw [ntC_app, hxs]
      have e : ntC (xs ++ [v]) [.pop i] = [[.str "pop", v]] := by
        show [[V.str "pop", (xs ++ [v]).getLastD .non]] = _
        rw [List.getLastD_concat]
      rw [e]
      exact (h3.kp kk m0).add (mend_at gg et)
  ask := fun hv => hv.elim
def PMa : Nat → V → Prop := fun _ v => ∃ k : Int, v = .int k
def PQa : V → Prop := fun v => ∃ m : Nat, v = .int (m : Int)
/-- the answer: the first members of the stack in their order -/
def AnA : List Ca → V → V → Hp → Prop := fun tr v u H => ∃ (m : Nat) (r : Addr) (ks zs : List Int), v = .int (m : Int) ∧ u = .ref r ∧ stV [] tr = ks.map V.int ∧ zs.Perm ks ∧ zs.Pairwise (· ≤ ·) ∧ H r = some (.lst ((zs.take m).map V.int))
/-- all members are integers -/
def RI (c : CL3) (tr : List Ca) (H : Hp) : Prop := RU c tr H ∧ ∃ ks : List Int, stV [] tr = ks.map V.int
theorem osI (T : Txt K mg) {c : CL3} : OS P w K mg base 2 [c.ph, c.pn] (.ref c.fp) (.ref c.fo) (.ref c.fa) PMa PQa (RI c) AnA where
  rk := fun h k m n => ⟨(osU (P := P) (w := w) (base := base) (PM := PMa) T).rk h.1 k m n, h.2⟩
  ak := fun h k _ n => by
    obtain ⟨m, r, ks, zs, e1, e2, e3, e4, e5, e6⟩ := h
    exact ⟨m, r, ks, zs, e1, e2, e3, e4, e5, k.at_ _ _ e6 (n r e2)⟩
  mu := fun h => (osU (P := P) (w := w) (base := base) (PM := PMa) T).mu h.1
  push := fun {tr i v H Q} hv ht h q => (osU (P := P) (w := w) (base := base) (PM := PMa) T).push hv ht h.1 fun u H' k r => q u H' k ⟨r, by
    obtain ⟨k, rfl⟩ := hv
    obtain ⟨ks, e⟩ := h.2
    refine ⟨ks ++ [k], ?_⟩
    rw [stV_app, e, List.map_append]
    rfl⟩
  pop := fun {tr i S H Q} hs ht h q => (osU (P := P) (w := w) (base := base) (PM := PMa) T).pop hs ht h.1 fun u H' k r => q u H' k ⟨r, by
    obtain ⟨ks, e⟩ := h.2
    refine ⟨ks.dropLast, ?_⟩
    rw [stV_app, e]
    exact (List.map_dropLast ..).symm⟩
  ask := fun {tr v H Q} hv ht h q => by
    obtain ⟨m, rfl⟩ := hv
    obtain ⟨ks, eks⟩ := h.2
    obtain ⟨hc, h1, hne, ns, h2, h3⟩ := id h.1
    have l3 := h3.len
    rw [ntC_len] at l3
    have m0 : Mu H [c.ph, c.pn] := mu_lst h1 (mu_lst h2 mu_nil)
    have g := hc.2.2
    have h1' := h1
    rw [eks] at h1'
    refine ⟨c.fa, _, _, rfl, g.fn, Inf.fnHO_of, (Inf.clo_fnR (nok_as T)).mono (by omega), _, g, c.ph, c.pn, m, ks, ns, rfl, rfl, cut_at (g.out h1' (fun _ z => nomatch z)) h1', cut_at (g.out h2 (fun _ z => nomatch z)) h2, hne, by omega, fun p r H1 zs k1 et e2 hz1 hz2 fr er gg => ?_⟩
    have kk := kp_mend k1
    have kk2 : Kp [c.ph, c.pn] H (mend (cellsOf (FAs c.cla c.ca) fr_l_outer_asks) H H1) := kp_more kk fun _ m => memB m
    have hst : stV [] (tr ++ [.ask (.int (m : Int))]) = stV [] tr := stV_app
    refine q (.ref r) _ kk2 ⟨⟨hc.kp kk2 m0, ?_, hne, _, mend_at gg e2, ?_⟩, ks, hst.trans eks⟩ ⟨m, r, ks, zs, rfl, rfl, eks, hz1, hz2, mend_at gg er⟩ fun r' z => ?_
    · rw [hst]
      exact kk.at_ _ _ h1 (not_cons hne not_nil)
    · rw [ntC_app]
      exact (h3.kp kk2 m0).add (mend_at gg et)
    · cases z
      have nc : r ∉ cellsOf (FAs c.cla c.ca) fr_l_outer_asks := fun z => by
        rw [gg r z] at er
        cases er
      exact (Inf.cut_out nc).symm.trans fr.h
end
end Ob

set_option Elab.async false
set_option linter.all false
set_option maxRecDepth 100000
set_option maxHeartbeats 1000000
namespace Ob
open PySem PySem.Spec PyProof.Rows L2
open LamX (Tabs TabB TabS ExtN)

set_option hygiene false in
local macro_rules
  | `(tactic| kp_flats) => `(tactic| first
    | assumption
    | exact upd_same
    | (apply atNew; assumption; kp_flats)
    | (apply atNe; (next => kbo_bools); kp_flats)
    | (apply atSame; assumption; kp_flats)
    | (apply atKp; assumption; (next => kaf_pre); kp_flats))
set_option hygiene false in
local macro_rules
  | `(tactic| kaf_pre) => `(tactic| first
    | assumption
    | exact not_nil
    | (apply not_cons; (next => kbo_bools); kaf_pre)
    | (apply not_app; (next => kaf_pre); kaf_pre))
set_option hygiene false in
local macro_rules
  | `(tactic| kbo_bools) => `(tactic| first
    | assumption
    | (apply Ne.symm; assumption)
    | (apply neN; assumption; kp_flats)
    | (apply neN'; assumption; kp_flats))
set_option hygiene false in
local macro_rules
  | `(tactic| o_reads) => `(tactic| first
    | with_reducible rfl
    | assumption
    | rfl
    | kp_flats
    | (show SqL _ _ _ _; first | assumption | (apply sqlOf; kp_flats) | (apply sqlSame; assumption; o_reads))
    | (show SqT _ _ _ _; first | assumption | (apply sqtOf; kp_flats) | (apply sqtAll; assumption) | (apply sqtSame; assumption; o_reads))
    | (show Cls _ _; first | exact T.cl_Calls | exact T.cl_Outer | exact T.cl_Timed)
    | (show NoAttr _ _ _; first | exact T.n_Calls_entries | exact T.n_Calls_running | exact T.n_Outer_calls | exact T.n_Outer_push_call | exact T.n_Outer_pop_call | exact T.n_Outer_ask_call | exact T.n_Outer_order | exact T.n_Outer_broken | exact T.n_Timed_outer | exact T.n_Timed_given | exact T.n_Timed_now | exact T.n_Timed_held | exact T.n_Timed_limits | exact T.n_Timed_ends)
    | (apply Or.inl; o_reads)
    | (apply Or.inr; o_reads)
    | (apply And.intro; (next => o_reads); o_reads)
    | (apply Exists.intro; o_reads)
    | exact Nat.le_of_ble_eq_true rfl
    | exact Nat.succ_ne_zero _
    | (show Fr _ _; kba_ints)
    | (show Same _ _; kd_subs)
    | (show Kp _ _ _; kxs_still)
    | (show (_ : Nat) ≤ _; simp only [List.length_append, List.length_map, List.length_cons, List.length_nil, List.length_take, List.length_drop, List.length_replicate, List.length_range, sizeLine_eq]; omega)
    | (show _ = none; apply Fr.h; kba_ints)
    | (show Bag _ _; first | assumption | (apply bag_putF; assumption; o_reads) | (apply bag_neF; (next => kbo_bools); o_reads) | (apply bag_kpR; assumption; (next => kaf_pre); o_reads))
    | omega
    | decide)
local macro_rules
  | `(tactic| o_readsAll) => `(tactic| repeat (first
    | (refine fun (pNew : Addr) (nNew : _ = none) => ?_; replace nNew := Fr.mk nNew)
    | (refine fun (xNew dNew : Addr) (nNew : _ = none) (mNew : _ = none) (eNew : dNew ≠ xNew) => ?_; replace nNew := Fr.mk nNew; replace mNew := Fr.mk mNew)
    | (apply And.intro; next => o_reads)
    | apply Exists.intro (α := V)
    | apply Exists.intro (α := Addr)
    | apply Exists.intro (α := Int)
    | apply Exists.intro (α := Bool)
    | apply Exists.intro (α := List V)
    | apply Exists.intro (α := List Nat)
    | apply Exists.intro (α := List (Str × V))
    | apply Exists.intro (α := List _)
    | apply Exists.intro (α := Str)
    | apply Exists.intro (α := HO)
    | apply Exists.intro (α := Sp)
    | apply Exists.intro (α := VK)))
set_option hygiene false in
local macro_rules
  | `(tactic| kba_ints) => `(tactic| first
    | assumption
    | (apply frUp; (first | assumption | (apply Ne.symm; assumption)); kba_ints)
    | (apply noneOf; assumption; intro oF eF; apply Exists.intro; kp_flats)
    | (apply frUp; (next => kbo_bools); kba_ints))
set_option hygiene false in
local macro_rules
  | `(tactic| kxs_still) => `(tactic| first
    | assumption
    | exact kp_refl _ _
    | (apply kp_newF; assumption; kxs_still)
    | (apply kp_new; assumption; kxs_still)
    | (apply kp_up; (next => o_fieldsN); kxs_still)
    | (apply kp_new; (next => kba_ints); kxs_still)
    | (apply kp_sameR; assumption; kxs_still)
    | (apply kp_transR; assumption; kxs_still)
    | (apply kp_freshR; assumption; (next => kaf_suf); kxs_still))
set_option hygiene false in
local macro_rules
  | `(tactic| kaf_suf) => `(tactic| first
    | assumption
    | exact subNil
    | (apply subCons; (first | (apply Or.inl; o_fieldsN) | (apply Or.inr; kba_ints)); kaf_suf)
    | (apply subApp; (next => kaf_suf); kaf_suf))
set_option hygiene false in
local macro_rules
  | `(tactic| o_fieldsN) => `(tactic| first
    | assumption
    | exact memA
    | (apply memB; o_fieldsN)
    | (apply memL; o_fieldsN)
    | (apply memR; o_fieldsN))
set_option hygiene false in
local macro_rules
  | `(tactic| kd_subs) => `(tactic| first
    | assumption
    | exact Same.refl _
    | (apply same_putF; assumption; kd_subs)
    | (apply same_putG; assumption; kd_subs)
    | (apply same_putF; (next => kba_ints); kd_subs)
    | (apply same_transR; assumption; kd_subs))

set_option pp.maxSteps 900
open NdefX (TabsN)
open Inf (Clo cut mend cellsOf)
section
variable {P : Program} {w : World} {K : PySem.W.Frag} {mg : Str → Option Value} {base : Heap} {n : Nat}
def spOut (T : Txt K mg) : Sp := fun vs H Q _ => ∃ (ph pn : Addr), vs = [.ref ph, .ref pn] ∧ H ph = some (.lst []) ∧ H pn = some (.lst []) ∧ ph ≠ pn ∧ TabsN (TT T) H ∧
  ∀ (r : Addr) (c : CL3) (H' : Hp), c.ph = ph → c.pn = pn → ExtN H H' → (∀ x, H' x = none → H x = none) → TabsN (TT T) H' → Fr H r → H' r = some (.lst [.ref c.fp, .ref c.fo, .ref c.fa]) → RU c [] H' → Q (.ref r) H'
theorem ok_out (T : Txt K mg) (TB : LamX.TabB base mg T.c_l_outer T.p_l_outer) : FnOk P w K mg base CX0 10 T.f_l_outer T.d_l_outer ["_law_held", "_law_notes"] (spOut T) := by
  refine T.F_l_outer.okC sc_l_outer (fun vs H Q E h => ?_) (fun A outer s H vs Q E hr h => ?_)
  · obtain ⟨ph, pn, rfl, _⟩ := h
    rfl
  · obtain ⟨ph, pn, rfl, hph, hpn, hne, t0, q⟩ := h
    refine ⟨_, (Inf.psr_cons (NdefX.ps_ndefMS (st := s_l_outer_pushes) (i := 2) (T := TT T) (nm := nm_l_outer) (c := T.c_l_outer) (P := T.p_l_outer) (name := "_law_pushes") rfl TB rfl (hm_l_outer T) rfl (hu_l_outer T) (NdefX.ndef_free (sc := defScope s_l_outer) (nsc := C8.fnScope s_l_outer_pushes) (fr := ["_law_held", "_law_notes"]) (by decide +kernel)) rfl rfl rfl sc_l_outer.nd rfl (.inl rfl) (.inr rfl))
      (Inf.psr_cons (NdefX.ps_ndefMS (st := s_l_outer_pops) (i := 3) (T := TT T) (nm := nm_l_outer) (c := T.c_l_outer) (P := T.p_l_outer) (name := "_law_pops") rfl TB rfl (hm_l_outer T) rfl (hu_l_outer T) (NdefX.ndef_free (sc := defScope s_l_outer) (nsc := C8.fnScope s_l_outer_pops) (fr := ["_law_held", "_law_notes"]) (by decide +kernel)) rfl rfl rfl sc_l_outer.nd rfl (.inl rfl) (.inr rfl))
      (Inf.psr_cons (NdefX.ps_ndefMS (st := s_l_outer_asks) (i := 4) (T := TT T) (nm := nm_l_outer) (c := T.c_l_outer) (P := T.p_l_outer) (name := "_law_asks") rfl TB rfl (hm_l_outer T) rfl (hu_l_outer T) (NdefX.ndef_free (sc := defScope s_l_outer) (nsc := C8.fnScope s_l_outer_asks) (fr := ["_law_held", "_law_notes"]) (by decide +kernel)) rfl rfl rfl sc_l_outer.nd rfl (.inl rfl) (.inr rfl))
      (Inf.psr_ret (pe_lst (pa_cons (pv 2) (pa_cons (pv 3) (pa_cons (pv 4) pa_nil)))))))), ?_⟩
    refine ⟨t0, fun fp cp H1 x1 y1 t1 nfp hfp hcp => ⟨t1, fun fo co H2 x2 y2 t2 nfo hfo hco => ⟨t2, fun fa ca H3 x3 y3 t3 nfa hfa hca => ?_⟩⟩⟩
    refine ⟨_, rfl, _, rfl, _, rfl, le3, fun r nr => fun H5 X5 => ?_⟩
    have sr := same_newF (o := .lst [.ref fp, .ref fo, .ref fa]) (Fr.mk nr)
    have up23 : ∀ {a : Addr} {x : HO}, H2 a = some x → (∀ ps, x ≠ .tbl ps) → H3 a = some x := fun e n => x3 _ _ e n
    have up12 : ∀ {a : Addr} {x : HO}, H1 a = some x → (∀ ps, x ≠ .tbl ps) → H2 a = some x := fun e n => x2 _ _ e n
    have eH : ∀ {a : Addr} {x : HO}, H a = some x → (∀ ps, x ≠ .tbl ps) → H5 a = some x := fun e n => X5.same _ _ (sr _ _ (up23 (up12 (x1 _ _ e n) n) n))
    have S5 : ∀ {a : Addr} {x : HO}, H3 a = some x → H5 a = some x := fun e => X5.same _ _ (sr _ _ e)
    have S4 : ∀ {a : Addr} {x : HO}, H3 a = some x → upd H3 r (.lst [.ref fp, .ref fo, .ref fa]) a = some x := fun e => sr _ _ e
    have cells : ∀ y, (defScope s_l_outer).names.lookup y = some .cell → (((envOfC "_law_outer" (defScope s_l_outer) s.heap.objs.size T.f_l_outer (Value.ref T.c_l_outer)).cells).lookup y).isSome = true := fun y e => PySem.W.cellsFrom_some _ _ _ (.inl e)
    have g1 : Clo H5 fp (FPu _ cp) fr_l_outer_pushes [.ref ph, .ref pn] := Inf.clo_fin (nn := (C8.fnScope s_l_outer_pushes).names) X5 cells rfl (by decide +kernel) (by decide +kernel) (by decide +kernel) (S4 (up23 (up12 hfp (fun ps => NdefX.fnO_ne ps)) (fun ps => NdefX.fnO_ne ps))) (S4 (up23 (up12 hcp (fun ps => LamX.codeO_ne ps)) (fun ps => LamX.codeO_ne ps))) rfl (fun i y e => by
      match i, e with
      | 0, e => exact ⟨0, _, e, rfl, rfl⟩
      | 1, e => exact ⟨1, _, e, rfl, rfl⟩)
    have g2 : Clo H5 fo (FPo _ co) fr_l_outer_pops [.ref ph, .ref pn] := Inf.clo_fin (nn := (C8.fnScope s_l_outer_pops).names) X5 cells rfl (by decide +kernel) (by decide +kernel) (by decide +kernel) (S4 (up23 hfo (fun ps => NdefX.fnO_ne ps))) (S4 (up23 hco (fun ps => LamX.codeO_ne ps))) rfl (fun i y e => by
      match i, e with
      | 0, e => exact ⟨0, _, e, rfl, rfl⟩
      | 1, e => exact ⟨1, _, e, rfl, rfl⟩)
    have g3 : Clo H5 fa (FAs _ ca) fr_l_outer_asks [.ref ph, .ref pn] := Inf.clo_fin (nn := (C8.fnScope s_l_outer_asks).names) X5 cells rfl (by decide +kernel) (by decide +kernel) (by decide +kernel) (S4 hfa) (S4 hca) rfl (fun i y e => by
      match i, e with
      | 0, e => exact ⟨0, _, e, rfl, rfl⟩
      | 1, e => exact ⟨1, _, e, rfl, rfl⟩)
    exact q r ⟨_, _, _, fp, cp, fo, co, fa, ca, ph, pn⟩ H5 rfl rfl (fun b o e n => eH e n) (fun x e => y1 _ (y2 _ (y3 _ (sr.free (X5.gone _ e))))) (fun p hp => (t3.ext fun a x e => S5 e) p hp) (Fr.mk (y1 _ (y2 _ (y3 _ nr)))) (X5.same _ _ upd_same) ⟨⟨g1, g2, g3⟩, eH hph (fun _ z => nomatch z), hne, [], eH hpn (fun _ z => nomatch z), TupL.nil⟩
end
end Ob

set_option Elab.async false
set_option linter.all false
set_option maxRecDepth 100000
set_option maxHeartbeats 1000000
namespace Ob
open PySem PySem.Spec PyProof.Rows L2
open LamX (Tabs TabB TabS ExtN)

set_option hygiene false in
local macro_rules
  | `(tactic| kp_flats) => `(tactic| first
    | assumption
    | exact upd_same
    | (apply atNew; assumption; kp_flats)
    | (apply atNe; (next => kbo_bools); kp_flats)
    | (apply atSame; assumption; kp_flats)
    | (apply atKp; assumption; (next => kaf_pre); kp_flats))
set_option hygiene false in
local macro_rules
  | `(tactic| kaf_pre) => `(tactic| first
    | assumption
    | exact not_nil
    | (apply not_cons; (next => kbo_bools); kaf_pre)
    | (apply not_app; (next => kaf_pre); kaf_pre))
set_option hygiene false in
local macro_rules
  | `(tactic| kbo_bools) => `(tactic| first
    | assumption
    | (apply Ne.symm; assumption)
    | (apply neN; assumption; kp_flats)
    | (apply neN'; assumption; kp_flats))
set_option hygiene false in
local macro_rules
  | `(tactic| o_reads) => `(tactic| first
    | with_reducible rfl
    | assumption
    | rfl
    | kp_flats
    | (show SqL _ _ _ _; first | assumption | (apply sqlOf; kp_flats) | (apply sqlSame; assumption; o_reads))
    | (show SqT _ _ _ _; first | assumption | (apply sqtOf; kp_flats) | (apply sqtAll; assumption) | (apply sqtSame; assumption; o_reads))
    | (show Cls _ _; first | exact T.cl_Calls | exact T.cl_Outer | exact T.cl_Timed)
    | (show NoAttr _ _ _; first | exact T.n_Calls_entries | exact T.n_Calls_running | exact T.n_Outer_calls | exact T.n_Outer_push_call | exact T.n_Outer_pop_call | exact T.n_Outer_ask_call | exact T.n_Outer_order | exact T.n_Outer_broken | exact T.n_Timed_outer | exact T.n_Timed_given | exact T.n_Timed_now | exact T.n_Timed_held | exact T.n_Timed_limits | exact T.n_Timed_ends)
    | (apply Or.inl; o_reads)
    | (apply Or.inr; o_reads)
    | (apply And.intro; (next => o_reads); o_reads)
    | (apply Exists.intro; o_reads)
    | exact Nat.le_of_ble_eq_true rfl
    | exact Nat.succ_ne_zero _
    | (show Fr _ _; kba_ints)
    | (show Same _ _; kd_subs)
    | (show Kp _ _ _; kxs_still)
    | (show (_ : Nat) ≤ _; simp only [List.length_append, List.length_map, List.length_cons, List.length_nil, List.length_take, List.length_drop, List.length_replicate, List.length_range, sizeLine_eq]; omega)
    | (show _ = none; apply Fr.h; kba_ints)
    | (show Bag _ _; first | assumption | (apply bag_putF; assumption; o_reads) | (apply bag_neF; (next => kbo_bools); o_reads) | (apply bag_kpR; assumption; (next => kaf_pre); o_reads))
    | omega
    | decide)
local macro_rules
  | `(tactic| o_readsAll) => `(tactic| repeat (first
    | (refine fun (pNew : Addr) (nNew : _ = none) => ?_; replace nNew := Fr.mk nNew)
    | (refine fun (xNew dNew : Addr) (nNew : _ = none) (mNew : _ = none) (eNew : dNew ≠ xNew) => ?_; replace nNew := Fr.mk nNew; replace mNew := Fr.mk mNew)
    | (apply And.intro; next => o_reads)
    | apply Exists.intro (α := V)
    | apply Exists.intro (α := Addr)
    | apply Exists.intro (α := Int)
    | apply Exists.intro (α := Bool)
    | apply Exists.intro (α := List V)
    | apply Exists.intro (α := List Nat)
    | apply Exists.intro (α := List (Str × V))
    | apply Exists.intro (α := List _)
    | apply Exists.intro (α := Str)
    | apply Exists.intro (α := HO)
    | apply Exists.intro (α := Sp)
    | apply Exists.intro (α := VK)))
set_option hygiene false in
local macro_rules
  | `(tactic| kba_ints) => `(tactic| first
    | assumption
    | (apply frUp; (first | assumption | (apply Ne.symm; assumption)); kba_ints)
    | (apply noneOf; assumption; intro oF eF; apply Exists.intro; kp_flats)
    | (apply frUp; (next => kbo_bools); kba_ints))
set_option hygiene false in
local macro_rules
  | `(tactic| kxs_still) => `(tactic| first
    | assumption
    | exact kp_refl _ _
    | (apply kp_newF; assumption; kxs_still)
    | (apply kp_new; assumption; kxs_still)
    | (apply kp_up; (next => o_fieldsN); kxs_still)
    | (apply kp_new; (next => kba_ints); kxs_still)
    | (apply kp_sameR; assumption; kxs_still)
    | (apply kp_transR; assumption; kxs_still)
    | (apply kp_freshR; assumption; (next => kaf_suf); kxs_still))
set_option hygiene false in
local macro_rules
  | `(tactic| kaf_suf) => `(tactic| first
    | assumption
    | exact subNil
    | (apply subCons; (first | (apply Or.inl; o_fieldsN) | (apply Or.inr; kba_ints)); kaf_suf)
    | (apply subApp; (next => kaf_suf); kaf_suf))
set_option hygiene false in
local macro_rules
  | `(tactic| o_fieldsN) => `(tactic| first
    | assumption
    | exact memA
    | (apply memB; o_fieldsN)
    | (apply memL; o_fieldsN)
    | (apply memR; o_fieldsN))
set_option hygiene false in
local macro_rules
  | `(tactic| kd_subs) => `(tactic| first
    | assumption
    | exact Same.refl _
    | (apply same_putF; assumption; kd_subs)
    | (apply same_putG; assumption; kd_subs)
    | (apply same_putF; (next => kba_ints); kd_subs)
    | (apply same_transR; assumption; kd_subs))

set_option pp.maxSteps 900
open NdefX (TabsN)
open Inf (Clo cut mend cellsOf cut_at mend_at)
/-- the callables, with notes of the calls since tr0 -/
def RB (c : CL3) (tr0 tr : List Ca) (H : Hp) : Prop := CO3 c H ∧ H c.ph = some (.lst (stV [] tr)) ∧ c.ph ≠ c.pn ∧ ∃ tr1 ns, tr = tr0 ++ tr1 ∧ H c.pn = some (.lst ns) ∧ TupL H ns (ntC (stV [] tr0) tr1)
section
variable {P : Program} {w : World} {K : PySem.W.Frag} {mg : Str → Option Value} {base : Heap}
theorem osB (T : Txt K mg) {c : CL3} {tr0 : List Ca} {PM : Nat → V → Prop} : OS P w K mg base 2 [c.ph, c.pn] (.ref c.fp) (.ref c.fo) (.ref c.fa) PM (fun _ => False) (RB c tr0) (fun _ _ _ _ => True) where
  rk := fun h k m n => ⟨h.1.kp k m, k.at_ _ _ h.2.1 (n c.ph memA), h.2.2.1, by
    obtain ⟨tr1, ns, h0, h1, h2⟩ := h.2.2.2
    exact ⟨tr1, ns, h0, k.at_ _ _ h1 (n c.pn (memB memA)), h2.kp k m⟩⟩
  ak := fun h _ _ _ => h
  mu := fun h => by
    obtain ⟨tr1, ns, h0, h1, h2⟩ := h.2.2.2
    exact mu_lst h.2.1 (mu_lst h1 mu_nil)
  push := fun {tr i v H Q} hv ht h q => by
    obtain ⟨hc, h1, hne, tr1, ns, h0, h2, h3⟩ := id h
    have l1 := stV_len (l := tr) (S := []) (S' := []) rfl
    have l2 := stC_len (l := tr) (S := [])
    have l3 := h3.len
    rw [ntC_len] at l3
    have l4 := congrArg List.length h0
    rw [List.length_append] at l4
    have l0 : ([] : List Nat).length = 0 := rfl
    have m0 : Mu H [c.ph, c.pn] := mu_lst h1 (mu_lst h2 mu_nil)
    have g := hc.1
    refine ⟨c.fp, _, _, rfl, g.fn, Inf.fnHO_of, (Inf.clo_fnR (nok_pu T)).mono (by omega), _, g, c.ph, c.pn, v, stV [] tr, ns, rfl, rfl, cut_at (g.out h1 (fun _ z => nomatch z)) h1, cut_at (g.out h2 (fun _ z => nomatch z)) h2, hne, by omega, by omega, fun p H1 k1 et e2 e1 gg => ?_⟩
    have kk := kp_mend k1
    refine q _ _ kk ⟨hc.kp kk m0, ?_, hne, tr1 ++ [_], _, by rw [h0, List.append_assoc], mend_at gg e2, ?_⟩
    · rw [mend_at gg e1, stV_app]
      rfl
    · rw [ntC_app]
      exact (h3.kp kk m0).add (mend_at gg et)
  pop := fun {tr i S H Q} hs ht h q => by
    obtain ⟨hc, h1, hne, tr1, ns, h0, h2, h3⟩ := id h
    have l1 := stV_len (l := tr) (S := []) (S' := []) rfl
    have l3 := h3.len
    rw [ntC_len] at l3
    have l4 := congrArg List.length h0
    rw [List.length_append] at l4
    have m0 : Mu H [c.ph, c.pn] := mu_lst h1 (mu_lst h2 mu_nil)
    obtain ⟨xs, v, hxs⟩ : ∃ xs v, stV [] tr = xs ++ [v] := by
      rw [hs, List.length_append] at l1
      have hne : stV [] tr ≠ [] := fun z => by
        rw [z] at l1
        cases l1
      exact ⟨_, _, (List.dropLast_concat_getLast hne).symm⟩
    have h1' := h1
    rw [hxs] at h1'
    have g := hc.2.1
    refine ⟨c.fo, _, _, rfl, g.fn, Inf.fnHO_of, (Inf.clo_fnR (nok_po T)).mono (by omega), _, g, c.ph, c.pn, v, xs, ns, rfl, rfl, cut_at (g.out h1' (fun _ z => nomatch z)) h1', cut_at (g.out h2 (fun _ z => nomatch z)) h2, hne, by omega, fun p H1 k1 et e2 e1 gg => ?_⟩
    have kk := kp_mend k1
    refine q _ _ kk ⟨hc.kp kk m0, ?_, hne, tr1 ++ [_], _, by rw [h0, List.append_assoc], mend_at gg e2, ?_⟩
    · rw [mend_at gg e1, stV_app, hxs]
      show _ = some (HO.lst (xs ++ [v]).dropLast)
      rw [List.dropLast_concat]
    · rw [ntC_app, ← stV_app, ← h0, hxs]
      have e : ntC (xs ++ [v]) [.pop i] = [[.str "pop", v]] := by
        show [[V.str "pop", (xs ++ [v]).getLastD .non]] = _
        rw [List.getLastD_concat]
      rw [e]
      exact (h3.kp kk m0).add (mend_at gg et)
  ask := fun hv => hv.elim
end
/-- callables beside things of the law's own, which they leave as they are -/
theorem OS.ext {P : Program} {w : World} {K : PySem.W.Frag} {mg : Str → Option Value} {base : Heap} {n : Nat} {uv ex : List Addr} {fp fo fa : V} {PM : Nat → V → Prop} {PQ : V → Prop} {R : List Ca → Hp → Prop} {An : List Ca → V → V → Hp → Prop} {X : Hp → Prop} (A : OS P w K mg base n uv fp fo fa PM PQ R An) (hx : ∀ {cs : List Addr} {H H1 : Hp}, X H → Kp cs H H1 → Mu H cs → (∀ a ∈ ex, a ∉ cs) → X H1) (mx : ∀ {H : Hp}, X H → Mu H ex) (d : ∀ a ∈ ex, a ∉ uv) : OS P w K mg base n (uv ++ ex) fp fo fa PM PQ (fun tr H => R tr H ∧ X H) An where
  rk := fun h k m n => ⟨A.rk h.1 k m (fun a ma => n a (memL ma)), hx h.2 k m fun a ma => n a (memR ma)⟩
  ak := A.ak
  mu := fun h => mu_app (A.mu h.1) (mx h.2)
  push := fun hv ht h q => A.push hv ht h.1 fun u H' k r => q u H' (kp_more k fun _ m => memL m) ⟨r, hx h.2 k (A.mu h.1) d⟩
  pop := fun hs ht h q => A.pop hs ht h.1 fun u H' k r => q u H' (kp_more k fun _ m => memL m) ⟨r, hx h.2 k (A.mu h.1) d⟩
  ask := fun hv ht h q => A.ask hv ht h.1 fun u H' k r a f => q u H' (kp_more k fun _ m => memL m) ⟨r, hx h.2 k (A.mu h.1) d⟩ a f
theorem clo_ext {H H1 : Hp} {f : Addr} {F : NdefX.NF} {fr : List Str} {ws : List V} (h : Clo H f F fr ws) (x : ExtN H H1) : Clo H1 f F fr ws :=
  ⟨x _ _ h.fn (fun ps => NdefX.fnO_ne ps), x _ _ h.code (fun ps => LamX.codeO_ne ps), h.len, h.dom, h.inj, fun i y e => by
    obtain ⟨c, v, a, b, d⟩ := h.at_ i y e
    exact ⟨c, v, a, b, x _ _ d (fun ps z => by unfold Inf.CellO at z; cases z)⟩⟩
theorem TupL.ext {H H1 : Hp} {xs : List V} {ls : List (List V)} (h : TupL H xs ls) (k : ExtN H H1) : TupL H1 xs ls := ⟨h.len, fun q x e a b => by
  obtain ⟨p, h1, h2⟩ := h.at_ q x e a b
  exact ⟨p, h1, k _ _ h2 (fun _ z => nomatch z)⟩⟩
theorem LogC.ext {H H1 : Hp} {xs : List V} {tr : List Ca} (h : LogC H xs tr) (k : ExtN H H1) : LogC H1 xs tr := ⟨h.len, fun q x e a b => by
  obtain ⟨p, h1, h2⟩ := h.at_ q x e a b
  exact ⟨p, h1, k _ _ h2 (fun _ z => nomatch z)⟩⟩
theorem RU.ext {c : CL3} {tr : List Ca} {H H1 : Hp} (h : RU c tr H) (x : ExtN H H1) : RU c tr H1 := by
  obtain ⟨⟨a1, a2, a3⟩, h1, h2, ns, h3, h4⟩ := h
  exact ⟨⟨clo_ext a1 x, clo_ext a2 x, clo_ext a3 x⟩, x _ _ h1 (fun _ z => nomatch z), h2, ns, x _ _ h3 (fun _ z => nomatch z), h4.ext x⟩
/-- things that may be written, and no tables -/
def Sol (H : Hp) (av : List Addr) : Prop := Mu H av ∧ ∀ a ∈ av, ∀ ps, H a ≠ some (.tbl ps)
theorem Sol.nil {H : Hp} : Sol H [] := ⟨mu_nil, fun _ z => nomatch z⟩
theorem Sol.app {H : Hp} {a b : List Addr} (h : Sol H a) (g : Sol H b) : Sol H (a ++ b) := ⟨mu_app h.1 g.1, fun x m => (List.mem_append.mp m).elim (h.2 x) (g.2 x)⟩
theorem Sol.lst {H : Hp} {p : Addr} {xs : List V} {av : List Addr} (h : H p = some (.lst xs)) (g : Sol H av) : Sol H (p :: av) := ⟨mu_lst h g.1, fun x m => (List.mem_cons.mp m).elim (fun e ps z => by rw [e, h] at z; cases z) (g.2 x)⟩
theorem Sol.dK {H : Hp} {p : Addr} {xs : List (Key × V)} {av : List Addr} (h : H p = some (.dK xs)) (g : Sol H av) : Sol H (p :: av) := ⟨mu_cons h (fun _ z => nomatch z) (fun _ z => nomatch z) g.1, fun x m => (List.mem_cons.mp m).elim (fun e ps z => by rw [e, h] at z; cases z) (g.2 x)⟩
theorem Sol.ins {H : Hp} {p C dx : Addr} {fs : List (Str × V)} {av : List Addr} (h : H p = some (.ins C dx fs)) (g : Sol H av) : Sol H (p :: av) := ⟨mu_ins h g.1, fun x m => (List.mem_cons.mp m).elim (fun e ps z => by rw [e, h] at z; cases z) (g.2 x)⟩
theorem Sol.sub {H : Hp} {a b : List Addr} (h : Sol H a) (s : ∀ x ∈ b, x ∈ a) : Sol H b := ⟨fun x m => h.1 x (s x m), fun x m => h.2 x (s x m)⟩
theorem Sol.tab {Ts : List NdefX.NTab} {H : Hp} {av : List Addr} (h : Sol H av) (t : TabsN Ts H) : ∀ p ∈ Ts, p.1 ∉ av := fun p hp m => by
  obtain ⟨ps, e, _⟩ := t p hp
  exact h.2 _ m ps e
/-- the same things stand at av in both heaps -/
def Eqv (av : List Addr) (G H : Hp) : Prop := ∀ a ∈ av, H a = G a
theorem Sol.eqv {G H : Hp} {av : List Addr} (h : Sol G av) (e : Eqv av G H) : Sol H av := ⟨fun a m => by
  obtain ⟨o, h1, h2⟩ := h.1 a m
  exact ⟨o, (e a m).trans h1, h2⟩, fun a m ps z => h.2 a m ps ((e a m).symm.trans z)⟩
theorem Eqv.kp {av cs : List Addr} {G H H1 : Hp} (h : Eqv av G H) (g : Sol G av) (k : Kp cs H H1) (n : ∀ a ∈ av, a ∉ cs) : Eqv av G H1 := fun a m => by
  obtain ⟨o, h1, h2⟩ := g.1 a m
  rw [h1]
  exact k.at_ _ _ ((h a m).trans h1) (n a m)
theorem RB.ext {c : CL3} {tr0 tr : List Ca} {H H1 : Hp} (h : RB c tr0 tr H) (x : ExtN H H1) : RB c tr0 tr H1 := by
  obtain ⟨⟨a1, a2, a3⟩, h1, h2, tr1, ns, h0, h3, h4⟩ := h
  exact ⟨⟨clo_ext a1 x, clo_ext a2 x, clo_ext a3 x⟩, x _ _ h1 (fun _ z => nomatch z), h2, tr1, ns, h0, x _ _ h3 (fun _ z => nomatch z), h4.ext x⟩
/-- the addresses of a collection -/
def foot (t o c l lm en hd od : Addr) (cl : CL3) : List Addr := [t, o, c, l, lm, en, hd, od, cl.ph, cl.pn]
/-- a collection at t, all its addresses are F -/
structure HsT (CT C CC : Addr) (PM : Nat → V → Prop) (H : Hp) (F : List Addr) (cl : CL3) (t o c l lm en : Addr) (tr0 tr : List Ca) (given now : Nat) (M : List Nat) (mb : Nat → V) (lim ends : Nat → Nat) : Prop where
  ft : ∃ dx hd od, F = foot t o c l lm en hd od cl ∧ H t = some (TO CT dx o given now hd lm en) ∧ H hd = some (.dK (dM M mb)) ∧ hd ∉ [t, lm, en, o, c, l, cl.ph, cl.pn] ∧ OutAt C CC H o c l od (.ref cl.fp) (.ref cl.fo) (.ref cl.fa) [cl.ph, cl.pn] (RB cl tr0) tr
  hl : H lm = some (.dK (dM M (iV lim)))
  he : H en = some (.dK (dM M (iV ends)))
  ti : TI now M (stC [] tr) lim ends
  gv : ∀ i ∈ M, i < given ∧ PM i (mb i)
  nt : t ≠ o ∧ t ≠ c
  nle : lm ≠ en
  nu : ∀ a ∈ [cl.ph, cl.pn], a ≠ t ∧ a ≠ lm ∧ a ≠ en
section
variable {P : Program} {w : World} {K : PySem.W.Frag} {mg : Str → Option Value} {base : Heap} {n : Nat}
variable {CT C CC : Addr} {PM : Nat → V → Prop} {H H1 : Hp} {F : List Addr} {cl : CL3} {t o c l lm en : Addr} {tr0 tr : List Ca} {given now : Nat} {M : List Nat} {mb : Nat → V} {lim ends : Nat → Nat}
theorem HsT.sol (h : HsT CT C CC PM H F cl t o c l lm en tr0 tr given now M mb lim ends) : Sol H F := by
  obtain ⟨dx, hd, od, rfl, e1, e2, _, ⟨d1, o1⟩, ⟨d2, o2⟩, ⟨xs, o3, _⟩, o4, ⟨_, r1, _, _, ns, _, r2, _⟩, _⟩ := h.ft
  exact Sol.ins e1 (Sol.ins o1 (Sol.ins o2 (Sol.lst o3 (Sol.dK h.hl (Sol.dK h.he (Sol.dK e2 (Sol.lst o4 (Sol.lst r1 (Sol.lst r2 Sol.nil)))))))))
theorem HsT.tmat (h : HsT CT C CC PM H F cl t o c l lm en tr0 tr given now M mb lim ends) : TmAt CT C CC H t o c l lm en (.ref cl.fp) (.ref cl.fo) (.ref cl.fa) [cl.ph, cl.pn] PM (RB cl tr0) tr given now M mb lim ends := by
  obtain ⟨dx, hd, od, rfl, e1, e2, n1, O⟩ := h.ft
  exact ⟨⟨dx, hd, e1, e2, n1⟩, ⟨od, O⟩, h.hl, h.he, h.ti, h.gv, h.nt, h.nle, h.nu⟩
theorem HsT.ext (h : HsT CT C CC PM H F cl t o c l lm en tr0 tr given now M mb lim ends) (x : ExtN H H1) : HsT CT C CC PM H1 F cl t o c l lm en tr0 tr given now M mb lim ends := by
  obtain ⟨⟨dx, hd, od, rfl, e1, e2, n1, ⟨d1, o1⟩, ⟨d2, o2⟩, ⟨xs, o3, o3'⟩, o4, r, b1, b2, b3⟩, g1, g2, g3, g4, g5, g6, g7⟩ := h
  exact ⟨⟨dx, hd, od, rfl, x _ _ e1 (fun _ z => nomatch z), x _ _ e2 (fun _ z => nomatch z), n1, ⟨d1, x _ _ o1 (fun _ z => nomatch z)⟩, ⟨d2, x _ _ o2 (fun _ z => nomatch z)⟩, ⟨xs, x _ _ o3 (fun _ z => nomatch z), o3'.ext x⟩, x _ _ o4 (fun _ z => nomatch z), r.ext x, b1, b2, b3⟩, x _ _ g1 (fun _ z => nomatch z), x _ _ g2 (fun _ z => nomatch z), g3, g4, g5, g6, g7⟩
theorem RB.kp {c : CL3} {tr0 tr : List Ca} {cs : List Addr} (h : RB c tr0 tr H) (k : Kp cs H H1) (m : Mu H cs) (n : ∀ a ∈ [c.ph, c.pn], a ∉ cs) : RB c tr0 tr H1 := ⟨h.1.kp k m, k.at_ _ _ h.2.1 (n c.ph memA), h.2.2.1, by
    obtain ⟨tr1, ns, h0, h1, h2⟩ := h.2.2.2
    exact ⟨tr1, ns, h0, k.at_ _ _ h1 (n c.pn (memB memA)), h2.kp k m⟩⟩
theorem HsT.kp {cs : List Addr} (h : HsT CT C CC PM H F cl t o c l lm en tr0 tr given now M mb lim ends) (k : Kp cs H H1) (m : Mu H cs) (nF : ∀ a ∈ F, a ∉ cs) : HsT CT C CC PM H1 F cl t o c l lm en tr0 tr given now M mb lim ends := by
  obtain ⟨⟨dx, hd, od, rfl, e1, e2, n1, ⟨d1, o1⟩, ⟨d2, o2⟩, ⟨xs, o3, o3'⟩, o4, r, b1, b2, b3⟩, g1, g2, g3, g4, g5, g6, g7⟩ := h
  have rk := r.kp k m fun a ma => nF a (memB (memB (memB (memB (memB (memB (memB (memB ma))))))))
  exact ⟨⟨dx, hd, od, rfl, k.at_ _ _ e1 (nF t memA), k.at_ _ _ e2 (nF hd (memB (memB (memB (memB (memB (memB memA))))))), n1, ⟨d1, k.at_ _ _ o1 (nF o (memB memA))⟩, ⟨d2, k.at_ _ _ o2 (nF c (memB (memB memA)))⟩, ⟨xs, k.at_ _ _ o3 (nF l (memB (memB (memB memA)))), o3'.kp k m⟩, k.at_ _ _ o4 (nF od (memB (memB (memB (memB (memB (memB (memB memA)))))))), rk, b1, b2, b3⟩, k.at_ _ _ g1 (nF lm (memB (memB (memB (memB memA))))), k.at_ _ _ g2 (nF en (memB (memB (memB (memB (memB memA)))))), g3, g4, g5, g6, g7⟩
theorem osX (T : Txt K mg) {av : List Addr} {G : Hp} (s : Sol G av) (d : ∀ a ∈ av, a ∉ [cl.ph, cl.pn]) : OS P w K mg base 2 ([cl.ph, cl.pn] ++ av) (.ref cl.fp) (.ref cl.fo) (.ref cl.fa) PM (fun _ => False) (fun tr H' => RB cl tr0 tr H' ∧ Eqv av G H') (fun _ _ _ _ => True) :=
  OS.ext (osB (P := P) (w := w) (base := base) T) (fun x k _ n => Eqv.kp x s k n) (fun x => (s.eqv x).1) d
theorem HsT.lift {av : List Addr} (h : HsT CT C CC PM H F cl t o c l lm en tr0 tr given now M mb lim ends) (s : Sol H av) (d : ∀ a ∈ av, a ∉ F) : TmAt CT C CC H t o c l lm en (.ref cl.fp) (.ref cl.fo) (.ref cl.fa) ([cl.ph, cl.pn] ++ av) PM (fun tr H' => RB cl tr0 tr H' ∧ Eqv av H H') tr given now M mb lim ends := by
  obtain ⟨⟨dx, hd, od, rfl, e1, e2, n1, o1, o2, o3, o4, r, b1, b2, b3⟩, g1, g2, g3, g4, g5, g6, g7⟩ := h
  refine ⟨⟨dx, hd, e1, e2, fun m => ?_⟩, ⟨od, o1, o2, o3, o4, ⟨r, fun _ _ => rfl⟩, b1, b2, fun a ma => ?_⟩, g1, g2, g3, g4, g5, g6, fun a ma => ?_⟩
  · have m : hd ∈ [t, lm, en, o, c, l, cl.ph, cl.pn] ++ av := m
    exact (List.mem_append.mp m).elim n1 fun z => d _ z (memB (memB (memB (memB (memB (memB memA))))))
  · rcases List.mem_append.mp ma with ma | ma
    · exact b3 a ma
    · exact ⟨fun z => d a ma (by rw [z]; exact memB memA), fun z => d a ma (by rw [z]; exact memB (memB memA)), fun z => d a ma (by rw [z]; exact memB (memB (memB memA))), fun z => d a ma (by rw [z]; exact memB (memB (memB (memB (memB (memB (memB memA)))))))⟩
  · rcases List.mem_append.mp ma with ma | ma
    · exact g7 a ma
    · exact ⟨fun z => d a ma (by rw [z]; exact memA), fun z => d a ma (by rw [z]; exact memB (memB (memB (memB memA)))), fun z => d a ma (by rw [z]; exact memB (memB (memB (memB (memB memA)))))⟩
theorem tm_back {av : List Addr} {G : Hp} (h : TmAt CT C CC H t o c l lm en (.ref cl.fp) (.ref cl.fo) (.ref cl.fa) ([cl.ph, cl.pn] ++ av) PM (fun tr H' => RB cl tr0 tr H' ∧ Eqv av G H') tr given now M mb lim ends) (d : ∀ a ∈ av, a ∉ [cl.ph, cl.pn]) : ∃ F', HsT CT C CC PM H F' cl t o c l lm en tr0 tr given now M mb lim ends ∧ (∀ a ∈ av, a ∉ F') ∧ Eqv av G H := by
  obtain ⟨⟨dx, hd, e1, e2, n1⟩, ⟨od, o1, o2, o3, o4, ⟨r, x⟩, b1, b2, b3⟩, g1, g2, g3, g4, g5, g6, g7⟩ := h
  have nin : hd ∉ [t, lm, en, o, c, l, cl.ph, cl.pn] ∧ hd ∉ av := ⟨fun m => n1 (show hd ∈ [t, lm, en, o, c, l, cl.ph, cl.pn] ++ av from List.mem_append.mpr (.inl m)), fun m => n1 (show hd ∈ [t, lm, en, o, c, l, cl.ph, cl.pn] ++ av from List.mem_append.mpr (.inr m))⟩
  refine ⟨_, ⟨⟨dx, hd, od, rfl, e1, e2, nin.1, o1, o2, o3, o4, r, b1, b2, fun a ma => b3 a (memL ma)⟩, g1, g2, g3, g4, g5, g6, fun a ma => g7 a (memL ma)⟩, fun a ma => ?_, x⟩
  have b := b3 a (memR ma)
  have g := g7 a (memR ma)
  exact not_cons g.1 (not_cons b.1 (not_cons b.2.1 (not_cons b.2.2.1 (not_cons g.2.1 (not_cons g.2.2 (not_cons (fun z => nin.2 (by rw [← z]; exact ma)) (not_cons b.2.2.2 (d a ma))))))))
theorem kp_av {av : List Addr} {hd od : Addr} {ps us : List Addr} (s : Sol H av) (k : Kp (ps ++ us ++ ([cl.ph, cl.pn] ++ av)) H H1) (x : Eqv av H H1) (su : ∀ a ∈ us, a ∈ foot t o c l lm en hd od cl) : Kp (ps ++ foot t o c l lm en hd od cl) H H1 := ⟨fun b y e nb => by
  by_cases m : b ∈ av
  · rw [x b m]
    exact e
  · refine k.at_ b y e fun z => ?_
    rcases List.mem_append.mp z with z | z
    · rcases List.mem_append.mp z with z | z
      · exact nb (memL z)
      · exact nb (memR (su b z))
    · rcases List.mem_append.mp z with z | z
      · exact nb (memR (memB (memB (memB (memB (memB (memB (memB (memB z)))))))))
      · exact m z⟩
theorem use_tadd (T : Txt K mg) {av : List Addr} {m : V} {u : Nat} {Q : VK} (h : HsT T.C_Timed T.C_Outer T.C_Calls PM H F cl t o c l lm en tr0 tr given now M mb lim ends) (s : Sol H av) (d : ∀ a ∈ av, a ∉ F) (hPM : PM given m) (h1 : now < u) (h2 : u ≤ 1000000000) (htl : tr.length < 400000) (hML : M.length < 400000)
    (q : ∀ H' F', Kp F H H' → HsT T.C_Timed T.C_Outer T.C_Calls PM H' F' cl t o c l lm en tr0 (tr ++ [.push given m]) (given + 1) now (M ++ [given]) (fun x => if x = given then m else mb x) (fun x => if x = given then u else lim x) (fun x => if x = given then now + 1 else ends x) → (∀ a ∈ av, a ∉ F') → Eqv av H H' → Q (.int (given : Int)) H') :
    spTAdd P w K mg base T.C_Timed T.C_Outer T.C_Calls 2 [.ref t, m, .int (u : Int)] H Q E0 := by
  obtain ⟨dx, hd, od, eF, _⟩ := id h.ft
  have dph : ∀ a ∈ av, a ∉ [cl.ph, cl.pn] := fun a ma z => d a ma (by rw [eF]; exact memB (memB (memB (memB (memB (memB (memB (memB z))))))))
  refine ⟨t, o, c, l, lm, en, _, _, _, m, _, PM, _, _, _, tr, given, now, u, M, mb, lim, ends, rfl, osX T s dph, h.lift s d, hPM, h1, h2, htl, hML, fun H' kk h' => ?_⟩
  obtain ⟨F', g1, g2, g3⟩ := tm_back h' dph
  refine q H' F' ?_ g1 g2 g3
  rw [eF]
  exact kp_av (ps := []) (us := [t, lm, en, o, c, l]) s kk g3 (subCons memA (subCons (memB (memB (memB (memB memA)))) (subCons (memB (memB (memB (memB (memB memA))))) (subCons (memB memA) (subCons (memB (memB memA)) (subCons (memB (memB (memB memA))) subNil))))))
theorem use_tick (T : Txt K mg) {av : List Addr} {Q : VK} (h : HsT T.C_Timed T.C_Outer T.C_Calls PM H F cl t o c l lm en tr0 tr given now M mb lim ends) (s : Sol H av) (d : ∀ a ∈ av, a ∉ F) (t0 : TabsN (TT T) H) (htl : tr.length < 390000) (hML : M.length < 50000) (hlm : ∀ i ∈ M, lim i ≤ 1000000000)
    (q : ∀ r H' F' (B G : List Nat), Kp (T.p_next_pieces :: F) H H' → TabsN (TT T) H' → Fr H r → H' r = some (.lst (G.map nV)) → G.Pairwise (· < ·) → (∀ i, i ∈ G ↔ i ∈ M ∧ lim i = now + 1) → (∃ S1, stC [] tr = S1 ++ endS ends (now + 1) (stC [] tr)) → B.Perm ((endS ends (now + 1) (stC [] tr)).filter fun i => decide (now + 1 < lim i)) → (B.Pairwise fun a b => szP (now + 1) (lim b - (now + 1)) < szP (now + 1) (lim a - (now + 1)) ∨ (szP (now + 1) (lim a - (now + 1)) = szP (now + 1) (lim b - (now + 1)) ∧ a ≤ b)) → HsT T.C_Timed T.C_Outer T.C_Calls PM H' F' cl t o c l lm en tr0 (tr ++ (tickW (endS ends (now + 1) (stC [] tr)) B).map (caOf mb)) given (now + 1) (M.filter fun i => decide (lim i ≠ now + 1)) mb lim (enT lim ends (now + 1)) → (∀ a ∈ av, a ∉ F') → Eqv av H H' → Q (.ref r) H') :
    spTick P w K mg base T 2 [.ref t] H Q E0 := by
  obtain ⟨dx, hd, od, eF, _⟩ := id h.ft
  have dph : ∀ a ∈ av, a ∉ [cl.ph, cl.pn] := fun a ma z => d a ma (by rw [eF]; exact memB (memB (memB (memB (memB (memB (memB (memB z))))))))
  have sF := h.sol
  refine ⟨t, o, c, l, lm, en, _, _, _, _, PM, _, _, _, tr, given, now, M, mb, lim, ends, rfl, osX T s dph, h.lift s d, t0, fun p hp z => ?_, htl, hML, hlm, fun r H' B G S1 kk t' fr er hG hG2 hst hB hBs h' => ?_⟩
  · rcases List.mem_append.mp z with z | z
    · exact sF.tab t0 p hp (by rw [eF]; exact memB (memB (memB (memB (memB (memB (memB (memB z))))))))
    · exact s.tab t0 p hp z
  · obtain ⟨F', g1, g2, g3⟩ := tm_back h' dph
    refine q r H' F' B G ?_ t' fr er hG hG2 ⟨_, hst⟩ hB hBs g1 g2 g3
    rw [eF]
    exact kp_av (ps := [T.p_next_pieces]) (us := [t, lm, en, o, c, l]) s kk g3 (subCons memA (subCons (memB (memB (memB (memB memA)))) (subCons (memB (memB (memB (memB (memB memA))))) (subCons (memB memA) (subCons (memB (memB memA)) (subCons (memB (memB (memB memA))) subNil))))))
end
end Ob

set_option Elab.async false
set_option linter.all false
set_option maxRecDepth 100000
set_option maxHeartbeats 1000000
namespace Ob
open PySem PySem.Spec PyProof.Rows L2
open LamX (Tabs TabB TabS ExtN)

set_option hygiene false in
local macro_rules
  | `(tactic| kp_flats) => `(tactic| first
    | assumption
    | exact upd_same
    | (apply atNew; assumption; kp_flats)
    | (apply atNe; (next => kbo_bools); kp_flats)
    | (apply atSame; assumption; kp_flats)
    | (apply atKp; assumption; (next => kaf_pre); kp_flats))
set_option hygiene false in
local macro_rules
  | `(tactic| kaf_pre) => `(tactic| first
    | assumption
    | exact not_nil
    | (apply not_cons; (next => kbo_bools); kaf_pre)
    | (apply not_app; (next => kaf_pre); kaf_pre))
set_option hygiene false in
local macro_rules
  | `(tactic| kbo_bools) => `(tactic| first
    | assumption
    | (apply Ne.symm; assumption)
    | (apply neN; assumption; kp_flats)
    | (apply neN'; assumption; kp_flats))
set_option hygiene false in
local macro_rules
  | `(tactic| o_reads) => `(tactic| first
    | with_reducible rfl
    | assumption
    | rfl
    | kp_flats
    | (show SqL _ _ _ _; first | assumption | (apply sqlOf; kp_flats) | (apply sqlSame; assumption; o_reads))
    | (show SqT _ _ _ _; first | assumption | (apply sqtOf; kp_flats) | (apply sqtAll; assumption) | (apply sqtSame; assumption; o_reads))
    | (show Cls _ _; first | exact T.cl_Calls | exact T.cl_Outer | exact T.cl_Timed)
    | (show NoAttr _ _ _; first | exact T.n_Calls_entries | exact T.n_Calls_running | exact T.n_Outer_calls | exact T.n_Outer_push_call | exact T.n_Outer_pop_call | exact T.n_Outer_ask_call | exact T.n_Outer_order | exact T.n_Outer_broken | exact T.n_Timed_outer | exact T.n_Timed_given | exact T.n_Timed_now | exact T.n_Timed_held | exact T.n_Timed_limits | exact T.n_Timed_ends)
    | (apply Or.inl; o_reads)
    | (apply Or.inr; o_reads)
    | (apply And.intro; (next => o_reads); o_reads)
    | (apply Exists.intro; o_reads)
    | exact Nat.le_of_ble_eq_true rfl
    | exact Nat.succ_ne_zero _
    | (show Fr _ _; kba_ints)
    | (show Same _ _; kd_subs)
    | (show Kp _ _ _; kxs_still)
    | (show (_ : Nat) ≤ _; simp only [List.length_append, List.length_map, List.length_cons, List.length_nil, List.length_take, List.length_drop, List.length_replicate, List.length_range, sizeLine_eq]; omega)
    | (show _ = none; apply Fr.h; kba_ints)
    | (show Bag _ _; first | assumption | (apply bag_putF; assumption; o_reads) | (apply bag_neF; (next => kbo_bools); o_reads) | (apply bag_kpR; assumption; (next => kaf_pre); o_reads))
    | omega
    | decide)
local macro_rules
  | `(tactic| o_readsAll) => `(tactic| repeat (first
    | (refine fun (pNew : Addr) (nNew : _ = none) => ?_; replace nNew := Fr.mk nNew)
    | (refine fun (xNew dNew : Addr) (nNew : _ = none) (mNew : _ = none) (eNew : dNew ≠ xNew) => ?_; replace nNew := Fr.mk nNew; replace mNew := Fr.mk mNew)
    | (apply And.intro; next => o_reads)
    | apply Exists.intro (α := V)
    | apply Exists.intro (α := Addr)
    | apply Exists.intro (α := Int)
    | apply Exists.intro (α := Bool)
    | apply Exists.intro (α := List V)
    | apply Exists.intro (α := List Nat)
    | apply Exists.intro (α := List (Str × V))
    | apply Exists.intro (α := List _)
    | apply Exists.intro (α := Str)
    | apply Exists.intro (α := HO)
    | apply Exists.intro (α := Sp)
    | apply Exists.intro (α := VK)))
set_option hygiene false in
local macro_rules
  | `(tactic| kba_ints) => `(tactic| first
    | assumption
    | (apply frUp; (first | assumption | (apply Ne.symm; assumption)); kba_ints)
    | (apply noneOf; assumption; intro oF eF; apply Exists.intro; kp_flats)
    | (apply frUp; (next => kbo_bools); kba_ints))
set_option hygiene false in
local macro_rules
  | `(tactic| kxs_still) => `(tactic| first
    | assumption
    | exact kp_refl _ _
    | (apply kp_newF; assumption; kxs_still)
    | (apply kp_new; assumption; kxs_still)
    | (apply kp_up; (next => o_fieldsN); kxs_still)
    | (apply kp_new; (next => kba_ints); kxs_still)
    | (apply kp_sameR; assumption; kxs_still)
    | (apply kp_transR; assumption; kxs_still)
    | (apply kp_freshR; assumption; (next => kaf_suf); kxs_still))
set_option hygiene false in
local macro_rules
  | `(tactic| kaf_suf) => `(tactic| first
    | assumption
    | exact subNil
    | (apply subCons; (first | (apply Or.inl; o_fieldsN) | (apply Or.inr; kba_ints)); kaf_suf)
    | (apply subApp; (next => kaf_suf); kaf_suf))
set_option hygiene false in
local macro_rules
  | `(tactic| o_fieldsN) => `(tactic| first
    | assumption
    | exact memA
    | (apply memB; o_fieldsN)
    | (apply memL; o_fieldsN)
    | (apply memR; o_fieldsN))
set_option hygiene false in
local macro_rules
  | `(tactic| kd_subs) => `(tactic| first
    | assumption
    | exact Same.refl _
    | (apply same_putF; assumption; kd_subs)
    | (apply same_putG; assumption; kd_subs)
    | (apply same_putF; (next => kba_ints); kd_subs)
    | (apply same_transR; assumption; kd_subs))

/-! ### a call by keywords alone -/
section
variable {X : Cx} {CX : CXT} {k n : Nat} {f : Addr} {fd : FuncData} {ps ks : List Str} {sp : Sp} {E : XK} {x : Str} {p pos : Pos} {kws : List Keyword} {tk : TA} {g : List Value → List Value → List Value} {gV : List V → List V → List V}
theorem pe_kw0 (F : FnOk X.prog X.w X.K X.mg X.base CX k f fd ps sp) (hr : Room k X.A) (hg : Gl X x) (hm : X.mg x = some (.ref f))
    (hk : PySem.W.keepIn X.K (.ref f) = true) (hb : KBn X.K fd ps 0 ks g gV) (hx : Passes CX X E) (hkw : PK X kws tk)
    (hall : (backToKw pos (keywordEach kws X.env)).all (·.1.isSome) = true := by rfl)
    (hks : (backToKw pos (keywordEach kws X.env)).filterMap (·.1) = ks := by rfl) (hdb : (x == ("__debug__" : Str)) = false := by decide)
    (hpl : ((backTo pos (starEach [] X.env)).any (·.1) || (backToKw pos (keywordEach kws X.env)).any (·.1.isNone)) = false := by rfl) :
    PE X (.Call (.Name x p) [] kws pos) (tCallN 0 ks.length sp gV E tNil tk) :=
  ⟨fun pins s σ H Q I h => wpAny_Call_Name_kw (ld_glob I hg hm (PySem.W.callWith_KW0 (h₀ := X.base) I.ok.mod.kin hk hall
    (thn (hkw.run pos pins s σ H _ I h) fun ws s2 ⟨zs, H2, I2, rz, l1, l2, q2⟩ => ⟨I2.kIn, by rw [hks]; exact run_fnN (us := []) (vs := []) F hr hb hx I2 .nil rz l1 l2 q2⟩) hpl) hdb)⟩
end
theorem kb_one {K : PySem.W.Frag} {x qual : Str} {st : Stmt} {f : Addr} {fd : FuncData} {n : Str} (F : Fun K x qual st f fd)
    (h : ∀ (kV doc pm : Value) (an : Option Addr) (cdv ct v : Value), bindArgs (PySem.W.fnOf x qual (defArgs st) (defBody st) (defScope st) .none kV doc pm an cdv ct) ⟨[], [(n, v)]⟩ = pure [(n, v)]) :
    KBn K fd [n] 0 [n] (fun _ ws => ws) (fun _ zs => zs) := by
  obtain ⟨oc, od, kV, doc, pm, an, cdv, ct, osl, rfl, lk, hcd⟩ := F.ex
  exact ⟨fun s us ws X l1 l2 => match us, ws, l1, l2 with | [], [v], _, _ => .of_eq (h kV doc pm an cdv ct v), fun _ r => r⟩
/-! ### lists of ints, compared -/
theorem dp_ints {K : PySem.W.Frag} {H : Hp} : ∀ l : List Int, DpAll K H (l.map V.int) (l.map PyData.int)
  | [] => .nil
  | x :: l => .cons (.int x) (dp_ints l)
theorem lay_ints : ∀ l : List Int, PyData.canLayAll0 (l.map PyData.int) = true ∧ PyData.depthAll (l.map PyData.int) ≤ 1
  | [] => ⟨rfl, by decide⟩
  | x :: l => by
    obtain ⟨a, b⟩ := lay_ints l
    refine ⟨?_, ?_⟩
    · show PyData.canLayAll0 (PyData.int x :: l.map PyData.int) = true
      simp only [PyData.canLayAll0, PyData.canLay0, a, Bool.and_self]
    · show PyData.depthAll (PyData.int x :: l.map PyData.int) ≤ 1
      simp only [PyData.depthAll, PyData.depth]
      omega
theorem sh_ints (l : List Int) : SeqAt.shaped (.list (l.map PyData.int)) = true := by
  obtain ⟨a, b⟩ := lay_ints l
  unfold SeqAt.shaped
  rw [Bool.and_eq_true]
  refine ⟨?_, decide_eq_true ?_⟩
  · simp only [PyData.canLay0, a]
  · simp only [PyData.depth]
    omega

set_option pp.maxSteps 900
open NdefX (TabsN)
theorem inc_len {M : List Nat} {n : Nat} (h : M.Pairwise (· < ·)) (hl : ∀ x ∈ M, x < n) : M.length ≤ n := by
  have e : M.Perm ((List.range n).filter fun x => decide (x ∈ M)) := (List.perm_ext_iff_of_nodup (h.imp Nat.ne_of_lt) (List.nodup_range.filter _)).mpr fun x => by
    rw [List.mem_filter, List.mem_range]
    exact ⟨fun m => ⟨hl x m, decide_eq_true m⟩, fun m => of_decide_eq_true m.2⟩
  rw [e.length_eq]
  refine Nat.le_trans (List.length_filter_le _ _) ?_
  rw [List.length_range]
  exact Nat.le_refl _
theorem inc_add {A : List Nat} {n : Nat} (h : A.Pairwise (· < ·)) (l : ∀ i ∈ A, i < n) : (A ++ [n]).Pairwise (· < ·) ∧ ∀ i ∈ A ++ [n], i < n + 1 := by
  refine ⟨List.pairwise_append.mpr ⟨h, List.pairwise_singleton _ _, fun a ha b hb => ?_⟩, fun i m => ?_⟩
  · rw [List.mem_singleton.mp hb]
    exact l a ha
  · rcases List.mem_append.mp m with m | m
    · exact Nat.lt_succ_of_lt (l i m)
    · rw [List.mem_singleton.mp m]
      exact Nat.lt_succ_self _
/-! ### data that is shown -/
theorem u16 {k : Nat} {A : Around} (r : Room k A) : A.units + 64 + 16 < cLine := by
  have := r.un
  omega
theorem u65 {k : Nat} {A : Around} (r : Room k A) : A.units + 65 < cLine := by
  have := r.un
  omega
/-- no dict, small numbers, at most w much, at most p deep -/
structure Shw (w p : Nat) (d : PyData) : Prop where
  sh : d.showable = true
  nd : d.hasDict = false
  lv : d.leavesShort 13 = true
  wt : d.weight ≤ w
  dp : d.depth ≤ p
theorem Shw.mono {w p w' p' : Nat} {d : PyData} (h : Shw w p d) (a : w ≤ w') (b : p ≤ p') : Shw w' p' d := ⟨h.sh, h.nd, h.lv, Nat.le_trans h.wt a, Nat.le_trans h.dp b⟩
theorem Shw.int {i : Int} (h : i.natAbs < 10 ^ 12) : Shw 41 0 (.int i) := by
  have h1 : i.natAbs.log2 < 40 := by
    by_cases z : i.natAbs = 0
    · rw [z]
      decide
    · exact (Nat.log2_lt z).mpr (by omega)
  refine ⟨decide_eq_true (by omega), rfl, decide_eq_true (PyData.shown_int_le h), ?_, Nat.le_refl _⟩
  show (if i == 0 then 0 else i.natAbs.log2 + 1) ≤ 41
  split <;> omega
theorem Shw.non : Shw 0 0 .none := ⟨rfl, rfl, by decide +kernel, Nat.le_refl _, Nat.le_refl _⟩
theorem Shw.bl (b : Bool) : Shw 0 0 (.bool b) := ⟨rfl, rfl, by cases b <;> decide +kernel, Nat.le_refl _, Nat.le_refl _⟩
theorem Shw.str {x : Str} (h : (x.cps.toList.all fun c => decide (c < 16 ^ 8)) = true) : Shw x.length 0 (.str x) := ⟨rfl, rfl, h, Nat.le_refl _, Nat.le_refl _⟩
theorem shw_all {w p : Nat} : ∀ {ds : List PyData}, (∀ d ∈ ds, Shw w p d) → PyData.showableAll ds = true ∧ PyData.hasDictAll ds = false ∧ PyData.leavesShortAll 13 ds = true ∧ PyData.weightAll ds ≤ ds.length * (w + 1) ∧ PyData.depthAll ds ≤ p
  | [], _ => ⟨rfl, rfl, rfl, Nat.zero_le _, Nat.zero_le _⟩
  | d :: ds, h => by
    obtain ⟨a1, a2, a3, a4, a5⟩ := h d (List.mem_cons_self ..)
    obtain ⟨b1, b2, b3, b4, b5⟩ := shw_all fun x m => h x (List.mem_cons_of_mem _ m)
    refine ⟨?_, ?_, ?_, ?_, ?_⟩
    · show (d.showable && PyData.showableAll ds) = true
      rw [a1, b1]
      rfl
    · show (d.hasDict || PyData.hasDictAll ds) = false
      rw [a2, b2]
      rfl
    · show (d.leavesShort 13 && PyData.leavesShortAll 13 ds) = true
      rw [a3, b3]
      rfl
    · show d.weight + 1 + PyData.weightAll ds ≤ (ds.length + 1) * (w + 1)
      rw [Nat.add_mul]
      omega
    · exact Nat.max_le.mpr ⟨a5, b5⟩
theorem Shw.tup {w p : Nat} {ds : List PyData} (h : ∀ d ∈ ds, Shw w p d) : Shw (ds.length * (w + 1)) (p + 1) (.tuple ds) := by
  obtain ⟨b1, b2, b3, b4, b5⟩ := shw_all h
  exact ⟨b1, b2, b3, b4, Nat.succ_le_succ b5⟩
theorem Shw.lst {w p : Nat} {ds : List PyData} (h : ∀ d ∈ ds, Shw w p d) : Shw (ds.length * (w + 1)) (p + 1) (.list ds) := by
  obtain ⟨b1, b2, b3, b4, b5⟩ := shw_all h
  exact ⟨b1, b2, b3, b4, Nat.succ_le_succ b5⟩
theorem Shw.fits {w p : Nat} {d : PyData} (h : Shw w p d) (a : w ≤ 2 ^ 20) : d.shown.length ≤ sizeLine := PyData.shown_fits (B := 13) (by decide) (by decide) h.lv (Nat.le_trans h.wt a)
section
variable {K : PySem.W.Frag}
theorem dp_int {H : Hp} {v : V} {d : PyData} (h : Dp K H v d) (s : d.showable = true) : ∀ i, v = .int i → i.natAbs.log2 < 1920 := fun i e => by
  subst e
  cases h
  exact of_decide_eq_true s
end
/-! ### entries and logs, as plain data -/
theorem dpAll_of {K : PySem.W.Frag} {H : Hp} : ∀ {xs : List V} {ds : List PyData}, xs.length = ds.length → (∀ (q : Nat) x d, xs[q]? = some x → ds[q]? = some d → Dp K H x d) → DpAll K H xs ds
  | [], [], _, _ => .nil
  | x :: xs, d :: ds, l, h => .cons (h 0 x d rfl rfl) (dpAll_of (Nat.succ.inj l) fun q y e a b => h (q + 1) y e a b)
  | [], _ :: _, l, _ => nomatch l
  | _ :: _, [], l, _ => nomatch l
theorem eq_sh {d : PyData} (h : SeqAt.shaped d = true) : (!PyData.eqv d d) = false := by
  rw [SeqAt.eqv_refl _ (SeqAt.canLay_of_shaped h)]
  rfl
def entW (e : Str × Nat) : PyData := .tuple [.str e.1, .int (e.2 : Int)]
def caD : Ca → PyData
  | .push i _ => .tuple [.str "push", .int (i : Int)]
  | .pop i => .tuple [.str "pop", .int (i : Int)]
  | .ask _ => .tuple [.str "ask"]
theorem sh_list {α : Type} {f : α → PyData} (h : ∀ x, (f x).canLay0 = true ∧ (f x).depth ≤ 2) : ∀ L : List α, PyData.canLayAll0 (L.map f) = true ∧ PyData.depthAll (L.map f) ≤ 2
  | [] => ⟨rfl, (show PyData.depthAll [] ≤ 2 by decide)⟩
  | i :: L => by
    obtain ⟨a, b⟩ := sh_list h L
    obtain ⟨c, d⟩ := h i
    refine ⟨?_, ?_⟩
    · show PyData.canLayAll0 (f i :: L.map f) = true
      simp only [PyData.canLayAll0, a, c, Bool.and_self]
    · show PyData.depthAll (f i :: L.map f) ≤ 2
      simp only [PyData.depthAll]
      omega
theorem sh_of {α : Type} {f : α → PyData} (h : ∀ x, (f x).canLay0 = true ∧ (f x).depth ≤ 2) (L : List α) : SeqAt.shaped (.list (L.map f)) = true := by
  obtain ⟨a, b⟩ := sh_list h L
  unfold SeqAt.shaped
  rw [Bool.and_eq_true]
  refine ⟨?_, decide_eq_true ?_⟩
  · simp only [PyData.canLay0, a]
  · simp only [PyData.depth]
    omega
theorem ca_lay (e : Ca) : (caD e).canLay0 = true ∧ (caD e).depth ≤ 2 := by
  cases e <;> refine ⟨?_, ?_⟩ <;> simp [caD, PyData.canLay0, PyData.canLayAll0, PyData.depth, PyData.depthAll] <;> decide +kernel
theorem dp_ca {K : PySem.W.Frag} {H : Hp} {p : Addr} {e : Ca} (h : H p = some (.tup e.ent)) : Dp K H (.ref p) (caD e) := by
  cases e with
  | push i v => exact .tup (sqtOf h) (.cons (.str _) (.cons (.int _) .nil))
  | pop i => exact .tup (sqtOf h) (.cons (.str _) (.cons (.int _) .nil))
  | ask v => exact .tup (sqtOf h) (.cons (.str _) .nil)
theorem dp_log {K : PySem.W.Frag} {H : Hp} {r : Addr} {es : List V} {tr : List Ca} (hr : H r = some (.lst es)) (h : LogC H es tr) : Dp K H (.ref r) (.list (tr.map caD)) := by
  refine .lst (sqlOf hr) (dpAll_of (by rw [List.length_map, h.len]) fun q x d a1 a2 => ?_)
  rw [List.getElem?_map] at a2
  obtain ⟨e, he, rfl⟩ := Option.map_eq_some_iff.mp a2
  obtain ⟨p, rfl, e2⟩ := h.at_ q x e a1 he
  exact dp_ca e2
theorem dp_wl {K : PySem.W.Frag} {H : Hp} {r : Addr} {es : List V} {l : List (Str × Nat)} (hr : H r = some (.lst es)) (h : WLog H es l) : Dp K H (.ref r) (.list (l.map entW)) := by
  refine .lst (sqlOf hr) (dpAll_of (by rw [List.length_map, h.len]) fun q x d a1 a2 => ?_)
  rw [List.getElem?_map] at a2
  obtain ⟨e, he, rfl⟩ := Option.map_eq_some_iff.mp a2
  obtain ⟨p, rfl, e2⟩ := h.at_ q x e a1 he
  exact .tup (sqtOf e2) (.cons (.str _) (.cons (.int _) .nil))
theorem tick_word {E B : List Nat} : ∀ e ∈ tickW E B, e.1 = ("pop" : Str) ∨ e.1 = ("push" : Str) := fun e m => by
  rcases List.mem_append.mp m with m | m
  · obtain ⟨i, _, rfl⟩ := List.mem_map.mp m
    exact .inl rfl
  · obtain ⟨i, _, rfl⟩ := List.mem_map.mp m
    exact .inr rfl
theorem w_lay : ∀ {L : List (Str × Nat)}, (∀ e ∈ L, e.1 = ("pop" : Str) ∨ e.1 = ("push" : Str)) → PyData.canLayAll0 (L.map entW) = true ∧ PyData.depthAll (L.map entW) ≤ 2
  | [], _ => ⟨rfl, (show PyData.depthAll [] ≤ 2 by decide)⟩
  | i :: L, h => by
    obtain ⟨a, b⟩ := w_lay (L := L) fun e m => h e (List.mem_cons_of_mem _ m)
    have hs : PyData.strOk i.1 = true := by
      rcases h i List.mem_cons_self with z | z <;> rw [z] <;> decide +kernel
    refine ⟨?_, ?_⟩
    · show PyData.canLayAll0 (entW i :: L.map entW) = true
      simp [PyData.canLayAll0, entW, PyData.canLay0, a, hs]
    · show PyData.depthAll (entW i :: L.map entW) ≤ 2
      simp only [PyData.depthAll, entW, PyData.depth]
      omega
theorem w_sh {E B : List Nat} : SeqAt.shaped (.list ((tickW E B).map entW)) = true := by
  obtain ⟨a, b⟩ := w_lay (tick_word (E := E) (B := B))
  unfold SeqAt.shaped
  rw [Bool.and_eq_true]
  refine ⟨?_, decide_eq_true ?_⟩
  · simp only [PyData.canLay0, a]
  · simp only [PyData.depth]
    omega
theorem e_sh (e : Str × Nat) (h : PyData.strOk e.1 = true) : SeqAt.shaped (entW e) = true := by
  simp [SeqAt.shaped, entW, PyData.canLay0, PyData.canLayAll0, PyData.depth, PyData.depthAll, h]
theorem dp_nats {K : PySem.W.Frag} {H : Hp} {r : Addr} {l : List Nat} (h : H r = some (.lst (l.map nV))) : Dp K H (.ref r) (.list ((l.map fun i : Nat => (i : Int)).map PyData.int)) := by
  have e : l.map nV = (l.map fun i : Nat => (i : Int)).map V.int := by
    rw [List.map_map]
    rfl
  rw [e] at h
  exact .lst (sqlOf h) (dp_ints _)
theorem cad_of {mb : Nat → V} {e : Str × Nat} (h : e.1 = ("pop" : Str) ∨ e.1 = ("push" : Str)) : caD (caOf mb e) = entW e := by
  obtain ⟨wd, i⟩ := e
  rcases h with h | h <;> (have h : wd = _ := h) <;> subst h <;> rfl
theorem cad_all {mb : Nat → V} : ∀ {l : List (Str × Nat)}, (∀ e ∈ l, e.1 = ("pop" : Str) ∨ e.1 = ("push" : Str)) → (l.map (caOf mb)).map caD = l.map entW
  | [], _ => rfl
  | e :: l, h => by
    rw [List.map_cons, List.map_cons, List.map_cons, cad_of (h e List.mem_cons_self), cad_all fun x m => h x (List.mem_cons_of_mem _ m)]
/-- the notes of calls that were planned -/
theorem nt_run {mb : Nat → V} : ∀ {l : List (Str × Nat)} {S : List Nat}, PopsOk S l → ntC (S.map mb) (l.map (caOf mb)) = l.map (fun e => [V.str e.1, mb e.2]) ∧ stV (S.map mb) (l.map (caOf mb)) = (runW S l).map mb
  | [], S, _ => ⟨rfl, rfl⟩
  | (wd, i) :: l, S, h => by
    obtain ⟨h1, h2⟩ := h
    by_cases c : wd = "push"
    · subst c
      have e1 : caOf mb (("push" : Str), i) = .push i (mb i) := if_pos rfl
      have e2 : stepS S (("push" : Str), i) = S ++ [i] := if_pos rfl
      rw [e2] at h2
      obtain ⟨a, b⟩ := nt_run (mb := mb) h2
      rw [List.map_append] at a b
      refine ⟨?_, ?_⟩
      · rw [List.map_cons, e1, List.map_cons, ← a]
        rfl
      · rw [List.map_cons, e1]
        show _ = (runW (stepS S (("push" : Str), i)) l).map mb
        rw [e2, ← b]
        rfl
    · have h1 := (show _ from h1)
      rw [if_neg c] at h1
      obtain ⟨rfl, S', rfl⟩ := h1
      have e1 : caOf mb (("pop" : Str), i) = .pop i := if_neg c
      have e2 : stepS (S' ++ [i]) (("pop" : Str), i) = S' := (if_neg c).trans List.dropLast_concat
      rw [e2] at h2
      obtain ⟨a, b⟩ := nt_run (mb := mb) h2
      have e3 : ((S' ++ [i]).map mb).dropLast = S'.map mb := by
        rw [List.map_append]
        exact List.dropLast_concat
      have e4 : ((S' ++ [i]).map mb).getLastD V.non = mb i := by
        rw [List.map_append]
        exact List.getLastD_concat ..
      refine ⟨?_, ?_⟩
      · rw [List.map_cons, e1, List.map_cons, ← a]
        show [V.str "pop", ((S' ++ [i]).map mb).getLastD V.non] :: ntC ((S' ++ [i]).map mb).dropLast _ = _
        rw [e3, e4]
      · rw [List.map_cons, e1]
        show stV ((S' ++ [i]).map mb).dropLast _ = (runW (stepS (S' ++ [i]) (("pop" : Str), i)) l).map mb
        rw [e3, e2, b]
/-- names of members, by their numbers -/
def NmT (H : Hp) (ns : List V) : Prop := ∀ (i : Nat) (y : V), ns[i]? = some y → ∃ p, y = .ref p ∧ H p = some (.tup [.str "m", .int (i : Int)])
theorem NmT.kp {H H1 : Hp} {ns : List V} {cs : List Addr} (h : NmT H ns) (k : Kp cs H H1) (m : Mu H cs) : NmT H1 ns := fun i y e => by
  obtain ⟨p, h1, h2⟩ := h i y e
  exact ⟨p, h1, kp_tup k m h2⟩
/-- a note, as plain data -/
def ntD (e : Str × Nat) : PyData := .tuple [.str e.1, .tuple [.str "m", .int (e.2 : Int)]]
theorem dp_note {K : PySem.W.Frag} {H : Hp} {r : Addr} {zs : List V} {ns : List V} {mb : Nat → V} {l : List (Str × Nat)} (hr : H r = some (.lst zs)) (h : TupL H zs (l.map fun e => [V.str e.1, mb e.2])) (hn : NmT H ns) (hm : ∀ e ∈ l, ns[e.2]? = some (mb e.2)) : Dp K H (.ref r) (.list (l.map ntD)) := by
  refine .lst (sqlOf hr) (dpAll_of (by rw [List.length_map, h.len, List.length_map]) fun q x d a1 a2 => ?_)
  rw [List.getElem?_map] at a2
  obtain ⟨e, he, rfl⟩ := Option.map_eq_some_iff.mp a2
  obtain ⟨p, rfl, e2⟩ := h.at_ q x [V.str e.1, mb e.2] a1 (by rw [List.getElem?_map, he]; rfl)
  obtain ⟨p2, e3, e4⟩ := hn _ _ (hm e (List.mem_of_getElem? he))
  rw [e3] at e2
  exact .tup (sqtOf e2) (.cons (.str _) (.cons (.tup (sqtOf e4) (.cons (.str _) (.cons (.int _) .nil))) .nil))
theorem nt_lay : ∀ {L : List (Str × Nat)}, (∀ e ∈ L, e.1 = ("pop" : Str) ∨ e.1 = ("push" : Str)) → PyData.canLayAll0 (L.map ntD) = true ∧ PyData.depthAll (L.map ntD) ≤ 3
  | [], _ => ⟨rfl, (show PyData.depthAll [] ≤ 3 by decide)⟩
  | i :: L, h => by
    obtain ⟨a, b⟩ := nt_lay (L := L) fun e m => h e (List.mem_cons_of_mem _ m)
    have hs : PyData.strOk i.1 = true := by
      rcases h i List.mem_cons_self with z | z <;> rw [z] <;> decide +kernel
    have hs2 : PyData.strOk "m" = true := by decide +kernel
    refine ⟨?_, ?_⟩
    · show PyData.canLayAll0 (ntD i :: L.map ntD) = true
      simp [PyData.canLayAll0, ntD, PyData.canLay0, a, hs, hs2]
    · show PyData.depthAll (ntD i :: L.map ntD) ≤ 3
      simp only [PyData.depthAll, ntD, PyData.depth]
      omega
theorem nt_sh {L : List (Str × Nat)} (h : ∀ e ∈ L, e.1 = ("pop" : Str) ∨ e.1 = ("push" : Str)) : SeqAt.shaped (.list (L.map ntD)) = true := by
  obtain ⟨a, b⟩ := nt_lay h
  unfold SeqAt.shaped
  rw [Bool.and_eq_true]
  refine ⟨?_, decide_eq_true ?_⟩
  · simp only [PyData.canLay0, a]
  · simp only [PyData.depth]
    omega
theorem wl_sh {L : List (Str × Nat)} (h : ∀ e ∈ L, e.1 = ("pop" : Str) ∨ e.1 = ("push" : Str)) : SeqAt.shaped (.list (L.map entW)) = true := by
  obtain ⟨a, b⟩ := w_lay h
  unfold SeqAt.shaped
  rw [Bool.and_eq_true]
  refine ⟨?_, decide_eq_true ?_⟩
  · simp only [PyData.canLay0, a]
  · simp only [PyData.depth]
    omega
theorem shw_log {L : List (Str × Nat)} {g : Nat} (h : ∀ e ∈ L, e.1 = ("pop" : Str) ∨ e.1 = ("push" : Str)) (hn : ∀ e ∈ L, e.2 < g) (hg : g ≤ 1000000) (hl : L.length ≤ 10000) : Shw (2 ^ 20) 64 (.list (L.map entW)) := by
  refine (Shw.lst (w := 84) (p := 1) fun d m => ?_).mono ?_ (by decide)
  · obtain ⟨e, he, rfl⟩ := List.mem_map.mp m
    refine (Shw.tup (w := 41) (p := 0) (ds := [.str e.1, .int (e.2 : Int)]) fun d m => ?_).mono (Nat.le_refl _) (Nat.le_refl _)
    have hn := hn e he
    rcases List.mem_cons.mp m with rfl | m
    · rcases h e he with w | w
      · rw [w]
        exact (Shw.str (x := "pop") (by decide +kernel)).mono (by decide +kernel) (by decide)
      · rw [w]
        exact (Shw.str (x := "push") (by decide +kernel)).mono (by decide +kernel) (by decide)
    · rw [List.mem_singleton.mp m]
      exact Shw.int (by have : (10 : Nat) ^ 12 = 1000000000000 := by decide
                        omega)
  · rw [List.length_map]
    have := Nat.mul_le_mul_right (84 + 1) hl
    have : (2 : Nat) ^ 20 = 1048576 := by decide
    omega
theorem shw_nats {L : List Nat} (hn : ∀ i ∈ L, i < 1000000) (hl : L.length ≤ 10000) : Shw (2 ^ 20) 64 (.list ((L.map fun i : Nat => (i : Int)).map PyData.int)) := by
  refine (Shw.lst (w := 41) (p := 0) fun d m => ?_).mono ?_ (by decide)
  · obtain ⟨i, hi, rfl⟩ := List.mem_map.mp m
    obtain ⟨j, hj, rfl⟩ := List.mem_map.mp hi
    have := hn j hj
    exact Shw.int (by have : (10 : Nat) ^ 12 = 1000000000000 := by decide
                      omega)
  · rw [List.length_map, List.length_map]
    have := Nat.mul_le_mul_right (41 + 1) hl
    have : (2 : Nat) ^ 20 = 1048576 := by decide
    omega
end Ob

set_option Elab.async false
set_option linter.all false
set_option maxRecDepth 100000
set_option maxHeartbeats 1000000
namespace Ob
open PySem PySem.Spec PyProof.Rows L2
open LamX (Tabs TabB TabS ExtN)

set_option hygiene false in
local macro_rules
  | `(tactic| kp_flats) => `(tactic| first
    | assumption
    | exact upd_same
    | (apply atNew; assumption; kp_flats)
    | (apply atNe; (next => kbo_bools); kp_flats)
    | (apply atSame; assumption; kp_flats)
    | (apply atKp; assumption; (next => kaf_pre); kp_flats))
set_option hygiene false in
local macro_rules
  | `(tactic| kaf_pre) => `(tactic| first
    | assumption
    | exact not_nil
    | (apply not_cons; (next => kbo_bools); kaf_pre)
    | (apply not_app; (next => kaf_pre); kaf_pre))
set_option hygiene false in
local macro_rules
  | `(tactic| kbo_bools) => `(tactic| first
    | assumption
    | (apply Ne.symm; assumption)
    | (apply neN; assumption; kp_flats)
    | (apply neN'; assumption; kp_flats))
set_option hygiene false in
local macro_rules
  | `(tactic| o_reads) => `(tactic| first
    | with_reducible rfl
    | assumption
    | rfl
    | kp_flats
    | (show SqL _ _ _ _; first | assumption | (apply sqlOf; kp_flats) | (apply sqlSame; assumption; o_reads))
    | (show SqT _ _ _ _; first | assumption | (apply sqtOf; kp_flats) | (apply sqtAll; assumption) | (apply sqtSame; assumption; o_reads))
    | (show Cls _ _; first | exact T.cl_Calls | exact T.cl_Outer | exact T.cl_Timed)
    | (show NoAttr _ _ _; first | exact T.n_Calls_entries | exact T.n_Calls_running | exact T.n_Outer_calls | exact T.n_Outer_push_call | exact T.n_Outer_pop_call | exact T.n_Outer_ask_call | exact T.n_Outer_order | exact T.n_Outer_broken | exact T.n_Timed_outer | exact T.n_Timed_given | exact T.n_Timed_now | exact T.n_Timed_held | exact T.n_Timed_limits | exact T.n_Timed_ends)
    | (apply Or.inl; o_reads)
    | (apply Or.inr; o_reads)
    | (apply And.intro; (next => o_reads); o_reads)
    | (apply Exists.intro; o_reads)
    | exact Nat.le_of_ble_eq_true rfl
    | exact Nat.succ_ne_zero _
    | (show Fr _ _; kba_ints)
    | (show Same _ _; kd_subs)
    | (show Kp _ _ _; kxs_still)
    | (show (_ : Nat) ≤ _; simp only [List.length_append, List.length_map, List.length_cons, List.length_nil, List.length_take, List.length_drop, List.length_replicate, List.length_range, sizeLine_eq]; omega)
    | (show _ = none; apply Fr.h; kba_ints)
    | (show Bag _ _; first | assumption | (apply bag_putF; assumption; o_reads) | (apply bag_neF; (next => kbo_bools); o_reads) | (apply bag_kpR; assumption; (next => kaf_pre); o_reads))
    | omega
    | decide)
local macro_rules
  | `(tactic| o_readsAll) => `(tactic| repeat (first
    | (refine fun (pNew : Addr) (nNew : _ = none) => ?_; replace nNew := Fr.mk nNew)
    | (refine fun (xNew dNew : Addr) (nNew : _ = none) (mNew : _ = none) (eNew : dNew ≠ xNew) => ?_; replace nNew := Fr.mk nNew; replace mNew := Fr.mk mNew)
    | (apply And.intro; next => o_reads)
    | apply Exists.intro (α := V)
    | apply Exists.intro (α := Addr)
    | apply Exists.intro (α := Int)
    | apply Exists.intro (α := Bool)
    | apply Exists.intro (α := List V)
    | apply Exists.intro (α := List Nat)
    | apply Exists.intro (α := List (Str × V))
    | apply Exists.intro (α := List _)
    | apply Exists.intro (α := Str)
    | apply Exists.intro (α := HO)
    | apply Exists.intro (α := Sp)
    | apply Exists.intro (α := VK)))
set_option hygiene false in
local macro_rules
  | `(tactic| kba_ints) => `(tactic| first
    | assumption
    | (apply frUp; (first | assumption | (apply Ne.symm; assumption)); kba_ints)
    | (apply noneOf; assumption; intro oF eF; apply Exists.intro; kp_flats)
    | (apply frUp; (next => kbo_bools); kba_ints))
set_option hygiene false in
local macro_rules
  | `(tactic| kxs_still) => `(tactic| first
    | assumption
    | exact kp_refl _ _
    | (apply kp_newF; assumption; kxs_still)
    | (apply kp_new; assumption; kxs_still)
    | (apply kp_up; (next => o_fieldsN); kxs_still)
    | (apply kp_new; (next => kba_ints); kxs_still)
    | (apply kp_sameR; assumption; kxs_still)
    | (apply kp_transR; assumption; kxs_still)
    | (apply kp_freshR; assumption; (next => kaf_suf); kxs_still))
set_option hygiene false in
local macro_rules
  | `(tactic| kaf_suf) => `(tactic| first
    | assumption
    | exact subNil
    | (apply subCons; (first | (apply Or.inl; o_fieldsN) | (apply Or.inr; kba_ints)); kaf_suf)
    | (apply subApp; (next => kaf_suf); kaf_suf))
set_option hygiene false in
local macro_rules
  | `(tactic| o_fieldsN) => `(tactic| first
    | assumption
    | exact memA
    | (apply memB; o_fieldsN)
    | (apply memL; o_fieldsN)
    | (apply memR; o_fieldsN))
set_option hygiene false in
local macro_rules
  | `(tactic| kd_subs) => `(tactic| first
    | assumption
    | exact Same.refl _
    | (apply same_putF; assumption; kd_subs)
    | (apply same_putG; assumption; kd_subs)
    | (apply same_putF; (next => kba_ints); kd_subs)
    | (apply same_transR; assumption; kd_subs))

set_option pp.maxSteps 900
open NdefX (TabsN)
theorem szP_top {a r : Nat} (hr : r ≠ 0) : ¬ (a % (2 * szP a r) = 0 ∧ 2 * szP a r ≤ r) := by
  rintro ⟨h1, h2⟩
  have hi : r < 2 ^ (r.log2 + 1) := Nat.lt_log2_self
  have e2 : 2 ^ (r.log2 + 1) = 2 * 2 ^ r.log2 := by rw [Nat.pow_succ, Nat.mul_comm]
  unfold szP at h1 h2
  by_cases z : a = 0
  · rw [if_pos z] at h2
    omega
  · rw [if_neg z] at h1 h2
    obtain ⟨e, e1, e3, e4⟩ := low_spec a z
    by_cases c : 2 ^ r.log2 ≤ low a
    · rw [Nat.min_eq_left c] at h2
      omega
    · rw [Nat.min_eq_right (by omega), e1] at h1
      refine e4 ?_
      rw [Nat.pow_succ, Nat.mul_comm]
      exact h1
theorem sz_by {a r i : Nat} (hr : r ≠ 0) (h1 : a % 2 ^ i = 0) (h2 : 2 ^ i ≤ r) (h3 : ¬ (a % (2 * 2 ^ i) = 0 ∧ 2 * 2 ^ i ≤ r)) : 2 ^ i = szP a r := by
  obtain ⟨j, e, f1, f2⟩ := szP_fit (a := a) hr
  have top := szP_top (a := a) hr
  rw [e] at top ⊢
  have dbl : ∀ q : Nat, 2 * 2 ^ q = 2 ^ (q + 1) := fun q => by rw [Nat.pow_succ, Nat.mul_comm]
  rw [dbl] at h3 top
  have l1 : i ≤ j := Nat.le_of_not_lt fun z => top ⟨mod_le h1 z, Nat.le_trans (Nat.pow_le_pow_right (by decide) z) h2⟩
  have l2 : j ≤ i := Nat.le_of_not_lt fun z => h3 ⟨mod_le f1 z, Nat.le_trans (Nat.pow_le_pow_right (by decide) z) f2⟩
  rw [Nat.le_antisymm l1 l2]
theorem pcF_more : ∀ (f r a : Nat), r ≤ f → pcF f a r = pcF r a r
  | 0, r, a, h => by
    obtain rfl : r = 0 := by omega
    rfl
  | f + 1, 0, a, _ => by rw [pcF_zero, pcF_zero]
  | f + 1, r + 1, a, h => by
    have hp := szP_pos (a := a) (r := r + 1) (by omega)
    rw [pcF_pos (by omega), pcF_pos (by omega), pcF_more f _ _ (by omega), pcF_more r _ _ (by omega)]
/-- the pieces of a range, and the first of them -/
abbrev pcR (a r : Nat) : List (Nat × Nat) := pcF r a r
theorem pcR_zero {a : Nat} : pcR a 0 = [] := pcF_zero _ _
theorem pcR_pos {a r : Nat} (h : r ≠ 0) : pcR a r = (a, szP a r) :: pcR (a + szP a r) (r - szP a r) := by
  match r, h with
  | r + 1, h =>
    have hp := szP_pos (a := a) (r := r + 1) (by omega)
    show pcF (r + 1) a (r + 1) = _
    rw [pcF_pos (by omega), pcF_more r _ _ (by omega)]
theorem pcR_len : ∀ (r a : Nat), (pcR a r).length ≤ r := fun r a => pcF_len r a r
section
variable {P : Program} {w : World} {K : PySem.W.Frag} {mg : Str → Option Value} {base : Heap} {n : Nat}
def spLPc : Sp := fun vs H Q _ => ∃ (a b : Nat), vs = [.int (a : Int), .int (b : Int)] ∧ a ≤ b ∧ b ≤ 1000000 ∧ ∀ r H', Same H H' → Fr H r → PL H' r (pcR a (b - a)) → Q (.ref r) H'
theorem ok_lpc (T : Txt K mg) : FnOk P w K mg base CX0 1 T.f_l_pieces T.d_l_pieces ["_law_low", "_law_high"] spLPc := by
  refine T.F_l_pieces.ok sc_l_pieces (fun vs H Q E h => ?_) (fun cdv A outer s H vs Q E hr h => ?_)
  · obtain ⟨a, b, rfl, _⟩ := h
    rfl
  · obtain ⟨a0, b, rfl, hab, hb, q⟩ := h
    refine ⟨_, (pss_cons (ps_set (i := 2) sc_l_pieces.nd rfl (.inl rfl) (pe_lst pa_nil))
      (pss_cons (ps_while PassesOwn.never (pt_cmpR op_lt (pv 0) (pv 1) (nomark _)) (pss_cons (ps_set (i := 3) sc_l_pieces.nd rfl (.inl rfl) pe_int)
        (pss_cons (ps_while PassesOwn.never (PW.pt (pw_and (pt_cmpR op_eq (pe_op op_modN (pv 0) (pe_op op_mul pe_int (pv 3))) pe_int (nomark _)) (pw_and1 (pt_cmpR op_le (pe_op op_add (pv 0) (pe_op op_mul pe_int (pv 3))) (pv 1) (nomark _))))) (pss_one (ps_set (i := 3) sc_l_pieces.nd rfl (.inl rfl) (pe_op op_mul pe_int (pv 3)))))
        (pss_cons (ps_expr (pe_bm PySem.F.plainAttrs_list PySem.F.slot_list_append PySem.F.type_list_append mt_append (pv 2) (pa_cons (pe_tup (pa_cons (pv 0) (pa_cons (pv 3) pa_nil))) pa_nil)))
        (pss_one (ps_set (i := 0) sc_l_pieces.nd rfl (.inl rfl) (pe_op op_add (pv 0) (pv 3))))))))
      (pss_one (ps_ret (pv 2))))), ?_⟩
    refine ⟨Nat.zero_le _, fun fo nfo => pGN ?_⟩
    simp only [List.set_cons_succ, List.set_cons_zero]
    have fF := Fr.mk nfo
    have s0 := same_newF (o := .lst []) fF
    have z0 : L2.start n_l_pieces [V.int (a0 : Int), V.int (b : Int)] = [some (.int (a0 : Int)), some (.int (b : Int)), none, none] := rfl
    rw [z0]
    refine ⟨fun m σ H' => ∃ (a : Nat) (l : List (Nat × Nat)) (y3 : Option V), m = b - a ∧ σ = [some (.int (a : Int)), some (.int (b : Int)), some (.ref fo), y3] ∧ a ≤ b ∧ Same H H' ∧ PL H' fo l ∧ l ++ pcR a (b - a) = pcR a0 (b - a0), ⟨_, a0, [], _, rfl, rfl, hab, s0, PL.nil, rfl⟩, ?_⟩
    rintro m σ H1 ⟨a, l, y3, rfl, rfl, hle, s1, pl1, hl⟩
    refine pTest (pOp ⟨_, rfl, _, rfl, _, _, rfl, rfl, _, rfl, ?_⟩)
    by_cases hc : a < b
    · refine ifT (decide_eq_true (Int.ofNat_lt.mpr hc)) ⟨fun σ' H' => ∃ (a2 : Nat) (l2 : List (Nat × Nat)) (y3 : Option V), b - a2 < b - a ∧ σ' = [some (.int (a2 : Int)), some (.int (b : Int)), some (.ref fo), y3] ∧ a2 ≤ b ∧ Same H H' ∧ PL H' fo l2 ∧ l2 ++ pcR a2 (b - a2) = pcR a0 (b - a0), ?_, ?_⟩
      · rintro σ' H' ⟨a, l, y3, g1, g2, g3, g4, g5, g6⟩
        exact ⟨_, g1, a, l, y3, rfl, g2, g3, g4, g5, g6⟩
      · refine pSeq (pAsg (pGN ?_))
        simp only [List.set_cons_succ, List.set_cons_zero]
        refine pSeq ⟨fun m σ H' => H1 = H' ∧ ∃ i : Nat, m = b - a - 2 ^ i ∧ σ = [some (.int (a : Int)), some (.int (b : Int)), some (.ref fo), some (.int ((2 ^ i : Nat) : Int))] ∧ a % 2 ^ i = 0 ∧ 2 ^ i ≤ b - a, ⟨_, rfl, 0, rfl, rfl, Nat.mod_one _, by show 1 ≤ b - a; omega⟩, ?_⟩
        rintro m σ H' ⟨rfl, i, rfl, rfl, hi, hi2⟩
        have hpk := Nat.two_pow_pos i
        have efm : ((a : Int)).fmod (2 * ((2 ^ i : Nat) : Int)) = ((a % (2 * 2 ^ i) : Nat) : Int) := by
          rw [Int.fmod_eq_emod_of_nonneg _ (by omega)]
          exact (Int.natCast_emod a (2 * 2 ^ i)).symm
        have cm : ∀ Qf Ht, (∀ z : Bool, (z = true → a % (2 * 2 ^ i) = 0 ∧ a + 2 * 2 ^ i ≤ b) → (z = false → ¬ (a % (2 * 2 ^ i) = 0 ∧ a + 2 * 2 ^ i ≤ b)) → Qf z Ht) → tAnd (tTest (tOp rEq (tOp (rI (fun x j => j ≠ 0) fun i j => V.int (i.fmod j)) (tVar 0) (tOp (rI CMul fun i j => V.int (i * j)) (tC (V.int 2)) (tVar 3))) (tC (V.int 0)))) (tTest (tOp (rI0 fun i j => V.bl (decide (i ≤ j))) (tOp (rI0 fun i j => V.int (i + j)) (tVar 0) (tOp (rI CMul fun i j => V.int (i * j)) (tC (V.int 2)) (tVar 3))) (tVar 1))) [some (.int (a : Int)), some (.int (b : Int)), some (.ref fo), some (.int ((2 ^ i : Nat) : Int))] Ht Qf := fun Qf Ht hQ => by
          refine pAnd (pTest (pOp (pOp ⟨_, rfl, _, rfl, _, _, rfl, rfl, .inl ⟨by decide, by decide⟩, _, _, rfl, rfl, (show (2 * ((2 ^ i : Nat) : Int)) ≠ 0 by omega), rfl, _, rfl, ?_⟩)))
          by_cases hz : a % (2 * 2 ^ i) = 0
          · refine ifT (decide_eq_true (by show V.int (Int.fmod _ _) = _; rw [efm, hz]; rfl)) (pTest (pOp (pOp ⟨_, rfl, _, rfl, _, _, rfl, rfl, .inl ⟨by decide, by decide⟩, _, _, rfl, rfl, _, rfl, _, _, rfl, rfl, _, rfl, ?_⟩)))
            refine hQ _ (fun z => ⟨hz, ?_⟩) fun z w => ?_
            · have := of_decide_eq_true z
              omega
            · have := of_decide_eq_false z
              omega
          · exact ifF (decide_eq_false fun z => hz (by have z2 : Int.fmod _ _ = (0 : Int) := V.int.inj z; rw [efm] at z2; omega)) (hQ _ (fun z => nomatch z) fun _ w => hz w.1)
        refine cm _ _ fun z zt zf => ?_
        cases z with
        | true =>
          obtain ⟨hz, hz2⟩ := zt rfl
          refine ifT rfl ⟨fun σ' H' => H1 = H' ∧ σ' = [some (.int (a : Int)), some (.int (b : Int)), some (.ref fo), some (.int ((2 ^ (i + 1) : Nat) : Int))], ?_, ?_⟩
          · rintro σ' H' ⟨rfl, rfl⟩
            have e2 : 2 * 2 ^ i = 2 ^ (i + 1) := by rw [Nat.pow_succ, Nat.mul_comm]
            rw [e2] at hz hz2
            exact ⟨_, by rw [← e2]; omega, rfl, i + 1, rfl, rfl, hz, by omega⟩
          · refine pAsg ⟨_, rfl, _, _, rfl, rfl, .inl ⟨by decide, by decide⟩, pGN ?_⟩
            simp only [List.set_cons_succ, List.set_cons_zero]
            exact ⟨True.intro, by rw [Nat.pow_succ, Nat.mul_comm]; rfl⟩
        | false =>
          have hz := zf rfl
          have hsz := sz_by (a := a) (r := b - a) (i := i) (by omega) hi hi2 fun z => hz ⟨z.1, by omega⟩
          refine ifF rfl ?_
          rw [hsz]
          rw [hsz] at hi2 hpk
          obtain ⟨ts, f1, f2, f3⟩ := pl1
          have htl : ts.length ≤ b := by
            have := congrArg List.length hl
            rw [List.length_append] at this
            have := pcR_len (b - a0) a0
            omega
          refine pSeq ⟨_, rfl, .inl ⟨rfl, _, sqlOf f1⟩, _, rfl, _, rfl, le2, fun t nt => ?_⟩
          have ft := Fr.mk nt
          refine ⟨fo, _, _, rfl, rfl, atNew ft f1, by rw [List.length_map, sizeLine_eq]; omega, ?_⟩
          dsimp only []
          refine pAsg ⟨_, rfl, _, rfl, _, _, rfl, rfl, pGN ?_⟩
          simp only [List.set_cons_succ, List.set_cons_zero]
          have hap := PL.add (x := (a, szP a (b - a))) f1 f2 f3 nt
          refine ⟨a + szP a (b - a), _, _, by omega, rfl, by omega, same_putG fF (s1.trans (same_newF ft)), hap, ?_⟩
          rw [List.append_assoc]
          refine Eq.trans (congrArg (l ++ ·) ?_) hl
          rw [pcR_pos (a := a) (r := b - a) (by omega), show b - (a + szP a (b - a)) = b - a - szP a (b - a) by omega]
          rfl
    · refine ifF (decide_eq_false fun z => hc (Int.ofNat_lt.mp z)) ?_
      have : b - a = 0 := by omega
      rw [this, pcR_zero, List.append_nil] at hl
      subst hl
      exact ⟨_, rfl, q fo H1 s1 fF pl1⟩
end
end Ob

set_option Elab.async false
set_option linter.all false
set_option maxRecDepth 100000
set_option maxHeartbeats 1000000
namespace Ob
open PySem PySem.Spec PyProof.Rows L2
open LamX (Tabs TabB TabS ExtN)

set_option hygiene false in
local macro_rules
  | `(tactic| kp_flats) => `(tactic| first
    | assumption
    | exact upd_same
    | (apply atNew; assumption; kp_flats)
    | (apply atNe; (next => kbo_bools); kp_flats)
    | (apply atSame; assumption; kp_flats)
    | (apply atKp; assumption; (next => kaf_pre); kp_flats))
set_option hygiene false in
local macro_rules
  | `(tactic| kaf_pre) => `(tactic| first
    | assumption
    | exact not_nil
    | (apply not_cons; (next => kbo_bools); kaf_pre)
    | (apply not_app; (next => kaf_pre); kaf_pre))
set_option hygiene false in
local macro_rules
  | `(tactic| kbo_bools) => `(tactic| first
    | assumption
    | (apply Ne.symm; assumption)
    | (apply neN; assumption; kp_flats)
    | (apply neN'; assumption; kp_flats))
set_option hygiene false in
local macro_rules
  | `(tactic| o_reads) => `(tactic| first
    | with_reducible rfl
    | assumption
    | rfl
    | kp_flats
    | (show SqL _ _ _ _; first | assumption | (apply sqlOf; kp_flats) | (apply sqlSame; assumption; o_reads))
    | (show SqT _ _ _ _; first | assumption | (apply sqtOf; kp_flats) | (apply sqtAll; assumption) | (apply sqtSame; assumption; o_reads))
    | (show Cls _ _; first | exact T.cl_Calls | exact T.cl_Outer | exact T.cl_Timed)
    | (show NoAttr _ _ _; first | exact T.n_Calls_entries | exact T.n_Calls_running | exact T.n_Outer_calls | exact T.n_Outer_push_call | exact T.n_Outer_pop_call | exact T.n_Outer_ask_call | exact T.n_Outer_order | exact T.n_Outer_broken | exact T.n_Timed_outer | exact T.n_Timed_given | exact T.n_Timed_now | exact T.n_Timed_held | exact T.n_Timed_limits | exact T.n_Timed_ends)
    | (apply Or.inl; o_reads)
    | (apply Or.inr; o_reads)
    | (apply And.intro; (next => o_reads); o_reads)
    | (apply Exists.intro; o_reads)
    | exact Nat.le_of_ble_eq_true rfl
    | exact Nat.succ_ne_zero _
    | (show Fr _ _; kba_ints)
    | (show Same _ _; kd_subs)
    | (show Kp _ _ _; kxs_still)
    | (show (_ : Nat) ≤ _; simp only [List.length_append, List.length_map, List.length_cons, List.length_nil, List.length_take, List.length_drop, List.length_replicate, List.length_range, sizeLine_eq]; omega)
    | (show _ = none; apply Fr.h; kba_ints)
    | (show Bag _ _; first | assumption | (apply bag_putF; assumption; o_reads) | (apply bag_neF; (next => kbo_bools); o_reads) | (apply bag_kpR; assumption; (next => kaf_pre); o_reads))
    | omega
    | decide)
local macro_rules
  | `(tactic| o_readsAll) => `(tactic| repeat (first
    | (refine fun (pNew : Addr) (nNew : _ = none) => ?_; replace nNew := Fr.mk nNew)
    | (refine fun (xNew dNew : Addr) (nNew : _ = none) (mNew : _ = none) (eNew : dNew ≠ xNew) => ?_; replace nNew := Fr.mk nNew; replace mNew := Fr.mk mNew)
    | (apply And.intro; next => o_reads)
    | apply Exists.intro (α := V)
    | apply Exists.intro (α := Addr)
    | apply Exists.intro (α := Int)
    | apply Exists.intro (α := Bool)
    | apply Exists.intro (α := List V)
    | apply Exists.intro (α := List Nat)
    | apply Exists.intro (α := List (Str × V))
    | apply Exists.intro (α := List _)
    | apply Exists.intro (α := Str)
    | apply Exists.intro (α := HO)
    | apply Exists.intro (α := Sp)
    | apply Exists.intro (α := VK)))
set_option hygiene false in
local macro_rules
  | `(tactic| kba_ints) => `(tactic| first
    | assumption
    | (apply frUp; (first | assumption | (apply Ne.symm; assumption)); kba_ints)
    | (apply noneOf; assumption; intro oF eF; apply Exists.intro; kp_flats)
    | (apply frUp; (next => kbo_bools); kba_ints))
set_option hygiene false in
local macro_rules
  | `(tactic| kxs_still) => `(tactic| first
    | assumption
    | exact kp_refl _ _
    | (apply kp_newF; assumption; kxs_still)
    | (apply kp_new; assumption; kxs_still)
    | (apply kp_up; (next => o_fieldsN); kxs_still)
    | (apply kp_new; (next => kba_ints); kxs_still)
    | (apply kp_sameR; assumption; kxs_still)
    | (apply kp_transR; assumption; kxs_still)
    | (apply kp_freshR; assumption; (next => kaf_suf); kxs_still))
set_option hygiene false in
local macro_rules
  | `(tactic| kaf_suf) => `(tactic| first
    | assumption
    | exact subNil
    | (apply subCons; (first | (apply Or.inl; o_fieldsN) | (apply Or.inr; kba_ints)); kaf_suf)
    | (apply subApp; (next => kaf_suf); kaf_suf))
set_option hygiene false in
local macro_rules
  | `(tactic| o_fieldsN) => `(tactic| first
    | assumption
    | exact memA
    | (apply memB; o_fieldsN)
    | (apply memL; o_fieldsN)
    | (apply memR; o_fieldsN))
set_option hygiene false in
local macro_rules
  | `(tactic| kd_subs) => `(tactic| first
    | assumption
    | exact Same.refl _
    | (apply same_putF; assumption; kd_subs)
    | (apply same_putG; assumption; kd_subs)
    | (apply same_putF; (next => kba_ints); kd_subs)
    | (apply same_transR; assumption; kd_subs))

/-! ### == and != of lists that hold the very same objects -/
def NoTok (v : V) : Prop := v = .non ∨ ∃ a, v = .ref a
theorem noTok_val {v : V} {u u' : Value} (h : NoTok v) (r : RelV v u) (r' : RelV v u') : u = u' := by
  rcases h with rfl | ⟨a, rfl⟩
  · exact (show u = Value.none from r).trans (show u' = Value.none from r').symm
  · exact (show u = Value.ref a from r).trans (show u' = Value.ref a from r').symm
theorem noTok_all : ∀ {xs : List V} {us us' : List Value}, (∀ x ∈ xs, NoTok x) → Vals xs us → Vals xs us' → us = us'
  | [], _, _, _, r, r' => by
    cases r
    cases r'
    rfl
  | x :: xs, _, _, h, r, r' => by
    cases r with
    | cons r1 r2 =>
      cases r' with
      | cons q1 q2 => rw [noTok_val (h x (List.mem_cons_self ..)) r1 q1, noTok_all (fun y hy => h y (List.mem_cons_of_mem _ hy)) r2 q2]
/-- both lists hold the objects xs -/
def rSame (K : PySem.W.Frag) (b : Bool) : R2 := fun x y H Q => ∃ (p q : Addr) (xs : List V), x = .ref p ∧ y = .ref q ∧ SqL K H p xs ∧ SqL K H q xs ∧ (∀ v ∈ xs, NoTok v) ∧ Q (.bl b) H
theorem all_yes (n : Nat) : (List.range n).all (fun _ => true) = true := List.all_eq_true.mpr fun _ _ => rfl
section
variable {X : Cx} {pins : List (Addr × Obj)} {σ : L2.St} {H : Hp} {s : Shared} {p q : Addr} {xs : List V}
theorem same_lists (I : Inv X pins σ H s) (hp : SqL X.K H p xs) (hq : SqL X.K H q xs) (hn : ∀ v ∈ xs, NoTok v) : ∃ its : Array Value, s.heap.IsList p its ∧ s.heap.IsList q its := by
  obtain ⟨its, rv, ⟨o, n, h1, h2, _, h3⟩, _⟩ := I.list hp
  obtain ⟨its', rv', ⟨o', n', h1', h2', _, h3'⟩, _⟩ := I.list hq
  obtain rfl := noTok_all hn rv rv'
  exact ⟨its.toArray, ⟨o, h1, h2, n, h3⟩, ⟨o', h1', h2', n', h3'⟩⟩
end
theorem op_eqS {X : Cx} (hu : X.A.units + 64 < cLine) : OpR X (compareOp .Eq) (rSame X.K true) := by
  intro pins s σ H x y v u Q I rx ry h
  obtain ⟨p, q, xs, rfl, rfl, hp, hq, hn, k⟩ := h
  obtain rfl : v = Value.ref p := rx
  obtain rfl : u = Value.ref q := ry
  obtain ⟨its, h1, h2⟩ := same_lists I hp hq hn
  have z := SeqAt.RcAt.lists (A := X.A) (e := fun _ => true) h1 h2 rfl (by omega) (fun j j1 j2 => SeqAt.EqAt.same _)
  rw [all_yes] at z
  exact z _ _ _ _ ⟨.bl true, H, I, rfl, k⟩
theorem op_neS {X : Cx} (hu : X.A.units + 64 < cLine) : OpR X (compareOp .NotEq) (rSame X.K false) := by
  intro pins s σ H x y v u Q I rx ry h
  obtain ⟨p, q, xs, rfl, rfl, hp, hq, hn, k⟩ := h
  obtain rfl : v = Value.ref p := rx
  obtain rfl : u = Value.ref q := ry
  obtain ⟨its, h1, h2⟩ := same_lists I hp hq hn
  have z := SeqAt.RcNeAt.lists (A := X.A) (e := fun _ => true) h1 h2 rfl (by omega) (fun j j1 j2 => SeqAt.EqAt.same _)
  rw [all_yes] at z
  exact z _ _ _ _ ⟨.bl false, H, I, rfl, k⟩
/-- a list against the empty one -/
def rNeNil (K : PySem.W.Frag) : R2 := fun x y H Q => ∃ (p q : Addr) (xs : List V), x = .ref p ∧ y = .ref q ∧ SqL K H p xs ∧ SqL K H q [] ∧ Q (.bl (!xs.isEmpty)) H
theorem is_list {X : Cx} {pins : List (Addr × Obj)} {σ : L2.St} {H : Hp} {s : Shared} {p : Addr} {xs : List V} (I : Inv X pins σ H s) (hp : SqL X.K H p xs) : ∃ its : Array Value, its.size = xs.length ∧ s.heap.IsList p its := by
  obtain ⟨its, rv, ⟨o, n, h1, h2, _, h3⟩, _⟩ := I.list hp
  exact ⟨its.toArray, by rw [List.size_toArray, rv.length], ⟨o, h1, h2, n, h3⟩⟩
theorem op_neNil {X : Cx} (hu : X.A.units + 64 < cLine) : OpR X (compareOp .NotEq) (rNeNil X.K) := by
  intro pins s σ H x y v u Q I rx ry h
  obtain ⟨p, q, xs, rfl, rfl, hp, hq, k⟩ := h
  cases xs with
  | nil => exact op_neS hu pins s σ H _ _ v u Q I rx ry ⟨p, q, [], rfl, rfl, hp, hq, (fun _ z => nomatch z), k⟩
  | cons a l =>
    obtain rfl : v = Value.ref p := rx
    obtain rfl : u = Value.ref q := ry
    obtain ⟨i1, e1, h1⟩ := is_list I hp
    obtain ⟨i2, e2, h2⟩ := is_list I hq
    have z := SeqAt.RcNeAt.lists_lengths (A := X.A) h1 h2 (by rw [e1, e2]; rfl) (by omega)
    exact z _ _ _ _ ⟨.bl true, H, I, rfl, k⟩

set_option pp.maxSteps 1500
open NdefX (TabsN)
/-- the law's own books: the pile, the pieces that each member has still, the clock -/
abbrev kP : Key := Sum.inr ("pile" : Str)
abbrev kL : Key := Sum.inr ("plans" : Str)
abbrev kN : Key := Sum.inr ("now" : Str)
def stD (pl dp : Addr) (now : Nat) : List (Key × V) := [(kP, .ref pl), (kL, .ref dp), (kN, .int (now : Int))]
structure StB (H : Hp) (s dp pl : Addr) (S : List Nat) (g now : Nat) (pa : Nat → Addr) (pc : Nat → List (Nat × Nat)) : Prop where
  es : H s = some (.dK (stD pl dp now))
  ep : H pl = some (.lst (S.map nV))
  ed : H dp = some (.dK (dM (List.range g) (fun i => .ref (pa i))))
  el : ∀ i ∈ S, PL H (pa i) (pc i)
  ne : s ≠ dp
theorem PL.kp {H H1 : Hp} {p : Addr} {l : List (Nat × Nat)} {cs : List Addr} (h : PL H p l) (k : Kp cs H H1) (m : Mu H cs) (n : p ∉ cs) : PL H1 p l := by
  obtain ⟨ts, a, b, c⟩ := h
  exact ⟨ts, k.at_ _ _ a n, b, fun i t x e1 e2 => kp_tup k m (c i t x e1 e2)⟩
/-- the pieces that a member has still, the first of them under way -/
def PcOk (S : List Nat) (ends lim : Nat → Nat) (pc : Nat → List (Nat × Nat)) : Prop := ∀ i ∈ S, ∃ st, st < ends i ∧ ends i ≤ lim i ∧ pc i = (st, ends i - st) :: pcR (ends i) (lim i - ends i)
theorem PL.head {H : Hp} {p : Addr} {x : Nat × Nat} {l : List (Nat × Nat)} (h : PL H p (x :: l)) : ∃ (t : Addr) (ts : List Addr), H p = some (.lst (V.ref t :: ts.map V.ref)) ∧ H t = some (.tup [.int (x.1 : Int), .int (x.2 : Int)]) ∧ ts.length = l.length ∧
    ∀ (i : Nat) (t : Addr) (y : Nat × Nat), ts[i]? = some t → l[i]? = some y → H t = some (.tup [.int (y.1 : Int), .int (y.2 : Int)]) := by
  obtain ⟨us, a, b, c⟩ := h
  match us, b, c, a with
  | t :: ts, b, c, a => exact ⟨t, ts, a, c 0 t x rfl rfl, Nat.succ.inj b, fun i u y e1 e2 => c (i + 1) u y e1 e2⟩
theorem ne12 : ¬ kP = kL := by decide +kernel
theorem ne13 : ¬ kP = kN := by decide +kernel
theorem ne23 : ¬ kL = kN := by decide +kernel
theorem stD_pile {pl dp : Addr} {now : Nat} : valV (stD pl dp now) kP = some (.ref pl) := by
  unfold stD
  rw [valV_pos rfl]
theorem stD_plans {pl dp : Addr} {now : Nat} : valV (stD pl dp now) kL = some (.ref dp) := by
  unfold stD
  rw [valV_neg (p := (kP, V.ref pl)) ne12, valV_pos rfl]
theorem stD_now {pl dp : Addr} {now : Nat} : valV (stD pl dp now) kN = some (.int (now : Int)) := by
  unfold stD
  rw [valV_neg (p := (kP, V.ref pl)) ne13, valV_neg (p := (kL, V.ref dp)) ne23, valV_pos rfl]
theorem stD_put1 {pl dp q : Addr} {now : Nat} : putK (stD pl dp now) kP (.ref q) = stD q dp now := by
  unfold putK
  rw [valV_any, stD_pile, if_pos (show (some (V.ref pl)).isSome = true from rfl)]
  unfold stD
  rw [List.map_cons, List.map_cons, List.map_cons]
  dsimp only []
  rw [if_pos (show kP = kP from rfl), if_neg (show ¬ kL = kP from fun z => ne12 z.symm), if_neg (show ¬ kN = kP from fun z => ne13 z.symm)]
  rfl
theorem stD_put3 {pl dp : Addr} {now n2 : Nat} : putK (stD pl dp now) kN (.int (n2 : Int)) = stD pl dp n2 := by
  unfold putK
  rw [valV_any, stD_now, if_pos (show (some (V.int (now : Int))).isSome = true from rfl)]
  unfold stD
  rw [List.map_cons, List.map_cons, List.map_cons]
  dsimp only []
  rw [if_neg (show ¬ kP = kN from ne13), if_neg (show ¬ kL = kN from ne23), if_pos (show kN = kN from rfl)]
  rfl
theorem dg_str {H : Hp} {s : Addr} {kvs : List (Key × V)} {x : Str} {v : V} (h : H s = some (.dK kvs)) (e : valV kvs (Sum.inr x) = some v) : DGet H s (.str x) (some v) := by
  rw [← e]
  exact DGet.k (k := .inr x) h
/-- pairs (0 - size, number) -/
structure AgAt (H : Hp) (xs : List V) (B : List Nat) (sz : Nat → Nat) : Prop where
  len : xs.length = B.length
  at_ : ∀ (q : Nat) (x : V) (i : Nat), xs[q]? = some x → B[q]? = some i → ∃ t, x = .ref t ∧ H t = some (.tup [.int (0 - (sz i : Int)), .int (i : Int)])
theorem AgAt.kp {H H1 : Hp} {xs : List V} {B : List Nat} {sz : Nat → Nat} {cs : List Addr} (h : AgAt H xs B sz) (k : Kp cs H H1) (m : Mu H cs) : AgAt H1 xs B sz := ⟨h.len, fun q x i a b => by
  obtain ⟨t, e1, e2⟩ := h.at_ q x i a b
  exact ⟨t, e1, kp_tup k m e2⟩⟩
theorem AgAt.nil {H : Hp} {sz : Nat → Nat} : AgAt H [] [] sz := ⟨rfl, fun q x i z => by cases q <;> cases z⟩
theorem AgAt.add {H : Hp} {xs : List V} {B : List Nat} {sz : Nat → Nat} {t : Addr} {i : Nat} (h : AgAt H xs B sz) (e : H t = some (.tup [.int (0 - (sz i : Int)), .int (i : Int)])) : AgAt H (xs ++ [.ref t]) (B ++ [i]) sz := by
  refine ⟨by rw [List.length_append, List.length_append, h.len]; rfl, fun q x j a b => ?_⟩
  have hl := h.len
  by_cases c : q < xs.length
  · rw [List.getElem?_append_left c] at a
    rw [List.getElem?_append_left (by omega)] at b
    exact h.at_ q x j a b
  · rw [List.getElem?_append_right (by omega)] at a
    rw [List.getElem?_append_right (by omega), ← hl] at b
    match q - xs.length, a, b with
    | 0, a, b =>
      cases a
      cases b
      exact ⟨t, rfl, e⟩
    | r + 1, a, _ => cases r <;> cases a
def pairAt (H : Hp) : V → Int × Int
  | .ref t => match H t with
    | some (.tup [.int i, .int j]) => (i, j)
    | _ => (0, 0)
  | _ => (0, 0)
theorem pairAt_eq {H : Hp} {t : Addr} {i j : Int} (h : H t = some (.tup [.int i, .int j])) : pairAt H (.ref t) = (i, j) := by
  unfold pairAt
  dsimp only []
  rw [h]
theorem AgAt.of {H : Hp} {xs : List V} {B : List Nat} {sz : Nat → Nat} (h : AgAt H xs B sz) {x : V} (m : x ∈ xs) : ∃ (t : Addr) (i : Nat), x = .ref t ∧ H t = some (.tup [.int (0 - (sz i : Int)), .int (i : Int)]) ∧ pairAt H x = (0 - (sz i : Int), (i : Int)) := by
  obtain ⟨q, hq, rfl⟩ := List.mem_iff_getElem.mp m
  obtain ⟨i, hi⟩ : ∃ i, B[q]? = some i := ⟨_, List.getElem?_eq_getElem (by rw [← h.len]; exact hq)⟩
  obtain ⟨t, e1, e2⟩ := h.at_ q _ i (List.getElem?_eq_getElem hq) hi
  exact ⟨t, i, e1, e2, by rw [e1]; exact pairAt_eq e2⟩
theorem ag_sorted {H : Hp} {xs ys : List V} {B0 : List Nat} {sz : Nat → Nat} (h : AgAt H xs B0 sz) (hs : SrtO.Srtd (ltP (pairAt H)) ys) (hp : ys.Perm xs) :
    ∃ B : List Nat, AgAt H ys B sz ∧ B.Perm B0 ∧ B.Pairwise fun a b => sz b < sz a ∨ (sz a = sz b ∧ a ≤ b) := by
  have hof : ∀ y ∈ ys, ∃ (t : Addr) (i : Nat), y = .ref t ∧ H t = some (.tup [.int (0 - (sz i : Int)), .int (i : Int)]) ∧ pairAt H y = (0 - (sz i : Int), (i : Int)) := fun y m => h.of (hp.mem_iff.mp m)
  refine ⟨ys.map fun y => (pairAt H y).2.toNat, ⟨by rw [List.length_map], fun q x i a b => ?_⟩, ?_, ?_⟩
  · rw [List.getElem?_map, a] at b
    obtain ⟨t, j, e1, e2, e3⟩ := hof x (List.mem_of_getElem? a)
    have b : (pairAt H x).2.toNat = i := Option.some.inj b
    rw [e3] at b
    have b : ((j : Int)).toNat = i := b
    rw [Int.toNat_natCast] at b
    subst b
    exact ⟨t, e1, e2⟩
  · refine (hp.map _).trans (List.Perm.of_eq (List.ext_getElem? fun q => ?_))
    rw [List.getElem?_map]
    by_cases c : q < xs.length
    · obtain ⟨i, hi⟩ : ∃ i, B0[q]? = some i := ⟨_, List.getElem?_eq_getElem (by rw [← h.len]; exact c)⟩
      obtain ⟨t, e1, e2⟩ := h.at_ q _ i (List.getElem?_eq_getElem c) hi
      rw [List.getElem?_eq_getElem c, hi, e1]
      show some (pairAt H (.ref t)).2.toNat = some i
      rw [pairAt_eq e2]
      show some ((i : Int)).toNat = some i
      rw [Int.toNat_natCast]
    · rw [List.getElem?_eq_none (by omega), List.getElem?_eq_none (by rw [← h.len]; omega)]
      rfl
  · refine List.pairwise_map.mpr (List.Pairwise.imp_of_mem (fun {x y} mx my hlt => ?_) hs)
    obtain ⟨t1, i, _, _, e1⟩ := hof x mx
    obtain ⟨t2, j, _, _, e2⟩ := hof y my
    have hlt : SrtO.lexB (pairAt H y) (pairAt H x) = false := hlt
    rw [e1, e2] at hlt ⊢
    have hlt := SrtO.lexB_no.mp hlt
    show sz ((j : Int)).toNat < sz ((i : Int)).toNat ∨ (sz ((i : Int)).toNat = sz ((j : Int)).toNat ∧ ((i : Int)).toNat ≤ ((j : Int)).toNat)
    rw [Int.toNat_natCast, Int.toNat_natCast]
    dsimp only [] at hlt
    omega
theorem pw_eqG {α : Type} {R : α → α → Prop} (as : ∀ a b, R a b → R b a → a = b) : ∀ {a b : List α}, a.Perm b → a.Pairwise R → b.Pairwise R → a = b
  | [], b, p, _, _ => (List.Perm.nil_eq p)
  | x :: a, [], p, _, _ => by cases (List.Perm.eq_nil p)
  | x :: a, y :: b, p, h1, h2 => by
    obtain ⟨h1, h3⟩ := List.pairwise_cons.mp h1
    obtain ⟨h2, h4⟩ := List.pairwise_cons.mp h2
    have e : x = y := by
      rcases List.mem_cons.mp (p.mem_iff.mp List.mem_cons_self) with e | m
      · exact e
      · rcases List.mem_cons.mp (p.mem_iff.mpr List.mem_cons_self) with e | m2
        · exact e.symm
        · exact as _ _ (h1 y m2) (h2 x m)
    subst e
    exact congrArg (x :: ·) (pw_eqG as ((List.perm_cons x).mp p) h3 h4)
section
variable {K : PySem.W.Frag} {y0 y1 y2 y3 y4 y5 y6 y7 y8 : Option V}
theorem lc_pops {H : Hp} {Q : VK} {en : Addr} {E : List Nat} (e : H en = some (.lst (E.map nV))) (hl : E.length ≤ 1000) (q : ∀ r ys H', Fr H r → Same H H' → H' r = some (.lst ys) → WLog H' ys (E.reverse.map fun i => (("pop" : Str), i)) → Q (.ref r) H') :
    tLc (iList K (tRevL K (tVar 4))) (gName 6) tYes (tTup (tCons (tC (V.str (Str.ofString "pop"))) (tCons (tVar 6) tNil))) [6] [y0, y1, y2, y3, some (.ref en), y5, y6, y7, y8] H Q := by
  refine ⟨_, rfl, en, _, rfl, sqlOf e, fun rv nrv => ⟨rv, rfl, ⟨_, sqlOf upd_same⟩, fun D nD => ?_⟩⟩
  have frv := Fr.mk nrv
  have s0 := same_newF (o := .lst (E.map nV).reverse) frv
  have erv : upd H rv (.lst (E.map nV).reverse) rv = some (.lst (E.map nV).reverse) := upd_same
  have fD0 : Fr H D := Fr.mk (s0.free nD)
  generalize upd H rv (.lst (E.map nV).reverse) = H0 at s0 erv nD ⊢
  have fD := Fr.mk nD
  refine lc_it (walk_list (K := K) (a := rv) (xs := (E.map nV).reverse)) (fun i H' => Same H0 H' ∧ ∃ ys, H' D = some (.lst ys) ∧ WLog H' ys ((E.reverse.take i).map fun i => (("pop" : Str), i))) ⟨same_newF fD, [], upd_same, WLog.nil⟩ (fun i H' _ z => sqlOf (z.1 _ _ erv)) ?_ ?_
  · rintro i x H1 H2 hi ⟨s1, ys, eD, wl⟩ ⟨rfl, hx⟩
    rw [← List.map_reverse, List.getElem?_map] at hx
    obtain ⟨n, hn', rfl⟩ := Option.map_eq_some_iff.mp hx
    refine ⟨rfl, ?_⟩
    unfold tYes
    refine ifT rfl ?_
    refine ⟨_, rfl, le2, fun t nt => ?_⟩
    obtain ⟨z1, z2, z3⟩ := wstep (e := ("pop", n)) fD s1 eD wl nt
    refine ⟨ys, z1, ?_, z2, ?_⟩
    · rw [wl.len, List.length_map, sizeLine_eq]
      have := List.length_take_le' i E.reverse
      rw [List.length_reverse] at this
      omega
    · rw [take_map (fun i => (("pop" : Str), i)) hn']
      exact z3
  · rintro H1 ⟨s1, ys, eD, wl⟩
    rw [List.length_reverse, List.length_map, ← List.length_reverse (as := E), List.take_length] at wl
    exact q D ys H1 fD0 (s0.trans s1) eD wl
theorem lc_low {H : Hp} {Q : VK} {pl en : Addr} {S E : List Nat} (ep : H pl = some (.lst (S.map nV))) (e : H en = some (.lst (E.map nV))) (hl : S.length ≤ 1000) (q : ∀ r, Fr H r → ∀ H', Same H H' → H' r = some (.lst ((S.filter fun i => decide (i ∉ E)).map nV)) → Q (.ref r) H') :
    tLc (iList K (tVar 1)) (gName 6) (tTest (tOp (rIn K true) (tVar 6) (tVar 4))) (tVar 6) [6] [y0, some (.ref pl), y2, y3, some (.ref en), y5, y6, y7, y8] H Q := by
  refine ⟨_, rfl, pl, rfl, ⟨_, sqlOf ep⟩, fun D nD => ?_⟩
  have fD := Fr.mk nD
  refine lc_it (walk_list (K := K) (a := pl) (xs := S.map nV)) (fun i H' => Same H H' ∧ H' D = some (.lst (((S.take i).filter fun i => decide (i ∉ E)).map nV))) ⟨same_newF fD, upd_same⟩ (fun i H' _ z => sqlOf (z.1 _ _ ep)) ?_ ?_
  · rintro i x H1 H2 hi ⟨s1, eD⟩ ⟨rfl, hx⟩
    rw [List.getElem?_map] at hx
    obtain ⟨n, hn', rfl⟩ := Option.map_eq_some_iff.mp hx
    have hin : inV (nV n) (E.map nV) = decide (n ∈ E) := in_nat n E
    refine ⟨rfl, ?_⟩
    refine ⟨_, rfl, _, rfl, en, E.map nV, rfl, .inl (sqlOf (s1 _ _ e)), rfl, (flat_nats E), _, rfl, ?_⟩
    rw [show (S.take (i + 1)) = S.take i ++ [n] by rw [List.take_succ, hn']; rfl, List.filter_append]
    have hacc : (((S.take i).filter fun i => decide (i ∉ E)).map nV).length < sizeLine := by
      rw [List.length_map, sizeLine_eq]
      have h1 := List.length_filter_le (fun i => decide (i ∉ E)) (S.take i)
      have h2 := List.length_take_le' i S
      omega
    by_cases c : n ∈ E
    · refine ifF (by show (!inV (nV n) (E.map nV)) = false; rw [hin, decide_eq_true c]; rfl) ⟨s1, ?_⟩
      rw [List.filter_cons_of_neg (by simpa using c), List.filter_nil, List.append_nil]
      exact eD
    · refine ifT (by show (!inV (nV n) (E.map nV)) = true; rw [hin, decide_eq_false c]; rfl) ⟨_, rfl, _, eD, hacc, same_putG fD s1, ?_⟩
      rw [upd_same, List.filter_cons_of_pos (by simpa using c), List.filter_nil, List.map_append]
      rfl
  · rintro H1 ⟨s1, eD⟩
    rw [List.length_map, List.take_length] at eD
    exact q D fD H1 s1 eD
theorem lc_push {H : Hp} {Q : VK} {ag : Addr} {xs : List V} {B0 : List Nat} {sz : Nat → Nat} (e : H ag = some (.lst xs)) (A : AgAt H xs B0 sz) (hl : B0.length ≤ 1000) (q : ∀ r ys (B : List Nat) H', Fr H r → Same H H' → H' r = some (.lst ys) → WLog H' ys (B.map fun i => (("push" : Str), i)) → B.Perm B0 → (B.Pairwise fun a b => sz b < sz a ∨ (sz a = sz b ∧ a ≤ b)) → Q (.ref r) H') :
    tLc (iList K (tCB (rSortedPO K) (tCons (tVar 5) tNil))) (gTup K 2 (gCons (gName 8) (gCons (gName 6) gNil))) tYes (tTup (tCons (tC (V.str (Str.ofString "push"))) (tCons (tVar 6) tNil))) [8, 6] [y0, y1, y2, y3, y4, some (.ref ag), y6, y7, y8] H Q := by
  refine ⟨_, rfl, ag, xs, pairAt H, rfl, sqlOf e, fun x m => ?_, fun ys p hs hst np => ⟨p, rfl, ⟨_, sqlOf upd_same⟩, fun D nD => ?_⟩⟩
  · obtain ⟨t, i, h1, h2, h3⟩ := A.of m
    exact ⟨t, h1, by rw [h3]; exact h2⟩
  have fp := Fr.mk np
  have s0 := same_newF (o := .lst ys) fp
  obtain ⟨B, A1, hB, hBs⟩ := ag_sorted A hs hst.perm
  have ep : upd H p (.lst ys) p = some (.lst ys) := upd_same
  have fD0 : Fr H D := Fr.mk (s0.free nD)
  have A2 := A1.kp (cs := []) (kp_same s0) mu_nil
  generalize upd H p (.lst ys) = H0 at s0 ep A2 nD ⊢
  have fD := Fr.mk nD
  have hyl : ys.length = B.length := A2.len
  have hBl := hB.length_eq
  refine lc_it (walk_list (K := K) (a := p) (xs := ys)) (fun i H' => Same H0 H' ∧ ∃ zs, H' D = some (.lst zs) ∧ WLog H' zs ((B.take i).map fun i => (("push" : Str), i))) ⟨same_newF fD, [], upd_same, WLog.nil⟩ (fun i H' _ z => sqlOf (z.1 _ _ ep)) ?_ ?_
  · rintro i x H1 H2 hi ⟨s1, zs, eD, wl⟩ ⟨rfl, hx⟩
    obtain ⟨n, hn⟩ : ∃ n, B[i]? = some n := ⟨_, List.getElem?_eq_getElem (by omega)⟩
    obtain ⟨t, rfl, et⟩ := A2.at_ i x n hx hn
    refine ⟨t, _, rfl, sqtOf (s1 _ _ et), rfl, _, _, rfl, _, _, rfl, rfl, rfl, ?_⟩
    unfold tYes
    refine ifT rfl ?_
    refine ⟨_, rfl, le2, fun t2 nt => ?_⟩
    obtain ⟨z1, z2, z3⟩ := wstep (e := ("push", n)) fD s1 eD wl nt
    refine ⟨zs, z1, ?_, z2, ?_⟩
    · rw [wl.len, List.length_map, sizeLine_eq]
      have := List.length_take_le' i B
      omega
    · rw [take_map (fun i => (("push" : Str), i)) hn]
      exact z3
  · rintro H1 ⟨s1, zs, eD, wl⟩
    rw [hyl, List.take_length] at wl
    exact q D zs B H1 fD0 (s0.trans s1) eD wl hB hBs
theorem lc_back {H : Hp} {Q : VK} {ag : Addr} {xs : List V} {B0 : List Nat} {sz : Nat → Nat} (e : H ag = some (.lst xs)) (A : AgAt H xs B0 sz) (hl : B0.length ≤ 1000) (q : ∀ r (B : List Nat) H', Fr H r → Same H H' → H' r = some (.lst (B.map nV)) → B.Perm B0 → (B.Pairwise fun a b => sz b < sz a ∨ (sz a = sz b ∧ a ≤ b)) → Q (.ref r) H') :
    tLc (iList K (tCB (rSortedPO K) (tCons (tVar 5) tNil))) (gTup K 2 (gCons (gName 8) (gCons (gName 6) gNil))) tYes (tVar 6) [8, 6] [y0, y1, y2, y3, y4, some (.ref ag), y6, y7, y8] H Q := by
  refine ⟨_, rfl, ag, xs, pairAt H, rfl, sqlOf e, fun x m => ?_, fun ys p hs hst np => ⟨p, rfl, ⟨_, sqlOf upd_same⟩, fun D nD => ?_⟩⟩
  · obtain ⟨t, i, h1, h2, h3⟩ := A.of m
    exact ⟨t, h1, by rw [h3]; exact h2⟩
  have fp := Fr.mk np
  have s0 := same_newF (o := .lst ys) fp
  obtain ⟨B, A1, hB, hBs⟩ := ag_sorted A hs hst.perm
  have ep : upd H p (.lst ys) p = some (.lst ys) := upd_same
  have fD0 : Fr H D := Fr.mk (s0.free nD)
  have A2 := A1.kp (cs := []) (kp_same s0) mu_nil
  generalize upd H p (.lst ys) = H0 at s0 ep A2 nD ⊢
  have fD := Fr.mk nD
  have hyl : ys.length = B.length := A2.len
  have hBl := hB.length_eq
  refine lc_it (walk_list (K := K) (a := p) (xs := ys)) (fun i H' => Same H0 H' ∧ H' D = some (.lst ((B.take i).map nV))) ⟨same_newF fD, upd_same⟩ (fun i H' _ z => sqlOf (z.1 _ _ ep)) ?_ ?_
  · rintro i x H1 H2 hi ⟨s1, eD⟩ ⟨rfl, hx⟩
    obtain ⟨n, hn⟩ : ∃ n, B[i]? = some n := ⟨_, List.getElem?_eq_getElem (by omega)⟩
    obtain ⟨t, rfl, et⟩ := A2.at_ i x n hx hn
    refine ⟨t, _, rfl, sqtOf (s1 _ _ et), rfl, _, _, rfl, _, _, rfl, rfl, rfl, ?_⟩
    unfold tYes
    refine ifT rfl ?_
    refine ⟨_, rfl, _, eD, ?_, same_putG fD s1, ?_⟩
    · rw [List.length_map, sizeLine_eq]
      have := List.length_take_le' i B
      omega
    · rw [upd_same, take_map nV hn]
  · rintro H1 ⟨s1, eD⟩
    rw [hyl, List.take_length] at eD
    exact q D B H1 fD0 (s0.trans s1) eD hB hBs
end
section
variable {P : Program} {w : World} {K : PySem.W.Frag} {mg : Str → Option Value} {base : Heap} {n : Nat}
def spLTk : Sp := fun vs H Q _ => ∃ (s dp pl : Addr) (S : List Nat) (g now : Nat) (pa : Nat → Addr) (pc : Nat → List (Nat × Nat)) (ends lim : Nat → Nat), vs = [.ref s] ∧ StB H s dp pl S g now pa pc ∧ PcOk S ends lim pc ∧ S.Nodup ∧ (∀ i ∈ S, i < g) ∧ S.length ≤ 1000 ∧ g ≤ 1000 ∧
  ∀ r ys H' pl' pa' B, Kp [s, dp] H H' → Fr H r → H' r = some (.lst ys) → WLog H' ys (tickW (endS ends (now + 1) S) B) → B.Perm ((endS ends (now + 1) S).filter fun i => decide (now + 1 < lim i)) → (B.Pairwise fun a b => szP (now + 1) (lim b - (now + 1)) < szP (now + 1) (lim a - (now + 1)) ∨ (szP (now + 1) (lim a - (now + 1)) = szP (now + 1) (lim b - (now + 1)) ∧ a ≤ b)) →
    StB H' s dp pl' (S.filter (fun i => decide (i ∉ endS ends (now + 1) S)) ++ B) g (now + 1) pa' (fun i => if ends i = now + 1 then (pc i).tail else pc i) → Fr H pl' → (∀ i ∈ S, pa' i = pa i ∨ (Fr H (pa' i) ∧ pa' i ≠ pl')) → Q (.ref r) H'
theorem ok_ltk (T : Txt K mg) : FnOk P w K mg base CX0 1 T.f_l_tick T.d_l_tick ["_law_state"] spLTk := by
  refine T.F_l_tick.ok sc_l_tick (fun vs H Q E h => ?_) (fun cdv A outer s H vs Q E hr h => ?_)
  · obtain ⟨s, dp, pl, S, g, now, pa, pc, ends, lim, rfl, _⟩ := h
    rfl
  · obtain ⟨s, dp, pl, S, g, now, pa, pc, ends, lim, rfl, st, hpc, hnd, hg, hl, hg1, q⟩ := h
    refine ⟨_, (pss_cons (ps_asg (pe_tup (pa_cons (pe_dget (hu_of hr) (pv 0) pe_str (fun _ _ => rfl)) (pa_cons (pe_dget (hu_of hr) (pv 0) pe_str (fun _ _ => rfl)) (pa_cons (pe_op op_add (pe_dget (hu_of hr) (pv 0) pe_str (fun _ _ => rfl)) pe_int) pa_nil)))) (pg_tup (by rfl) (pgs_cons (pg_name (i := 1) sc_l_tick.nd rfl (.inl rfl)) (pgs_cons (pg_name (i := 2) sc_l_tick.nd rfl (.inr rfl)) (pgs_cons (pg_name (i := 3) sc_l_tick.nd rfl (.inr rfl)) pgs_nil)))))
      (pss_cons (ps_set (i := 4) sc_l_tick.nd rfl (.inr rfl) (pe_lc (own := [("_law_one", 6)]) (g := gName 6)  rfl sc_l_tick.nd (pi_list (pv 1)) (blkOk_by (N := n_l_tick) (sc := defScope s_l_tick) (by decide +kernel)) (fun _ _ _ _ _ => (pg_name (i := 6) sc_l_tick.nd rfl (.inl rfl))) (fun _ _ _ _ _ => (pts_one (pt_cmpR op_eq (pe_callB (r := Inf.rSumT K) (show CallR _ (.builtin "sum") (Inf.rSumT K) from Inf.cr_sumT rfl) (by rfl) T.z_sum (by decide +kernel) (pa_cons (pe_ix (r := rIxL K) ix_list (pe_dget (hu_of hr) (pv 2) (pv 6) (fun _ _ => rfl)) pe_int (fun _ _ => rfl)) pa_nil)) (pv 3) (nomark _)))) (fun _ _ _ _ _ => (pv 6))))
      (pss_cons (ps_set (i := 5) sc_l_tick.nd rfl (.inl rfl) (pe_lst pa_nil))
      (pss_cons (ps_for PassesOwn.never rfl (pi_list (pv 4)) (pg_name (i := 6) sc_l_tick.nd rfl (.inl rfl)) (pss_cons (ps_dput (hu_of hr) (pv 2) (pv 6) (pe_slice sl_list (pe_dget (hu_of hr) (pv 2) (pv 6) (fun _ _ => rfl)) (po_some pe_int) po_none) rfl)
        (pss_one (ps_if (pt_cmpR (op_neNil hr.units) (pe_dget (hu_of hr) (pv 2) (pv 6) (fun _ _ => rfl)) (pe_lst pa_nil) (nomark _)) (pss_one (ps_expr (pe_bm PySem.F.plainAttrs_list PySem.F.slot_list_append PySem.F.type_list_append mt_append (pv 5) (pa_cons (pe_tup (pa_cons (pe_op op_sub pe_int (pe_ix (r := rIxT K) ix_tup (pe_ix (r := rIxL K) ix_list (pe_dget (hu_of hr) (pv 2) (pv 6) (fun _ _ => rfl)) pe_int (fun _ _ => rfl)) pe_int (fun _ _ => rfl))) (pa_cons (pv 6) pa_nil))) pa_nil)))) pss_nil))))
      (pss_cons (ps_set (i := 7) sc_l_tick.nd rfl (.inl rfl) (pe_op op_cat (pe_lc (own := [("_law_one", 6)]) (g := gName 6) (tt := tYes) rfl sc_l_tick.nd (pi_list (pe_revL (pv 4))) (blkOk_by (N := n_l_tick) (sc := defScope s_l_tick) (by decide +kernel)) (fun _ _ _ _ _ => (pg_name (i := 6) sc_l_tick.nd rfl (.inl rfl))) (fun _ _ _ _ _ => pts_nil) (fun _ _ _ _ _ => (pe_tup (pa_cons pe_str (pa_cons (pv 6) pa_nil))))) (pe_lc (own := [("_law_size", 8), ("_law_one", 6)]) (g := (gTup K 2 (gCons (gName 8) (gCons (gName 6) gNil)))) (tt := tYes) rfl sc_l_tick.nd (pi_list (pe_callB (r := rSortedPO K) cr_sortedPO (by rfl) T.z_sorted (by decide +kernel) (pa_cons (pv 5) pa_nil))) (blkOk_by (N := n_l_tick) (sc := defScope s_l_tick) (by decide +kernel)) (fun _ _ _ _ _ => (pg_tup (by rfl) (pgs_cons (pg_name (i := 8) sc_l_tick.nd rfl (.inl rfl)) (pgs_cons (pg_name (i := 6) sc_l_tick.nd rfl (.inl rfl)) pgs_nil)))) (fun _ _ _ _ _ => pts_nil) (fun _ _ _ _ _ => (pe_tup (pa_cons pe_str (pa_cons (pv 6) pa_nil)))))))
      (pss_cons (ps_dput (hu_of hr) (pv 0) pe_str (pe_op op_cat (pe_lc (own := [("_law_one", 6)]) (g := gName 6)  rfl sc_l_tick.nd (pi_list (pv 1)) (blkOk_by (N := n_l_tick) (sc := defScope s_l_tick) (by decide +kernel)) (fun _ _ _ _ _ => (pg_name (i := 6) sc_l_tick.nd rfl (.inl rfl))) (fun _ _ _ _ _ => (pts_one (pt_cmpR (show OpR _ _ (rIn K true) from op_notIn_seq) (pv 6) (pv 4) (by rfl)))) (fun _ _ _ _ _ => (pv 6))) (pe_lc (own := [("_law_size", 8), ("_law_one", 6)]) (g := (gTup K 2 (gCons (gName 8) (gCons (gName 6) gNil)))) (tt := tYes) rfl sc_l_tick.nd (pi_list (pe_callB (r := rSortedPO K) cr_sortedPO (by rfl) T.z_sorted (by decide +kernel) (pa_cons (pv 5) pa_nil))) (blkOk_by (N := n_l_tick) (sc := defScope s_l_tick) (by decide +kernel)) (fun _ _ _ _ _ => (pg_tup (by rfl) (pgs_cons (pg_name (i := 8) sc_l_tick.nd rfl (.inl rfl)) (pgs_cons (pg_name (i := 6) sc_l_tick.nd rfl (.inl rfl)) pgs_nil)))) (fun _ _ _ _ _ => pts_nil) (fun _ _ _ _ _ => (pv 6)))) rfl)
      (pss_cons (ps_dput (hu_of hr) (pv 0) pe_str (pv 3) rfl)
      (pss_one (ps_ret (pv 7)))))))))), ?_⟩
    have hgp := dg_str st.es stD_pile
    have hgl := dg_str st.es stD_plans
    have hgn := dg_str st.es stD_now
    refine pSeq (pAsg ⟨_, rfl, s, _, rfl, hgp, _, rfl, s, _, rfl, hgl, _, rfl, s, _, rfl, hgn, _, _, rfl, rfl, le3, fun t0 nt0 => ⟨t0, _, rfl, sqtOf upd_same, rfl, _, _, rfl, _, _, rfl, _, _, rfl, rfl, ?_⟩⟩)
    have z0 : ((((L2.start n_l_tick [V.ref s]).set 1 (some (.ref pl))).set 2 (some (.ref dp))).set 3 (some (V.int ((now : Int) + 1)))) = [some (.ref s), some (.ref pl), some (.ref dp), some (.int ((now : Int) + 1)), none, none, none, none, none] := rfl
    rw [z0]
    clear z0
    have s1 := same_newF (o := .tup [.ref pl, .ref dp, .int ((now : Int) + 1)]) (Fr.mk nt0)
    generalize upd H t0 (.tup [.ref pl, .ref dp, .int ((now : Int) + 1)]) = H1 at s1 ⊢
    have hdg : ∀ {Hx : Hp} {pq : Nat → Addr} {j : Nat}, Hx dp = some (.dK (dM (List.range g) (fun i => .ref (pq i)))) → j < g → DGet Hx dp (.int (j : Int)) (some (.ref (pq j))) := fun {Hx pq j} e l => by
      rw [← dM_val (f := fun i => V.ref (pq i)) (List.mem_range.mpr l)]
      exact DGet.k (k := .inl (j : Int)) e
    -- those that end
    dsimp only []
    have ep1 := s1 _ _ st.ep
    have ed1 := s1 _ _ st.ed
    have el1 : ∀ i ∈ S, PL H1 (pa i) (pc i) := fun i m => (st.el i m).same s1
    refine pSeq (pAsg ⟨_, rfl, pl, rfl, ⟨_, sqlOf ep1⟩, fun D nD => ?_⟩)
    have fD := Fr.mk nD
    refine lc_it (walk_list (K := K) (a := pl) (xs := S.map nV)) (fun i H' => Same H1 H' ∧ H' D = some (.lst (((S.take i).filter fun i => decide (ends i = now + 1)).map nV))) ⟨same_newF fD, upd_same⟩ (fun i H' _ z => sqlOf (z.1 _ _ ep1)) ?_ ?_
    · rintro i x H2' H2 hi ⟨s2, eD⟩ ⟨rfl, hx⟩
      rw [List.getElem?_map] at hx
      obtain ⟨j, hj, rfl⟩ := Option.map_eq_some_iff.mp hx
      have mj := List.mem_of_getElem? hj
      obtain ⟨b0, hb1, hb2, hb3⟩ := hpc j mj
      have hpl := (el1 j mj).same s2
      rw [hb3] at hpl
      obtain ⟨u, us, e1, e2, _, _⟩ := hpl.head
      refine ⟨rfl, ?_⟩
      refine ⟨_, rfl, _, rfl, dp, _, rfl, hdg (s2 _ _ ed1) (hg j mj), pa j, _, 0, _, rfl, rfl, sqlOf e1, atI_nat (j := 0) rfl, u, [(b0 : Int), ((ends j - b0 : Nat) : Int)], rfl, sqtOf e2, _, rfl, rfl, _, rfl, ?_⟩
      have hsum : ([(b0 : Int), ((ends j - b0 : Nat) : Int)] : List Int).sum = (ends j : Int) := by
        show (b0 : Int) + (((ends j - b0 : Nat) : Int) + 0) = _
        omega
      rw [hsum, show (S.take (i + 1)) = S.take i ++ [j] by rw [List.take_succ, hj]; rfl, List.filter_append]
      have hacc : (((S.take i).filter fun i => decide (ends i = now + 1)).map nV).length < sizeLine := by
        rw [List.length_map, sizeLine_eq]
        have h1 := List.length_filter_le (fun i => decide (ends i = now + 1)) (S.take i)
        have h2 := List.length_take_le' i S
        omega
      by_cases c : ends j = now + 1
      · refine ifT (decide_eq_true (by rw [c]; rfl)) ⟨_, rfl, _, eD, hacc, same_putG fD s2, ?_⟩
        rw [upd_same, List.filter_cons_of_pos (by simpa using c), List.filter_nil, List.map_append]
        rfl
      · refine ifF (decide_eq_false fun z => c (by have z2 : (ends j : Int) = (now : Int) + 1 := V.int.inj z; omega)) ⟨s2, ?_⟩
        rw [List.filter_cons_of_neg (by simpa using c), List.filter_nil, List.append_nil]
        exact eD
    · rintro H2 ⟨s2, eD⟩
      rw [List.length_map, List.take_length] at eD
      have eD : H2 D = some (.lst ((endS ends (now + 1) S).map nV)) := eD
      refine pGN ?_
      simp only [List.set_cons_succ, List.set_cons_zero]
      refine pSeq (pAsg ⟨Nat.zero_le _, fun ag nag => pGN ?_⟩)
      simp only [List.set_cons_succ, List.set_cons_zero]
      have fag := Fr.mk nag
      have s3 := same_newF (o := .lst []) fag
      have eag : upd H2 ag (.lst []) ag = some (.lst []) := upd_same
      have eD3 := s3 _ _ eD
      have nDag : D ≠ ag := ne_of_none eD nag
      have s03 := s1.trans (s2.trans s3)
      have fag0 : Fr H ag := Fr.mk (s1.free (s2.free nag))
      generalize upd H2 ag (.lst []) = H3 at s3 eag eD3 s03 ⊢
      have ed3 := s03 _ _ st.ed
      have ep3 := s03 _ _ st.ep
      have es3 := s03 _ _ st.es
      have fD0 : Fr H D := Fr.mk (s1.free nD)
      have nsag : s ≠ ag := ne_of_none st.es fag0.h
      have npag : pl ≠ ag := ne_of_none st.ep fag0.h
      have ndag : dp ≠ ag := ne_of_none st.ed fag0.h
      have hES : ∀ i ∈ endS ends (now + 1) S, i ∈ S ∧ ends i = now + 1 := fun i m => ⟨(List.mem_filter.mp m).1, of_decide_eq_true (List.mem_filter.mp m).2⟩
      have hEl : (endS ends (now + 1) S).length ≤ S.length := List.length_filter_le _ _
      have hEnd : (endS ends (now + 1) S).Nodup := hnd.filter _
      generalize hE : endS ends (now + 1) S = E at *
      have m3 : Mu H3 [dp, ag] := mu_cons ed3 (fun _ z => nomatch z) (fun _ z => nomatch z) (mu_lst eag mu_nil)
      -- each of them goes on to its next piece
      refine pSeq ⟨_, rfl, D, rfl, ⟨_, sqlOf eD3⟩, ?_⟩
      refine for_it (walk_list (K := K) (a := D) (xs := E.map nV)) (fun k σ H' => ∃ (y6 : Option V) (pq : Nat → Addr) (xs : List V), σ = [some (.ref s), some (.ref pl), some (.ref dp), some (.int ((now : Int) + 1)), some (.ref D), some (.ref ag), y6, none, none] ∧ Kp [dp, ag] H3 H' ∧ H' dp = some (.dK (dM (List.range g) (fun i => .ref (pq i)))) ∧
          (∀ i ∈ S, PL H' (pq i) (if i ∈ E.take k then (pc i).tail else pc i)) ∧ (∀ i ∈ S, pq i = pa i ∨ Fr H (pq i)) ∧ (∀ i ∈ S, pq i ≠ ag) ∧ H' ag = some (.lst xs) ∧ AgAt H' xs ((E.take k).filter fun i => decide (now + 1 < lim i)) (fun i => szP (now + 1) (lim i - (now + 1))))
        ⟨_, pa, [], rfl, kp_refl _ _, ed3, fun i m => by rw [List.take_zero, if_neg (fun z => by cases z)]; exact (st.el i m).same s03, fun i m => .inl rfl, fun i m z => ?_, eag, AgAt.nil⟩ (fun k σ H' _ ⟨_, _, _, _, z, _⟩ => sqlOf (z.at_ _ _ eD3 (not_cons (neO eD3 ed3 (fun z => nomatch z)) (not_cons nDag not_nil)))) ?_ ?_
      · obtain ⟨ts, e, _⟩ := st.el i m
        rw [z, fag0.h] at e
        cases e
      · rintro k x σ H4' H4 hk ⟨y6, pq, xs, rfl, k4, ed4, el4, fr4, na4, ea4, A4⟩ ⟨rfl, hx⟩
        rw [List.length_map] at hk
        rw [List.getElem?_map] at hx
        obtain ⟨j, hj, rfl⟩ := Option.map_eq_some_iff.mp hx
        have mE := List.mem_of_getElem? hj
        obtain ⟨mj, hend⟩ := hES j mE
        have hjg := hg j mj
        obtain ⟨b0, hb1, hb2, hb3⟩ := hpc j mj
        have notin : j ∉ E.take k := fun z => by
          refine (List.nodup_append.mp (show (E.take k ++ E.drop k).Nodup by rw [List.take_append_drop]; exact hEnd)).2.2 j z j ?_ rfl
          refine List.mem_of_getElem? (i := 0) ?_
          rw [List.getElem?_drop, Nat.add_zero]
          exact hj
        have hplj := el4 j mj
        rw [if_neg notin, hb3] at hplj
        obtain ⟨u, us, e1, e2, e3, e4⟩ := hplj.head
        refine pGN ?_
        simp only [List.set_cons_succ, List.set_cons_zero]
        refine pSeq ⟨_, rfl, _, rfl, dp, _, rfl, hdg ed4 hjg, 1, rfl, pq j, _, rfl, sqlOf e1, fun q2 nq2 => ?_⟩
        have hcut : cutV (V.ref u :: us.map V.ref) (some 1) none = us.map V.ref := by
          unfold cutV
          rw [HT.sIx_none, show (some (1 : Int)) = some (((1 : Nat) : Int)) from rfl, HT.sIx_nat, List.length_cons, Nat.min_eq_left (by omega), List.drop_succ_cons, List.drop_zero, List.take_of_length_le (by omega)]
        rw [hcut]
        have fq := Fr.mk nq2
        have s5 := same_newF (o := .lst (us.map V.ref)) fq
        have eq5 : upd H4 q2 (.lst (us.map V.ref)) q2 = some (.lst (us.map V.ref)) := upd_same
        have hq2H : Fr H q2 := Fr.mk (s03.free (fr_kp k4 (mu_cons ed4 (fun _ z => nomatch z) (fun _ z => nomatch z) (mu_lst ea4 mu_nil)) fq).h)
        have nqag : q2 ≠ ag := (ne_of_none ea4 nq2).symm
        generalize upd H4 q2 (.lst (us.map V.ref)) = H5 at s5 eq5 ⊢
        have ed5 := s5 _ _ ed4
        have hP := DPut.k (k := .inl (j : Int)) (v := .ref q2) ed5 (by rw [show ∀ f, (dM (List.range g) f).length = g from fun f => by unfold dM; rw [List.length_map, List.length_range], sizeLine_eq]; omega)
        rw [dM_old (List.mem_range.mpr hjg), show (fun x => if x = j then V.ref q2 else V.ref (pq x)) = fun x => V.ref (if x = j then q2 else pq x) from funext fun x => by split <;> rfl] at hP
        refine ⟨_, rfl, _, rfl, dp, _, rfl, hP, ?_⟩
        have k56 : Kp [dp] H5 (upd H5 dp (.dK (dM (List.range g) (fun x => .ref (if x = j then q2 else pq x))))) := kp_up memA (kp_refl _ _)
        have ed6 : upd H5 dp (.dK (dM (List.range g) (fun x => .ref (if x = j then q2 else pq x)))) dp = some (.dK (dM (List.range g) (fun x => .ref (if x = j then q2 else pq x)))) := upd_same
        have m5 : Mu H5 [dp] := mu_cons ed5 (fun _ z => nomatch z) (fun _ z => nomatch z) mu_nil
        have m4 : Mu H4 [dp] := mu_cons ed4 (fun _ z => nomatch z) (fun _ z => nomatch z) mu_nil
        have k46 : Kp [dp] H4 (upd H5 dp (.dK (dM (List.range g) (fun x => .ref (if x = j then q2 else pq x))))) := kp_trans (kp_same s5) k56
        generalize upd H5 dp (.dK (dM (List.range g) (fun x => .ref (if x = j then q2 else pq x)))) = H6 at k56 ed6 k46 ⊢
        have k6 : Kp [dp, ag] H3 H6 := kp_trans k4 (kp_more k46 fun a m => by rw [List.mem_singleton.mp m]; exact memA)
        have eq6 : H6 q2 = some (.lst (us.map V.ref)) := k56.at_ _ _ eq5 (not_cons (neO eq5 ed5 (fun z => nomatch z)) not_nil)
        have ea6 : H6 ag = some (.lst xs) := k46.at_ _ _ ea4 (not_cons ndag.symm not_nil)
        have A6 := A4.kp k46 m4
        have hEk : E.take (k + 1) = E.take k ++ [j] := by
          rw [List.take_succ, hj]
          rfl
        have htail : (pc j).tail = pcR (now + 1) (lim j - (now + 1)) := by
          rw [hb3, hend]
          rfl
        rw [hend] at e3 e4
        have e46 : ∀ (i : Nat) (t : Addr) (y : Nat × Nat), us[i]? = some t → (pcR (now + 1) (lim j - (now + 1)))[i]? = some y → H6 t = some (.tup [.int (y.1 : Int), .int (y.2 : Int)]) := fun i t y a b => kp_tup k46 m4 (e4 i t y a b)
        have el6 : ∀ i ∈ S, PL H6 (if i = j then q2 else pq i) (if i ∈ E.take (k + 1) then (pc i).tail else pc i) := fun i mi => by
          by_cases c : i = j
          · rw [if_pos c, if_pos (by rw [hEk, c]; exact List.mem_append.mpr (.inr List.mem_cons_self)), c, htail]
            exact ⟨us, eq6, e3, e46⟩
          · have hm : i ∈ E.take (k + 1) ↔ i ∈ E.take k := by
              rw [hEk, List.mem_append, List.mem_singleton]
              exact ⟨fun z => z.elim id fun w => absurd w c, .inl⟩
            rw [if_neg c]
            have h0 := el4 i mi
            have h1 := h0.kp k46 m4 (not_cons (by
              obtain ⟨ts, f1, _⟩ := h0
              exact neO f1 ed4 (fun z => nomatch z)) not_nil)
            by_cases d : i ∈ E.take k
            · rw [if_pos d] at h1
              rw [if_pos (hm.mpr d)]
              exact h1
            · rw [if_neg d] at h1
              rw [if_neg fun z => d (hm.mp z)]
              exact h1
        have fr6 : ∀ i ∈ S, (if i = j then q2 else pq i) = pa i ∨ Fr H (if i = j then q2 else pq i) := fun i mi => by
          by_cases c : i = j
          · rw [if_pos c]
            exact .inr hq2H
          · rw [if_neg c]
            exact fr4 i mi
        have na6 : ∀ i ∈ S, (if i = j then q2 else pq i) ≠ ag := fun i mi => by
          by_cases c : i = j
          · rw [if_pos c]
            exact nqag
          · rw [if_neg c]
            exact na4 i mi
        have hg6 : DGet H6 dp (.int (j : Int)) (some (.ref q2)) := by
          have := hdg (pq := fun x => if x = j then q2 else pq x) ed6 hjg
          rwa [show (if j = j then q2 else pq j) = q2 from if_pos rfl] at this
        clear hP k56 m5 ed5 eq5 s5
        have hAl : ((E.take k).filter fun i => decide (now + 1 < lim i)).length ≤ 1000 := by
          have h1 := List.length_filter_le (fun i => decide (now + 1 < lim i)) (E.take k)
          have h2 := List.length_take_le' k E
          omega
        dsimp only []
        refine pIf (pTest (pOp ⟨_, rfl, _, rfl, dp, _, rfl, hg6, Nat.zero_le _, fun z nz => ?_⟩))
        have s7 := same_newF (o := .lst []) (Fr.mk nz)
        refine ⟨q2, z, _, rfl, rfl, sqlOf (s7 _ _ eq6), sqlOf upd_same, _, rfl, ?_⟩
        generalize upd H6 z (.lst []) = H7 at s7 ⊢
        have k7 : Kp [dp, ag] H3 H7 := kp_trans k6 (kp_same s7)
        rw [hEk, List.filter_append]
        rw [hEk] at el6
        by_cases hr0 : now + 1 < lim j
        · have hpp := pcR_pos (a := now + 1) (r := lim j - (now + 1)) (by omega)
          rw [hpp] at e3 e46
          match us, e3, e46, eq6 with
          | u1 :: us1, e3, e46, eq6 =>
          have eu1 := e46 0 u1 _ rfl rfl
          refine ifT rfl ?_
          have ea7 := s7 _ _ ea6
          refine ⟨_, rfl, .inl ⟨rfl, _, sqlOf ea7⟩, _, rfl, _, rfl, dp, _, rfl, hdg (pq := fun x => if x = j then q2 else pq x) (s7 _ _ ed6) hjg, q2, _, 0, _, by rw [if_pos rfl], rfl, sqlOf (s7 _ _ eq6), atI_nat (j := 0) rfl, u1, _, 1, _, rfl, rfl, sqtOf (s7 _ _ eu1), atI_nat (j := 1) rfl, _, _, rfl, rfl, _, rfl, le2, fun u2 nu2 => ?_⟩
          have fu := Fr.mk nu2
          refine ⟨ag, _, _, rfl, rfl, atNew fu ea7, by rw [A6.len, sizeLine_eq]; omega, ?_⟩
          have su := same_newF (o := .tup [.int (0 - ((szP (now + 1) (lim j - (now + 1)) : Nat) : Int)), .int (j : Int)]) fu
          have ka : Kp [ag] (upd H7 u2 (.tup [.int (0 - ((szP (now + 1) (lim j - (now + 1)) : Nat) : Int)), .int (j : Int)])) (upd (upd H7 u2 (.tup [.int (0 - ((szP (now + 1) (lim j - (now + 1)) : Nat) : Int)), .int (j : Int)])) ag (.lst (xs ++ [.ref u2]))) := kp_up memA (kp_refl _ _)
          have eu2 : upd H7 u2 (.tup [.int (0 - ((szP (now + 1) (lim j - (now + 1)) : Nat) : Int)), .int (j : Int)]) u2 = some (.tup [.int (0 - ((szP (now + 1) (lim j - (now + 1)) : Nat) : Int)), .int (j : Int)]) := upd_same
          have ea8 := su _ _ ea7
          have ma : Mu (upd H7 u2 (.tup [.int (0 - ((szP (now + 1) (lim j - (now + 1)) : Nat) : Int)), .int (j : Int)])) [ag] := mu_lst ea8 mu_nil
          have eag9 : (upd (upd H7 u2 (.tup [.int (0 - ((szP (now + 1) (lim j - (now + 1)) : Nat) : Int)), .int (j : Int)])) ag (.lst (xs ++ [.ref u2]))) ag = some (.lst (xs ++ [.ref u2])) := upd_same
          have s68 := s7.trans su
          show ∃ (y6 : Option V) (pq' : Nat → Addr) (xs' : List V), _ ∧ Kp [dp, ag] H3 (upd (upd H7 u2 (.tup [.int (0 - ((szP (now + 1) (lim j - (now + 1)) : Nat) : Int)), .int (j : Int)])) ag (.lst (xs ++ [.ref u2]))) ∧ _
          generalize upd H7 u2 (.tup [.int (0 - ((szP (now + 1) (lim j - (now + 1)) : Nat) : Int)), .int (j : Int)]) = H8 at ka eu2 ea8 ma s68 eag9 ⊢
          have k68 : Kp [ag] H6 (upd H8 ag (.lst (xs ++ [.ref u2]))) := kp_trans (kp_same s68) ka
          have m6 : Mu H6 [ag] := mu_lst ea6 mu_nil
          refine ⟨_, fun x => if x = j then q2 else pq x, xs ++ [.ref u2], rfl, kp_trans k6 (kp_more k68 fun a m => by rw [List.mem_singleton.mp m]; exact memB memA), k68.at_ _ _ ed6 (not_cons ndag not_nil), fun i mi => (el6 i mi).kp k68 m6 (not_cons (na6 i mi) not_nil), fr6, na6, eag9, ?_⟩
          rw [List.filter_cons_of_pos (by simpa using hr0), List.filter_nil]
          exact AgAt.add (A6.kp k68 m6) (kp_tup ka ma eu2)
        · have hr1 : lim j - (now + 1) = 0 := by omega
          rw [hr1, pcR_zero] at e3
          have hus : us = [] := List.length_eq_zero_iff.mp e3
          subst hus
          refine ifF rfl (pNx ?_)
          refine ⟨_, fun x => if x = j then q2 else pq x, xs, rfl, k7, s7 _ _ ed6, fun i mi => (el6 i mi).same s7, fr6, na6, s7 _ _ ea6, ?_⟩
          rw [List.filter_cons_of_neg (by simpa using hr0), List.filter_nil, List.append_nil]
          exact A6.kp (cs := []) (kp_same s7) mu_nil
      · rintro σ H4 ⟨y6, pq, xs, rfl, k4, ed4, el4, fr4, na4, ea4, A4⟩
        rw [List.length_map, List.take_length] at el4 A4
        have m4 : Mu H4 [dp, ag] := mu_cons ed4 (fun _ z => nomatch z) (fun _ z => nomatch z) (mu_lst ea4 mu_nil)
        have eD4 := k4.at_ _ _ eD3 (not_cons (neO eD3 ed3 (fun z => nomatch z)) (not_cons nDag not_nil))
        have ep4 := k4.at_ _ _ ep3 (not_cons (neO ep3 ed3 (fun z => nomatch z)) (not_cons npag not_nil))
        have es4 := k4.at_ _ _ es3 (not_cons st.ne (not_cons nsag not_nil))
        have hAl : (E.filter fun i => decide (now + 1 < lim i)).length ≤ 1000 := by
          have h1 := List.length_filter_le (fun i => decide (now + 1 < lim i)) E
          omega
        dsimp only []
        refine pSeq (pAsg (pOp (lc_pops eD4 (by omega) fun r1 ys1 H5 fr1 s5 e5 w5 => ?_)))
        refine lc_push (sz := fun i => szP (now + 1) (lim i - (now + 1))) (s5 _ _ ea4) (A4.kp (cs := []) (kp_same s5) mu_nil) hAl fun r2 ys2 B H6 fr2 s6 e6 w6 hB hBs => ?_
        have hBl := hB.length_eq
        have l1 := w5.len
        have l2 := w6.len
        rw [List.length_map, List.length_reverse] at l1
        rw [List.length_map] at l2
        refine ⟨r1, r2, ys1, ys2, rfl, rfl, s6 _ _ e5, e6, by rw [sizeLine_eq]; omega, fun p np => pGN ?_⟩
        simp only [List.set_cons_succ, List.set_cons_zero]
        have fp := Fr.mk np
        have s7 := same_newF (o := .lst (ys1 ++ ys2)) fp
        have s47 := s5.trans (s6.trans s7)
        have ee7 : upd H6 p (.lst (ys1 ++ ys2)) p = some (.lst (ys1 ++ ys2)) := upd_same
        have ww7 := ((w5.kp (cs := []) (kp_same s6) mu_nil).app w6).kp (cs := []) (kp_same s7) mu_nil
        have fpH : Fr H p := Fr.mk (s03.free (fr_kp k4 m4 (Fr.mk (s5.free (s6.free np)))).h)
        generalize upd H6 p (.lst (ys1 ++ ys2)) = H7 at s7 s47 ee7 ww7 ⊢
        have A7 := A4.kp (cs := []) (kp_same s47) mu_nil
        refine pSeq (pOp (lc_low (s47 _ _ ep4) (s47 _ _ eD4) hl fun r3 fr3 H8 s8 e8 => ?_))
        refine lc_back (sz := fun i => szP (now + 1) (lim i - (now + 1))) (s8 _ _ (s47 _ _ ea4)) (A7.kp (cs := []) (kp_same s8) mu_nil) hAl fun r4 B2 H9 fr4' s9 e9 hB2 hBs2 => ?_
        have hBB : B2 = B := pw_eqG (fun a b h1 h2 => by omega) (hB2.trans hB.symm) hBs2 hBs
        subst hBB
        have hfl := List.length_filter_le (fun i => decide (i ∉ E)) S
        refine ⟨r3, r4, _, _, rfl, rfl, s9 _ _ e8, e9, by rw [List.length_map, List.length_map, sizeLine_eq]; omega, fun p2 np2 => ?_⟩
        rw [← List.map_append]
        have fp2 := Fr.mk np2
        have s10 := same_newF (o := .lst ((S.filter (fun i => decide (i ∉ E)) ++ B2).map nV)) fp2
        have ep10 : upd H9 p2 (.lst ((S.filter (fun i => decide (i ∉ E)) ++ B2).map nV)) p2 = some (.lst ((S.filter (fun i => decide (i ∉ E)) ++ B2).map nV)) := upd_same
        have fp2H : Fr H p2 := Fr.mk (s03.free (fr_kp k4 m4 (Fr.mk (s47.free (s8.free (s9.free np2))))).h)
        have s49 := s47.trans (s8.trans s9)
        have npq : ∀ i ∈ S, pq i ≠ p2 := fun i mi => by
          obtain ⟨ts, e, _⟩ := el4 i mi
          exact ne_of_none (s49 _ _ e) np2
        have s710 := s8.trans (s9.trans s10)
        have s410 := s49.trans s10
        have npp2 : p ≠ p2 := ne_of_none ((s8.trans s9) _ _ ee7) np2
        generalize upd H9 p2 (.lst ((S.filter (fun i => decide (i ∉ E)) ++ B2).map nV)) = H10 at s10 ep10 s710 s410 ⊢
        have es10 := s410 _ _ es4
        have hP1 := DPut.k (k := kP) (v := .ref p2) es10 (by rw [sizeLine_eq]; exact Nat.le_trans (show 4 ≤ 100 by decide) (by decide))
        rw [stD_put1] at hP1
        refine ⟨_, rfl, s, _, rfl, hP1, ?_⟩
        have es11 : upd H10 s (.dK (stD p2 dp now)) s = some (.dK (stD p2 dp now)) := upd_same
        have hP2 := DPut.k (k := kN) (v := .int ((now + 1 : Nat) : Int)) es11 (by rw [sizeLine_eq]; exact Nat.le_trans (show 4 ≤ 100 by decide) (by decide))
        rw [stD_put3] at hP2
        dsimp only []
        refine pSeq ⟨_, rfl, _, rfl, s, _, rfl, hP2, ?_⟩
        have kE : Kp [s] H10 (upd (upd H10 s (.dK (stD p2 dp now))) s (.dK (stD p2 dp (now + 1)))) := kp_up memA (kp_up memA (kp_refl _ _))
        have es12 : upd (upd H10 s (.dK (stD p2 dp now))) s (.dK (stD p2 dp (now + 1))) s = some (.dK (stD p2 dp (now + 1))) := upd_same
        dsimp only []
        generalize upd (upd H10 s (.dK (stD p2 dp now))) s (.dK (stD p2 dp (now + 1))) = H12 at kE es12 ⊢
        have m10 : Mu H10 [s] := mu_cons es10 (fun _ z => nomatch z) (fun _ z => nomatch z) mu_nil
        have ns_p : p ≠ s := neO (s710 _ _ ee7) es10 (fun z => nomatch z)
        have ns_p2 : p2 ≠ s := neO ep10 es10 (fun z => nomatch z)
        have kk : Kp [s, dp, ag] H3 H12 := kp_trans (kp_more k4 fun a m => memB m) (kp_trans (kp_same s410) (kp_more kE fun a m => by rw [List.mem_singleton.mp m]; exact memA))
        have kH : Kp [s, dp] H H12 := kp_fresh (kp_same s03) kk fun x m => by
          rcases List.mem_cons.mp m with rfl | m
          · exact .inl memA
          rcases List.mem_cons.mp m with rfl | m
          · exact .inl (memB memA)
          · rw [List.mem_singleton.mp m]
            exact .inr fag0
        refine ⟨_, rfl, q p _ H12 p2 pq B2 kH fpH (kE.at_ _ _ (s710 _ _ ee7) (not_cons ns_p not_nil)) ((by rw [List.map_append] at *; exact (ww7.kp (cs := []) (kp_same s710) mu_nil).kp kE m10)) (hB) hBs ⟨es12, kE.at_ _ _ ep10 (not_cons ns_p2 not_nil), kE.at_ _ _ (s410 _ _ ed4) (not_cons st.ne.symm not_nil), fun i mi => ?_, st.ne⟩ fp2H fun i mi => (fr4 i mi).imp id fun f => ⟨f, npq i mi⟩⟩
        have miS : i ∈ S := by
          rcases List.mem_append.mp mi with m | m
          · exact (List.mem_filter.mp m).1
          · exact (hES i (List.mem_filter.mp (hB.mem_iff.mp m)).1).1
        have h1 := ((el4 i miS).same s410).kp kE m10 (not_cons (by
          obtain ⟨ts, f1, _⟩ := (el4 i miS).same s410
          exact neO f1 es10 (fun z => nomatch z)) not_nil)
        by_cases c : ends i = now + 1
        · rw [if_pos c]
          rwa [if_pos (by rw [← hE]; exact List.mem_filter.mpr ⟨miS, decide_eq_true c⟩)] at h1
        · rw [if_neg c]
          rwa [if_neg fun z => c (hES i z).2] at h1
end
end Ob

set_option Elab.async false
set_option linter.all false
set_option maxRecDepth 100000
set_option maxHeartbeats 1000000
namespace Ob
open PySem PySem.Spec PyProof.Rows L2
open LamX (Tabs TabB TabS ExtN)

set_option hygiene false in
local macro_rules
  | `(tactic| kp_flats) => `(tactic| first
    | assumption
    | exact upd_same
    | (apply atNew; assumption; kp_flats)
    | (apply atNe; (next => kbo_bools); kp_flats)
    | (apply atSame; assumption; kp_flats)
    | (apply atKp; assumption; (next => kaf_pre); kp_flats))
set_option hygiene false in
local macro_rules
  | `(tactic| kaf_pre) => `(tactic| first
    | assumption
    | exact not_nil
    | (apply not_cons; (next => kbo_bools); kaf_pre)
    | (apply not_app; (next => kaf_pre); kaf_pre))
set_option hygiene false in
local macro_rules
  | `(tactic| kbo_bools) => `(tactic| first
    | assumption
    | (apply Ne.symm; assumption)
    | (apply neN; assumption; kp_flats)
    | (apply neN'; assumption; kp_flats))
set_option hygiene false in
local macro_rules
  | `(tactic| o_reads) => `(tactic| first
    | with_reducible rfl
    | assumption
    | rfl
    | kp_flats
    | (show SqL _ _ _ _; first | assumption | (apply sqlOf; kp_flats) | (apply sqlSame; assumption; o_reads))
    | (show SqT _ _ _ _; first | assumption | (apply sqtOf; kp_flats) | (apply sqtAll; assumption) | (apply sqtSame; assumption; o_reads))
    | (show Cls _ _; first | exact T.cl_Calls | exact T.cl_Outer | exact T.cl_Timed)
    | (show NoAttr _ _ _; first | exact T.n_Calls_entries | exact T.n_Calls_running | exact T.n_Outer_calls | exact T.n_Outer_push_call | exact T.n_Outer_pop_call | exact T.n_Outer_ask_call | exact T.n_Outer_order | exact T.n_Outer_broken | exact T.n_Timed_outer | exact T.n_Timed_given | exact T.n_Timed_now | exact T.n_Timed_held | exact T.n_Timed_limits | exact T.n_Timed_ends)
    | (apply Or.inl; o_reads)
    | (apply Or.inr; o_reads)
    | (apply And.intro; (next => o_reads); o_reads)
    | (apply Exists.intro; o_reads)
    | exact Nat.le_of_ble_eq_true rfl
    | exact Nat.succ_ne_zero _
    | (show Fr _ _; kba_ints)
    | (show Same _ _; kd_subs)
    | (show Kp _ _ _; kxs_still)
    | (show (_ : Nat) ≤ _; simp only [List.length_append, List.length_map, List.length_cons, List.length_nil, List.length_take, List.length_drop, List.length_replicate, List.length_range, sizeLine_eq]; omega)
    | (show _ = none; apply Fr.h; kba_ints)
    | (show Bag _ _; first | assumption | (apply bag_putF; assumption; o_reads) | (apply bag_neF; (next => kbo_bools); o_reads) | (apply bag_kpR; assumption; (next => kaf_pre); o_reads))
    | omega
    | decide)
local macro_rules
  | `(tactic| o_readsAll) => `(tactic| repeat (first
    | (refine fun (pNew : Addr) (nNew : _ = none) => ?_; replace nNew := Fr.mk nNew)
    | (refine fun (xNew dNew : Addr) (nNew : _ = none) (mNew : _ = none) (eNew : dNew ≠ xNew) => ?_; replace nNew := Fr.mk nNew; replace mNew := Fr.mk mNew)
    | (apply And.intro; next => o_reads)
    | apply Exists.intro (α := V)
    | apply Exists.intro (α := Addr)
    | apply Exists.intro (α := Int)
    | apply Exists.intro (α := Bool)
    | apply Exists.intro (α := List V)
    | apply Exists.intro (α := List Nat)
    | apply Exists.intro (α := List (Str × V))
    | apply Exists.intro (α := List _)
    | apply Exists.intro (α := Str)
    | apply Exists.intro (α := HO)
    | apply Exists.intro (α := Sp)
    | apply Exists.intro (α := VK)))
set_option hygiene false in
local macro_rules
  | `(tactic| kba_ints) => `(tactic| first
    | assumption
    | (apply frUp; (first | assumption | (apply Ne.symm; assumption)); kba_ints)
    | (apply noneOf; assumption; intro oF eF; apply Exists.intro; kp_flats)
    | (apply frUp; (next => kbo_bools); kba_ints))
set_option hygiene false in
local macro_rules
  | `(tactic| kxs_still) => `(tactic| first
    | assumption
    | exact kp_refl _ _
    | (apply kp_newF; assumption; kxs_still)
    | (apply kp_new; assumption; kxs_still)
    | (apply kp_up; (next => o_fieldsN); kxs_still)
    | (apply kp_new; (next => kba_ints); kxs_still)
    | (apply kp_sameR; assumption; kxs_still)
    | (apply kp_transR; assumption; kxs_still)
    | (apply kp_freshR; assumption; (next => kaf_suf); kxs_still))
set_option hygiene false in
local macro_rules
  | `(tactic| kaf_suf) => `(tactic| first
    | assumption
    | exact subNil
    | (apply subCons; (first | (apply Or.inl; o_fieldsN) | (apply Or.inr; kba_ints)); kaf_suf)
    | (apply subApp; (next => kaf_suf); kaf_suf))
set_option hygiene false in
local macro_rules
  | `(tactic| o_fieldsN) => `(tactic| first
    | assumption
    | exact memA
    | (apply memB; o_fieldsN)
    | (apply memL; o_fieldsN)
    | (apply memR; o_fieldsN))
set_option hygiene false in
local macro_rules
  | `(tactic| kd_subs) => `(tactic| first
    | assumption
    | exact Same.refl _
    | (apply same_putF; assumption; kd_subs)
    | (apply same_putG; assumption; kd_subs)
    | (apply same_putF; (next => kba_ints); kd_subs)
    | (apply same_transR; assumption; kd_subs))

set_option pp.maxSteps 900
open NdefX (TabsN)
open Inf (Clo cut mend cellsOf)
/-! ### a collection with the law's own books -/
structure FX where
  (cl : CL3) (t o c l lm en s nm dp : Addr)
structure VS where
  (tr0 tr : List Ca) (given now : Nat) (M : List Nat) (mb : Nat → V) (lim ends : Nat → Nat)
structure BK where
  (ns : List V) (pl : Addr) (S : List Nat) (g now : Nat) (pa : Nat → Addr) (pc : Nat → List (Nat × Nat))
def PMt : Nat → V → Prop := fun _ _ => True
def own (x : FX) (b : BK) (p : Addr) : List Addr := [p, x.s, x.nm, x.dp, b.pl] ++ b.S.map b.pa
section
variable {P : Program} {w : World} {K : PySem.W.Frag} {mg : Str → Option Value} {base : Heap} {n : Nat} {T : Txt K mg}
def HsV (T : Txt K mg) (H : Hp) (F : List Addr) (x : FX) (v : VS) : Prop := HsT T.C_Timed T.C_Outer T.C_Calls PMt H F x.cl x.t x.o x.c x.l x.lm x.en v.tr0 v.tr v.given v.now v.M v.mb v.lim v.ends
def StV (H : Hp) (x : FX) (b : BK) : Prop := StB H x.s x.dp b.pl b.S b.g b.now b.pa b.pc
structure K1 (T : Txt K mg) (Hz : Hp) (av : List Addr) (p : Addr) (x : FX) (F : List Addr) (v : VS) (b : BK) (H : Hp) : Prop where
  tb : TabsN (TT T) H
  hs : HsV T H F x v
  bg : Bag H p
  st : StV H x b
  h2 : H x.nm = some (.lst b.ns)
  nt : NmT H b.ns
  ez : Eqv av Hz H
  sz : Sol Hz av
  dj : ∀ a ∈ own x b p ++ av, a ∉ F
  n1 : p ≠ x.nm
  n2 : ∀ a ∈ b.pl :: b.S.map b.pa, p ≠ a ∧ x.nm ≠ a
  n3 : b.pl ∉ b.S.map b.pa
  nav : ∀ a ∈ own x b p, a ∉ av
variable {Hz : Hp} {av : List Addr} {p : Addr} {x : FX} {F : List Addr} {v : VS} {b : BK} {H H1 : Hp}
theorem StV.sol (h : StV H x b) : Sol H (b.S.map b.pa) := by
  have e : ∀ a ∈ b.S.map b.pa, ∃ zs, H a = some (.lst zs) := fun a m => by
    obtain ⟨i, mi, rfl⟩ := List.mem_map.mp m
    obtain ⟨ts, e, _⟩ := h.el i mi
    exact ⟨_, e⟩
  refine ⟨fun a m => ?_, fun a m ps z => ?_⟩
  · obtain ⟨zs, e1⟩ := e a m
    exact mu_lst e1 mu_nil a memA
  · obtain ⟨zs, e1⟩ := e a m
    rw [e1] at z
    cases z
theorem K1.sol (h : K1 T Hz av p x F v b H) : Sol H (own x b p ++ av) := by
  obtain ⟨ys, e⟩ := bag_lst h.bg
  exact Sol.app (Sol.app (Sol.lst e (Sol.dK h.st.es (Sol.lst h.h2 (Sol.dK h.st.ed (Sol.lst h.st.ep Sol.nil))))) h.st.sol) (h.sz.eqv h.ez)
theorem own_p : p ∈ own x b p := memA
theorem own_s : x.s ∈ own x b p := memB memA
theorem own_nm : x.nm ∈ own x b p := memB (memB memA)
theorem own_dp : x.dp ∈ own x b p := memB (memB (memB memA))
theorem own_pl : b.pl ∈ own x b p := memB (memB (memB (memB memA)))
theorem own_pa {i : Nat} (m : i ∈ b.S) : b.pa i ∈ own x b p := memR (List.mem_map.mpr ⟨i, m, rfl⟩)
theorem StV.kp {cs : List Addr} (h : StV H x b) (k : Kp cs H H1) (m : Mu H cs) (n : ∀ a ∈ own x b p, a ∉ cs) : StV H1 x b :=
  ⟨k.at_ _ _ h.es (n _ own_s), k.at_ _ _ h.ep (n _ own_pl), k.at_ _ _ h.ed (n _ own_dp), fun i mi => (h.el i mi).kp k m (n _ (own_pa mi)), h.ne⟩
/-- all but cs is kept, which has none of the things -/
theorem K1.kp {cs : List Addr} (h : K1 T Hz av p x F v b H) (k : Kp cs H H1) (m : Mu H cs) (t : TabsN (TT T) H1) (n1 : ∀ a ∈ F, a ∉ cs) (nb : ∀ a ∈ own x b p ++ av, a ∉ cs) : K1 T Hz av p x F v b H1 :=
  ⟨t, HsT.kp h.hs k m n1, bag_kpR k (nb p (memL own_p)) h.bg, h.st.kp k m fun a ma => nb a (memL ma), k.at_ _ _ h.h2 (nb _ (memL own_nm)), h.nt.kp k m, h.ez.kp h.sz k fun a ma => nb a (memR ma), h.sz, h.dj, h.n1, h.n2, h.n3, h.nav⟩
theorem K1.same (h : K1 T Hz av p x F v b H) (s : Same H H1) : K1 T Hz av p x F v b H1 :=
  h.kp (cs := []) (kp_same s) mu_nil (tabs_same h.tb s) (fun _ _ => not_nil) fun _ _ => not_nil
theorem mu_tabs {H : Hp} (t : TabsN (TT T) H) {q : Addr} (hq : ∃ tb ∈ TT T, tb.1 = q) : Mu H [q] := by
  obtain ⟨tb, hm, rfl⟩ := hq
  obtain ⟨ps, h, _⟩ := t _ hm
  exact mu_cons h (fun _ z => nomatch z) (fun _ z => nomatch z) mu_nil
theorem K1.rd {q : Addr} (h : K1 T Hz av p x F v b H) (k : Kp [q] H H1) (t : TabsN (TT T) H1) (hq : ∃ tb ∈ TT T, tb.1 = q) : K1 T Hz av p x F v b H1 := by
  have hq' := hq
  obtain ⟨tb, hm, rfl⟩ := hq'
  exact h.kp k (mu_tabs h.tb hq) t (fun a ma z => (HsT.sol h.hs).tab h.tb _ hm (by rw [← List.mem_singleton.mp z]; exact ma)) fun a ma z => h.sol.tab h.tb _ hm (by rw [← List.mem_singleton.mp z]; exact ma)
theorem K1.mu (h : K1 T Hz av p x F v b H) : Mu H F := (HsT.sol h.hs).1
/-- the law's own books are written; what is new in them is new in the heap -/
theorem K1.book {cs : List Addr} {b' : BK} (h : K1 T Hz av p x F v b H) (k : Kp cs H H1) (hcs : ∀ a ∈ cs, a ∈ [x.s, x.dp, b.pl]) (st' : StV H1 x b') (hn : b'.ns = b.ns) (fr : ∀ a ∈ b'.pl :: b'.S.map b'.pa, a ∈ b.pl :: b.S.map b.pa ∨ Fr H a) (n3' : b'.pl ∉ b'.S.map b'.pa) : K1 T Hz av p x F v b' H1 := by
  have hown : ∀ a ∈ cs, a ∈ own x b p := fun a ma => by
    have m := hcs a ma
    rcases List.mem_cons.mp m with rfl | m
    · exact own_s
    rcases List.mem_cons.mp m with rfl | m
    · exact own_dp
    · rw [List.mem_singleton.mp m]
      exact own_pl
  have so := h.sol
  have m : Mu H cs := fun a ma => so.1 a (memL (hown a ma))
  have t1 : TabsN (TT T) H1 := tabsN_kpU h.tb k m fun q hq z => so.tab h.tb q hq (memL (hown _ z))
  obtain ⟨zs, eb⟩ := bag_lst h.bg
  have np : p ∉ cs := fun z => by
    have mm := hcs p z
    rcases List.mem_cons.mp mm with w | mm
    · exact neO eb h.st.es (fun z => nomatch z) w
    rcases List.mem_cons.mp mm with w | mm
    · exact neO eb h.st.ed (fun z => nomatch z) w
    · exact (h.n2 _ memA).1 (List.mem_singleton.mp mm)
  have nnm : x.nm ∉ cs := fun z => by
    have mm := hcs _ z
    rcases List.mem_cons.mp mm with w | mm
    · exact neO h.h2 h.st.es (fun z => nomatch z) w
    rcases List.mem_cons.mp mm with w | mm
    · exact neO h.h2 h.st.ed (fun z => nomatch z) w
    · exact (h.n2 _ memA).2 (List.mem_singleton.mp mm)
  have old : ∀ a ∈ own x b' p, a ∈ own x b p ∨ Fr H a := fun a ma => by
    rcases List.mem_append.mp ma with ma | ma
    · rcases List.mem_cons.mp ma with rfl | ma
      · exact .inl own_p
      rcases List.mem_cons.mp ma with rfl | ma
      · exact .inl own_s
      rcases List.mem_cons.mp ma with rfl | ma
      · exact .inl own_nm
      rcases List.mem_cons.mp ma with rfl | ma
      · exact .inl own_dp
      · rw [List.mem_singleton.mp ma]
        refine (fr b'.pl memA).imp (fun m => ?_) id
        rcases List.mem_cons.mp m with m | m
        · rw [m]
          exact own_pl
        · exact memR m
    · refine (fr a (memB ma)).imp (fun m => ?_) id
      rcases List.mem_cons.mp m with m | m
      · rw [m]
        exact own_pl
      · exact memR m
  refine ⟨t1, HsT.kp h.hs k m fun a ma z => h.dj a (memL (hown a z)) ma, bag_kpR k np h.bg, st', ?_, ?_, h.ez.kp h.sz k fun a ma z => h.nav a (hown a z) ma, h.sz, fun a ma => ?_, h.n1, fun a ma => ?_, n3', fun a ma => ?_⟩
  · rw [hn]
    exact k.at_ _ _ h.h2 nnm
  · rw [hn]
    exact h.nt.kp k m
  · rcases List.mem_append.mp ma with ma | ma
    · rcases old a ma with w | w
      · exact h.dj a (memL w)
      · exact h.mu.fr w
    · exact h.dj a (memR ma)
  · rcases fr a ma with w | w
    · exact h.n2 a w
    · exact ⟨ne_of_none eb w.h, ne_of_none h.h2 w.h⟩
  · rcases old a ma with w | w
    · exact h.nav a w
    · exact fun z => (h.sz.eqv h.ez).1.fr w z
theorem K1.put_nm {ys : List V} (h : K1 T Hz av p x F v b H) (hy : NmT H ys) : K1 T Hz av p x F v { b with ns := ys } (upd H x.nm (.lst ys)) := by
  have k : Kp [x.nm] H (upd H x.nm (.lst ys)) := kp_up memA (kp_refl _ _)
  have m : Mu H [x.nm] := mu_lst h.h2 mu_nil
  obtain ⟨zs, eb⟩ := bag_lst h.bg
  have nb : ∀ a ∈ [x.nm], a ∈ own x b p := fun a ma => by rw [List.mem_singleton.mp ma]; exact own_nm
  have n2 : ∀ {a : Addr}, a ∈ b.pl :: b.S.map b.pa → a ∉ [x.nm] := fun ma => not_cons (h.n2 _ ma).2.symm not_nil
  refine ⟨tabsN_kpU h.tb k m fun q hq => not_cons (tab_ne h.tb hq h.h2 (fun _ z => nomatch z)).symm not_nil, HsT.kp h.hs k m fun a ma z => h.dj a (memL (nb a z)) ma, bag_kpR k (not_cons h.n1 not_nil) h.bg, ⟨k.at_ _ _ h.st.es (not_cons (neO h.st.es h.h2 (fun z => nomatch z)) not_nil), k.at_ _ _ h.st.ep (n2 memA), k.at_ _ _ h.st.ed (not_cons (neO h.st.ed h.h2 (fun z => nomatch z)) not_nil), fun i mi => (h.st.el i mi).kp k m (n2 (memB (List.mem_map.mpr ⟨i, mi, rfl⟩))), h.st.ne⟩, upd_same, hy.kp k m, h.ez.kp h.sz k fun a ma z => h.nav a (nb a z) ma, h.sz, h.dj, h.n1, h.n2, h.n3, h.nav⟩
theorem K1.take (h : K1 T Hz av p x F v b H) (k : Kp [p] H H1) (bg : Bag H1 p) : K1 T Hz av p x F v b H1 := by
  obtain ⟨ys, e⟩ := bag_lst h.bg
  have mp : Mu H [p] := bag_mu h.bg
  have nb : ∀ a ∈ [p], a ∈ own x b p := fun a ma => by rw [List.mem_singleton.mp ma]; exact own_p
  have n2 : ∀ {a : Addr}, a ∈ b.pl :: b.S.map b.pa → a ∉ [p] := fun ma => not_cons (h.n2 _ ma).1.symm not_nil
  have t1 : TabsN (TT T) H1 := tabsN_kpU h.tb k mp fun q hq => not_cons (tab_ne h.tb hq e (fun _ z => nomatch z)).symm not_nil
  exact ⟨t1, HsT.kp h.hs k mp fun a ma z => h.dj a (memL (nb a z)) ma, bg, ⟨k.at_ _ _ h.st.es (not_cons (neO h.st.es e (fun z => nomatch z)) not_nil), k.at_ _ _ h.st.ep (n2 memA), k.at_ _ _ h.st.ed (not_cons (neO h.st.ed e (fun z => nomatch z)) not_nil), fun i mi => (h.st.el i mi).kp k mp (n2 (memB (List.mem_map.mpr ⟨i, mi, rfl⟩))), h.st.ne⟩, k.at_ _ _ h.h2 (not_cons h.n1.symm not_nil), h.nt.kp k mp, h.ez.kp h.sz k fun a ma z => h.nav a (nb a z) ma, h.sz, h.dj, h.n1, h.n2, h.n3, h.nav⟩
/-- the collection has done something -/
theorem K1.step {F' : List Addr} {v' : VS} (h : K1 T Hz av p x F v b H) (k : Kp (T.p_next_pieces :: F) H H1) (t : TabsN (TT T) H1) (g : HsV T H1 F' x v') (dj : ∀ a ∈ own x b p ++ av, a ∉ F') (e : Eqv (own x b p ++ av) H H1) : K1 T Hz av p x F' v' b H1 := by
  have m : Mu H (T.p_next_pieces :: F) := mu_app (mu_tabs h.tb ⟨_, hm_next_pieces T, rfl⟩) (HsT.sol h.hs).1
  have so := h.sol
  have no : ∀ a ∈ own x b p, a ∉ T.p_next_pieces :: F := fun a ma z => by
    rcases List.mem_cons.mp z with z | z
    · exact so.tab h.tb _ (hm_next_pieces T) (by rw [← z]; exact memL ma)
    · exact h.dj a (memL ma) z
  exact ⟨t, g, bag_kpR k (no _ own_p) h.bg, h.st.kp k m no, (e _ (memL own_nm)).trans h.h2, h.nt.kp k m, fun a ma => (e a (memR ma)).trans (h.ez a ma), h.sz, dj, h.n1, h.n2, h.n3, h.nav⟩
def VS.add (s : VS) (m : V) (u : Nat) : VS := { s with tr := s.tr ++ [.push s.given m], given := s.given + 1, M := s.M ++ [s.given], mb := fun x => if x = s.given then m else s.mb x, lim := fun x => if x = s.given then u else s.lim x, ends := fun x => if x = s.given then s.now + 1 else s.ends x }
def VS.tick (s : VS) (B : List Nat) : VS := { s with tr := s.tr ++ (tickW (endS s.ends (s.now + 1) (stC [] s.tr)) B).map (caOf s.mb), now := s.now + 1, M := s.M.filter fun i => decide (s.lim i ≠ s.now + 1), ends := enT s.lim s.ends (s.now + 1) }
/-- the pieces that begin at a tick, in their order -/
def BegN (v : VS) (B : List Nat) : Prop := B.Perm ((endS v.ends (v.now + 1) (stC [] v.tr)).filter fun i => decide (v.now + 1 < v.lim i)) ∧ (B.Pairwise fun a b => szP (v.now + 1) (v.lim b - (v.now + 1)) < szP (v.now + 1) (v.lim a - (v.now + 1)) ∨ (szP (v.now + 1) (v.lim a - (v.now + 1)) = szP (v.now + 1) (v.lim b - (v.now + 1)) ∧ a ≤ b))
theorem BegN.uniq {v : VS} {B C : List Nat} (h : BegN v B) (g : BegN v C) : B = C := pw_eqG (fun a b h1 h2 => by omega) (h.1.trans g.1.symm) h.2 g.2
theorem K1.add {m : V} {u : Nat} {Q : VK} (h : K1 T Hz av p x F v b H) (h1 : v.now < u) (h2 : u ≤ 1000000000) (htl : v.tr.length < 400000) (hML : v.M.length < 400000) (q : ∀ H' F', Kp F H H' → K1 T Hz av p x F' (v.add m u) b H' → Q (.int (v.given : Int)) H') :
    spTAdd P w K mg base T.C_Timed T.C_Outer T.C_Calls 2 [.ref x.t, m, .int (u : Int)] H Q E0 := by
  refine use_tadd T h.hs h.sol h.dj True.intro h1 h2 htl hML fun H' F' kk g dj e => ?_
  have sF := HsT.sol h.hs
  have t' : TabsN (TT T) H' := tabsN_kpU h.tb kk sF.1 fun p hp => sF.tab h.tb p hp
  exact q H' F' kk (h.step (kp_more kk fun a m => memB m) t' (v' := v.add m u) g dj e)
theorem K1.tick {Q : VK} (h : K1 T Hz av p x F v b H) (htl : v.tr.length < 390000) (hML : v.M.length < 50000) (hlm : ∀ i ∈ v.M, v.lim i ≤ 1000000000) (q : ∀ r H' F' B, Kp (T.p_next_pieces :: F) H H' → BegN v B → K1 T Hz av p x F' (v.tick B) b H' → Q (.ref r) H') :
    spTick P w K mg base T 2 [.ref x.t] H Q E0 := by
  refine use_tick T h.hs h.sol h.dj h.tb htl hML hlm fun r H' F' B G kk t' fr er hG hG2 hst hB hBs g dj e => ?_
  exact q r H' F' B kk ⟨hB, hBs⟩ (h.step kk t' (v' := v.tick B) g dj e)
theorem K1.plan {Q : VK} (h : K1 T Hz av p x F v b H) (hML : v.M.length < 50000) (hlm : ∀ i ∈ v.M, v.lim i ≤ 1000000000) (q : ∀ r ys H' B, Kp [T.p_next_pieces] H H' → Fr H r → H' r = some (.lst ys) → WLog H' ys (tickW (endS v.ends (v.now + 1) (stC [] v.tr)) B) → BegN v B → K1 T Hz av p x F v b H' → Q (.ref r) H') : spPTick T [.ref x.t] H Q E0 :=
  ⟨x.t, x.o, x.c, x.l, x.lm, x.en, _, _, _, _, PMt, _, _, _, _, _, _, _, _, rfl, HsT.tmat h.hs, h.tb, hML, hlm, fun r ys B H' k t f e w hB hBs => q r ys H' B k f e w ⟨hB, hBs⟩ (h.rd k t ⟨_, hm_next_pieces T, rfl⟩)⟩
theorem K1.padd {Q : VK} (h : K1 T Hz av p x F v b H) (q : ∀ r ys H', Same H H' → Fr H r → H' r = some (.lst ys) → WLog H' ys [(("push" : Str), v.given)] → K1 T Hz av p x F v b H' → Q (.ref r) H') : spTPAdd T [.ref x.t] H Q E0 :=
  ⟨x.t, x.o, x.c, x.l, x.lm, x.en, _, _, _, _, PMt, _, _, _, _, _, _, _, _, rfl, HsT.tmat h.hs, fun r ys H' k f e w => q r ys H' k f e w (h.same k)⟩
theorem K1.stk {Q : VK} (h : K1 T Hz av p x F v b H) (q : ∀ r, H r = none → K1 T Hz av p x F v b (upd H r (.lst ((stC [] v.tr).map nV))) → Q (.ref r) (upd H r (.lst ((stC [] v.tr).map nV)))) : spTStk T.C_Timed T.C_Outer T.C_Calls [.ref x.t] H Q E0 :=
  ⟨x.t, x.o, x.c, x.l, x.lm, x.en, _, _, _, _, PMt, _, _, _, _, _, _, _, _, rfl, HsT.tmat h.hs, fun r nr => q r nr (h.same (same_newF (Fr.mk nr)))⟩
theorem K1.log {Q : VK} (h : K1 T Hz av p x F v b H) (q : ∀ r es H', Same H H' → Fr H r → H' r = some (.lst es) → LogC H' es v.tr → K1 T Hz av p x F v b H' → Q (.ref r) H') : spTLog T.C_Timed T.C_Outer T.C_Calls [.ref x.t] H Q E0 :=
  ⟨x.t, x.o, x.c, x.l, x.lm, x.en, _, _, _, _, PMt, _, _, _, _, _, _, _, _, rfl, HsT.tmat h.hs, fun r es H' s f e w => q r es H' s f e w (h.same s)⟩
theorem K1.obj (h : K1 T Hz av p x F v b H) : ∃ dx hd, H x.t = some (TO T.C_Timed dx x.o v.given v.now hd x.lm x.en) := by
  obtain ⟨dx, hd, od, _, e, _⟩ := h.hs.ft
  exact ⟨dx, hd, e⟩
theorem K1.inF (h : K1 T Hz av p x F v b H) : x.cl.pn ∈ F := by
  obtain ⟨dx, hd, od, eF, _⟩ := h.hs.ft
  rw [eF]
  exact memB (memB (memB (memB (memB (memB (memB (memB (memB memA))))))))
/-- the notes, since the books were cleared -/
theorem K1.notes (h : K1 T Hz av p x F v b H) : ∃ tr1 zs, v.tr = v.tr0 ++ tr1 ∧ H x.cl.pn = some (.lst zs) ∧ TupL H zs (ntC (stV [] v.tr0) tr1) := by
  obtain ⟨dx, hd, od, _, _, _, _, o⟩ := h.hs.ft
  exact o.r.2.2.2
theorem K1.clear (h : K1 T Hz av p x F v b H) : K1 T Hz av p x F { v with tr0 := v.tr } b (upd H x.cl.pn (.lst [])) := by
  have inF := h.inF
  obtain ⟨⟨dx, hd, od, rfl, e1, e2, n1, ⟨d1, o1⟩, ⟨d2, o2⟩, ⟨xs, o3, o3'⟩, o4, r, b1, b2, b3⟩, g1, g2, g3, g4, g5, g6, g7⟩ := h.hs
  obtain ⟨hc, p1, pne, tr1, ns, p0, p2, p3⟩ := r
  have k : Kp [x.cl.pn] H (upd H x.cl.pn (.lst [])) := kp_up memA (kp_refl _ _)
  have m : Mu H [x.cl.pn] := mu_lst p2 mu_nil
  have bb := b3 x.cl.pn (memB memA)
  have b7 := g7 x.cl.pn (memB memA)
  have nb : ∀ a ∈ own x b p ++ av, a ∉ [x.cl.pn] := fun a ma z => h.dj a ma (by rw [List.mem_singleton.mp z]; exact inF)
  refine ⟨tabsN_kpU h.tb k m fun q hq => not_cons (tab_ne h.tb hq p2 (fun _ z => nomatch z)).symm not_nil, ⟨⟨dx, hd, od, rfl, k.at_ _ _ e1 (not_cons b7.1.symm not_nil), k.at_ _ _ e2 (not_cons (fun z => n1 (by rw [z]; exact memB (memB (memB (memB (memB (memB (memB memA)))))))) not_nil), n1, ⟨d1, k.at_ _ _ o1 (not_cons bb.1.symm not_nil)⟩, ⟨d2, k.at_ _ _ o2 (not_cons bb.2.1.symm not_nil)⟩, ⟨xs, k.at_ _ _ o3 (not_cons bb.2.2.1.symm not_nil), o3'.kp k m⟩, k.at_ _ _ o4 (not_cons bb.2.2.2.symm not_nil), ⟨hc.kp k m, k.at_ _ _ p1 (not_cons pne not_nil), pne, [], [], (List.append_nil _).symm, upd_same, TupL.nil⟩, b1, b2, b3⟩, k.at_ _ _ g1 (not_cons b7.2.1.symm not_nil), k.at_ _ _ g2 (not_cons b7.2.2.symm not_nil), g3, g4, g5, g6, g7⟩, bag_kpR k (nb p (memL own_p)) h.bg, h.st.kp k m fun a ma => nb a (memL ma), k.at_ _ _ h.h2 (nb _ (memL own_nm)), h.nt.kp k m, h.ez.kp h.sz k fun a ma => nb a (memR ma), h.sz, h.dj, h.n1, h.n2, h.n3, h.nav⟩
end
end Ob

set_option Elab.async false
set_option linter.all false
set_option maxRecDepth 100000
set_option maxHeartbeats 1000000
namespace Ob
open PySem PySem.Spec PyProof.Rows L2
open LamX (Tabs TabB TabS ExtN)

set_option hygiene false in
local macro_rules
  | `(tactic| kp_flats) => `(tactic| first
    | assumption
    | exact upd_same
    | (apply atNew; assumption; kp_flats)
    | (apply atNe; (next => kbo_bools); kp_flats)
    | (apply atSame; assumption; kp_flats)
    | (apply atKp; assumption; (next => kaf_pre); kp_flats))
set_option hygiene false in
local macro_rules
  | `(tactic| kaf_pre) => `(tactic| first
    | assumption
    | exact not_nil
    | (apply not_cons; (next => kbo_bools); kaf_pre)
    | (apply not_app; (next => kaf_pre); kaf_pre))
set_option hygiene false in
local macro_rules
  | `(tactic| kbo_bools) => `(tactic| first
    | assumption
    | (apply Ne.symm; assumption)
    | (apply neN; assumption; kp_flats)
    | (apply neN'; assumption; kp_flats))
set_option hygiene false in
local macro_rules
  | `(tactic| o_reads) => `(tactic| first
    | with_reducible rfl
    | assumption
    | rfl
    | kp_flats
    | (show SqL _ _ _ _; first | assumption | (apply sqlOf; kp_flats) | (apply sqlSame; assumption; o_reads))
    | (show SqT _ _ _ _; first | assumption | (apply sqtOf; kp_flats) | (apply sqtAll; assumption) | (apply sqtSame; assumption; o_reads))
    | (show Cls _ _; first | exact T.cl_Calls | exact T.cl_Outer | exact T.cl_Timed)
    | (show NoAttr _ _ _; first | exact T.n_Calls_entries | exact T.n_Calls_running | exact T.n_Outer_calls | exact T.n_Outer_push_call | exact T.n_Outer_pop_call | exact T.n_Outer_ask_call | exact T.n_Outer_order | exact T.n_Outer_broken | exact T.n_Timed_outer | exact T.n_Timed_given | exact T.n_Timed_now | exact T.n_Timed_held | exact T.n_Timed_limits | exact T.n_Timed_ends)
    | (apply Or.inl; o_reads)
    | (apply Or.inr; o_reads)
    | (apply And.intro; (next => o_reads); o_reads)
    | (apply Exists.intro; o_reads)
    | exact Nat.le_of_ble_eq_true rfl
    | exact Nat.succ_ne_zero _
    | (show Fr _ _; kba_ints)
    | (show Same _ _; kd_subs)
    | (show Kp _ _ _; kxs_still)
    | (show (_ : Nat) ≤ _; simp only [List.length_append, List.length_map, List.length_cons, List.length_nil, List.length_take, List.length_drop, List.length_replicate, List.length_range, sizeLine_eq]; omega)
    | (show _ = none; apply Fr.h; kba_ints)
    | (show Bag _ _; first | assumption | (apply bag_putF; assumption; o_reads) | (apply bag_neF; (next => kbo_bools); o_reads) | (apply bag_kpR; assumption; (next => kaf_pre); o_reads))
    | omega
    | decide)
local macro_rules
  | `(tactic| o_readsAll) => `(tactic| repeat (first
    | (refine fun (pNew : Addr) (nNew : _ = none) => ?_; replace nNew := Fr.mk nNew)
    | (refine fun (xNew dNew : Addr) (nNew : _ = none) (mNew : _ = none) (eNew : dNew ≠ xNew) => ?_; replace nNew := Fr.mk nNew; replace mNew := Fr.mk mNew)
    | (apply And.intro; next => o_reads)
    | apply Exists.intro (α := V)
    | apply Exists.intro (α := Addr)
    | apply Exists.intro (α := Int)
    | apply Exists.intro (α := Bool)
    | apply Exists.intro (α := List V)
    | apply Exists.intro (α := List Nat)
    | apply Exists.intro (α := List (Str × V))
    | apply Exists.intro (α := List _)
    | apply Exists.intro (α := Str)
    | apply Exists.intro (α := HO)
    | apply Exists.intro (α := Sp)
    | apply Exists.intro (α := VK)))
set_option hygiene false in
local macro_rules
  | `(tactic| kba_ints) => `(tactic| first
    | assumption
    | (apply frUp; (first | assumption | (apply Ne.symm; assumption)); kba_ints)
    | (apply noneOf; assumption; intro oF eF; apply Exists.intro; kp_flats)
    | (apply frUp; (next => kbo_bools); kba_ints))
set_option hygiene false in
local macro_rules
  | `(tactic| kxs_still) => `(tactic| first
    | assumption
    | exact kp_refl _ _
    | (apply kp_newF; assumption; kxs_still)
    | (apply kp_new; assumption; kxs_still)
    | (apply kp_up; (next => o_fieldsN); kxs_still)
    | (apply kp_new; (next => kba_ints); kxs_still)
    | (apply kp_sameR; assumption; kxs_still)
    | (apply kp_transR; assumption; kxs_still)
    | (apply kp_freshR; assumption; (next => kaf_suf); kxs_still))
set_option hygiene false in
local macro_rules
  | `(tactic| kaf_suf) => `(tactic| first
    | assumption
    | exact subNil
    | (apply subCons; (first | (apply Or.inl; o_fieldsN) | (apply Or.inr; kba_ints)); kaf_suf)
    | (apply subApp; (next => kaf_suf); kaf_suf))
set_option hygiene false in
local macro_rules
  | `(tactic| o_fieldsN) => `(tactic| first
    | assumption
    | exact memA
    | (apply memB; o_fieldsN)
    | (apply memL; o_fieldsN)
    | (apply memR; o_fieldsN))
set_option hygiene false in
local macro_rules
  | `(tactic| kd_subs) => `(tactic| first
    | assumption
    | exact Same.refl _
    | (apply same_putF; assumption; kd_subs)
    | (apply same_putG; assumption; kd_subs)
    | (apply same_putF; (next => kba_ints); kd_subs)
    | (apply same_transR; assumption; kd_subs))

set_option pp.maxSteps 1500
open NdefX (TabsN)
theorem dpAll_app {K : PySem.W.Frag} {H : Hp} : ∀ {xs ys : List V} {ds es : List PyData}, DpAll K H xs ds → DpAll K H ys es → DpAll K H (xs ++ ys) (ds ++ es)
  | [], _, _, _, .nil, g => g
  | _ :: _, _, _, _, .cons h t, g => .cons h (dpAll_app t g)
theorem dpa_log {K : PySem.W.Frag} {H : Hp} {es : List V} {tr : List Ca} (h : LogC H es tr) : DpAll K H es (tr.map caD) := by
  refine dpAll_of (by rw [List.length_map, h.len]) fun q x d a1 a2 => ?_
  rw [List.getElem?_map] at a2
  obtain ⟨e, he, rfl⟩ := Option.map_eq_some_iff.mp a2
  obtain ⟨p, rfl, e2⟩ := h.at_ q x e a1 he
  exact dp_ca e2
theorem dpa_wl {K : PySem.W.Frag} {H : Hp} {es : List V} {l : List (Str × Nat)} (h : WLog H es l) : DpAll K H es (l.map entW) := by
  refine dpAll_of (by rw [List.length_map, h.len]) fun q x d a1 a2 => ?_
  rw [List.getElem?_map] at a2
  obtain ⟨e, he, rfl⟩ := Option.map_eq_some_iff.mp a2
  obtain ⟨p, rfl, e2⟩ := h.at_ q x e a1 he
  exact .tup (sqtOf e2) (.cons (.str _) (.cons (.int _) .nil))
theorem Shw.int7 {i : Int} (h : i.natAbs < 100) : Shw 7 0 (.int i) := by
  have h1 : i.natAbs.log2 < 7 := by
    by_cases z : i.natAbs = 0
    · rw [z]
      decide
    · exact (Nat.log2_lt z).mpr (by omega)
  refine ⟨decide_eq_true (by omega), rfl, decide_eq_true (PyData.shown_int_le (by omega)), ?_, Nat.le_refl _⟩
  show (if i == 0 then 0 else i.natAbs.log2 + 1) ≤ 7
  split <;> omega
theorem shw_log2 {L : List (Str × Nat)} (h : ∀ e ∈ L, e.1 = ("pop" : Str) ∨ e.1 = ("push" : Str)) (hn : ∀ e ∈ L, e.2 < 100) (hl : L.length ≤ 30000) : Shw (2 ^ 20) 64 (.list (L.map entW)) := by
  refine (Shw.lst (w := 16) (p := 1) fun d m => ?_).mono ?_ (by decide)
  · obtain ⟨e, he, rfl⟩ := List.mem_map.mp m
    refine (Shw.tup (w := 7) (p := 0) (ds := [.str e.1, .int (e.2 : Int)]) fun d m => ?_).mono (Nat.le_refl _) (Nat.le_refl _)
    have hn := hn e he
    rcases List.mem_cons.mp m with rfl | m
    · rcases h e he with w | w
      · rw [w]
        exact (Shw.str (x := "pop") (by decide +kernel)).mono (by decide +kernel) (by decide)
      · rw [w]
        exact (Shw.str (x := "push") (by decide +kernel)).mono (by decide +kernel) (by decide)
    · rw [List.mem_singleton.mp m]
      exact Shw.int7 (by omega)
  · rw [List.length_map]
    have := Nat.mul_le_mul_right (16 + 1) hl
    have : (2 : Nat) ^ 20 = 1048576 := by decide
    omega
theorem actz_by {P : Program} {w : World} {K : PySem.W.Frag} {mg : Str → Option Value} {base : Heap} {n i : Nat} {fv : V} {σ : L2.St} {H : Hp} {Q : VK} (hs : σ[i]? = some (some fv)) (h : ∃ f o sp, fv = .ref f ∧ H f = some o ∧ Inf.FnHO f o ∧ L2.FnR P w K mg base CX0 n f sp ∧ sp [] H Q E0) : Inf.tActZ P w K mg base CX0 n i (fun _ => E0) σ H Q := by
  obtain ⟨f, o, sp, rfl, h1, h2, h3, h4⟩ := h
  exact ⟨f, o, sp, hs, h1, h2, h3, h4⟩
section
variable {P : Program} {w : World} {K : PySem.W.Frag} {mg : Str → Option Value} {base : Heap} {n : Nat}
/-- equal down to their kinds -/
def spAlike (K : PySem.W.Frag) : Sp := fun vs H Q _ => ∃ (u v : V) (d : PyData), vs = [u, v] ∧ Dp K H u d ∧ Dp K H v d ∧ Shw (2 ^ 20) 64 d ∧ Q (.bl true) H
theorem ok_alike (T : Txt K mg) : Inf.FnOkG P w K mg base CX0 1 T.f_l_alike T.d_l_alike ["_law_one", "_law_other"] (spAlike K) := by
  refine Inf.okG T.F_l_alike sc_l_alike (fun vs H Q E h => ?_) (fun cdv A outer s H vs Q E hG hr h => ?_)
  · obtain ⟨u, v, d, rfl, _⟩ := h
    rfl
  · obtain ⟨u, v, d, rfl, hu, hv, hs, q⟩ := h
    refine ⟨_, (pss_one (ps_ret (pe_cmpR op_eq (pe_callB (Inf.call_reprD hG (u16 hr)) (by rfl) T.z_repr (by decide +kernel) (pa_cons (pv 0) pa_nil)) (pe_callB (Inf.call_reprD hG (u16 hr)) (by rfl) T.z_repr (by decide +kernel) (pa_cons (pv 1) pa_nil)) (nomark _)))), ?_⟩
    have hi := dp_int hu hs.sh
    have hj := dp_int hv hs.sh
    have hf := hs.fits (Nat.le_refl _)
    refine ⟨_, rfl, u, d, rfl, hu, hs.sh, hs.nd, hs.dp, hf, hi, _, rfl, v, d, rfl, hv, hs.sh, hs.nd, hs.dp, hf, hj, ?_⟩
    rw [← show (V.bl (decide (V.str d.shown = V.str d.shown))) = .bl true by rw [decide_eq_true rfl]] at q
    exact ⟨rfl, q⟩
/-- a deed with the calls that were planned -/
def spStep (P : Program) (w : World) (K : PySem.W.Frag) (mg : Str → Option Value) (base : Heap) (n : Nat) (T : Txt K mg) : Sp := fun vs H Q _ => ∃ (Hz : Hp) (av : List Addr) (p : Addr) (x : FX) (F : List Addr) (v v' : VS) (b : BK) (ea : Addr) (ys : List V) (es el : List (Str × Nat)) (fv : V), vs = [.ref x.t, .ref x.s, .ref x.cl.pn, .ref x.nm, .ref ea, fv] ∧ K1 T Hz av p x F v b H ∧ H ea = some (.lst ys) ∧ ea ∉ T.p_next_pieces :: F ∧ WLog H ys es ∧
  (∀ (H1 : Hp) (Q1 : VK), Kp [x.cl.pn] H H1 → K1 T Hz av p x F { v with tr0 := v.tr } b H1 → (∀ u H2 F2, Kp (T.p_next_pieces :: F) H1 H2 → K1 T Hz av p x F2 v' b H2 → Q1 u H2) → ∃ f o sp, fv = .ref f ∧ H1 f = some o ∧ Inf.FnHO f o ∧ L2.FnR P w K mg base CX0 n f sp ∧ sp [] H1 Q1 E0) ∧
  v'.tr0 = v.tr ∧ v'.tr = v.tr ++ es.map (caOf v'.mb) ∧ ntC (stV [] v.tr) (es.map (caOf v'.mb)) = es.map (fun e => [V.str e.1, v'.mb e.2]) ∧ (∀ e ∈ es, b.ns[e.2]? = some (v'.mb e.2)) ∧
  v.tr.map caD = el.map entW ∧ (∀ e ∈ el ++ es, e.1 = ("pop" : Str) ∨ e.1 = ("push" : Str)) ∧ (∀ e ∈ el ++ es, e.2 < 100) ∧ (el ++ es).length ≤ 30000 ∧ b.S = stC [] v'.tr ∧ (∀ i ∈ b.S, i < 100) ∧ b.S.length ≤ 100 ∧
  ∀ H' F', Kp (T.p_next_pieces :: F) H H' → K1 T Hz av p x F' v' b H' → Q (.bl true) H'
theorem ok_step (T : Txt K mg) : Inf.FnOkG P w K mg base CX0 (n + 8) T.f_l_step T.d_l_step ["_law_house", "_law_state", "_law_notes", "_law_names", "_law_entries", "_law_call"] (spStep P w K mg base n T) := by
  have G_l_alike := ok_alike (P := P) (w := w) (base := base) T
  have G_Timed_log := ok_tlog (P := P) (w := w) (base := base) T
  have G_Timed_stack := ok_tstk (P := P) (w := w) (base := base) T
  refine Inf.okG T.F_l_step sc_l_step (fun vs H Q E h => ?_) (fun cdv A outer s H vs Q E hG hr h => ?_)
  · obtain ⟨Hz, av, p, x, F, v, v', b, ea, ys, es, el, fv, rfl, _⟩ := h
    rfl
  · obtain ⟨Hz, av, p, x, F, v, v', b, ea, ys, es, el, fv, rfl, k, hea, nea, hw, call, h0, htr, hnt, hnm, hel, hwd, hlt, hlen, hS, hS1, hS2, q⟩ := h
    refine ⟨_, (pss_cons (ps_expr (pe_bm0 PySem.F.plainAttrs_list PySem.F.slot_list_clear PySem.F.type_list_clear mt_clear (pv 2)))
      (pss_cons (ps_set (i := 6) sc_l_step.nd rfl (.inl rfl) (pe_meth0 (pv 0) T.cl_Timed ⟨T.m_Timed_log, T.t_Timed_log, T.k_Timed_log⟩ G_Timed_log (hr.mono (by omega)) T.b_Timed_log .nil pass0))
      (pss_cons (ps_expr (Inf.pe_actZ (i := 5) (CX := CX0) (k := n) (E := fun _ => E0) rfl (.inl rfl) (hr.mono (by omega)) (fun _ _ _ _ _ _ _ z => False.elim z)))
      (pss_cons (ps_if (pt_cmpR (op_neD hr.units) (pv 2) (pe_lc (own := [("_law_word", 8), ("_law_number", 7)]) (g := (gTup K 2 (gCons (gName 8) (gCons (gName 7) gNil)))) (tt := tYes) rfl sc_l_step.nd (pi_list (pv 4)) (blkOk_by (N := n_l_step) (sc := defScope s_l_step) (by decide +kernel)) (fun _ _ _ _ _ => (pg_tup (by rfl) (pgs_cons (pg_name (i := 8) sc_l_step.nd rfl (.inl rfl)) (pgs_cons (pg_name (i := 7) sc_l_step.nd rfl (.inl rfl)) pgs_nil)))) (fun _ _ _ _ _ => pts_nil) (fun _ _ _ _ _ => (pe_tup (pa_cons (pv 8) (pa_cons (pe_ix (r := rIxL K) ix_list (pv 3) (pv 7) (fun _ _ => rfl)) pa_nil))))) (nomark _)) (pss_one (ps_ret pe_bl)) pss_nil)
      (pss_one (ps_ret (pe_and (Inf.pe_callG G_l_alike hG (hr.mono (by omega)) rfl T.g_l_alike T.F_l_alike.kp T.b_l_alike pass0 (pa_cons (pe_meth0 (pv 0) T.cl_Timed ⟨T.m_Timed_log, T.t_Timed_log, T.k_Timed_log⟩ G_Timed_log (hr.mono (by omega)) T.b_Timed_log .nil pass0) (pa_cons (pe_op op_cat (pv 6) (pv 4)) pa_nil))) (pe_one (Inf.pe_callG G_l_alike hG (hr.mono (by omega)) rfl T.g_l_alike T.F_l_alike.kp T.b_l_alike pass0 (pa_cons (pe_meth0 (pv 0) T.cl_Timed ⟨T.m_Timed_stack, T.t_Timed_stack, T.k_Timed_stack⟩ G_Timed_stack (hr.mono (by omega)) T.b_Timed_stack .nil pass0) (pa_cons (pe_dget (hu_of hr) (pv 1) pe_str (fun _ _ => rfl)) pa_nil))))))))))), ?_⟩
    have z0 : L2.start n_l_step [V.ref x.t, V.ref x.s, V.ref x.cl.pn, V.ref x.nm, V.ref ea, fv] = [some (.ref x.t), some (.ref x.s), some (.ref x.cl.pn), some (.ref x.nm), some (.ref ea), some fv, none, none, none] := rfl
    rw [z0]
    clear z0
    obtain ⟨_, zs0, _, ezs, _⟩ := k.notes
    refine pSeq ⟨_, rfl, .inl ⟨rfl, _, sqlOf ezs⟩, x.cl.pn, zs0, rfl, rfl, ezs, ?_⟩
    have k1 := k.clear
    have kp1 : Kp [x.cl.pn] H (upd H x.cl.pn (.lst [])) := kp_up memA (kp_refl _ _)
    have m0 : Mu H [x.cl.pn] := mu_lst ezs mu_nil
    have inF := k.inF
    have hea1 := kp1.at_ _ _ hea (not_cons (fun z => nea (by rw [z]; exact memB inF)) not_nil)
    have hw1 := hw.kp kp1 m0
    dsimp only []
    generalize upd H x.cl.pn (.lst []) = H1 at k1 kp1 hea1 hw1 ⊢
    -- the log before
    obtain ⟨dx1, hd1, eo1⟩ := k1.obj
    refine pSeq (pAsg ⟨_, rfl, x.t, dx1, _, rfl, eo1, rfl, ?_⟩)
    dsimp only [tNil, List.map, List.cons_append, List.nil_append]
    refine K1.log k1 fun r zs2 H2 s2 fr2 er2 lg2 k2 => pGN ?_
    simp only [List.set_cons_succ, List.set_cons_zero]
    have kp2 : Kp [x.cl.pn] H H2 := kp_trans kp1 (kp_same s2)
    have m2 : Mu H2 (T.p_next_pieces :: F) := mu_app (mu_tabs k2.tb ⟨_, hm_next_pieces T, rfl⟩) k2.mu
    have m1 : Mu H1 (T.p_next_pieces :: F) := mu_app (mu_tabs k1.tb ⟨_, hm_next_pieces T, rfl⟩) k1.mu
    have nr : r ∉ T.p_next_pieces :: F := m1.fr fr2
    have hea2 := s2 _ _ hea1
    have hw2 := hw1.kp (cs := []) (kp_same s2) mu_nil
    -- the call
    refine pSeq (actz_by rfl (call H2 _ kp2 k2 fun u H3 F2 kk3 k3 => ?_))
    dsimp only []
    have er3 := kk3.at_ _ _ er2 nr
    have hea3 := kk3.at_ _ _ hea2 nea
    have lg3 := lg2.kp kk3 m2
    have hw3 := hw2.kp kk3 m2
    have kp3 : Kp (T.p_next_pieces :: F) H H3 := kp_trans (kp_more kp2 fun a m => by rw [List.mem_singleton.mp m]; exact memB inF) kk3
    clear hea hea1 hea2 hw hw1 hw2 er2 lg2 kk3 m1 m2 kp1 m0 ezs k1 eo1 s2 kp2 k2
    obtain ⟨tr1, zs, e1, e2, e3⟩ := k3.notes
    rw [h0, htr] at e1
    have e1 := List.append_cancel_left e1
    rw [h0, ← e1, hnt] at e3
    have hwE : ∀ e ∈ es, e.1 = ("pop" : Str) ∨ e.1 = ("push" : Str) := fun e m => hwd e (List.mem_append.mpr (.inr m))
    have hesl : es.length ≤ 30000 := by
      rw [List.length_append] at hlen
      omega
    have hyl := hw3.len
    have hns := k3.h2
    have hnt3 := k3.nt
    refine pSeq (pIf (pTest (pOp ⟨_, rfl, _, rfl, ea, rfl, ⟨_, sqlOf hea3⟩, fun D nD => ?_⟩)))
    have fD := Fr.mk nD
    refine lc_it (walk_list (K := K) (a := ea) (xs := ys)) (fun i H' => Same H3 H' ∧ ∃ ws, H' D = some (.lst ws) ∧ TupL H' ws ((es.take i).map fun e => [V.str e.1, v'.mb e.2])) ⟨same_newF fD, [], upd_same, TupL.nil⟩ (fun i H' _ z => sqlOf (z.1 _ _ hea3)) ?_ ?_
    · rintro i x2 H4' H4 hi ⟨s4, ws, eD, wl⟩ ⟨rfl, hx⟩
      obtain ⟨e, he⟩ : ∃ e, es[i]? = some e := ⟨_, List.getElem?_eq_getElem (by omega)⟩
      obtain ⟨t, rfl, et⟩ := hw3.at_ i x2 e hx he
      have hee := hnm e (List.mem_of_getElem? he)
      refine ⟨t, _, rfl, sqtOf (s4 _ _ et), rfl, _, _, rfl, _, _, rfl, rfl, rfl, ?_⟩
      unfold tYes
      refine ifT rfl ?_
      refine ⟨_, rfl, _, rfl, _, rfl, x.nm, b.ns, (e.2 : Int), v'.mb e.2, rfl, rfl, sqlOf (s4 _ _ hns), atI_nat (j := e.2) hee, le2, fun p2 np2 => ?_⟩
      have fp := Fr.mk np2
      have sp := same_newF (o := .tup [.str e.1, v'.mb e.2]) fp
      have kD : Kp [D] (upd H4 p2 (.tup [.str e.1, v'.mb e.2])) (upd (upd H4 p2 (.tup [.str e.1, v'.mb e.2])) D (.lst (ws ++ [.ref p2]))) := kp_up memA (kp_refl _ _)
      have eD2 := sp _ _ eD
      have mD : Mu (upd H4 p2 (.tup [.str e.1, v'.mb e.2])) [D] := mu_lst eD2 mu_nil
      have wl2 := (wl.kp (cs := []) (kp_same sp) mu_nil).kp kD mD
      have hwl := wl.len
      rw [List.length_map, List.length_take] at hwl
      refine ⟨ws, eD2, by rw [sizeLine_eq]; omega, same_putG fD (s4.trans sp), _, upd_same, ?_⟩
      rw [List.take_succ, he, List.map_append]
      exact wl2.add (kD.at_ _ _ upd_same (not_cons (ne_of_none eD np2).symm not_nil))
    · rintro H4 ⟨s4, ws, eD, wl⟩
      rw [show ys.length = es.length from hyl, List.take_length] at wl
      have hs := nt_sh hwE
      have d1 := dp_note (K := K) (s4 _ _ e2) (e3.kp (cs := []) (kp_same s4) mu_nil) (hnt3.kp (cs := []) (kp_same s4) mu_nil) hnm
      have d2 := dp_note (K := K) eD wl (hnt3.kp (cs := []) (kp_same s4) mu_nil) hnm
      refine ⟨_, _, d1, d2, hs, hs, _, rfl, ifF (eq_sh hs) (pNx ?_)⟩
      dsimp only []
      have k4 := k3.same s4
      obtain ⟨dx4, hd4, eo4⟩ := k4.obj
      refine ⟨_, rfl, x.t, dx4, _, rfl, eo4, rfl, ?_⟩
      dsimp only [tNil, List.map, List.cons_append, List.nil_append]
      refine K1.log k4 fun rg zs5 H5 s5 fg eg lg5 k5 => ?_
      have s45 := s4.trans s5
      have hzl := lg3.len
      have hcad : (es.map (caOf v'.mb)).map caD = es.map entW := cad_all hwE
      have htl : v.tr.length = el.length := by
        have := congrArg List.length hel
        rw [List.length_map, List.length_map] at this
        exact this
      have hall : v'.tr.map caD = (el ++ es).map entW := by
        rw [htr, List.map_append, hcad, hel, List.map_append]
      rw [List.length_append] at hlen
      refine ⟨_, rfl, _, rfl, r, ea, zs2, ys, rfl, rfl, s45 _ _ er3, s45 _ _ hea3, by rw [sizeLine_eq]; show zs2.length + ys.length ≤ _; have hz : zs2.length = v.tr.length := hzl; omega, fun rc nrc => ?_⟩
      have s6 := same_newF (o := .lst (zs2 ++ ys)) (Fr.mk nrc)
      have erc : upd H5 rc (.lst (zs2 ++ ys)) rc = some (.lst (zs2 ++ ys)) := upd_same
      have k6 := k5.same s6
      have sh : Shw (2 ^ 20) 64 (.list (v'.tr.map caD)) := by
        rw [hall]
        exact shw_log2 hwd hlt (by rw [List.length_append]; omega)
      have dA : Dp K (upd H5 rc (.lst (zs2 ++ ys))) (.ref rg) (.list (v'.tr.map caD)) := dp_log (s6 _ _ eg) (lg5.kp (cs := []) (kp_same s6) mu_nil)
      have s36 := s45.trans s6
      have dB : Dp K (upd H5 rc (.lst (zs2 ++ ys))) (.ref rc) (.list (v'.tr.map caD)) := by
        have e0 : v'.tr.map caD = v.tr.map caD ++ es.map entW := by rw [htr, List.map_append, hcad]
        rw [e0]
        exact .lst (sqlOf erc) (dpAll_app (dpa_log (lg3.kp (cs := []) (kp_same s36) mu_nil)) (dpa_wl (hw3.kp (cs := []) (kp_same s36) mu_nil)))
      refine ⟨.ref rg, .ref rc, _, rfl, dA, dB, sh, true, rfl, ?_⟩
      clear dA dB sh erc
      generalize upd H5 rc (.lst (zs2 ++ ys)) = H6 at k6 s36 ⊢
      refine ifT rfl ?_
      obtain ⟨dx6, hd6, eo6⟩ := k6.obj
      refine ⟨_, rfl, x.t, dx6, _, rfl, eo6, rfl, ?_⟩
      dsimp only [tNil, List.map, List.cons_append, List.nil_append]
      refine K1.stk k6 fun rs nrs k7 => ?_
      have hpile := k7.st.ep
      rw [hS] at hpile
      refine ⟨_, rfl, x.s, _, rfl, dg_str k7.st.es stD_pile, .ref rs, .ref b.pl, _, rfl, dp_nats upd_same, dp_nats hpile, shw_nats (fun j mj => ?_) (by rw [← hS]; omega), q _ F2 ?_ k7⟩
      · have := hS1 j (by rw [hS]; exact mj)
        omega
      · exact kp_trans kp3 (kp_same (s36.trans (same_newF (Fr.mk nrs))))
end
end Ob

set_option Elab.async false
set_option linter.all false
set_option maxRecDepth 100000
set_option maxHeartbeats 1000000
namespace Ob
open PySem PySem.Spec PyProof.Rows L2
open LamX (Tabs TabB TabS ExtN)

set_option hygiene false in
local macro_rules
  | `(tactic| kp_flats) => `(tactic| first
    | assumption
    | exact upd_same
    | (apply atNew; assumption; kp_flats)
    | (apply atNe; (next => kbo_bools); kp_flats)
    | (apply atSame; assumption; kp_flats)
    | (apply atKp; assumption; (next => kaf_pre); kp_flats))
set_option hygiene false in
local macro_rules
  | `(tactic| kaf_pre) => `(tactic| first
    | assumption
    | exact not_nil
    | (apply not_cons; (next => kbo_bools); kaf_pre)
    | (apply not_app; (next => kaf_pre); kaf_pre))
set_option hygiene false in
local macro_rules
  | `(tactic| kbo_bools) => `(tactic| first
    | assumption
    | (apply Ne.symm; assumption)
    | (apply neN; assumption; kp_flats)
    | (apply neN'; assumption; kp_flats))
set_option hygiene false in
local macro_rules
  | `(tactic| o_reads) => `(tactic| first
    | with_reducible rfl
    | assumption
    | rfl
    | kp_flats
    | (show SqL _ _ _ _; first | assumption | (apply sqlOf; kp_flats) | (apply sqlSame; assumption; o_reads))
    | (show SqT _ _ _ _; first | assumption | (apply sqtOf; kp_flats) | (apply sqtAll; assumption) | (apply sqtSame; assumption; o_reads))
    | (show Cls _ _; first | exact T.cl_Calls | exact T.cl_Outer | exact T.cl_Timed)
    | (show NoAttr _ _ _; first | exact T.n_Calls_entries | exact T.n_Calls_running | exact T.n_Outer_calls | exact T.n_Outer_push_call | exact T.n_Outer_pop_call | exact T.n_Outer_ask_call | exact T.n_Outer_order | exact T.n_Outer_broken | exact T.n_Timed_outer | exact T.n_Timed_given | exact T.n_Timed_now | exact T.n_Timed_held | exact T.n_Timed_limits | exact T.n_Timed_ends)
    | (apply Or.inl; o_reads)
    | (apply Or.inr; o_reads)
    | (apply And.intro; (next => o_reads); o_reads)
    | (apply Exists.intro; o_reads)
    | exact Nat.le_of_ble_eq_true rfl
    | exact Nat.succ_ne_zero _
    | (show Fr _ _; kba_ints)
    | (show Same _ _; kd_subs)
    | (show Kp _ _ _; kxs_still)
    | (show (_ : Nat) ≤ _; simp only [List.length_append, List.length_map, List.length_cons, List.length_nil, List.length_take, List.length_drop, List.length_replicate, List.length_range, sizeLine_eq]; omega)
    | (show _ = none; apply Fr.h; kba_ints)
    | (show Bag _ _; first | assumption | (apply bag_putF; assumption; o_reads) | (apply bag_neF; (next => kbo_bools); o_reads) | (apply bag_kpR; assumption; (next => kaf_pre); o_reads))
    | omega
    | decide)
local macro_rules
  | `(tactic| o_readsAll) => `(tactic| repeat (first
    | (refine fun (pNew : Addr) (nNew : _ = none) => ?_; replace nNew := Fr.mk nNew)
    | (refine fun (xNew dNew : Addr) (nNew : _ = none) (mNew : _ = none) (eNew : dNew ≠ xNew) => ?_; replace nNew := Fr.mk nNew; replace mNew := Fr.mk mNew)
    | (apply And.intro; next => o_reads)
    | apply Exists.intro (α := V)
    | apply Exists.intro (α := Addr)
    | apply Exists.intro (α := Int)
    | apply Exists.intro (α := Bool)
    | apply Exists.intro (α := List V)
    | apply Exists.intro (α := List Nat)
    | apply Exists.intro (α := List (Str × V))
    | apply Exists.intro (α := List _)
    | apply Exists.intro (α := Str)
    | apply Exists.intro (α := HO)
    | apply Exists.intro (α := Sp)
    | apply Exists.intro (α := VK)))
set_option hygiene false in
local macro_rules
  | `(tactic| kba_ints) => `(tactic| first
    | assumption
    | (apply frUp; (first | assumption | (apply Ne.symm; assumption)); kba_ints)
    | (apply noneOf; assumption; intro oF eF; apply Exists.intro; kp_flats)
    | (apply frUp; (next => kbo_bools); kba_ints))
set_option hygiene false in
local macro_rules
  | `(tactic| kxs_still) => `(tactic| first
    | assumption
    | exact kp_refl _ _
    | (apply kp_newF; assumption; kxs_still)
    | (apply kp_new; assumption; kxs_still)
    | (apply kp_up; (next => o_fieldsN); kxs_still)
    | (apply kp_new; (next => kba_ints); kxs_still)
    | (apply kp_sameR; assumption; kxs_still)
    | (apply kp_transR; assumption; kxs_still)
    | (apply kp_freshR; assumption; (next => kaf_suf); kxs_still))
set_option hygiene false in
local macro_rules
  | `(tactic| kaf_suf) => `(tactic| first
    | assumption
    | exact subNil
    | (apply subCons; (first | (apply Or.inl; o_fieldsN) | (apply Or.inr; kba_ints)); kaf_suf)
    | (apply subApp; (next => kaf_suf); kaf_suf))
set_option hygiene false in
local macro_rules
  | `(tactic| o_fieldsN) => `(tactic| first
    | assumption
    | exact memA
    | (apply memB; o_fieldsN)
    | (apply memL; o_fieldsN)
    | (apply memR; o_fieldsN))
set_option hygiene false in
local macro_rules
  | `(tactic| kd_subs) => `(tactic| first
    | assumption
    | exact Same.refl _
    | (apply same_putF; assumption; kd_subs)
    | (apply same_putG; assumption; kd_subs)
    | (apply same_putF; (next => kba_ints); kd_subs)
    | (apply same_transR; assumption; kd_subs))

set_option pp.maxSteps 900
open NdefX (TabsN)
open Inf (Clo LClo cut mend cellsOf)
/-! ### what is handed to a step -/
def noSt : Stmt := .Pass ⟨0, 0, 0, 0⟩
def forBody : Stmt → List Stmt
  | .For _ _ b _ _ => b
  | _ => []
def ifBody : Stmt → List Stmt
  | .If _ b _ _ => b
  | _ => []
def elsBody : Stmt → List Stmt
  | .If _ _ b _ => b
  | _ => []
def stepArg : Stmt → Expr
  | .If (.UnaryOp _ (.Call _ es _ _) _) _ _ _ => es.getD 5 (.Constant .none 0 ⟨0, 0, 0, 0⟩)
  | _ => .Constant .none 0 ⟨0, 0, 0, 0⟩
def turnS : Stmt := (forBody ((forBody ((defBody s_law).getD 0 noSt)).getD 4 noSt)).getD 0 noSt
def qN : Str := ("law" : Str) ++ ".<locals>." ++ "<lambda>"
def LAd (cl : List (Str × Addr)) (c : Addr) : Inf.LF := lamF qN cl c (stepArg ((ifBody turnS).getD 6 noSt))
def LTi (cl : List (Str × Addr)) (c : Addr) : Inf.LF := lamF qN cl c (stepArg ((forBody ((elsBody turnS).getD 0 noSt)).getD 3 noSt))
abbrev frA : List Str := ["_law_house", "_law_names", "_law_late"]
abbrev frT : List Str := ["_law_house"]
theorem cellA : ∀ y ∈ frA, (defScope s_law).names.lookup y = some .cell := by decide +kernel
theorem cellT : ∀ y ∈ frT, (defScope s_law).names.lookup y = some .cell := by decide +kernel
theorem scA : NdefX.NScope frA [] frA (LAd [] 0).scope := NdefX.nscope_by (by decide +kernel)
theorem scT : NdefX.NScope frT [] frT (LTi [] 0).scope := NdefX.nscope_by (by decide +kernel)
abbrev toW (F : Inf.LF) (fr : List Str) (sp : List (Option V) → Sp) (f : Addr) : Sp := fun vs H Q E => ∃ ws, LClo H f F fr ws ∧ sp (ws.map some) vs (cut (cellsOf F.nf fr) H) (fun v H1 => (∀ b, b ∈ cellsOf F.nf fr → H1 b = Option.none) → Q v (mend (cellsOf F.nf fr) H H1)) E
section
variable {P : Program} {w : World} {K : PySem.W.Frag} {mg : Str → Option Value} {base : Heap}
def spLT (P : Program) (w : World) (K : PySem.W.Frag) (mg : Str → Option Value) (base : Heap) (T : Txt K mg) : List (Option V) → Sp := fun ws vs H Q _ => ∃ (t dx o hd lm en : Addr) (given now : Nat), ws = [some (.ref t)] ∧ vs = [] ∧ H t = some (TO T.C_Timed dx o given now hd lm en) ∧ spTick P w K mg base T 2 [.ref t] H Q E0
def spLA (P : Program) (w : World) (K : PySem.W.Frag) (mg : Str → Option Value) (base : Heap) (T : Txt K mg) : List (Option V) → Sp := fun ws vs H Q _ => ∃ (t dx o hd lm en nm : Addr) (given now u : Nat) (ns : List V) (m : V), ws = [some (.ref t), some (.ref nm), some (.int (u : Int))] ∧ vs = [] ∧ H t = some (TO T.C_Timed dx o given now hd lm en) ∧ H nm = some (.lst (ns ++ [m])) ∧ spTAdd P w K mg base T.C_Timed T.C_Outer T.C_Calls 2 [.ref t, m, .int (u : Int)] H Q E0
theorem lamT (T : Txt K mg) (TB : LamX.TabB base mg T.c_next_pieces T.p_next_pieces) {cl : List (Str × Addr)} {c f : Addr} : L2.FnR P w K mg base CX0 17 f (toW (LTi cl c) frT (spLT P w K mg base T) f) := by
  have G_Timed_tick := ok_tick (P := P) (w := w) (n := 2) T TB
  refine Inf.lam_cloR (k := 16) (N := frT) (ps := []) scT (fun _ _ us hl => match us, hl with | [], _ => rfl) (fun ws vs H Q E h => ?_) (fun A outer s H vs ws Q E hr hl h => ?_)
  · obtain ⟨t, dx, o, hd, lm, en, given, now, rfl, rfl, _⟩ := h
    rfl
  · obtain ⟨t, dx, o, hd, lm, en, given, now, rfl, rfl, ht, h1⟩ := h
    refine ⟨_, pe_meth0 (pv 0) T.cl_Timed ⟨T.m_Timed_tick, T.t_Timed_tick, T.k_Timed_tick⟩ G_Timed_tick (by exact hr) T.b_Timed_tick .nil pass0, ?_⟩
    exact ⟨_, rfl, t, dx, _, rfl, ht, rfl, h1⟩
theorem lamA (T : Txt K mg) {cl : List (Str × Addr)} {c f : Addr} : L2.FnR P w K mg base CX0 15 f (toW (LAd cl c) frA (spLA P w K mg base T) f) := by
  have G_Timed_add := ok_tadd (P := P) (w := w) (base := base) (n := 2) T
  have KB_Timed_add := kb_add T.F_Timed_add
  refine Inf.lam_cloR (k := 14) (N := frA) (ps := []) scA (fun _ _ us hl => match us, hl with | [], _ => rfl) (fun ws vs H Q E h => ?_) (fun A outer s H vs ws Q E hr hl h => ?_)
  · obtain ⟨t, dx, o, hd, lm, en, nm, given, now, u, ns, m, rfl, rfl, _⟩ := h
    rfl
  · obtain ⟨t, dx, o, hd, lm, en, nm, given, now, u, ns, m, rfl, rfl, ht, hn, h1⟩ := h
    refine ⟨_, Inf.pe_methK (pv 0) T.cl_Timed ⟨T.m_Timed_add, T.t_Timed_add, T.k_Timed_add⟩ G_Timed_add (by exact hr) KB_Timed_add pass0 (pa_cons (pe_ix (r := rIxL K) ix_list (pv 1) (pe_un un_neg pe_int) (fun _ _ => rfl)) pa_nil) (pk_cons (pv 2) pk_nil), ?_⟩
    exact ⟨_, rfl, t, dx, _, rfl, ht, rfl, _, rfl, 1, rfl, nm, ns ++ [m], -1, m, rfl, rfl, sqlOf hn, atI_last _ _, _, rfl, rfl, rfl, h1⟩
end
/-! ### the cells of the law are cut again -/
section
variable {cT : List Addr} {H8 H : Hp}
theorem clo_cut {f : Addr} {F : NdefX.NF} {fr : List Str} {ws us : List V} (g : Clo H8 f F fr us) (h : Clo H f F fr ws) (no : ∀ a ∈ cT, H8 a = none) : Clo (cut cT H) f F fr ws := by
  have out : ∀ {a : Addr} {o : HO}, H8 a = some o → a ∉ cT := fun e m => by
    rw [no _ m] at e
    cases e
  refine ⟨(Inf.cut_out (out g.fn)).trans h.fn, (Inf.cut_out (out g.code)).trans h.code, h.len, h.dom, h.inj, fun i y e => ?_⟩
  obtain ⟨c, v, a, b, d⟩ := h.at_ i y e
  obtain ⟨c2, v2, a2, b2, d2⟩ := g.at_ i y e
  rw [a] at a2
  cases a2
  exact ⟨c, v, a, b, (Inf.cut_out (out d2)).trans d⟩
theorem co3_cut {c : CL3} (g : CO3 c H8) (h : CO3 c H) (no : ∀ a ∈ cT, H8 a = none) : CO3 c (cut cT H) := ⟨clo_cut g.1 h.1 no, clo_cut g.2.1 h.2.1 no, clo_cut g.2.2 h.2.2 no⟩
variable {P : Program} {w : World} {K : PySem.W.Frag} {mg : Str → Option Value} {base : Heap} {T : Txt K mg} {Hz : Hp} {av : List Addr} {p : Addr} {x : FX} {F F' : List Addr} {v v' : VS} {b b' : BK}
theorem PL.cv {H1 : Hp} {p : Addr} {l : List (Nat × Nat)} (h : PL H p l) (cv : ∀ b o, H b = some o → (∀ φ, o ≠ .ext φ) → H1 b = some o) : PL H1 p l := by
  obtain ⟨ts, a, b, c⟩ := h
  exact ⟨ts, cv _ _ a (fun _ z => nomatch z), b, fun i t x e1 e2 => cv _ _ (c i t x e1 e2) (fun _ z => nomatch z)⟩
theorem K1.co3 (h : K1 T Hz av p x F v b H) : CO3 x.cl H := by
  obtain ⟨dx, hd, od, _, _, _, _, o⟩ := h.hs.ft
  exact o.r.1
theorem K1.cut (h : K1 T Hz av p x F v b H) (g : CO3 x.cl H8) (no : ∀ a ∈ cT, H8 a = none) (cv : ∀ b o, H b = some o → (∀ φ, o ≠ .ext φ) → cut cT H b = some o) (tb : TabsN (TT T) (cut cT H)) (ez : Eqv av Hz (cut cT H)) : K1 T Hz av p x F v b (cut cT H) := by
  obtain ⟨⟨dx, hd, od, eF, e1, e2, n1, ⟨d1, o1⟩, ⟨d2, o2⟩, ⟨xs, o3, o3'⟩, o4, r, b1, b2, b3⟩, g1, g2, g3, g4, g5, g6, g7⟩ := h.hs
  obtain ⟨hc, p1, pne, tr1, ns, p0, p2, p3⟩ := r
  have lc : LogC (Inf.cut cT H) xs v.tr := ⟨o3'.len, fun q y e a c => by
    obtain ⟨u, h1, h2⟩ := o3'.at_ q y e a c
    exact ⟨u, h1, cv _ _ h2 (fun _ z => nomatch z)⟩⟩
  have tl : TupL (Inf.cut cT H) ns (ntC (stV [] v.tr0) tr1) := ⟨p3.len, fun q y e a c => by
    obtain ⟨u, h1, h2⟩ := p3.at_ q y e a c
    exact ⟨u, h1, cv _ _ h2 (fun _ z => nomatch z)⟩⟩
  have bg : Bag (Inf.cut cT H) p := by
    obtain ⟨g, m, c, e, z⟩ := h.bg
    exact ⟨g, m, c, cv _ _ e (fun _ z => nomatch z), z⟩
  refine ⟨tb, ⟨⟨dx, hd, od, eF, cv _ _ e1 (fun _ z => nomatch z), cv _ _ e2 (fun _ z => nomatch z), n1, ⟨d1, cv _ _ o1 (fun _ z => nomatch z)⟩, ⟨d2, cv _ _ o2 (fun _ z => nomatch z)⟩, ⟨xs, cv _ _ o3 (fun _ z => nomatch z), lc⟩, cv _ _ o4 (fun _ z => nomatch z), ⟨co3_cut g hc no, cv _ _ p1 (fun _ z => nomatch z), pne, tr1, ns, p0, cv _ _ p2 (fun _ z => nomatch z), tl⟩, b1, b2, b3⟩, cv _ _ g1 (fun _ z => nomatch z), cv _ _ g2 (fun _ z => nomatch z), g3, g4, g5, g6, g7⟩, bg, ⟨cv _ _ h.st.es (fun _ z => nomatch z), cv _ _ h.st.ep (fun _ z => nomatch z), cv _ _ h.st.ed (fun _ z => nomatch z), fun i mi => (h.st.el i mi).cv cv, h.st.ne⟩, cv _ _ h.h2 (fun _ z => nomatch z), fun i y e => ?_, ez, h.sz, h.dj, h.n1, h.n2, h.n3, h.nav⟩
  obtain ⟨u, h1, h2⟩ := h.nt i y e
  exact ⟨u, h1, cv _ _ h2 (fun _ z => nomatch z)⟩
end
end Ob

set_option Elab.async false
set_option linter.all false
set_option maxRecDepth 100000
set_option maxHeartbeats 1000000
namespace Ob
open PySem PySem.Spec PyProof.Rows L2
open LamX (Tabs TabB TabS ExtN)

set_option hygiene false in
local macro_rules
  | `(tactic| kp_flats) => `(tactic| first
    | assumption
    | exact upd_same
    | (apply atNew; assumption; kp_flats)
    | (apply atNe; (next => kbo_bools); kp_flats)
    | (apply atSame; assumption; kp_flats)
    | (apply atKp; assumption; (next => kaf_pre); kp_flats))
set_option hygiene false in
local macro_rules
  | `(tactic| kaf_pre) => `(tactic| first
    | assumption
    | exact not_nil
    | (apply not_cons; (next => kbo_bools); kaf_pre)
    | (apply not_app; (next => kaf_pre); kaf_pre))
set_option hygiene false in
local macro_rules
  | `(tactic| kbo_bools) => `(tactic| first
    | assumption
    | (apply Ne.symm; assumption)
    | (apply neN; assumption; kp_flats)
    | (apply neN'; assumption; kp_flats))
set_option hygiene false in
local macro_rules
  | `(tactic| o_reads) => `(tactic| first
    | with_reducible rfl
    | assumption
    | rfl
    | kp_flats
    | (show SqL _ _ _ _; first | assumption | (apply sqlOf; kp_flats) | (apply sqlSame; assumption; o_reads))
    | (show SqT _ _ _ _; first | assumption | (apply sqtOf; kp_flats) | (apply sqtAll; assumption) | (apply sqtSame; assumption; o_reads))
    | (show Cls _ _; first | exact T.cl_Calls | exact T.cl_Outer | exact T.cl_Timed)
    | (show NoAttr _ _ _; first | exact T.n_Calls_entries | exact T.n_Calls_running | exact T.n_Outer_calls | exact T.n_Outer_push_call | exact T.n_Outer_pop_call | exact T.n_Outer_ask_call | exact T.n_Outer_order | exact T.n_Outer_broken | exact T.n_Timed_outer | exact T.n_Timed_given | exact T.n_Timed_now | exact T.n_Timed_held | exact T.n_Timed_limits | exact T.n_Timed_ends)
    | (apply Or.inl; o_reads)
    | (apply Or.inr; o_reads)
    | (apply And.intro; (next => o_reads); o_reads)
    | (apply Exists.intro; o_reads)
    | exact Nat.le_of_ble_eq_true rfl
    | exact Nat.succ_ne_zero _
    | (show Fr _ _; kba_ints)
    | (show Same _ _; kd_subs)
    | (show Kp _ _ _; kxs_still)
    | (show (_ : Nat) ≤ _; simp only [List.length_append, List.length_map, List.length_cons, List.length_nil, List.length_take, List.length_drop, List.length_replicate, List.length_range, sizeLine_eq]; omega)
    | (show _ = none; apply Fr.h; kba_ints)
    | (show Bag _ _; first | assumption | (apply bag_putF; assumption; o_reads) | (apply bag_neF; (next => kbo_bools); o_reads) | (apply bag_kpR; assumption; (next => kaf_pre); o_reads))
    | omega
    | decide)
local macro_rules
  | `(tactic| o_readsAll) => `(tactic| repeat (first
    | (refine fun (pNew : Addr) (nNew : _ = none) => ?_; replace nNew := Fr.mk nNew)
    | (refine fun (xNew dNew : Addr) (nNew : _ = none) (mNew : _ = none) (eNew : dNew ≠ xNew) => ?_; replace nNew := Fr.mk nNew; replace mNew := Fr.mk mNew)
    | (apply And.intro; next => o_reads)
    | apply Exists.intro (α := V)
    | apply Exists.intro (α := Addr)
    | apply Exists.intro (α := Int)
    | apply Exists.intro (α := Bool)
    | apply Exists.intro (α := List V)
    | apply Exists.intro (α := List Nat)
    | apply Exists.intro (α := List (Str × V))
    | apply Exists.intro (α := List _)
    | apply Exists.intro (α := Str)
    | apply Exists.intro (α := HO)
    | apply Exists.intro (α := Sp)
    | apply Exists.intro (α := VK)))
set_option hygiene false in
local macro_rules
  | `(tactic| kba_ints) => `(tactic| first
    | assumption
    | (apply frUp; (first | assumption | (apply Ne.symm; assumption)); kba_ints)
    | (apply noneOf; assumption; intro oF eF; apply Exists.intro; kp_flats)
    | (apply frUp; (next => kbo_bools); kba_ints))
set_option hygiene false in
local macro_rules
  | `(tactic| kxs_still) => `(tactic| first
    | assumption
    | exact kp_refl _ _
    | (apply kp_newF; assumption; kxs_still)
    | (apply kp_new; assumption; kxs_still)
    | (apply kp_up; (next => o_fieldsN); kxs_still)
    | (apply kp_new; (next => kba_ints); kxs_still)
    | (apply kp_sameR; assumption; kxs_still)
    | (apply kp_transR; assumption; kxs_still)
    | (apply kp_freshR; assumption; (next => kaf_suf); kxs_still))
set_option hygiene false in
local macro_rules
  | `(tactic| kaf_suf) => `(tactic| first
    | assumption
    | exact subNil
    | (apply subCons; (first | (apply Or.inl; o_fieldsN) | (apply Or.inr; kba_ints)); kaf_suf)
    | (apply subApp; (next => kaf_suf); kaf_suf))
set_option hygiene false in
local macro_rules
  | `(tactic| o_fieldsN) => `(tactic| first
    | assumption
    | exact memA
    | (apply memB; o_fieldsN)
    | (apply memL; o_fieldsN)
    | (apply memR; o_fieldsN))
set_option hygiene false in
local macro_rules
  | `(tactic| kd_subs) => `(tactic| first
    | assumption
    | exact Same.refl _
    | (apply same_putF; assumption; kd_subs)
    | (apply same_putG; assumption; kd_subs)
    | (apply same_putF; (next => kba_ints); kd_subs)
    | (apply same_transR; assumption; kd_subs))

set_option pp.maxSteps 900
open NdefX (TabsN)
theorem prod_le : ∀ a < 71, ∀ b < 71, a + b ≤ 70 → a * b ≤ 1225 := by decide +kernel
/-- the house and the books go together -/
structure Rel1 (v : VS) (b : BK) : Prop where
  ln : b.ns.length = v.given
  gg : b.g = v.given
  nw : b.now = v.now
  ps : b.S = stC [] v.tr
  sv : stV [] v.tr = (stC [] v.tr).map v.mb
  mbn : ∀ i ∈ v.M, b.ns[i]? = some (v.mb i)
  pcs : PcOk b.S v.ends v.lim b.pc
  lb : ∀ i ∈ v.M, v.lim i ≤ v.now + 100
  lg : ∃ el : List (Str × Nat), v.tr.map caD = el.map entW ∧ (∀ e ∈ el, e.1 = ("pop" : Str) ∨ e.1 = ("push" : Str)) ∧ ∀ e ∈ el, e.2 < v.given
  tb : v.tr.length ≤ v.given + 2 * (v.given * v.now)
  ti : TI v.now v.M (stC [] v.tr) v.lim v.ends
  gv : ∀ i ∈ v.M, i < v.given
theorem Rel1.ml {v : VS} {b : BK} (h : Rel1 v b) : v.M.length ≤ v.given := inc_len h.ti.inc h.gv
theorem Rel1.sl {v : VS} {b : BK} (h : Rel1 v b) : b.S.length ≤ v.given := by
  rw [h.ps, h.ti.pm.length_eq]
  exact h.ml
theorem Rel1.sm {v : VS} {b : BK} (h : Rel1 v b) : ∀ i ∈ b.S, i ∈ v.M := fun i m => h.ti.pm.mem_iff.mp (by rw [← h.ps]; exact m)
theorem Rel1.clear {v : VS} {b : BK} (h : Rel1 v b) (tr0 : List Ca) : Rel1 { v with tr0 := tr0 } b := ⟨h.ln, h.gg, h.nw, h.ps, h.sv, h.mbn, h.pcs, h.lb, h.lg, h.tb, h.ti, h.gv⟩
theorem Rel1.cut {v : VS} {b : BK} {tt : Nat} (h : Rel1 v b) (h1 : v.given + tt ≤ 70) (h2 : v.now ≤ 9 * tt) : v.tr.length ≤ 23000 := by
  have h3 := prod_le v.given (by omega) tt (by omega) h1
  have h4 : v.given * v.now ≤ v.given * (9 * tt) := Nat.mul_le_mul_left _ h2
  have h5 : v.given * (9 * tt) = 9 * (v.given * tt) := by rw [Nat.mul_left_comm]
  have := h.tb
  omega
/-- a member is added, and the books are brought up to date -/
def BK.add (b : BK) (m : V) (q : Addr) (given now u : Nat) : BK := { b with ns := b.ns ++ [m], S := b.S ++ [given], g := given + 1, pa := fun x => if x = given then q else b.pa x, pc := fun x => if x = given then (now, 1) :: pcR (now + 1) (u - (now + 1)) else b.pc x }
theorem Rel1.add {v : VS} {b : BK} {m : V} {q : Addr} {u : Nat} (h : Rel1 v b) (h1 : v.now < u) (h2 : u ≤ v.now + 100) : Rel1 (v.add m u) (b.add m q v.given v.now u) := by
  have old : ∀ i ∈ v.M, i ≠ v.given := fun i mi => Nat.ne_of_lt (h.gv i mi)
  have sM : ∀ i ∈ stC [] v.tr, i ∈ v.M := fun i mi => h.ti.pm.mem_iff.mp mi
  have e1 : stC [] (v.tr ++ [Ca.push v.given m]) = stC [] v.tr ++ [v.given] := by
    rw [stC_app]
    rfl
  have e2 : (stC [] v.tr).map (fun x => if x = v.given then m else v.mb x) = (stC [] v.tr).map v.mb := List.map_congr_left fun i mi => if_neg (old i (sM i mi))
  refine ⟨?_, rfl, h.nw, ?_, ?_, fun i mi => ?_, fun i mi => ?_, fun i mi => ?_, ?_, ?_, ?_, fun i mi => ?_⟩
  · show (b.ns ++ [m]).length = v.given + 1
    rw [List.length_append, h.ln]
    rfl
  · show b.S ++ [v.given] = stC [] (v.tr ++ [Ca.push v.given m])
    rw [e1, h.ps]
  · show stV [] (v.tr ++ [Ca.push v.given m]) = (stC [] (v.tr ++ [Ca.push v.given m])).map (fun x => if x = v.given then m else v.mb x)
    rw [e1, List.map_append, e2, stV_app, h.sv]
    show _ ++ [m] = _ ++ [if v.given = v.given then m else v.mb v.given]
    rw [if_pos rfl]
  · show (b.ns ++ [m])[i]? = some (if i = v.given then m else v.mb i)
    rcases List.mem_append.mp mi with mi | mi
    · rw [if_neg (old i mi), List.getElem?_append_left (by rw [h.ln]; exact h.gv i mi)]
      exact h.mbn i mi
    · rw [List.mem_singleton.mp mi, if_pos rfl, ← h.ln]
      exact List.getElem?_concat_length ..
  · show ∃ st, st < (if i = v.given then v.now + 1 else v.ends i) ∧ (if i = v.given then v.now + 1 else v.ends i) ≤ (if i = v.given then u else v.lim i) ∧ (if i = v.given then (v.now, 1) :: pcR (v.now + 1) (u - (v.now + 1)) else b.pc i) = (st, (if i = v.given then v.now + 1 else v.ends i) - st) :: pcR (if i = v.given then v.now + 1 else v.ends i) ((if i = v.given then u else v.lim i) - (if i = v.given then v.now + 1 else v.ends i))
    rcases List.mem_append.mp mi with mi | mi
    · have ne := old i (h.sm i mi)
      rw [if_neg ne, if_neg ne, if_neg ne]
      exact h.pcs i mi
    · have e := List.mem_singleton.mp mi
      rw [if_pos e, if_pos e, if_pos e]
      exact ⟨v.now, Nat.lt_succ_self _, h1, by rw [Nat.add_sub_cancel_left]⟩
  · show (if i = v.given then u else v.lim i) ≤ v.now + 100
    rcases List.mem_append.mp mi with mi | mi
    · rw [if_neg (old i mi)]
      exact h.lb i mi
    · rw [if_pos (List.mem_singleton.mp mi)]
      exact h2
  · obtain ⟨el, g1, g2, g3⟩ := h.lg
    refine ⟨el ++ [(("push" : Str), v.given)], ?_, fun e me => ?_, fun e me => ?_⟩
    · show (v.tr ++ [Ca.push v.given m]).map caD = _
      rw [List.map_append, List.map_append, g1]
      rfl
    · rcases List.mem_append.mp me with me | me
      · exact g2 e me
      · rw [List.mem_singleton.mp me]
        exact .inr rfl
    · rcases List.mem_append.mp me with me | me
      · exact Nat.lt_succ_of_lt (g3 e me)
      · rw [List.mem_singleton.mp me]
        exact Nat.lt_succ_self _
  · show (v.tr ++ [Ca.push v.given m]).length ≤ (v.given + 1) + 2 * ((v.given + 1) * v.now)
    rw [List.length_append, Nat.add_mul, Nat.one_mul]
    have := h.tb
    show v.tr.length + 1 ≤ _
    omega
  · show TI v.now (v.M ++ [v.given]) (stC [] (v.tr ++ [Ca.push v.given m])) _ _
    rw [e1]
    exact h.ti.add h.gv h1
  · rcases List.mem_append.mp mi with mi | mi
    · exact Nat.lt_succ_of_lt (h.gv i mi)
    · rw [List.mem_singleton.mp mi]
      exact Nat.lt_succ_self _
/-- a tick in the books -/
def BK.tick (b : BK) (ends : Nat → Nat) (B : List Nat) (pl : Addr) (pa : Nat → Addr) : BK := { b with pl := pl, S := b.S.filter (fun i => decide (i ∉ endS ends (b.now + 1) b.S)) ++ B, now := b.now + 1, pa := pa, pc := fun i => if ends i = b.now + 1 then (b.pc i).tail else b.pc i }
theorem Rel1.pops {v : VS} {b : BK} {B : List Nat} (h : Rel1 v b) : PopsOk (stC [] v.tr) (tickW (endS v.ends (v.now + 1) (stC [] v.tr)) B) ∧ runW (stC [] v.tr) (tickW (endS v.ends (v.now + 1) (stC [] v.tr)) B) = lowS v.ends (v.now + 1) (stC [] v.tr) ++ B := by
  have sM : ∀ i ∈ stC [] v.tr, i ∈ v.M := fun i mi => h.ti.pm.mem_iff.mp mi
  have hsp := top_split (c := v.now + 1) h.ti.dn fun i m => (h.ti.lo i (sM i m)).1
  have hsp : stC [] v.tr = lowS v.ends (v.now + 1) (stC [] v.tr) ++ endS v.ends (v.now + 1) (stC [] v.tr) := hsp
  have := tick_ok (E := endS v.ends (v.now + 1) (stC [] v.tr)) (B := B) (S := lowS v.ends (v.now + 1) (stC [] v.tr))
  rw [← hsp] at this
  exact this
theorem Rel1.mem {v : VS} {b : BK} {B : List Nat} (h : Rel1 v b) (hB : BegN v B) : ∀ e ∈ tickW (endS v.ends (v.now + 1) (stC [] v.tr)) B, e.2 ∈ v.M := fun e m => by
  have sM : ∀ i ∈ stC [] v.tr, i ∈ v.M := fun i mi => h.ti.pm.mem_iff.mp mi
  rcases List.mem_append.mp m with m | m
  · obtain ⟨i, hi, rfl⟩ := List.mem_map.mp m
    exact sM i (List.mem_filter.mp (List.mem_reverse.mp hi)).1
  · obtain ⟨i, hi, rfl⟩ := List.mem_map.mp m
    exact sM i (List.mem_filter.mp (List.mem_filter.mp (hB.1.mem_iff.mp hi)).1).1
theorem Rel1.tlen {v : VS} {b : BK} {B : List Nat} (h : Rel1 v b) (hB : BegN v B) : (tickW (endS v.ends (v.now + 1) (stC [] v.tr)) B).length ≤ 2 * v.given := by
  have h1 := hB.1.length_eq
  have h2 := List.length_filter_le (fun i => decide (v.now + 1 < v.lim i)) (endS v.ends (v.now + 1) (stC [] v.tr))
  have h3 : (endS v.ends (v.now + 1) (stC [] v.tr)).length ≤ (stC [] v.tr).length := List.length_filter_le _ _
  have h4 := h.sl
  rw [h.ps] at h4
  unfold tickW
  rw [List.length_append, List.length_map, List.length_map, List.length_reverse]
  omega
theorem Rel1.tick {v : VS} {b : BK} {B : List Nat} {pl : Addr} {pa : Nat → Addr} (h : Rel1 v b) (hB : BegN v B) : Rel1 (v.tick B) (b.tick v.ends B pl pa) := by
  obtain ⟨po, rn⟩ := h.pops (B := B)
  have sM : ∀ i ∈ stC [] v.tr, i ∈ v.M := fun i mi => h.ti.pm.mem_iff.mp mi
  have tw : ∀ e ∈ tickW (endS v.ends (v.now + 1) (stC [] v.tr)) B, e.1 = ("pop" : Str) ∨ e.1 = ("push" : Str) := tick_word
  have e1 : stC [] (v.tr ++ (tickW (endS v.ends (v.now + 1) (stC [] v.tr)) B).map (caOf v.mb)) = lowS v.ends (v.now + 1) (stC [] v.tr) ++ B := by
    rw [stC_app, st_run po, rn]
  have eS : b.S.filter (fun i => decide (i ∉ endS v.ends (b.now + 1) b.S)) = lowS v.ends (v.now + 1) (stC [] v.tr) := by
    rw [h.nw, h.ps]
    refine List.filter_congr fun i m => ?_
    have lo := (h.ti.lo i (sM i m)).1
    by_cases c : v.ends i = v.now + 1
    · rw [decide_eq_false (show ¬ i ∉ endS v.ends (v.now + 1) (stC [] v.tr) from fun z => z (List.mem_filter.mpr ⟨m, decide_eq_true c⟩)), decide_eq_false (by omega)]
    · rw [decide_eq_true (show i ∉ endS v.ends (v.now + 1) (stC [] v.tr) from fun z => c (of_decide_eq_true (List.mem_filter.mp z).2)), decide_eq_true (by omega)]
  have ti' := h.ti.tick hB.1 (hB.2.imp fun z => by omega)
  refine ⟨h.ln, h.gg, by show b.now + 1 = v.now + 1; rw [h.nw], ?_, ?_, fun i mi => h.mbn i (List.mem_filter.mp mi).1, fun i mi => ?_, fun i mi => ?_, ?_, ?_, ?_, fun i mi => h.gv i (List.mem_filter.mp mi).1⟩
  · show b.S.filter (fun i => decide (i ∉ endS v.ends (b.now + 1) b.S)) ++ B = stC [] (v.tr ++ (tickW (endS v.ends (v.now + 1) (stC [] v.tr)) B).map (caOf v.mb))
    rw [e1, eS]
  · show stV [] (v.tr ++ (tickW (endS v.ends (v.now + 1) (stC [] v.tr)) B).map (caOf v.mb)) = (stC [] (v.tr ++ (tickW (endS v.ends (v.now + 1) (stC [] v.tr)) B).map (caOf v.mb))).map v.mb
    rw [e1, stV_app, h.sv, (nt_run po).2, rn]
  · have mi : i ∈ b.S.filter (fun i => decide (i ∉ endS v.ends (b.now + 1) b.S)) ++ B := mi
    show ∃ st, st < enT v.lim v.ends (v.now + 1) i ∧ enT v.lim v.ends (v.now + 1) i ≤ v.lim i ∧ (if v.ends i = b.now + 1 then (b.pc i).tail else b.pc i) = (st, enT v.lim v.ends (v.now + 1) i - st) :: pcR (enT v.lim v.ends (v.now + 1) i) (v.lim i - enT v.lim v.ends (v.now + 1) i)
    rw [h.nw]
    rcases List.mem_append.mp mi with m | m
    · rw [eS] at m
      obtain ⟨m1, m2⟩ := List.mem_filter.mp m
      have m2 := of_decide_eq_true m2
      have ne : ¬ v.ends i = v.now + 1 := by omega
      rw [if_neg ne, show enT v.lim v.ends (v.now + 1) i = v.ends i from if_neg fun z => ne z.1]
      exact h.pcs i (by rw [h.ps]; exact m1)
    · obtain ⟨m1, m2⟩ := List.mem_filter.mp (hB.1.mem_iff.mp m)
      obtain ⟨m3, m4⟩ := List.mem_filter.mp m1
      have m2 := of_decide_eq_true m2
      have m4 := of_decide_eq_true m4
      obtain ⟨st, g1, g2, g3⟩ := h.pcs i (by rw [h.ps]; exact m3)
      rw [if_pos m4, show enT v.lim v.ends (v.now + 1) i = v.now + 1 + szP (v.now + 1) (v.lim i - (v.now + 1)) from if_pos ⟨m4, m2⟩, g3, m4]
      have hr : v.lim i - (v.now + 1) ≠ 0 := by omega
      have hp := szP_pos (a := v.now + 1) hr
      have hl := szP_le (a := v.now + 1) hr
      refine ⟨v.now + 1, by omega, by omega, ?_⟩
      show pcR (v.now + 1) (v.lim i - (v.now + 1)) = _
      rw [pcR_pos hr, Nat.add_sub_cancel_left, show v.lim i - (v.now + 1 + szP (v.now + 1) (v.lim i - (v.now + 1))) = v.lim i - (v.now + 1) - szP (v.now + 1) (v.lim i - (v.now + 1)) by omega]
  · have := h.lb i (List.mem_filter.mp mi).1
    show v.lim i ≤ v.now + 1 + 100
    omega
  · obtain ⟨el, g1, g2, g3⟩ := h.lg
    refine ⟨el ++ tickW (endS v.ends (v.now + 1) (stC [] v.tr)) B, ?_, fun e me => ?_, fun e me => ?_⟩
    · show (v.tr ++ (tickW (endS v.ends (v.now + 1) (stC [] v.tr)) B).map (caOf v.mb)).map caD = _
      rw [List.map_append, List.map_append, g1, cad_all tw]
    · rcases List.mem_append.mp me with me | me
      · exact g2 e me
      · exact tw e me
    · rcases List.mem_append.mp me with me | me
      · exact g3 e me
      · exact h.gv _ (h.mem hB e me)
  · show (v.tr ++ (tickW (endS v.ends (v.now + 1) (stC [] v.tr)) B).map (caOf v.mb)).length ≤ v.given + 2 * (v.given * (v.now + 1))
    rw [List.length_append, List.length_map, Nat.mul_succ]
    have := h.tb
    have := h.tlen hB
    omega
  · show TI (v.now + 1) (v.M.filter fun i => decide (v.lim i ≠ v.now + 1)) (stC [] (v.tr ++ (tickW (endS v.ends (v.now + 1) (stC [] v.tr)) B).map (caOf v.mb))) v.lim (enT v.lim v.ends (v.now + 1))
    rw [e1]
    exact ti'
end Ob

set_option Elab.async false
set_option linter.all false
set_option maxRecDepth 100000
set_option maxHeartbeats 1000000
namespace Ob
open PySem PySem.Spec PyProof.Rows L2
open LamX (Tabs TabB TabS ExtN)

set_option hygiene false in
local macro_rules
  | `(tactic| kp_flats) => `(tactic| first
    | assumption
    | exact upd_same
    | (apply atNew; assumption; kp_flats)
    | (apply atNe; (next => kbo_bools); kp_flats)
    | (apply atSame; assumption; kp_flats)
    | (apply atKp; assumption; (next => kaf_pre); kp_flats))
set_option hygiene false in
local macro_rules
  | `(tactic| kaf_pre) => `(tactic| first
    | assumption
    | exact not_nil
    | (apply not_cons; (next => kbo_bools); kaf_pre)
    | (apply not_app; (next => kaf_pre); kaf_pre))
set_option hygiene false in
local macro_rules
  | `(tactic| kbo_bools) => `(tactic| first
    | assumption
    | (apply Ne.symm; assumption)
    | (apply neN; assumption; kp_flats)
    | (apply neN'; assumption; kp_flats))
set_option hygiene false in
local macro_rules
  | `(tactic| o_reads) => `(tactic| first
    | with_reducible rfl
    | assumption
    | rfl
    | kp_flats
    | (show SqL _ _ _ _; first | assumption | (apply sqlOf; kp_flats) | (apply sqlSame; assumption; o_reads))
    | (show SqT _ _ _ _; first | assumption | (apply sqtOf; kp_flats) | (apply sqtAll; assumption) | (apply sqtSame; assumption; o_reads))
    | (show Cls _ _; first | exact T.cl_Calls | exact T.cl_Outer | exact T.cl_Timed)
    | (show NoAttr _ _ _; first | exact T.n_Calls_entries | exact T.n_Calls_running | exact T.n_Outer_calls | exact T.n_Outer_push_call | exact T.n_Outer_pop_call | exact T.n_Outer_ask_call | exact T.n_Outer_order | exact T.n_Outer_broken | exact T.n_Timed_outer | exact T.n_Timed_given | exact T.n_Timed_now | exact T.n_Timed_held | exact T.n_Timed_limits | exact T.n_Timed_ends)
    | (apply Or.inl; o_reads)
    | (apply Or.inr; o_reads)
    | (apply And.intro; (next => o_reads); o_reads)
    | (apply Exists.intro; o_reads)
    | exact Nat.le_of_ble_eq_true rfl
    | exact Nat.succ_ne_zero _
    | (show Fr _ _; kba_ints)
    | (show Same _ _; kd_subs)
    | (show Kp _ _ _; kxs_still)
    | (show (_ : Nat) ≤ _; simp only [List.length_append, List.length_map, List.length_cons, List.length_nil, List.length_take, List.length_drop, List.length_replicate, List.length_range, sizeLine_eq]; omega)
    | (show _ = none; apply Fr.h; kba_ints)
    | (show Bag _ _; first | assumption | (apply bag_putF; assumption; o_reads) | (apply bag_neF; (next => kbo_bools); o_reads) | (apply bag_kpR; assumption; (next => kaf_pre); o_reads))
    | omega
    | decide)
local macro_rules
  | `(tactic| o_readsAll) => `(tactic| repeat (first
    | (refine fun (pNew : Addr) (nNew : _ = none) => ?_; replace nNew := Fr.mk nNew)
    | (refine fun (xNew dNew : Addr) (nNew : _ = none) (mNew : _ = none) (eNew : dNew ≠ xNew) => ?_; replace nNew := Fr.mk nNew; replace mNew := Fr.mk mNew)
    | (apply And.intro; next => o_reads)
    | apply Exists.intro (α := V)
    | apply Exists.intro (α := Addr)
    | apply Exists.intro (α := Int)
    | apply Exists.intro (α := Bool)
    | apply Exists.intro (α := List V)
    | apply Exists.intro (α := List Nat)
    | apply Exists.intro (α := List (Str × V))
    | apply Exists.intro (α := List _)
    | apply Exists.intro (α := Str)
    | apply Exists.intro (α := HO)
    | apply Exists.intro (α := Sp)
    | apply Exists.intro (α := VK)))
set_option hygiene false in
local macro_rules
  | `(tactic| kba_ints) => `(tactic| first
    | assumption
    | (apply frUp; (first | assumption | (apply Ne.symm; assumption)); kba_ints)
    | (apply noneOf; assumption; intro oF eF; apply Exists.intro; kp_flats)
    | (apply frUp; (next => kbo_bools); kba_ints))
set_option hygiene false in
local macro_rules
  | `(tactic| kxs_still) => `(tactic| first
    | assumption
    | exact kp_refl _ _
    | (apply kp_newF; assumption; kxs_still)
    | (apply kp_new; assumption; kxs_still)
    | (apply kp_up; (next => o_fieldsN); kxs_still)
    | (apply kp_new; (next => kba_ints); kxs_still)
    | (apply kp_sameR; assumption; kxs_still)
    | (apply kp_transR; assumption; kxs_still)
    | (apply kp_freshR; assumption; (next => kaf_suf); kxs_still))
set_option hygiene false in
local macro_rules
  | `(tactic| kaf_suf) => `(tactic| first
    | assumption
    | exact subNil
    | (apply subCons; (first | (apply Or.inl; o_fieldsN) | (apply Or.inr; kba_ints)); kaf_suf)
    | (apply subApp; (next => kaf_suf); kaf_suf))
set_option hygiene false in
local macro_rules
  | `(tactic| o_fieldsN) => `(tactic| first
    | assumption
    | exact memA
    | (apply memB; o_fieldsN)
    | (apply memL; o_fieldsN)
    | (apply memR; o_fieldsN))
set_option hygiene false in
local macro_rules
  | `(tactic| kd_subs) => `(tactic| first
    | assumption
    | exact Same.refl _
    | (apply same_putF; assumption; kd_subs)
    | (apply same_putG; assumption; kd_subs)
    | (apply same_putF; (next => kba_ints); kd_subs)
    | (apply same_transR; assumption; kd_subs))

set_option pp.maxSteps 900
open NdefX (TabsN)
open Inf (Clo LClo cut mend cellsOf)
theorem tabs_cut {T : List NdefX.NTab} {cells : List (Str × Addr)} {names : List (Str × NameKind)} {N : List Str} {σ : L2.St} {H HT H3 : Hp} {cT : List Addr} (t : Inf.Tel cells names N σ H cT HT) (k : ∀ b, b ∈ cT → H3 b = HT b) (tb : TabsN T H3) : TabsN T (cut cT H3) := fun p hp => by
  obtain ⟨ps, h1, h2, h3⟩ := tb p hp
  refine ⟨ps, ?_, h2, fun pos cv hc => ?_⟩
  · rw [Inf.cut_out fun m => ?_]
    · exact h1
    · obtain ⟨φ, y⟩ := t.ext _ m
      rw [k _ m, y] at h1
      cases h1
  · obtain ⟨c, e1, e2⟩ := h3 pos cv hc
    refine ⟨c, e1, ?_⟩
    rw [Inf.cut_out fun m => ?_]
    · exact e2
    · exact t.nc c m _ ((k c m).symm.trans e2)
theorem NmT.add {p1 : Addr} {ns : List V} (h : NmT H ns) (e : H p1 = some (.tup [.str "m", .int (ns.length : Int)])) : NmT H (ns ++ [.ref p1]) := fun i y ey => by
  by_cases c : i < ns.length
  · rw [List.getElem?_append_left c] at ey
    exact h i y ey
  · rw [List.getElem?_append_right (by omega)] at ey
    match hj : i - ns.length, ey with
    | 0, ey =>
      cases ey
      have : i = ns.length := by omega
      rw [this]
      exact ⟨p1, rfl, e⟩
    | k + 1, ey => cases k <;> cases ey
theorem stD_merge {pl dp : Addr} {n : Nat} : mergeK [] [(kP, V.ref pl), (kL, V.ref dp), (kN, V.int (n : Int))] = stD pl dp n := by
  have e1 : putK ([] : List (Key × V)) kP (.ref pl) = [(kP, .ref pl)] := rfl
  have e2 : putK [(kP, V.ref pl)] kL (.ref dp) = [(kP, .ref pl), (kL, .ref dp)] := by
    rw [putK_new _ (by rw [valV_neg (p := (kP, V.ref pl)) ne12]; rfl)]
    rfl
  have e3 : putK [(kP, V.ref pl), (kL, V.ref dp)] kN (.int (n : Int)) = stD pl dp n := by
    rw [putK_new _ (by rw [valV_neg (p := (kP, V.ref pl)) ne13, valV_neg (p := (kL, V.ref dp)) ne23]; rfl)]
    rfl
  show putK (putK (putK [] kP (.ref pl)) kL (.ref dp)) kN (.int (n : Int)) = _
  rw [e1, e2, e3]
section
variable {P : Program} {w : World} {K : PySem.W.Frag} {mg : Str → Option Value} {base : Heap} {T : Txt K mg} {Hz H8 HT H1 : Hp} {av : List Addr} {p : Addr} {x : FX} {F : List Addr} {v : VS} {b : BK} {ls : List Addr}
/-- the notes are cleared, and the lambda's cells are left out -/
theorem K1.left (k8 : K1 T Hz av p x F v b H8) (s8 : Same H8 HT) (no : ∀ a ∈ ls, H8 a = none) (k01 : Kp [x.cl.pn] HT H1) (k1 : K1 T Hz av p x F { v with tr0 := v.tr } b H1) : K1 T Hz av p x F { v with tr0 := v.tr } b (Inf.cut ls H1) := by
  refine (k8.clear).same fun a o e => ?_
  obtain ⟨_, zs8, _, e8, _⟩ := k8.notes
  obtain ⟨tr1, zs, f1, f2, f3⟩ := k1.notes
  have f1 : tr1 = [] := List.self_eq_append_right.mp f1
  rw [f1] at f3
  have f4 : zs = [] := List.length_eq_zero_iff.mp f3.len
  rw [f4] at f2
  have out : ∀ {a : Addr} {o : HO}, H8 a = some o → a ∉ ls := fun e m => by
    rw [no _ m] at e
    cases e
  by_cases c : a = x.cl.pn
  · rw [c, upd_same] at e
    cases e
    rw [c, Inf.cut_out (out e8)]
    exact f2
  · rw [upd_ne c] at e
    rw [Inf.cut_out (out e)]
    exact k01.at_ _ _ (s8 _ _ e) (not_cons c not_nil)
theorem same_mend {H3 : Hp} (no : ∀ a ∈ ls, H3 a = none) : Same H3 (mend ls H1 H3) := fun a o e => by
  rw [Inf.mend_out fun m => by rw [no a m] at e; cases e]
  exact e
theorem call_tick (T : Txt K mg) (TB2 : LamX.TabB base mg T.c_next_pieces T.p_next_pieces) {cl : List (Str × Addr)} {c fa : Addr} (k8 : K1 T Hz av p x F v b H8) (s8 : Same H8 HT) (L : LClo HT fa (LTi cl c) frT [.ref x.t]) (no : ∀ a ∈ cellsOf (LTi cl c).nf frT, H8 a = none) (htl : v.tr.length < 390000) (hML : v.M.length < 50000) (hlm : ∀ i ∈ v.M, v.lim i ≤ 1000000000) {B : List Nat} (hB : BegN v B)
    (k01 : Kp [x.cl.pn] HT H1) (k1 : K1 T Hz av p x F { v with tr0 := v.tr } b H1) {Q1 : VK} (q : ∀ u H2 F2, Kp (T.p_next_pieces :: F) H1 H2 → K1 T Hz av p x F2 (({ v with tr0 := v.tr } : VS).tick B) b H2 → Q1 u H2) : ∃ f o sp, (V.ref fa) = .ref f ∧ H1 f = some o ∧ Inf.FnHO f o ∧ L2.FnR P w K mg base CX0 17 f sp ∧ sp [] H1 Q1 E0 := by
  have kT := k8.same s8
  obtain ⟨_, zsT, _, eT, _⟩ := kT.notes
  have L1 := lclo_kp L k01 (mu_lst eT mu_nil)
  have kc := k8.left s8 no k01 k1
  obtain ⟨dx, hd, eo⟩ := kc.obj
  refine ⟨fa, _, _, rfl, L1.fn, Inf.lamHO, lamT T TB2, [.ref x.t], L1, x.t, dx, x.o, hd, x.lm, x.en, v.given, v.now, rfl, rfl, eo, K1.tick kc htl hML hlm fun r H3 F' B' kk hB' k3 no3 => ?_⟩
  have hB' : BegN v B' := hB'
  rw [hB'.uniq hB] at k3
  exact q _ _ F' (mend_kp (fun a m => by
    obtain ⟨_, φ, e, _⟩ := L1.cell m
    exact ⟨φ, e⟩) kk no3) (k3.same (same_mend no3))
theorem call_add (T : Txt K mg) {cl : List (Str × Addr)} {c fa : Addr} {u : Nat} {ns : List V} {m : V} (k8 : K1 T Hz av p x F v b H8) (s8 : Same H8 HT) (L : LClo HT fa (LAd cl c) frA [.ref x.t, .ref x.nm, .int (u : Int)]) (no : ∀ a ∈ cellsOf (LAd cl c).nf frA, H8 a = none) (hn : b.ns = ns ++ [m]) (h1 : v.now < u) (h2 : u ≤ 1000000000) (htl : v.tr.length < 390000) (hML : v.M.length < 50000)
    (k01 : Kp [x.cl.pn] HT H1) (k1 : K1 T Hz av p x F { v with tr0 := v.tr } b H1) {Q1 : VK} (q : ∀ u2 H2 F2, Kp (T.p_next_pieces :: F) H1 H2 → K1 T Hz av p x F2 (({ v with tr0 := v.tr } : VS).add m u) b H2 → Q1 u2 H2) : ∃ f o sp, (V.ref fa) = .ref f ∧ H1 f = some o ∧ Inf.FnHO f o ∧ L2.FnR P w K mg base CX0 17 f sp ∧ sp [] H1 Q1 E0 := by
  have kT := k8.same s8
  obtain ⟨_, zsT, _, eT, _⟩ := kT.notes
  have L1 := lclo_kp L k01 (mu_lst eT mu_nil)
  have kc := k8.left s8 no k01 k1
  obtain ⟨dx, hd, eo⟩ := kc.obj
  have en := kc.h2
  rw [hn] at en
  refine ⟨fa, _, _, rfl, L1.fn, Inf.lamHO, (lamA T).mono (by omega), [.ref x.t, .ref x.nm, .int (u : Int)], L1, x.t, dx, x.o, hd, x.lm, x.en, x.nm, v.given, v.now, u, ns, m, rfl, rfl, eo, en, K1.add kc h1 h2 (by show v.tr.length < _; omega) (by show v.M.length < _; omega) fun H3 F' kk k3 no3 => ?_⟩
  exact q _ _ F' (mend_kp (fun a m => by
    obtain ⟨_, φ, e, _⟩ := L1.cell m
    exact ⟨φ, e⟩) (kp_more kk fun a m => memB m) no3) (k3.same (same_mend no3))
end
end Ob

set_option Elab.async false
set_option linter.all false
set_option maxRecDepth 100000
set_option maxHeartbeats 1000000
namespace Ob
open PySem PySem.Spec PyProof.Rows L2
open LamX (Tabs TabB TabS ExtN)

set_option hygiene false in
local macro_rules
  | `(tactic| kp_flats) => `(tactic| first
    | assumption
    | exact upd_same
    | (apply atNew; assumption; kp_flats)
    | (apply atNe; (next => kbo_bools); kp_flats)
    | (apply atSame; assumption; kp_flats)
    | (apply atKp; assumption; (next => kaf_pre); kp_flats))
set_option hygiene false in
local macro_rules
  | `(tactic| kaf_pre) => `(tactic| first
    | assumption
    | exact not_nil
    | (apply not_cons; (next => kbo_bools); kaf_pre)
    | (apply not_app; (next => kaf_pre); kaf_pre))
set_option hygiene false in
local macro_rules
  | `(tactic| kbo_bools) => `(tactic| first
    | assumption
    | (apply Ne.symm; assumption)
    | (apply neN; assumption; kp_flats)
    | (apply neN'; assumption; kp_flats))
set_option hygiene false in
local macro_rules
  | `(tactic| o_reads) => `(tactic| first
    | with_reducible rfl
    | assumption
    | rfl
    | kp_flats
    | (show SqL _ _ _ _; first | assumption | (apply sqlOf; kp_flats) | (apply sqlSame; assumption; o_reads))
    | (show SqT _ _ _ _; first | assumption | (apply sqtOf; kp_flats) | (apply sqtAll; assumption) | (apply sqtSame; assumption; o_reads))
    | (show Cls _ _; first | exact T.cl_Calls | exact T.cl_Outer | exact T.cl_Timed)
    | (show NoAttr _ _ _; first | exact T.n_Calls_entries | exact T.n_Calls_running | exact T.n_Outer_calls | exact T.n_Outer_push_call | exact T.n_Outer_pop_call | exact T.n_Outer_ask_call | exact T.n_Outer_order | exact T.n_Outer_broken | exact T.n_Timed_outer | exact T.n_Timed_given | exact T.n_Timed_now | exact T.n_Timed_held | exact T.n_Timed_limits | exact T.n_Timed_ends)
    | (apply Or.inl; o_reads)
    | (apply Or.inr; o_reads)
    | (apply And.intro; (next => o_reads); o_reads)
    | (apply Exists.intro; o_reads)
    | exact Nat.le_of_ble_eq_true rfl
    | exact Nat.succ_ne_zero _
    | (show Fr _ _; kba_ints)
    | (show Same _ _; kd_subs)
    | (show Kp _ _ _; kxs_still)
    | (show (_ : Nat) ≤ _; simp only [List.length_append, List.length_map, List.length_cons, List.length_nil, List.length_take, List.length_drop, List.length_replicate, List.length_range, sizeLine_eq]; omega)
    | (show _ = none; apply Fr.h; kba_ints)
    | (show Bag _ _; first | assumption | (apply bag_putF; assumption; o_reads) | (apply bag_neF; (next => kbo_bools); o_reads) | (apply bag_kpR; assumption; (next => kaf_pre); o_reads))
    | omega
    | decide)
local macro_rules
  | `(tactic| o_readsAll) => `(tactic| repeat (first
    | (refine fun (pNew : Addr) (nNew : _ = none) => ?_; replace nNew := Fr.mk nNew)
    | (refine fun (xNew dNew : Addr) (nNew : _ = none) (mNew : _ = none) (eNew : dNew ≠ xNew) => ?_; replace nNew := Fr.mk nNew; replace mNew := Fr.mk mNew)
    | (apply And.intro; next => o_reads)
    | apply Exists.intro (α := V)
    | apply Exists.intro (α := Addr)
    | apply Exists.intro (α := Int)
    | apply Exists.intro (α := Bool)
    | apply Exists.intro (α := List V)
    | apply Exists.intro (α := List Nat)
    | apply Exists.intro (α := List (Str × V))
    | apply Exists.intro (α := List _)
    | apply Exists.intro (α := Str)
    | apply Exists.intro (α := HO)
    | apply Exists.intro (α := Sp)
    | apply Exists.intro (α := VK)))
set_option hygiene false in
local macro_rules
  | `(tactic| kba_ints) => `(tactic| first
    | assumption
    | (apply frUp; (first | assumption | (apply Ne.symm; assumption)); kba_ints)
    | (apply noneOf; assumption; intro oF eF; apply Exists.intro; kp_flats)
    | (apply frUp; (next => kbo_bools); kba_ints))
set_option hygiene false in
local macro_rules
  | `(tactic| kxs_still) => `(tactic| first
    | assumption
    | exact kp_refl _ _
    | (apply kp_newF; assumption; kxs_still)
    | (apply kp_new; assumption; kxs_still)
    | (apply kp_up; (next => o_fieldsN); kxs_still)
    | (apply kp_new; (next => kba_ints); kxs_still)
    | (apply kp_sameR; assumption; kxs_still)
    | (apply kp_transR; assumption; kxs_still)
    | (apply kp_freshR; assumption; (next => kaf_suf); kxs_still))
set_option hygiene false in
local macro_rules
  | `(tactic| kaf_suf) => `(tactic| first
    | assumption
    | exact subNil
    | (apply subCons; (first | (apply Or.inl; o_fieldsN) | (apply Or.inr; kba_ints)); kaf_suf)
    | (apply subApp; (next => kaf_suf); kaf_suf))
set_option hygiene false in
local macro_rules
  | `(tactic| o_fieldsN) => `(tactic| first
    | assumption
    | exact memA
    | (apply memB; o_fieldsN)
    | (apply memL; o_fieldsN)
    | (apply memR; o_fieldsN))
set_option hygiene false in
local macro_rules
  | `(tactic| kd_subs) => `(tactic| first
    | assumption
    | exact Same.refl _
    | (apply same_putF; assumption; kd_subs)
    | (apply same_putG; assumption; kd_subs)
    | (apply same_putF; (next => kba_ints); kd_subs)
    | (apply same_transR; assumption; kd_subs))

set_option pp.maxSteps 2600
open NdefX (TabsN)
open Inf (Clo LClo cut mend cellsOf)
theorem okGT {P : Program} {w : World} {K : PySem.W.Frag} {mg : Str → Option Value} {base : Heap} {x qual : Str} {st : Stmt} {f c : Addr} {fd : FuncData} {N ps : List Str} {k : Nat} {sp : Sp} (F : FunT K x qual st f fd c) (S : FnScope N ps (defScope st)) (len : ∀ vs H Q E, sp vs H Q E → vs.length = ps.length)
    (hbody : ∀ (A : Around) (outer : List Env) (s : Shared) (H : Hp) (vs : List V) (Q : VK) (E : XK), (A.deeper (envOfC qual (defScope st) s.heap.objs.size f (.ref c))).guards = some [] → Room k (A.deeper (envOfC qual (defScope st) s.heap.objs.size f (.ref c))) → sp vs H Q E →
      ∃ t, PSs (cxOf CX0 P w K mg base N qual (defScope st) f (.ref c) A outer s H E).nox (defBody st) t ∧ t { nx := fun _ H' => Q .non H', rt := Q } (L2.start N vs) H) : Inf.FnOkG P w K mg base CX0 (k + 1) f fd ps sp := by
  obtain ⟨oc, od, kV, doc, pm, an, ct, osl, rfl, lk, hcd⟩ := F.ex
  refine ⟨len, fun A outer s H args us vs Q E hga hr e0 hb r hsp => ?_⟩
  have KX : K.In s.heap := e0.mod.kin.keeps fun b o e => (e0.bs b o e).1
  have lim : s.heap.NoLimit := e0.mod.nolimit.keeps fun b o e => (e0.bs b o e).1
  have hl := len _ _ _ _ hsp
  have hkind : ∀ y ∈ ps.zip us, (defScope st).names.lookup y.1 = some .local ∨ ((defScope st).names.lookup y.1 = some .cell ∧ ((cellsFrom (s.heap.objs.size + 1) (defScope st).names []).lookup y.1).isSome = true) := fun ⟨n, v⟩ hy =>
    (S.par n (List.of_mem_zip hy).1).elim .inl fun q => .inr ⟨q, PySem.W.cellsFrom_some _ _ _ (.inl q)⟩
  refine codeAny_call_function hr.depth (KX _ _ lk) rfl S.co S.gen rfl (PySem.W.codeRec_of KX hcd) (hb _ _ _ _ (wpAny_newFunctionEnv_cells S.kind hkind fun env he s1 xx => ?_))
  subst he
  obtain ⟨t, ht, hq⟩ := hbody A outer s H vs Q E hga (hr.deeper _) hsp
  have I : Inv (cxOf CX0 P w K mg base N qual (defScope st) f (.ref c) A outer s H E) [] (L2.start N vs) H s1 := inv_start S hr.hd e0 hl r xx
  refine ⟨lim.keeps xx.toInCall.keep, codeAny_func (wpAny_mono (ht.run [] s1 (L2.start N vs) H _ (I.wish _) hq) (fun fl s' hs => ?_) fun e s' hs => False.elim hs)⟩
  have fin : ∀ {σ' : L2.St} {H' : Hp} {v : V} {u : Value}, Inv (cxOf CX0 P w K mg base N qual (defScope st) f (.ref c) A outer s H E).nox [] σ' H' s' → L2.RelV v u → Q v H' → CE outer P w H s Q u s' :=
    fun {σ' H' v u} J rv q => ⟨v, H', J.os, J.bare, J.base, J.hok, rv, q⟩
  match fl, hs with
  | .ret u, hs => exact hs.elim fun v z => z.elim fun σ' z => z.elim fun H' z => fin z.1 z.2.1 z.2.2
  | .next, hs => exact hs.elim fun σ' z => z.elim fun H' z => fin (v := V.non) (u := Value.none) z.1 rfl z.2
  | .brk, hs => exact hs.elim fun _ z => z.elim fun _ z => False.elim z.2
  | .cont, hs => exact hs.elim fun _ z => z.elim fun _ z => False.elim z.2
def v00 : VS := ⟨[], [], 0, 0, [], fun _ => .non, fun _ => 0, fun _ => 0⟩
def b00 (pl : Addr) : BK := ⟨[], pl, [], 0, 0, fun _ => pl, fun _ => []⟩
theorem ti00 {now : Nat} {lim en : Nat → Nat} : TI now [] [] lim en := ⟨.nil, .nil, .nil, (fun _ z => nomatch z), (fun _ z => nomatch z)⟩
theorem rel00 {pl : Addr} : Rel1 v00 (b00 pl) := ⟨rfl, rfl, rfl, rfl, rfl, fun _ z => (by cases z), fun _ z => (by cases z), fun _ z => (by cases z), ⟨[], rfl, (fun _ z => nomatch z), (fun _ z => nomatch z)⟩, Nat.zero_le _, ti00, fun _ z => (by cases z)⟩
theorem Eqv.ext {av : List Addr} {G H H1 : Hp} (h : Eqv av G H) (s : Sol G av) (x : ExtN H H1) : Eqv av G H1 := fun a m => by
  obtain ⟨o, e, _⟩ := s.1 a m
  rw [e]
  exact x _ _ ((h a m).trans e) fun ps z => s.2 a m ps (by rw [e, z])
theorem bag_ext {H H1 : Hp} {p : Addr} (b : Bag H p) (x : ExtN H H1) : Bag H1 p := by
  obtain ⟨g, m, c, e, z⟩ := b
  exact ⟨g, m, c, x _ _ e (fun _ z => nomatch z), z⟩
theorem ru_rb {c : CL3} {H : Hp} (h : RU c [] H) : RB c [] [] H := by
  obtain ⟨a, b, d, ns, e1, e2⟩ := h
  exact ⟨a, b, d, [], ns, rfl, e1, e2⟩
section
variable {P : Program} {w : World} {K : PySem.W.Frag} {mg : Str → Option Value} {base : Heap}
def spLaw (T : Txt K mg) : Sp := fun vs H Q _ => ∃ (a : Addr) (ns : List Int), vs = [.ref a] ∧ SqL K H a (ns.map V.int) ∧ ns.length ≤ 63 ∧ H T.p_next_pieces = some (.tbl #[]) ∧ H T.p_l_outer = some (.tbl #[]) ∧ H T.p_law = some (.tbl #[]) ∧ ∀ H', Q (.bl true) H'
theorem ok_law (T : Txt K mg) (TB2 : LamX.TabB base mg T.c_next_pieces T.p_next_pieces) (TB1 : LamX.TabB base mg T.c_l_outer T.p_l_outer) (TB : LamX.TabB base mg T.c_law T.p_law) {f : Addr} {d : FuncData} (F : FunT K "law" "law" s_law f d T.c_law) : Inf.FnOkG P w K mg base CX0 40 f d ["_law_script"] (spLaw T) := by
  have G_l_bag := ok_bag (P := P) (w := w) (base := base) T
  have G_l_take := ok_takeK (P := P) (w := w) (base := base) T
  have G_l_alike := ok_alike (P := P) (w := w) (base := base) T
  have G_l_pieces := ok_lpc (P := P) (w := w) (base := base) T
  have G_l_tick := ok_ltk (P := P) (w := w) (base := base) T
  have G_l_step := ok_step (P := P) (w := w) (base := base) (n := 17) T
  have G_l_outer := ok_out (P := P) (w := w) T TB1
  have G_Timed_init := ok_tmi (P := P) (w := w) (base := base) T
  have G_Timed_plan_add := ok_tpadd (P := P) (w := w) (base := base) T
  have G_Timed_plan_tick := ok_ptick (P := P) (w := w) T TB2
  refine okGT F sc_law (fun vs H Q E h => ?_) (fun A outer s H vs Q E hG hr h => ?_)
  · obtain ⟨a, ns, rfl, _⟩ := h
    rfl
  · obtain ⟨a0, ns0, rfl, hS, hlen, hp1, hp2, hp3, q⟩ := h
    have t0 : TabsN (TT T) H := fun p hp => by
      rcases List.mem_cons.mp hp with rfl | hp
      · exact NdefX.TabN.nil hp1
      · rcases List.mem_cons.mp hp with rfl | hp
        · exact NdefX.TabN.nil hp2
        · rw [List.mem_singleton.mp hp]
          exact NdefX.TabN.nil hp3
    refine ⟨_, (pss_cons (ps_for PassesOwn.never rfl (pi_range1 (by rfl) T.z_range (pa_cons (pe_op op_add pe_int (pe_callB (call_min2 rfl) (by rfl) T.z_min (by decide +kernel) (pa_cons pe_int (pa_cons (pe_callB call_len_seq (by rfl) T.z_len (by decide +kernel) (pa_cons (pv 0) pa_nil)) pa_nil)))) pa_nil)) (pg_name (i := 1) sc_law.nd rfl (.inl rfl)) (pss_cons (ps_asg (pe_tup (pa_cons (pe_call G_l_bag (hr.mono (by omega)) rfl T.g_l_bag T.F_l_bag.kp T.b_l_bag .nil pass0 (pa_cons (pv 0) (pa_cons (pv 1) pa_nil))) (pa_cons (pe_lst pa_nil) (pa_cons (pe_lst pa_nil) pa_nil)))) (pg_tup (by rfl) (pgs_cons (pg_name (i := 2) sc_law.nd rfl (.inl rfl)) (pgs_cons (pg_name (i := 3) sc_law.nd rfl (.inl rfl)) (pgs_cons (pg_name (i := 4) sc_law.nd rfl (.inr rfl)) pgs_nil)))))
        (pss_cons (ps_set (i := 5) sc_law.nd rfl (.inl rfl) (pe_disp (pps_cons pe_str (pe_lst pa_nil) (pps_cons pe_str pe_dnewK (pps_cons pe_str pe_int pps_nil))) (by rfl) (by rfl) (fun z => by cases z) (by decide)))
        (pss_cons (ps_set (i := 6) sc_law.nd rfl (.inl rfl) (pe_call G_l_outer (hr.mono (by omega)) rfl T.g_l_outer T.F_l_outer.kp T.b_l_outer .nil pass0 (pa_cons (pe_lst pa_nil) (pa_cons (pv 3) pa_nil))))
        (pss_cons (ps_set (i := 7) sc_law.nd rfl (.inr rfl) (pe_make ⟨T.mk_Timed, T.m_Timed_init, T.t_Timed_init, T.kp_Timed⟩ G_Timed_init (hr.mono (by omega)) rfl T.gc_Timed T.b_Timed_init .nil pass0 (pa_cons (pe_ix (r := rIxL K) ix_list (pv 6) pe_int (fun _ _ => rfl)) (pa_cons (pe_ix (r := rIxL K) ix_list (pv 6) pe_int (fun _ _ => rfl)) (pa_cons (pe_ix (r := rIxL K) ix_list (pv 6) pe_int (fun _ _ => rfl)) pa_nil)))))
        (pss_one (ps_for PassesOwn.never rfl (pi_range1 (by rfl) T.z_range (pa_cons (pe_call G_l_take (hr.mono (by omega)) rfl T.g_l_take T.F_l_take.kp T.b_l_take .nil pass0 (pa_cons (pv 2) (pa_cons pe_int pa_nil))) pa_nil)) (pg_name (i := 8) sc_law.nd rfl (.inl rfl)) (pss_one (ps_if (pt_cmpR op_eq (pe_call G_l_take (hr.mono (by omega)) rfl T.g_l_take T.F_l_take.kp T.b_l_take .nil pass0 (pa_cons (pv 2) (pa_cons pe_int pa_nil))) pe_int (nomark _)) (pss_cons (ps_asg (pe_tup (pa_cons (pe_op op_add (pe_op op_add (pe_dget (hu_of hr) (pv 5) pe_str (fun _ _ => rfl)) pe_int) (pe_call G_l_take (hr.mono (by omega)) rfl T.g_l_take T.F_l_take.kp T.b_l_take .nil pass0 (pa_cons (pv 2) (pa_cons (pe_ix (r := rIxL K) ix_list (pe_lst (pa_cons pe_int (pa_cons pe_int (pa_cons pe_int pa_nil)))) (pe_call G_l_take (hr.mono (by omega)) rfl T.g_l_take T.F_l_take.kp T.b_l_take .nil pass0 (pa_cons (pv 2) (pa_cons pe_int pa_nil))) (fun _ _ => rfl)) pa_nil)))) (pa_cons (pe_callB call_len_seq (by rfl) T.z_len (by decide +kernel) (pa_cons (pv 4) pa_nil)) pa_nil))) (pg_tup (by rfl) (pgs_cons (pg_name (i := 9) sc_law.nd rfl (.inr rfl)) (pgs_cons (pg_name (i := 10) sc_law.nd rfl (.inl rfl)) pgs_nil))))
            (pss_cons (ps_if (pt_not (pt_val (Inf.pe_callG G_l_alike hG (hr.mono (by omega)) rfl T.g_l_alike T.F_l_alike.kp T.b_l_alike pass0 (pa_cons (pe_meth0 (pv 7) T.cl_Timed ⟨T.m_Timed_plan_add, T.t_Timed_plan_add, T.k_Timed_plan_add⟩ G_Timed_plan_add (hr.mono (by omega)) T.b_Timed_plan_add .nil pass0) (pa_cons (pe_lst (pa_cons (pe_tup (pa_cons pe_str (pa_cons (pv 10) pa_nil))) pa_nil)) pa_nil))))) (pss_one (ps_ret pe_bl)) pss_nil)
            (pss_cons (ps_expr (pe_bm PySem.F.plainAttrs_list PySem.F.slot_list_append PySem.F.type_list_append mt_append (pv 4) (pa_cons (pe_tup (pa_cons pe_str (pa_cons (pv 10) pa_nil))) pa_nil)))
            (pss_cons (ps_dput (hu_of hr) (pe_dget (hu_of hr) (pv 5) pe_str (fun _ _ => rfl)) (pv 10) (pe_op op_cat (pe_lst (pa_cons (pe_tup (pa_cons (pe_dget (hu_of hr) (pv 5) pe_str (fun _ _ => rfl)) (pa_cons pe_int pa_nil))) pa_nil)) (pe_call G_l_pieces (hr.mono (by omega)) rfl T.g_l_pieces T.F_l_pieces.kp T.b_l_pieces .nil pass0 (pa_cons (pe_op op_add (pe_dget (hu_of hr) (pv 5) pe_str (fun _ _ => rfl)) pe_int) (pa_cons (pv 9) pa_nil)))) rfl)
            (pss_cons (ps_expr (pe_bm PySem.F.plainAttrs_list PySem.F.slot_list_append PySem.F.type_list_append mt_append (pe_dget (hu_of hr) (pv 5) pe_str (fun _ _ => rfl)) (pa_cons (pv 10) pa_nil)))
            (pss_cons (ps_set (i := 11) sc_law.nd rfl (.inl rfl) (pe_lst (pa_cons (pe_tup (pa_cons pe_str (pa_cons (pv 10) pa_nil))) pa_nil)))
            (pss_one (ps_if (pt_not (pt_val (Inf.pe_callTG (fun _ => rfl) G_l_step hG (hr.mono (by omega)) rfl T.g_l_step T.F_l_step.kp T.b_l_step .nil (pa_cons (pv 7) (pa_cons (pv 5) (pa_cons (pv 3) (pa_cons (pv 4) (pa_cons (pv 11) (pa_cons (Inf.pe_lamP (T := TT T) (nm := nm_law) (c := T.c_law) (P := T.p_law) TB rfl (hm_law T) rfl (hu_law T) rfl (NdefX.ndef_free (sc := defScope s_law) (fr := ["_law_house", "_law_late", "_law_names"]) (by decide +kernel))) pa_nil))))))))) (pss_one (ps_ret pe_bl)) pss_nil)))))))) (pss_one (ps_for PassesOwn.never rfl (pi_range1 (by rfl) T.z_range (pa_cons (pe_ix (r := rIxL K) ix_list (pe_lst (pa_cons pe_int (pa_cons pe_int (pa_cons pe_int (pa_cons pe_int pa_nil))))) (pe_call G_l_take (hr.mono (by omega)) rfl T.g_l_take T.F_l_take.kp T.b_l_take .nil pass0 (pa_cons (pv 2) (pa_cons pe_int pa_nil))) (fun _ _ => rfl)) pa_nil)) (pg_name (i := 12) sc_law.nd rfl (.inl rfl)) (pss_cons (ps_set (i := 13) sc_law.nd rfl (.inl rfl) (pe_meth0 (pv 7) T.cl_Timed ⟨T.m_Timed_plan_tick, T.t_Timed_plan_tick, T.k_Timed_plan_tick⟩ G_Timed_plan_tick (hr.mono (by omega)) T.b_Timed_plan_tick .nil pass0))
              (pss_cons (ps_set (i := 11) sc_law.nd rfl (.inl rfl) (pe_call G_l_tick (hr.mono (by omega)) rfl T.g_l_tick T.F_l_tick.kp T.b_l_tick .nil pass0 (pa_cons (pv 5) pa_nil)))
              (pss_cons (ps_if (pt_not (pt_val (Inf.pe_callG G_l_alike hG (hr.mono (by omega)) rfl T.g_l_alike T.F_l_alike.kp T.b_l_alike pass0 (pa_cons (pv 13) (pa_cons (pv 11) pa_nil))))) (pss_one (ps_ret pe_bl)) pss_nil)
              (pss_one (ps_if (pt_not (pt_val (Inf.pe_callTG (fun _ => rfl) G_l_step hG (hr.mono (by omega)) rfl T.g_l_step T.F_l_step.kp T.b_l_step .nil (pa_cons (pv 7) (pa_cons (pv 5) (pa_cons (pv 3) (pa_cons (pv 4) (pa_cons (pv 11) (pa_cons (Inf.pe_lamP (T := TT T) (nm := nm_law) (c := T.c_law) (P := T.p_law) TB rfl (hm_law T) rfl (hu_law T) rfl (NdefX.ndef_free (sc := defScope s_law) (fr := ["_law_house"]) (by decide +kernel))) pa_nil))))))))) (pss_one (ps_ret pe_bl)) pss_nil))))))))))))))))
      (pss_one (ps_ret pe_bl))), ?_⟩
    refine pSeq ⟨_, rfl, a0, _, rfl, .inl hS, 4, _, rfl, 1, _, rfl, rfl, _, rfl, ?_, ?_, ?_⟩
    · split <;> omega
    · split <;> omega
    generalize hN : ((1 : Int) + (if (((ns0.map V.int).length : Nat) : Int) < 4 then (((ns0.map V.int).length : Nat) : Int) else 4)).toNat = N
    have hN2 : N ≤ 5 := by
      rw [← hN]
      split <;> omega
    refine for_range (n := N) (fun i σ H' => ∃ y1 y2 y3 y4 y5 y6 y7 y8 y9 y10 y11 y12 y13, σ = [some (.ref a0), y1, y2, y3, y4, y5, y6, y7, y8, y9, y10, y11, y12, y13] ∧ TabsN (TT T) H' ∧ SqL K H' a0 (ns0.map V.int)) ⟨_, _, _, _, _, _, _, _, _, _, _, _, _, rfl, t0, hS⟩ ?_ ?_
    · rintro i σ Hz hi ⟨y1, y2, y3, y4, y5, y6, y7, y8, y9, y10, y11, y12, y13, rfl, tz, sz⟩
      obtain ⟨av, sav, eav, fav⟩ : ∃ av, Sol Hz av ∧ (∀ H', Eqv av Hz H' → SqL K H' a0 (ns0.map V.int)) ∧ ∀ x, Fr Hz x → x ∉ av := by
        rcases sz with (h | ⟨o, h⟩) | h
        · exact ⟨[a0], Sol.lst h Sol.nil, fun H' e => .inl (.inl ((e a0 memA).trans h)), fun x f => not_cons (fun z => by rw [← z, f.h] at h; cases h) not_nil⟩
        · exact ⟨[a0], ⟨mu_cons h (fun _ z => nomatch z) (fun _ z => nomatch z) mu_nil, fun a m ps z => by rw [List.mem_singleton.mp m, h] at z; cases z⟩, fun H' e => .inl (.inr ⟨o, (e a0 memA).trans h⟩), fun x f => not_cons (fun z => by rw [← z, f.h] at h; cases h) not_nil⟩
        · exact ⟨[], Sol.nil, fun H' _ => .inr h, fun _ _ => not_nil⟩
      -- the books are made
      refine pGN (pSeq ⟨_, rfl, _, rfl, a0, ns0, i, by rw [Int.zero_add]; rfl, sz, by omega, fun p H1 np s1 b1 => ⟨Nat.zero_le _, fun pn npn => ⟨Nat.zero_le _, fun nm nnm => ⟨le3, fun t0 nt0 => ⟨t0, _, rfl, sqtOf upd_same, rfl, _, _, rfl, _, _, rfl, _, _, rfl, rfl, ?_⟩⟩⟩⟩⟩)
      simp only [List.set_cons_succ, List.set_cons_zero]
      obtain ⟨bs, eb1⟩ := bag_lst b1
      obtain ⟨G2, hG2⟩ : ∃ G, G = upd H1 pn (.lst []) := ⟨_, rfl⟩
      rw [← hG2] at nnm nt0 ⊢
      have s2 : Same H1 G2 := by
        rw [hG2]
        exact same_newF (Fr.mk npn)
      have d_p_pn : p ≠ pn := ne_of_none eb1 npn
      have e_p2 := s2 _ _ eb1
      have e_pn2 : G2 pn = some (.lst []) := by
        rw [hG2]
        exact upd_same
      obtain ⟨G3, hG3⟩ : ∃ G, G = upd G2 nm (.lst []) := ⟨_, rfl⟩
      rw [← hG3] at nt0 ⊢
      have s3 : Same G2 G3 := by
        rw [hG3]
        exact same_newF (Fr.mk nnm)
      have d_p_nm : p ≠ nm := ne_of_none e_p2 nnm
      have e_p3 := s3 _ _ e_p2
      have d_pn_nm : pn ≠ nm := ne_of_none e_pn2 nnm
      have e_pn3 := s3 _ _ e_pn2
      have e_nm3 : G3 nm = some (.lst []) := by
        rw [hG3]
        exact upd_same
      have s4 := same_newF (o := .tup [.ref p, .ref pn, .ref nm]) (Fr.mk nt0)
      have e_p4 := s4 _ _ e_p3
      have e_pn4 := s4 _ _ e_pn3
      have e_nm4 := s4 _ _ e_nm3
      generalize upd G3 t0 (.tup [.ref p, .ref pn, .ref nm]) = G4 at s4 e_p4 e_pn4 e_nm4 ⊢
      refine pSeq (pAsg fun st nst => ⟨Nat.zero_le _, fun pl npl => fun dp ndp => ?_⟩)
      obtain ⟨G5, hG5⟩ : ∃ G, G = upd G4 st (.dK []) := ⟨_, rfl⟩
      rw [← hG5] at npl ndp ⊢
      have s5 : Same G4 G5 := by
        rw [hG5]
        exact same_newF (Fr.mk nst)
      have e_st5 : G5 st = some (.dK []) := by
        rw [hG5]
        exact upd_same
      have e_p5 := s5 _ _ e_p4
      have e_pn5 := s5 _ _ e_pn4
      have e_nm5 := s5 _ _ e_nm4
      obtain ⟨G6, hG6⟩ : ∃ G, G = upd G5 pl (.lst []) := ⟨_, rfl⟩
      rw [← hG6] at ndp ⊢
      have s6 : Same G5 G6 := by
        rw [hG6]
        exact same_newF (Fr.mk npl)
      have e_pl6 : G6 pl = some (.lst []) := by
        rw [hG6]
        exact upd_same
      have d_p_pl : p ≠ pl := ne_of_none e_p5 npl
      have d_pn_pl : pn ≠ pl := ne_of_none e_pn5 npl
      have d_nm_pl : nm ≠ pl := ne_of_none e_nm5 npl
      have d_st_pl : st ≠ pl := ne_of_none e_st5 npl
      have e_st6 := s6 _ _ e_st5
      have s7 : Same G6 (upd G6 dp (.dK [])) := same_newF (Fr.mk ndp)
      have e_dp7 : upd G6 dp (.dK []) dp = some (.dK []) := upd_same
      have d_st_dp : st ≠ dp := ne_of_none e_st6 ndp
      have e_st7 := s7 _ _ e_st6
      have e_pl7 := s7 _ _ e_pl6
      have e_p7 := s7 _ _ (s6 _ _ e_p5)
      have e_pn7 := s7 _ _ (s6 _ _ e_pn5)
      have e_nm7 := s7 _ _ (s6 _ _ e_nm5)
      have fr0 : ∀ {a : Addr}, H1 a = none → Fr Hz a := fun e => Fr.mk (s1.free e)
      have f_p : p ∉ av := fav p (Fr.mk np)
      have f_pn : pn ∉ av := fav pn (fr0 npn)
      have f_nm : nm ∉ av := fav nm (fr0 (s2.free nnm))
      have s24 := s2.trans (s3.trans s4)
      have f_st : st ∉ av := fav st (fr0 (s24.free nst))
      have f_pl : pl ∉ av := fav pl (fr0 (s24.free (s5.free npl)))
      have f_dp : dp ∉ av := fav dp (fr0 (s24.free (s5.free (s6.free ndp))))
      have s17 := s24.trans (s5.trans (s6.trans s7))
      have fst7 : Fr H1 st := Fr.mk (s24.free nst)
      generalize upd G6 dp (.dK []) = G7 at s7 e_dp7 e_st7 e_pl7 e_p7 e_pn7 e_nm7 s17 ⊢
      refine ⟨e_st7, [(kP, .ref pl), (kL, .ref dp), (kN, .int 0)], rfl, (show 3 ≤ 15 by decide), pGN ?_⟩
      rw [show mergeK [] [(kP, V.ref pl), (kL, V.ref dp), (kN, V.int 0)] = stD pl dp 0 from stD_merge]
      simp only [List.set_cons_succ, List.set_cons_zero]
      have kst : Kp [st] G7 (upd G7 st (.dK (stD pl dp 0))) := kp_up memA (kp_refl _ _)
      have e_st8 : upd G7 st (.dK (stD pl dp 0)) st = some (.dK (stD pl dp 0)) := upd_same
      have mst : Mu G7 [st] := mu_cons e_st7 (fun _ z => nomatch z) (fun _ z => nomatch z) mu_nil
      have k18 : Kp [st] H1 (upd G7 st (.dK (stD pl dp 0))) := kp_trans (kp_same s17) kst
      have s18 : Same H1 (upd G7 st (.dK (stD pl dp 0))) := fun a o e => k18.at_ _ _ e (not_cons (ne_of_none e fst7.h) not_nil)
      have a_p := s18 _ _ eb1
      have a_pn := kst.at_ _ _ e_pn7 (not_cons (neO e_pn7 e_st7 (fun z => nomatch z)) not_nil)
      have a_nm := kst.at_ _ _ e_nm7 (not_cons (neO e_nm7 e_st7 (fun z => nomatch z)) not_nil)
      have a_pl := kst.at_ _ _ e_pl7 (not_cons d_st_pl.symm not_nil)
      have a_dp := kst.at_ _ _ e_dp7 (not_cons d_st_dp.symm not_nil)
      have b8 : Bag (upd G7 st (.dK (stD pl dp 0))) p := bag_kpR (kp_same (cs := []) s18) not_nil b1
      have t8 : TabsN (TT T) (upd G7 st (.dK (stD pl dp 0))) := tabs_same (tabs_same tz s1) s18
      have e8 : Eqv av Hz (upd G7 st (.dK (stD pl dp 0))) := fun a m => by
        obtain ⟨o, h, _⟩ := sav.1 a m
        rw [h]
        exact s18 _ _ (s1 _ _ h)
      generalize upd G7 st (.dK (stD pl dp 0)) = H8 at e_st8 a_p a_pn a_nm a_pl a_dp b8 t8 e8 ⊢
      clear e_p2 e_pn2 e_p3 e_pn3 e_nm3 e_p4 e_pn4 e_nm4 e_st5 e_p5 e_pn5 e_nm5 e_pl6 e_st6 e_dp7 e_st7 e_pl7 e_p7 e_pn7 e_nm7 kst mst k18 s18 s17 s24 s2 s3 s4 s5 s6 s7 hG2 hG3 hG5 hG6
      -- the callables
      refine pSeq (pAsg ⟨Nat.zero_le _, fun ph nph => ⟨_, rfl, ?_⟩⟩)
      have fph := Fr.mk nph
      have s9 := same_newF (o := .lst []) fph
      have hne : ph ≠ pn := (ne_of_none a_pn nph).symm
      refine ⟨ph, pn, rfl, upd_same, s9 _ _ a_pn, hne, tabs_same t8 s9, fun r cl H10 eph epn k10 g10 t10 fr er hR => pGN ?_⟩
      subst eph epn
      simp only [List.set_cons_succ, List.set_cons_zero]
      have x10 : ExtN H8 H10 := fun b o e n => k10 _ _ (s9 _ _ e) n
      have tab3 : ∀ {a : Addr}, H10 a = none → Fr H8 a := fun e => Fr.mk (s9.free (g10 _ e))
      generalize upd H8 cl.ph (.lst []) = H9 at *
      refine pSeq (pAsg ⟨_, rfl, r, _, 0, .ref cl.fp, rfl, rfl, sqlOf er, atI_nat (j := 0) rfl, _, rfl, r, _, 1, .ref cl.fo, rfl, rfl, sqlOf er, atI_nat (j := 1) rfl, _, rfl, r, _, 2, .ref cl.fa, rfl, rfl, sqlOf er, atI_nat (j := 2) rfl, fun t dx nt ndx nxt => ?_⟩)
      have s34 : Same H10 (upd (upd H10 dx (.own t)) t (.ins T.C_Timed dx [])) := same_putG (Fr.mk nt) (same_newF (Fr.mk ndx))
      refine ⟨t, dx, .ref cl.fp, .ref cl.fo, .ref cl.fa, rfl, upd_same, fun o c l od lm en hd H4 fo4 fc4 fl4 fod4 flm4 fen4 fhd4 k4 nlod nle nhl nhe noc et eo ec el eod ehd elm een => ⟨rfl, pGN ?_⟩⟩
      simp only [List.set_cons_succ, List.set_cons_zero]
      have up4 : ∀ {a : Addr} {x : HO}, H10 a = some x → H4 a = some x := fun e => k4.at_ _ _ (s34 _ _ e) (not_cons (ne_of_none e nt) not_nil)
      have xH : ExtN H8 H4 := fun b o e n => up4 (x10 _ _ e n)
      have t4 : TabsN (TT T) H4 := fun p hp => (t10.ext fun a x e => up4 e) p hp
      have tab4 : ∀ {a : Addr}, Fr (upd (upd H10 dx (.own t)) t (.ins T.C_Timed dx [])) a → Fr H8 a := fun f => tab3 (s34.free f.h)
      have nto : t ≠ o := ne_of_none upd_same fo4.h
      have ntc : t ≠ c := ne_of_none upd_same fc4.h
      have hR : RB cl [] [] H10 := ru_rb hR
      have far : ∀ {x : Addr}, Fr (upd (upd H10 dx (.own t)) t (.ins T.C_Timed dx [])) x → ∀ a ∈ [cl.ph, cl.pn], a ≠ x := fun f a ma => by
        obtain ⟨_, h1, _, _, ns, _, h2, _⟩ := id hR
        rcases List.mem_cons.mp ma with rfl | ma
        · exact ne_of_none (s34 _ _ h1) f.h
        · rw [List.mem_singleton.mp ma]
          exact ne_of_none (s34 _ _ h2) f.h
      have fart : ∀ a ∈ [cl.ph, cl.pn], a ≠ t := fun a ma => by
        obtain ⟨_, h1, _, _, ns, _, h2, _⟩ := id hR
        rcases List.mem_cons.mp ma with rfl | ma
        · exact ne_of_none h1 nt
        · rw [List.mem_singleton.mp ma]
          exact ne_of_none h2 nt
      have osK := osB (P := P) (w := w) (base := base) (PM := fun _ _ => True) T (c := cl) (tr0 := [])
      have hR4 : RB cl [] [] H4 := osK.rk (osK.rk hR (kp_same (cs := []) s34) mu_nil (fun _ _ => not_nil)) k4 (mu_ins upd_same mu_nil) (fun a m => not_cons (fart a m) not_nil)
      obtain ⟨d1, eo⟩ := eo
      obtain ⟨d2, ec⟩ := ec
      have hF : ∀ a ∈ foot t o c l lm en hd od cl, Fr H8 a ∨ a = cl.pn := by
        intro a ma
        rcases List.mem_cons.mp ma with rfl | ma
        · exact .inl (tab3 nt)
        rcases List.mem_cons.mp ma with rfl | ma
        · exact .inl (tab4 fo4)
        rcases List.mem_cons.mp ma with rfl | ma
        · exact .inl (tab4 fc4)
        rcases List.mem_cons.mp ma with rfl | ma
        · exact .inl (tab4 fl4)
        rcases List.mem_cons.mp ma with rfl | ma
        · exact .inl (tab4 flm4)
        rcases List.mem_cons.mp ma with rfl | ma
        · exact .inl (tab4 fen4)
        rcases List.mem_cons.mp ma with rfl | ma
        · exact .inl (tab4 fhd4)
        rcases List.mem_cons.mp ma with rfl | ma
        · exact .inl (tab4 fod4)
        rcases List.mem_cons.mp ma with rfl | ma
        · exact .inl fph
        · exact .inr (List.mem_singleton.mp ma)
      have hs0 : HsV T H4 (foot t o c l lm en hd od cl) ⟨cl, t, o, c, l, lm, en, st, nm, dp⟩ v00 := by
        refine ⟨⟨dx, hd, od, rfl, et, ehd, ?_, ⟨d1, eo⟩, ⟨d2, ec⟩, ⟨[], el, LogC.nil⟩, eod, hR4, nlod, noc, fun a ma => ⟨far fo4 a ma, far fc4 a ma, far fl4 a ma, far fod4 a ma⟩⟩, elm, een, ti00, (fun _ z => nomatch z), ⟨nto, ntc⟩, nle, fun a ma => ⟨fart a ma, far flm4 a ma, far fen4 a ma⟩⟩
        exact not_cons (neO ehd et (fun z => nomatch z)) (not_cons nhl (not_cons nhe (not_cons (neO ehd eo (fun z => nomatch z)) (not_cons (neO ehd ec (fun z => nomatch z)) (not_cons (neO ehd el (fun z => nomatch z)) (not_cons (fun z => far fhd4 _ memA z.symm) (not_cons (fun z => far fhd4 _ (memB memA) z.symm) not_nil)))))))
      have so8 : Sol H8 ([p, st, nm, dp, pl] ++ av) := Sol.app (Sol.lst a_p (Sol.dK e_st8 (Sol.lst a_nm (Sol.dK a_dp (Sol.lst a_pl Sol.nil))))) (sav.eqv e8)
      have npn : ∀ a ∈ [p, st, nm, dp, pl] ++ av, a ≠ cl.pn := fun a ma => by
        rcases List.mem_append.mp ma with ma | ma
        · rcases List.mem_cons.mp ma with rfl | ma
          · exact d_p_pn
          rcases List.mem_cons.mp ma with rfl | ma
          · exact neO e_st8 a_pn (fun z => nomatch z)
          rcases List.mem_cons.mp ma with rfl | ma
          · exact d_pn_nm.symm
          rcases List.mem_cons.mp ma with rfl | ma
          · exact neO a_dp a_pn (fun z => nomatch z)
          · rw [List.mem_singleton.mp ma]
            exact d_pn_pl.symm
        · exact fun z => f_pn (by rw [← z]; exact ma)
      have k0 : K1 T Hz av p ⟨cl, t, o, c, l, lm, en, st, nm, dp⟩ (foot t o c l lm en hd od cl) v00 (b00 pl) H4 := by
        refine ⟨t4, hs0, bag_ext b8 xH, ⟨xH _ _ e_st8 (fun _ z => nomatch z), xH _ _ a_pl (fun _ z => nomatch z), xH _ _ a_dp (fun _ z => nomatch z), (fun _ z => nomatch z), d_st_dp⟩, xH _ _ a_nm (fun _ z => nomatch z), fun i y z => (by cases i <;> cases z), e8.ext sav xH, sav, fun a ma mF => ?_, d_p_nm, fun a ma => ?_, (fun z => nomatch z), fun a ma => ?_⟩
        · have ma : a ∈ [p, st, nm, dp, pl] ++ av := ma
          exact (hF a mF).elim (fun f => so8.1.fr f ma) (npn a ma)
        · rw [List.mem_singleton.mp ma]
          exact ⟨d_p_pl, d_nm_pl⟩
        · have ma : a ∈ [p, st, nm, dp, pl] := ma
          rcases List.mem_cons.mp ma with rfl | ma
          · exact f_p
          rcases List.mem_cons.mp ma with rfl | ma
          · exact f_st
          rcases List.mem_cons.mp ma with rfl | ma
          · exact f_nm
          rcases List.mem_cons.mp ma with rfl | ma
          · exact f_dp
          · rw [List.mem_singleton.mp ma]
            exact f_pl
      obtain ⟨X, hX⟩ : ∃ X : FX, X = ⟨cl, t, o, c, l, lm, en, st, nm, dp⟩ := ⟨_, rfl⟩
      rw [← hX] at k0
      -- the turns
      refine ⟨_, rfl, p, 71, rfl, k0.bg, by decide, by decide, fun rt Ht rt0 rt1 bt kt => ⟨_, rfl, by omega, by omega, ?_⟩⟩
      have kt0 := k0.take kt bt
      refine for_range (n := rt.toNat) (fun turn σ H' => ∃ y8 y9 y10 y11 y12 y13, ∃ (F : List Addr) (v : VS) (b : BK) (tt : Nat), σ = [some (.ref a0), some (.int (0 + (i : Int))), some (.ref p), some (.ref X.cl.pn), some (.ref X.nm), some (.ref X.s), some (.ref r), some (.ref X.t), y8, y9, y10, y11, y12, y13] ∧ K1 T Hz av p X F v b H' ∧ Rel1 v b ∧ v.given + tt ≤ turn ∧ v.now ≤ 9 * tt) ⟨_, _, _, _, _, _, _, v00, b00 pl, 0, by rw [hX], kt0, rel00, Nat.le_refl _, Nat.le_refl _⟩ ?_ ?_
      · rintro turn σ H' hturn ⟨y8, y9, y10, y11, y12, y13, F, v, b, tt, rfl, k, rl, hgt, hnow⟩
        have htu : turn < 70 := by omega
        clear k0 kt0 hs0 so8 npn hF
        refine pGN ?_
        simp only [List.set_cons_succ, List.set_cons_zero]
        refine pIf (pTest (pOp ⟨_, rfl, p, 2, rfl, k.bg, by decide, by decide, fun rr H1 _ _ b1' kk1 => ⟨rfl, _, rfl, ?_⟩⟩))
        have k1 := k.take kk1 b1'
        clear k kk1 b1'
        have hgv : v.given ≤ 70 := by omega
        have hml := rl.ml
        have hsl := rl.sl
        have hcut := rl.cut (tt := tt) (by omega) hnow
        have hnw := rl.nw
        by_cases hc : V.int rr = V.int 0
        · refine ifT (decide_eq_true hc) ?_
          -- an addition
          have hgn := dg_str k1.st.es stD_now
          rw [hnw] at hgn
          refine pSeq (pAsg ⟨_, rfl, X.s, _, rfl, hgn, _, _, rfl, rfl, _, rfl, le3, fun q2 nq2 => ⟨_, rfl, p, 3, rfl, (k1.same (same_newF (Fr.mk nq2))).bg, by decide, by decide, fun r2 H2 hr0 hr1 b2 kk2 => ?_⟩⟩)
          have k2 := k1.same (same_newF (o := .lst [.int 2, .int 10, .int 70]) (Fr.mk nq2))
          obtain ⟨bs1, eb1⟩ := bag_lst k1.bg
          have npq : q2 ≠ p := (ne_of_none eb1 nq2).symm
          have eq2 : H2 q2 = some (.lst [.int 2, .int 10, .int 70]) := kk2.at_ _ _ upd_same (not_cons npq not_nil)
          have k2 := k2.take kk2 b2
          obtain ⟨bd, hat, hbd1, hbd2⟩ : ∃ bd : Int, atI [V.int 2, V.int 10, V.int 70] r2 = some (.int bd) ∧ 0 < bd ∧ bd ≤ 70 := by
            rcases (show r2 = 0 ∨ r2 = 1 ∨ r2 = 2 by omega) with rfl | rfl | rfl
            · exact ⟨2, rfl, by decide, by decide⟩
            · exact ⟨10, rfl, by decide, by decide⟩
            · exact ⟨70, rfl, by decide, by decide⟩
          refine ⟨q2, _, r2, .int bd, rfl, rfl, sqlOf eq2, hat, p, bd, rfl, k2.bg, hbd1, ?_, fun r3 H3 hr3 hr4 b3 kk3 => ?_⟩
          · have : (2 : Nat) ^ 200 > 70 := by decide
            omega
          have k3 := k2.take kk3 b3
          clear k1 k2 kk2 kk3 b2 b3 eq2 eb1
          obtain ⟨u, hu, hu1, hu2⟩ : ∃ u : Nat, (v.now : Int) + 1 + r3 = (u : Int) ∧ v.now < u ∧ u ≤ v.now + 100 := ⟨v.now + 1 + r3.toNat, by omega, by omega, by omega⟩
          refine ⟨_, _, rfl, rfl, _, rfl, X.nm, b.ns, rfl, .inl (sqlOf k3.h2), le2, fun t0' nt0' => ⟨t0', _, rfl, sqtOf upd_same, rfl, _, _, rfl, _, _, rfl, rfl, ?_⟩⟩
          have k4 := k3.same (same_newF (o := .tup [.int ((v.now : Int) + 1 + r3), .int (b.ns.length : Int)]) (Fr.mk nt0'))
          simp only [List.set_cons_succ, List.set_cons_zero]
          rw [rl.ln, hu] at k4 ⊢
          generalize upd H3 t0' (.tup [.int (u : Int), .int (v.given : Int)]) = H4 at k4 ⊢
          clear k3
          -- what is planned
          obtain ⟨dx4, hd4, eo4⟩ := k4.obj
          refine pSeq (pIf ⟨_, rfl, X.t, dx4, _, rfl, eo4, rfl, ?_⟩)
          dsimp only [tNil, List.map, List.cons_append, List.nil_append]
          refine K1.padd k4 fun r1 ys1 H5 s5 fr1 er1 wr1 k5 => ?_
          refine ⟨_, rfl, le2, fun ta nta => ⟨(show 1 ≤ sizeLine by decide), fun la nla => ?_⟩⟩
          have s6 := same_newF (o := .tup [.str "push", .int (v.given : Int)]) (Fr.mk nta)
          have s7 := same_newF (o := .lst [.ref ta]) (Fr.mk nla)
          have w7 : WLog (upd (upd H5 ta (.tup [.str "push", .int (v.given : Int)])) la (.lst [.ref ta])) [.ref ta] [(("push" : Str), v.given)] := WLog.one ⟨ta, rfl, s7 _ _ upd_same⟩
          have hpw : ∀ e ∈ [(("push" : Str), v.given)], e.1 = ("pop" : Str) ∨ e.1 = ("push" : Str) := fun e m => by
            rw [List.mem_singleton.mp m]
            exact .inr rfl
          have hpl : ∀ e ∈ [(("push" : Str), v.given)], e.2 < 100 := fun e m => by
            rw [List.mem_singleton.mp m]
            show v.given < 100
            omega
          have sp1 : Shw (2 ^ 20) 64 (.list ([(("push" : Str), v.given)].map entW)) := shw_log2 hpw hpl (show 1 ≤ 30000 by decide)
          refine ⟨.ref r1, .ref la, _, rfl, dp_wl ((s6.trans s7) _ _ er1) (wr1.kp (cs := []) (kp_same (s6.trans s7)) mu_nil), dp_wl upd_same w7, sp1, true, rfl, ifF rfl (pNx ?_)⟩
          have k7 := k5.same (s6.trans s7)
          generalize upd (upd H5 ta (.tup [.str "push", .int (v.given : Int)])) la (.lst [.ref ta]) = H7 at k7 ⊢
          clear k4 k5 s5 s6 s7 w7 er1 wr1 eo4
          dsimp only []
          -- the name
          refine pSeq ⟨_, rfl, .inl ⟨rfl, _, sqlOf k7.h2⟩, _, rfl, le2, fun p1 np1 => ?_⟩
          have sp1' := same_newF (o := .tup [.str "m", .int (v.given : Int)]) (Fr.mk np1)
          have k8 := k7.same sp1'
          refine ⟨X.nm, _, _, rfl, rfl, k8.h2, by rw [rl.ln, sizeLine_eq]; omega, ?_⟩
          have k9 := k8.put_nm (ys := b.ns ++ [.ref p1]) (k8.nt.add (by rw [rl.ln]; exact upd_same))
          generalize upd (upd H7 p1 (.tup [.str "m", .int (v.given : Int)])) X.nm (.lst (b.ns ++ [.ref p1])) = H9 at k9 ⊢
          clear k7 k8 sp1'
          dsimp only []
          -- its pieces
          have hgn9 := dg_str k9.st.es stD_now
          have hgl9 := dg_str k9.st.es stD_plans
          rw [show BK.now { b with ns := b.ns ++ [V.ref p1] } = v.now from hnw] at hgn9
          refine pSeq ⟨_, rfl, X.s, _, rfl, hgn9, le2, fun tb ntb => ⟨(show 1 ≤ sizeLine by decide), fun lb nlb => ?_⟩⟩
          have s10 := same_newF (o := .tup [.int (v.now : Int), .int 1]) (Fr.mk ntb)
          have s11 := same_newF (o := .lst [.ref tb]) (Fr.mk nlb)
          have etb := s11 _ _ (upd_same (H := H9) (a := tb) (o := .tup [.int (v.now : Int), .int 1]))
          have elb : upd (upd H9 tb (.tup [.int (v.now : Int), .int 1])) lb (.lst [.ref tb]) lb = some (.lst [.ref tb]) := upd_same
          have s911 := s10.trans s11
          generalize upd (upd H9 tb (.tup [.int (v.now : Int), .int 1])) lb (.lst [.ref tb]) = H11 at s11 etb elb s911 ⊢
          have k11 := k9.same s911
          have hgn11 := dg_str k11.st.es stD_now
          rw [show BK.now { b with ns := b.ns ++ [V.ref p1] } = v.now from hnw] at hgn11
          refine ⟨_, rfl, X.s, _, rfl, hgn11, _, _, rfl, rfl, _, rfl, v.now + 1, u, ?_, hu1, by omega, fun rp H12 s12 frp plr => ?_⟩
          · show [V.int ((v.now : Int) + 1), V.int (u : Int)] = [V.int ((v.now + 1 : Nat) : Int), V.int (u : Int)]
            rw [Int.natCast_add]
            rfl
          obtain ⟨tsp, ep1, ep2, ep3⟩ := plr
          have hpcl := pcR_len (u - (v.now + 1)) (v.now + 1)
          refine ⟨lb, rp, _, _, rfl, rfl, s12 _ _ elb, ep1, by rw [sizeLine_eq, List.length_map]; show 1 + tsp.length ≤ _; omega, fun q2' nq2' => ?_⟩
          have s13 := same_newF (o := .lst ([V.ref tb] ++ tsp.map V.ref)) (Fr.mk nq2')
          have eq13 : upd H12 q2' (.lst ([V.ref tb] ++ tsp.map V.ref)) q2' = some (.lst ([V.ref tb] ++ tsp.map V.ref)) := upd_same
          have s913 := s911.trans (s12.trans s13)
          have fq9 : Fr H9 q2' := Fr.mk (s911.free (s12.free nq2'))
          have plq : PL (upd H12 q2' (.lst ([V.ref tb] ++ tsp.map V.ref))) q2' ((v.now, 1) :: pcR (v.now + 1) (u - (v.now + 1))) := by
            refine ⟨tb :: tsp, eq13, by rw [List.length_cons, List.length_cons, ep2], fun i2 t2 y2 z1 z2 => ?_⟩
            match i2, z1, z2 with
            | 0, z1, z2 =>
              cases z1
              cases z2
              exact s13 _ _ (s12 _ _ etb)
            | i2 + 1, z1, z2 => exact s13 _ _ (ep3 i2 t2 y2 z1 z2)
          generalize upd H12 q2' (.lst ([V.ref tb] ++ tsp.map V.ref)) = H13 at s13 eq13 s913 plq ⊢
          have k13 := k9.same s913
          have ed13 := k13.st.ed
          have es13 := k13.st.es
          have hgl13 := dg_str k13.st.es stD_plans
          have hbg : b.g = v.given := rl.gg
          have hDP := DPut.k (k := .inl (v.given : Int)) (v := .ref q2') ed13 (by rw [show ∀ f, (dM (List.range b.g) f).length = b.g from fun f => by unfold dM; rw [List.length_map, List.length_range], hbg, sizeLine_eq]; omega)
          rw [show BK.g { b with ns := b.ns ++ [V.ref p1] } = v.given from hbg, dM_new (fun z => absurd (List.mem_range.mp z) (Nat.lt_irrefl _)), show (fun x => if x = v.given then V.ref q2' else V.ref (b.pa x)) = fun x => V.ref (if x = v.given then q2' else b.pa x) from funext fun x => by split <;> rfl, ← List.range_succ] at hDP
          refine ⟨_, rfl, X.s, _, rfl, hgl13, _, rfl, X.dp, _, rfl, hDP, ?_⟩
          have ep13 := k13.st.ep
          have kd : Kp [X.dp] H13 (upd H13 X.dp (.dK (dM (List.range (v.given + 1)) (fun x => .ref (if x = v.given then q2' else b.pa x))))) := kp_up memA (kp_refl _ _)
          have ed14 : upd H13 X.dp (.dK (dM (List.range (v.given + 1)) (fun x => .ref (if x = v.given then q2' else b.pa x)))) X.dp = some (.dK (dM (List.range (v.given + 1)) (fun x => .ref (if x = v.given then q2' else b.pa x)))) := upd_same
          have ep14 := kd.at_ _ _ ep13 (not_cons (neO ep13 ed13 (fun z => nomatch z)) not_nil)
          have es14 := kd.at_ _ _ es13 (not_cons k13.st.ne not_nil)
          have md : Mu H13 [X.dp] := mu_cons ed13 (fun _ z => nomatch z) (fun _ z => nomatch z) mu_nil
          have pl14 := plq.kp kd md (not_cons (neO eq13 ed13 (fun z => nomatch z)) not_nil)
          dsimp only []
          generalize upd H13 X.dp (.dK (dM (List.range (v.given + 1)) (fun x => .ref (if x = v.given then q2' else b.pa x)))) = H14 at kd ed14 ep14 es14 pl14 ⊢
          have hgp14 := dg_str es14 stD_pile
          -- the pile
          have hSl : (b.S.map nV).length ≤ 70 := by
            rw [List.length_map]
            omega
          refine pSeq ⟨_, rfl, X.s, _, rfl, hgp14, .inl ⟨rfl, _, sqlOf ep14⟩, _, rfl, b.pl, _, _, rfl, rfl, ep14, by rw [sizeLine_eq]; show (b.S.map nV).length + 1 ≤ _; omega, ?_⟩
          have kq : Kp [b.pl] H14 (upd H14 b.pl (.lst (b.S.map nV ++ [V.int (v.given : Int)]))) := kp_up memA (kp_refl _ _)
          have ep15 : upd H14 b.pl (.lst (b.S.map nV ++ [V.int (v.given : Int)])) b.pl = some (.lst (b.S.map nV ++ [V.int (v.given : Int)])) := upd_same
          have mq : Mu H14 [b.pl] := mu_lst ep14 mu_nil
          dsimp only []
          generalize upd H14 b.pl (.lst (b.S.map nV ++ [V.int (v.given : Int)])) = H15 at kq ep15 ⊢
          have k9_15 : Kp [X.dp, b.pl] H9 H15 := kp_trans (kp_same s913) (kp_trans (kp_more kd fun a m => by rw [List.mem_singleton.mp m]; exact memA) (kp_more kq fun a m => by rw [List.mem_singleton.mp m]; exact memB memA))
          have hSgv : ∀ i ∈ b.S, i ≠ v.given := fun i m => Nat.ne_of_lt (rl.gv i (rl.sm i m))
          have npl_q : q2' ≠ b.pl := (ne_of_none k9.st.ep fq9.h).symm
          have mdq : Mu H9 [X.dp, b.pl] := mu_cons k9.st.ed (fun _ z => nomatch z) (fun _ z => nomatch z) (mu_lst k9.st.ep mu_nil)
          have k15 : K1 T Hz av p X F v (b.add (.ref p1) q2' v.given v.now u) H15 := by
            refine k9.book k9_15 (fun a m => memB m) (b' := b.add (.ref p1) q2' v.given v.now u) ⟨?_, ?_, ?_, fun i2 mi => ?_, k9.st.ne⟩ rfl (fun a m => ?_) (fun m => ?_)
            · exact kq.at_ _ _ es14 (not_cons (neO es14 ep14 (fun z => nomatch z)) not_nil)
            · show H15 b.pl = some (.lst ((b.S ++ [v.given]).map nV))
              rw [List.map_append]
              exact ep15
            · exact kq.at_ _ _ ed14 (not_cons (neO ed14 ep14 (fun z => nomatch z)) not_nil)
            · show PL H15 (if i2 = v.given then q2' else b.pa i2) (if i2 = v.given then (v.now, 1) :: pcR (v.now + 1) (u - (v.now + 1)) else b.pc i2)
              have mi : i2 ∈ b.S ++ [v.given] := mi
              rcases List.mem_append.mp mi with mi | mi
              · rw [if_neg (hSgv i2 mi), if_neg (hSgv i2 mi)]
                refine (k9.st.el i2 mi).kp k9_15 mdq (not_cons ?_ (not_cons ?_ not_nil))
                · obtain ⟨ts, z1, _⟩ := k9.st.el i2 mi
                  exact neO z1 k9.st.ed (fun z => nomatch z)
                · exact fun z => k9.n3 (List.mem_map.mpr ⟨i2, mi, z⟩)
              · have e := List.mem_singleton.mp mi
                rw [if_pos e, if_pos e]
                exact pl14.kp kq mq (not_cons npl_q not_nil)
            · have m : a ∈ b.pl :: (b.S ++ [v.given]).map (fun x => if x = v.given then q2' else b.pa x) := m
              rcases List.mem_cons.mp m with rfl | m
              · exact .inl memA
              · obtain ⟨i2, mi, rfl⟩ := List.mem_map.mp m
                rcases List.mem_append.mp mi with mi | mi
                · rw [if_neg (hSgv i2 mi)]
                  exact .inl (memB (List.mem_map.mpr ⟨i2, mi, rfl⟩))
                · rw [if_pos (List.mem_singleton.mp mi)]
                  exact .inr fq9
            · have m : b.pl ∈ (b.S ++ [v.given]).map (fun x => if x = v.given then q2' else b.pa x) := m
              obtain ⟨i2, mi, e⟩ := List.mem_map.mp m
              rcases List.mem_append.mp mi with mi | mi
              · rw [if_neg (hSgv i2 mi)] at e
                exact k9.n3 (List.mem_map.mpr ⟨i2, mi, e⟩)
              · rw [if_pos (List.mem_singleton.mp mi)] at e
                exact npl_q e
          clear k9 k11 k13 kd kq md mq mdq k9_15 pl14 plq ep13 ed13 es13 ep14 ed14 es14 ep15 hDP hgn9 hgl9 hgn11 hgl13 hgp14 s911 s913 s10 s11 s12 s13 etb elb ep1 ep3 eq13
          -- the deed, with the calls that were planned
          refine pSeq (pAsg ⟨_, rfl, le2, fun te nte => ⟨(show 1 ≤ sizeLine by decide), fun ea nea => pGN ?_⟩⟩)
          simp only [List.set_cons_succ, List.set_cons_zero]
          have s16 := same_newF (o := .tup [.str "push", .int (v.given : Int)]) (Fr.mk nte)
          have s17 := same_newF (o := .lst [.ref te]) (Fr.mk nea)
          have w17 : WLog (upd (upd H15 te (.tup [.str "push", .int (v.given : Int)])) ea (.lst [.ref te])) [.ref te] [(("push" : Str), v.given)] := WLog.one ⟨te, rfl, s17 _ _ upd_same⟩
          have e17 : upd (upd H15 te (.tup [.str "push", .int (v.given : Int)])) ea (.lst [.ref te]) ea = some (.lst [.ref te]) := upd_same
          have fea : Fr H15 ea := Fr.mk (s16.free nea)
          have nea15 : ea ∉ T.p_next_pieces :: F := (mu_app (mu_tabs k15.tb ⟨_, hm_next_pieces T, rfl⟩) k15.mu).fr fea
          have k17 := k15.same (s16.trans s17)
          generalize upd (upd H15 te (.tup [.str "push", .int (v.given : Int)])) ea (.lst [.ref te]) = H17 at k17 w17 e17 ⊢
          clear k15 s16 s17 fea
          refine pIf ⟨_, rfl, _, rfl, _, rfl, _, rfl, _, rfl, k17.tb, fun fa ca H18 kp18 n18 tb18 nf18 hf18 hc18 => fun cT HT tel => ?_⟩
          obtain ⟨ca', eca, hf18⟩ : ∃ cl', (cl' = cloFrom (cxOf CX0 P w K mg base n_law "law" (defScope s_law) f (Value.ref T.c_law) A outer s H E).env.cells (LAd [] 0).scope.names []) ∧ H18 fa = some (Inf.LamO fa (LAd cl' ca)) := ⟨_, rfl, hf18⟩
          have hc18 : H18 ca = some (LamX.CodeO ca qN) := hc18
          have kp18 : Kp [T.p_law] H17 H18 := ⟨fun b o e n => kp18 b o e fun z => n (by rw [z]; exact memA)⟩
          have mlaw : Mu H17 [T.p_law] := mu_tabs k17.tb ⟨_, hm_law T, rfl⟩
          have k18 := k17.rd kp18 tb18 ⟨_, hm_law T, rfl⟩
          have e18 := kp18.at_ _ _ e17 (not_cons (tab_ne k17.tb (hm_law T) e17 (fun _ z => nomatch z)) not_nil)
          have w18 := w17.kp kp18 mlaw
          clear k17 e17 w17 kp18 mlaw
          have lcl := tel.lclo (F := LAd ca' ca) (js := [7, 4, 9]) (ws := [.ref X.t, .ref X.nm, .int (u : Int)]) scA eca cellA rfl rfl hf18 hc18
          have lno : ∀ a ∈ cellsOf (LAd ca' ca).nf frA, H18 a = none := fun a m => tel.no a (tel.lin (F := LAd ca' ca) scA eca cellA a m)
          have r9 := (rl.clear v.tr).add (m := .ref p1) (q := q2') (u := u) hu1 hu2
          obtain ⟨el, g1, g2, g3⟩ := rl.lg
          have hell : el.length ≤ 23000 := by
            have := congrArg List.length g1
            rw [List.length_map, List.length_map] at this
            omega
          have htrl : v.tr.length < 390000 := by omega
          have ecall : [(("push" : Str), v.given)].map (caOf (({ v with tr0 := v.tr } : VS).add (.ref p1) u).mb) = [Ca.push v.given (.ref p1)] := by
            show [caOf _ _] = _
            rw [show caOf (({ v with tr0 := v.tr } : VS).add (.ref p1) u).mb (("push" : Str), v.given) = Ca.push v.given (if v.given = v.given then V.ref p1 else v.mb v.given) from if_pos rfl, if_pos rfl]
          refine ⟨Hz, av, p, X, F, v, ({ v with tr0 := v.tr } : VS).add (.ref p1) u, _, ea, _, [(("push" : Str), v.given)], el, .ref fa, rfl, k18.same tel.same, tel.same _ _ e18, nea15, w18.kp (cs := []) (kp_same tel.same) mu_nil, fun H19 Q1 k01 k1' q1 => call_add T k18 tel.same lcl lno (ns := b.ns) (m := .ref p1) rfl hu1 (by omega) htrl (by omega) k01 k1' q1, rfl, ?_, ?_, fun e m => ?_, g1, fun e m => ?_, fun e m => ?_, ?_, r9.ps, fun i2 mi => ?_, ?_, fun H20 F2 kk k20 => ?_⟩
          · exact congrArg (v.tr ++ ·) ecall.symm
          · rw [ecall]
            show [[V.str "push", V.ref p1]] = [[V.str "push", if v.given = v.given then V.ref p1 else v.mb v.given]]
            rw [if_pos rfl]
          · rw [List.mem_singleton.mp m]
            show (b.ns ++ [V.ref p1])[v.given]? = some (if v.given = v.given then V.ref p1 else v.mb v.given)
            rw [if_pos rfl, ← rl.ln]
            exact List.getElem?_concat_length ..
          · rcases List.mem_append.mp m with m | m
            · exact g2 e m
            · exact hpw e m
          · rcases List.mem_append.mp m with m | m
            · have := g3 e m
              omega
            · exact hpl e m
          · rw [List.length_append]
            show el.length + 1 ≤ 30000
            omega
          · have mi : i2 ∈ b.S ++ [v.given] := mi
            rcases List.mem_append.mp mi with mi | mi
            · have := rl.gv i2 (rl.sm i2 mi)
              omega
            · rw [List.mem_singleton.mp mi]
              omega
          · show (b.S ++ [v.given]).length ≤ 100
            rw [List.length_append]
            show b.S.length + 1 ≤ 100
            omega
          · have kT := k18.same tel.same
            have mT : Mu HT (T.p_next_pieces :: F) := mu_app (mu_tabs kT.tb ⟨_, hm_next_pieces T, rfl⟩) kT.mu
            obtain ⟨t1, t3⟩ := tel_kp tel kk mT
            have kc := K1.cut k20 k18.co3 tel.no (cv_tel tel t1) (tabs_cut tel t1 k20.tb) (fun a ma => by
              obtain ⟨o, h, _⟩ := sav.1 a ma
              rw [Inf.cut_out fun m => by rw [k18.ez a ma |>.symm.trans (tel.no a m)] at h; cases h]
              exact k20.ez a ma)
            refine ⟨t1, true, rfl, ifF rfl (pNx ?_)⟩
            exact ⟨_, _, _, _, _, _, F2, _, _, tt, rfl, kc, r9, by show v.given + 1 + tt ≤ turn + 1; omega, hnow⟩
        · refine ifF (decide_eq_false hc) ?_
          refine ⟨(show 4 ≤ sizeLine by decide), fun q2 nq2 => ⟨_, rfl, p, 4, rfl, (k1.same (same_newF (Fr.mk nq2))).bg, by decide, by decide, fun r2 H2 hr0 hr1 b2 kk2 => ?_⟩⟩
          have k2 := k1.same (same_newF (o := .lst [.int 1, .int 1, .int 1, .int 9]) (Fr.mk nq2))
          obtain ⟨bs1, eb1⟩ := bag_lst k1.bg
          have npq : q2 ≠ p := (ne_of_none eb1 nq2).symm
          have eq2 : H2 q2 = some (.lst [.int 1, .int 1, .int 1, .int 9]) := kk2.at_ _ _ upd_same (not_cons npq not_nil)
          have k2 := k2.take kk2 b2
          obtain ⟨bd, hat, hbd1, hbd2⟩ : ∃ bd : Int, atI [V.int 1, V.int 1, V.int 1, V.int 9] r2 = some (.int bd) ∧ 0 < bd ∧ bd ≤ 9 := by
            rcases (show r2 = 0 ∨ r2 = 1 ∨ r2 = 2 ∨ r2 = 3 by omega) with rfl | rfl | rfl | rfl
            · exact ⟨1, rfl, by decide, by decide⟩
            · exact ⟨1, rfl, by decide, by decide⟩
            · exact ⟨1, rfl, by decide, by decide⟩
            · exact ⟨9, rfl, by decide, by decide⟩
          refine ⟨q2, _, r2, .int bd, rfl, rfl, sqlOf eq2, hat, _, rfl, by omega, by omega, ?_⟩
          refine for_range (n := bd.toNat) (fun i2 σ H' => ∃ y9 y10 y11 y12 y13, ∃ (F : List Addr) (v2 : VS) (b : BK), σ = [some (.ref a0), some (.int (0 + (i : Int))), some (.ref p), some (.ref X.cl.pn), some (.ref X.nm), some (.ref X.s), some (.ref r), some (.ref X.t), some (.int (0 + (turn : Int))), y9, y10, y11, y12, y13] ∧ K1 T Hz av p X F v2 b H' ∧ Rel1 v2 b ∧ v2.given = v.given ∧ v2.now ≤ v.now + i2) ⟨_, _, _, _, _, F, v, b, rfl, k2, rl, rfl, Nat.le_refl _⟩ ?_ ?_
          · clear k1 k2 kk2 b2 eq2 eb1 hml hsl hcut hnw
            rintro i2 σ H3 hi2 ⟨y9, y10, y11, y12, y13, F3, v3, b3, rfl, k3, r3, hg3, hn3⟩
            have hi9 : i2 < 9 := by omega
            clear rl
            have hgv3 : v3.given ≤ 70 := by omega
            have hml := r3.ml
            have hsl := r3.sl
            have hcut := r3.cut (tt := tt + 1) (by omega) (by omega)
            have hnw := r3.nw
            have hlm3 : ∀ i ∈ v3.M, v3.lim i ≤ 1000000000 := fun i2 m => by
              have := r3.lb i2 m
              omega
            refine pGN ?_
            simp only [List.set_cons_succ, List.set_cons_zero]
            -- what is planned
            obtain ⟨dx3, hd3, eo3⟩ := k3.obj
            refine pSeq (pAsg ⟨_, rfl, X.t, dx3, _, rfl, eo3, rfl, ?_⟩)
            dsimp only [tNil, List.map, List.cons_append, List.nil_append]
            refine K1.plan k3 (by omega) hlm3 fun rp ysp H4 B kk4 frp erp wlp hB k4 => pGN ?_
            simp only [List.set_cons_succ, List.set_cons_zero]
            have frp4 : ∀ a ∈ [X.s, X.dp], rp ≠ a := fun a ma z => by
              rcases List.mem_cons.mp ma with rfl | ma
              · rw [z, k4.st.es] at erp
                cases erp
              · rw [List.mem_singleton.mp ma] at z
                rw [z, k4.st.ed] at erp
                cases erp
            clear kk4 frp k3 eo3
            -- the books
            have hndS : b3.S.Nodup := by
              rw [r3.ps]
              exact r3.ti.pm.nodup_iff.mpr (r3.ti.inc.imp Nat.ne_of_lt)
            refine pSeq (pAsg ⟨_, rfl, X.s, X.dp, b3.pl, b3.S, b3.g, b3.now, b3.pa, b3.pc, v3.ends, v3.lim, rfl, k4.st, r3.pcs, hndS, fun j mj => by rw [r3.gg]; exact r3.gv j (r3.sm j mj), by omega, by rw [r3.gg]; omega, fun re yse H5 pl' pa' B2 kk5 fre ere wle hp5 hs5 st5 fpl fpa => pGN ?_⟩)
            simp only [List.set_cons_succ, List.set_cons_zero]
            rw [r3.nw, r3.ps] at hp5 wle
            rw [r3.nw] at hs5
            have hB2 : BegN v3 B2 := ⟨hp5, hs5⟩
            have eB : B2 = B := hB2.uniq hB
            subst eB
            have m45 : Mu H4 [X.s, X.dp] := mu_cons k4.st.es (fun _ z => nomatch z) (fun _ z => nomatch z) (mu_cons k4.st.ed (fun _ z => nomatch z) (fun _ z => nomatch z) mu_nil)
            have k5 : K1 T Hz av p X F3 v3 (b3.tick v3.ends B2 pl' pa') H5 := by
              refine k4.book kk5 (fun a m => ?_) (b' := b3.tick v3.ends B2 pl' pa') st5 rfl (fun a m => ?_) (fun m => ?_)
              · rcases List.mem_cons.mp m with rfl | m
                · exact memA
                · rw [List.mem_singleton.mp m]
                  exact memB memA
              · have hsub : ∀ j ∈ (b3.tick v3.ends B2 pl' pa').S, j ∈ b3.S := fun j mj => by
                  rcases List.mem_append.mp mj with mj | mj
                  · exact (List.mem_filter.mp mj).1
                  · have := (List.mem_filter.mp (List.mem_filter.mp (hB.1.mem_iff.mp mj)).1).1
                    rw [r3.ps]
                    exact this
                rcases List.mem_cons.mp m with rfl | m
                · exact .inr fpl
                · obtain ⟨j, mj, rfl⟩ := List.mem_map.mp m
                  rcases fpa j (hsub j mj) with z | z
                  · refine .inl (memB (List.mem_map.mpr ⟨j, hsub j mj, z.symm⟩))
                  · exact .inr z.1
              · have hsub : ∀ j ∈ (b3.tick v3.ends B2 pl' pa').S, j ∈ b3.S := fun j mj => by
                  rcases List.mem_append.mp mj with mj | mj
                  · exact (List.mem_filter.mp mj).1
                  · have := (List.mem_filter.mp (List.mem_filter.mp (hB.1.mem_iff.mp mj)).1).1
                    rw [r3.ps]
                    exact this
                obtain ⟨j, mj, e⟩ := List.mem_map.mp m
                have e : pa' j = pl' := e
                rcases fpa j (hsub j mj) with z | z
                · obtain ⟨ts, z1, _⟩ := k4.st.el j (hsub j mj)
                  rw [← z, e, fpl.h] at z1
                  cases z1
                · exact z.2 e
            have erp5 := kk5.at_ _ _ erp (not_cons (frp4 _ memA) (not_cons (frp4 _ (memB memA)) not_nil))
            have wlp5 := wlp.kp kk5 m45
            have nre : re ∉ T.p_next_pieces :: F3 := (mu_app (mu_tabs k4.tb ⟨_, hm_next_pieces T, rfl⟩) k4.mu).fr fre
            clear k4 kk5 m45 erp wlp fre fpl fpa st5 hp5 hs5
            have hmemB := r3.mem hB
            have hwB : ∀ e ∈ tickW (endS v3.ends (v3.now + 1) (stC [] v3.tr)) B2, e.1 = ("pop" : Str) ∨ e.1 = ("push" : Str) := tick_word
            have hlB : ∀ e ∈ tickW (endS v3.ends (v3.now + 1) (stC [] v3.tr)) B2, e.2 < 100 := fun e m => by
              have := r3.gv _ (hmemB e m)
              omega
            have hlen := r3.tlen hB
            refine pSeq (pIf ⟨_, rfl, _, rfl, .ref rp, .ref re, _, rfl, dp_wl erp5 wlp5, dp_wl ere wle, shw_log2 hwB hlB (by omega), true, rfl, ifF rfl (pNx ?_)⟩)
            clear erp5 wlp5
            dsimp only []
            -- the deed
            refine pIf ⟨_, rfl, _, rfl, _, rfl, _, rfl, _, rfl, k5.tb, fun fa ca H18 kp18 n18 tb18 nf18 hf18 hc18 => fun cT HT tel => ?_⟩
            obtain ⟨ca', eca, hf18⟩ : ∃ cl', (cl' = cloFrom (cxOf CX0 P w K mg base n_law "law" (defScope s_law) f (Value.ref T.c_law) A outer s H E).env.cells (LTi [] 0).scope.names []) ∧ H18 fa = some (Inf.LamO fa (LTi cl' ca)) := ⟨_, rfl, hf18⟩
            have hc18 : H18 ca = some (LamX.CodeO ca qN) := hc18
            have kp18 : Kp [T.p_law] H5 H18 := ⟨fun b o e n => kp18 b o e fun z => n (by rw [z]; exact memA)⟩
            have mlaw : Mu H5 [T.p_law] := mu_tabs k5.tb ⟨_, hm_law T, rfl⟩
            have k18 := k5.rd kp18 tb18 ⟨_, hm_law T, rfl⟩
            have e18 := kp18.at_ _ _ ere (not_cons (tab_ne k5.tb (hm_law T) ere (fun _ z => nomatch z)) not_nil)
            have w18 := wle.kp kp18 mlaw
            clear k5 ere wle kp18 mlaw
            have lcl := tel.lclo (F := LTi ca' ca) (js := [7]) (ws := [.ref X.t]) scT eca cellT rfl rfl hf18 hc18
            have lno : ∀ a ∈ cellsOf (LTi ca' ca).nf frT, H18 a = none := fun a m => tel.no a (tel.lin (F := LTi ca' ca) scT eca cellT a m)
            have r9 := (r3.clear v3.tr).tick (B := B2) (pl := pl') (pa := pa') hB
            obtain ⟨el, g1, g2, g3⟩ := r3.lg
            have hell : el.length ≤ 23000 := by
              have := congrArg List.length g1
              rw [List.length_map, List.length_map] at this
              omega
            have hS9 : ∀ j ∈ (b3.tick v3.ends B2 pl' pa').S, j < 100 := fun j mj => by
              have h1 : j < v3.given := r9.gv j (r9.sm j mj)
              omega
            have hL9 : (b3.tick v3.ends B2 pl' pa').S.length ≤ 100 := by
              have h1 : (b3.tick v3.ends B2 pl' pa').S.length ≤ v3.given := r9.sl
              omega
            refine ⟨Hz, av, p, X, F3, v3, ({ v3 with tr0 := v3.tr } : VS).tick B2, _, re, _, tickW (endS v3.ends (v3.now + 1) (stC [] v3.tr)) B2, el, .ref fa, rfl, k18.same tel.same, tel.same _ _ e18, nre, w18.kp (cs := []) (kp_same tel.same) mu_nil, fun H19 Q1 k01 k1' q1 => call_tick T TB2 k18 tel.same lcl lno (by omega) (by omega) hlm3 hB k01 k1' q1, rfl, rfl, ?_, fun e m => ?_, g1, fun e m => ?_, fun e m => ?_, ?_, r9.ps, hS9, hL9, fun H20 F2 kk k20 => ?_⟩
            · show ntC (stV [] v3.tr) _ = _
              rw [r3.sv]
              exact (nt_run (r3.pops (B := B2)).1).1
            · exact r3.mbn _ (hmemB e m)
            · rcases List.mem_append.mp m with m | m
              · exact g2 e m
              · exact hwB e m
            · rcases List.mem_append.mp m with m | m
              · have := g3 e m
                omega
              · exact hlB e m
            · rw [List.length_append]
              omega
            · have kT := k18.same tel.same
              have mT : Mu HT (T.p_next_pieces :: F3) := mu_app (mu_tabs kT.tb ⟨_, hm_next_pieces T, rfl⟩) kT.mu
              obtain ⟨t1, t3⟩ := tel_kp tel kk mT
              have kc := K1.cut k20 k18.co3 tel.no (cv_tel tel t1) (tabs_cut tel t1 k20.tb) (fun a ma => by
                obtain ⟨o, h, _⟩ := sav.1 a ma
                rw [Inf.cut_out fun m => by rw [k18.ez a ma |>.symm.trans (tel.no a m)] at h; cases h]
                exact k20.ez a ma)
              refine ⟨t1, true, rfl, ifF rfl (pNx ?_)⟩
              exact ⟨_, _, _, _, _, F2, _, _, rfl, kc, r9, hg3, by show v3.now + 1 ≤ v.now + (i2 + 1); omega⟩
          · rintro σ H3 ⟨y9, y10, y11, y12, y13, F3, v3, b3, rfl, k3, r3, hg3, hn3⟩
            exact ⟨_, _, _, _, _, _, F3, v3, b3, tt + 1, rfl, k3, r3, by omega, by omega⟩
      · rintro σ H3 ⟨y8, y9, y10, y11, y12, y13, F, v, b, tt, rfl, k, rl, _⟩
        exact ⟨_, _, _, _, _, _, _, _, _, _, _, _, _, rfl, k.tb, eav _ k.ez⟩
    · rintro σ H3 ⟨y1, y2, y3, y4, y5, y6, y7, y8, y9, y10, y11, y12, y13, rfl, tz, sz⟩
      exact q H3
end
end Ob

set_option Elab.async false
set_option linter.all false
set_option maxRecDepth 100000
set_option maxHeartbeats 1000000
namespace Ob
open PySem PySem.Spec PyProof.Rows L2
open LamX (Tabs TabB TabS ExtN)

set_option hygiene false in
local macro_rules
  | `(tactic| kp_flats) => `(tactic| first
    | assumption
    | exact upd_same
    | (apply atNew; assumption; kp_flats)
    | (apply atNe; (next => kbo_bools); kp_flats)
    | (apply atSame; assumption; kp_flats)
    | (apply atKp; assumption; (next => kaf_pre); kp_flats))
set_option hygiene false in
local macro_rules
  | `(tactic| kaf_pre) => `(tactic| first
    | assumption
    | exact not_nil
    | (apply not_cons; (next => kbo_bools); kaf_pre)
    | (apply not_app; (next => kaf_pre); kaf_pre))
set_option hygiene false in
local macro_rules
  | `(tactic| kbo_bools) => `(tactic| first
    | assumption
    | (apply Ne.symm; assumption)
    | (apply neN; assumption; kp_flats)
    | (apply neN'; assumption; kp_flats))
set_option hygiene false in
local macro_rules
  | `(tactic| o_reads) => `(tactic| first
    | with_reducible rfl
    | assumption
    | rfl
    | kp_flats
    | (show SqL _ _ _ _; first | assumption | (apply sqlOf; kp_flats) | (apply sqlSame; assumption; o_reads))
    | (show SqT _ _ _ _; first | assumption | (apply sqtOf; kp_flats) | (apply sqtAll; assumption) | (apply sqtSame; assumption; o_reads))
    | (show Cls _ _; first | exact T.cl_Calls | exact T.cl_Outer | exact T.cl_Timed)
    | (show NoAttr _ _ _; first | exact T.n_Calls_entries | exact T.n_Calls_running | exact T.n_Outer_calls | exact T.n_Outer_push_call | exact T.n_Outer_pop_call | exact T.n_Outer_ask_call | exact T.n_Outer_order | exact T.n_Outer_broken | exact T.n_Timed_outer | exact T.n_Timed_given | exact T.n_Timed_now | exact T.n_Timed_held | exact T.n_Timed_limits | exact T.n_Timed_ends)
    | (apply Or.inl; o_reads)
    | (apply Or.inr; o_reads)
    | (apply And.intro; (next => o_reads); o_reads)
    | (apply Exists.intro; o_reads)
    | exact Nat.le_of_ble_eq_true rfl
    | exact Nat.succ_ne_zero _
    | (show Fr _ _; kba_ints)
    | (show Same _ _; kd_subs)
    | (show Kp _ _ _; kxs_still)
    | (show (_ : Nat) ≤ _; simp only [List.length_append, List.length_map, List.length_cons, List.length_nil, List.length_take, List.length_drop, List.length_replicate, List.length_range, sizeLine_eq]; omega)
    | (show _ = none; apply Fr.h; kba_ints)
    | (show Bag _ _; first | assumption | (apply bag_putF; assumption; o_reads) | (apply bag_neF; (next => kbo_bools); o_reads) | (apply bag_kpR; assumption; (next => kaf_pre); o_reads))
    | omega
    | decide)
local macro_rules
  | `(tactic| o_readsAll) => `(tactic| repeat (first
    | (refine fun (pNew : Addr) (nNew : _ = none) => ?_; replace nNew := Fr.mk nNew)
    | (refine fun (xNew dNew : Addr) (nNew : _ = none) (mNew : _ = none) (eNew : dNew ≠ xNew) => ?_; replace nNew := Fr.mk nNew; replace mNew := Fr.mk mNew)
    | (apply And.intro; next => o_reads)
    | apply Exists.intro (α := V)
    | apply Exists.intro (α := Addr)
    | apply Exists.intro (α := Int)
    | apply Exists.intro (α := Bool)
    | apply Exists.intro (α := List V)
    | apply Exists.intro (α := List Nat)
    | apply Exists.intro (α := List (Str × V))
    | apply Exists.intro (α := List _)
    | apply Exists.intro (α := Str)
    | apply Exists.intro (α := HO)
    | apply Exists.intro (α := Sp)
    | apply Exists.intro (α := VK)))
set_option hygiene false in
local macro_rules
  | `(tactic| kba_ints) => `(tactic| first
    | assumption
    | (apply frUp; (first | assumption | (apply Ne.symm; assumption)); kba_ints)
    | (apply noneOf; assumption; intro oF eF; apply Exists.intro; kp_flats)
    | (apply frUp; (next => kbo_bools); kba_ints))
set_option hygiene false in
local macro_rules
  | `(tactic| kxs_still) => `(tactic| first
    | assumption
    | exact kp_refl _ _
    | (apply kp_newF; assumption; kxs_still)
    | (apply kp_new; assumption; kxs_still)
    | (apply kp_up; (next => o_fieldsN); kxs_still)
    | (apply kp_new; (next => kba_ints); kxs_still)
    | (apply kp_sameR; assumption; kxs_still)
    | (apply kp_transR; assumption; kxs_still)
    | (apply kp_freshR; assumption; (next => kaf_suf); kxs_still))
set_option hygiene false in
local macro_rules
  | `(tactic| kaf_suf) => `(tactic| first
    | assumption
    | exact subNil
    | (apply subCons; (first | (apply Or.inl; o_fieldsN) | (apply Or.inr; kba_ints)); kaf_suf)
    | (apply subApp; (next => kaf_suf); kaf_suf))
set_option hygiene false in
local macro_rules
  | `(tactic| o_fieldsN) => `(tactic| first
    | assumption
    | exact memA
    | (apply memB; o_fieldsN)
    | (apply memL; o_fieldsN)
    | (apply memR; o_fieldsN))
set_option hygiene false in
local macro_rules
  | `(tactic| kd_subs) => `(tactic| first
    | assumption
    | exact Same.refl _
    | (apply same_putF; assumption; kd_subs)
    | (apply same_putG; assumption; kd_subs)
    | (apply same_putF; (next => kba_ints); kd_subs)
    | (apply same_transR; assumption; kd_subs))

open NdefX (TabsN)
set_option pp.maxSteps 700
theorem all_mk {QQ : Program} {l : PySem.W.OpenLaw} {w : World} {K : PySem.W.Frag} {h : Heap} {mg : Str → Option Value} {fa : Addr} (X : K.In h) (G : h.Ns mainGlobals mg) (hfa : mg "law" = some (.ref fa)) (tt : Inf.TopTabs QQ K mg h)
    {C_Calls : Addr} {C_Outer : Addr} {C_Timed : Addr} {a0 : Addr} {oc0 kV0 dc0 pm0 ct0 : Value} {od0 an0 : Option Addr} {sl0 : Array (Option Value)} {cd0 : Value} {a1 : Addr} {oc1 kV1 dc1 pm1 ct1 : Value} {od1 an1 : Option Addr} {sl1 : Array (Option Value)} {cd1 : Value} {a2 : Addr} {oc2 kV2 dc2 pm2 ct2 : Value} {od2 an2 : Option Addr} {sl2 : Array (Option Value)} {cd2 : Value} {a3 : Addr} {oc3 kV3 dc3 pm3 ct3 : Value} {od3 an3 : Option Addr} {sl3 : Array (Option Value)} {cd3 : Value} {a4 : Addr} {oc4 kV4 dc4 pm4 ct4 : Value} {od4 an4 : Option Addr} {sl4 : Array (Option Value)} {cd4 : Value} {a5 : Addr} {oc5 kV5 dc5 pm5 ct5 : Value} {od5 an5 : Option Addr} {sl5 : Array (Option Value)} {cd5 : Value} {a6 : Addr} {oc6 kV6 dc6 pm6 ct6 : Value} {od6 an6 : Option Addr} {sl6 : Array (Option Value)} {cd6 : Value} {a7 : Addr} {oc7 kV7 dc7 pm7 ct7 : Value} {od7 an7 : Option Addr} {sl7 : Array (Option Value)} {cd7 : Value} {a8 : Addr} {oc8 kV8 dc8 pm8 ct8 : Value} {od8 an8 : Option Addr} {sl8 : Array (Option Value)} {cd8 : Value} {a9 : Addr} {oc9 kV9 dc9 pm9 ct9 : Value} {od9 an9 : Option Addr} {sl9 : Array (Option Value)} {cd9 : Value} {a10 : Addr} {oc10 kV10 dc10 pm10 ct10 : Value} {od10 an10 : Option Addr} {sl10 : Array (Option Value)} {cd10 : Value} {a11 : Addr} {oc11 kV11 dc11 pm11 ct11 : Value} {od11 an11 : Option Addr} {sl11 : Array (Option Value)} {cd11 : Value} {a12 : Addr} {oc12 kV12 dc12 pm12 ct12 : Value} {od12 an12 : Option Addr} {sl12 : Array (Option Value)} {cd12 : Value} {a13 : Addr} {oc13 kV13 dc13 pm13 ct13 : Value} {od13 an13 : Option Addr} {sl13 : Array (Option Value)} {cd13 : Value} {a14 : Addr} {oc14 kV14 dc14 pm14 ct14 : Value} {od14 an14 : Option Addr} {sl14 : Array (Option Value)} {cd14 : Value} {a15 : Addr} {oc15 kV15 dc15 pm15 ct15 : Value} {od15 an15 : Option Addr} {sl15 : Array (Option Value)} {cd15 : Value} {a16 : Addr} {oc16 kV16 dc16 pm16 ct16 : Value} {od16 an16 : Option Addr} {sl16 : Array (Option Value)} {cd16 : Value} {a17 : Addr} {oc17 kV17 dc17 pm17 ct17 : Value} {od17 an17 : Option Addr} {sl17 : Array (Option Value)} {cd17 : Value} {a18 : Addr} {oc18 kV18 dc18 pm18 ct18 : Value} {od18 an18 : Option Addr} {sl18 : Array (Option Value)} {cd18 : Value} {a19 : Addr} {oc19 kV19 dc19 pm19 ct19 : Value} {od19 an19 : Option Addr} {sl19 : Array (Option Value)} {cd19 : Value} {a20 : Addr} {oc20 kV20 dc20 pm20 ct20 : Value} {od20 an20 : Option Addr} {sl20 : Array (Option Value)} {cd20 : Value} {a21 : Addr} {oc21 kV21 dc21 pm21 ct21 : Value} {od21 an21 : Option Addr} {sl21 : Array (Option Value)} {cd21 : Value} {a22 : Addr} {oc22 kV22 dc22 pm22 ct22 : Value} {od22 an22 : Option Addr} {sl22 : Array (Option Value)} {cd22 : Value} {a23 : Addr} {oc23 kV23 dc23 pm23 ct23 : Value} {od23 an23 : Option Addr} {sl23 : Array (Option Value)} {cd23 : Value} {a24 : Addr} {oc24 kV24 dc24 pm24 ct24 : Value} {od24 an24 : Option Addr} {sl24 : Array (Option Value)} {cd24 : Value} {a25 : Addr} {oc25 kV25 dc25 pm25 ct25 : Value} {od25 an25 : Option Addr} {sl25 : Array (Option Value)} {cd25 : Value} {a26 : Addr} {oc26 kV26 dc26 pm26 ct26 : Value} {od26 an26 : Option Addr} {sl26 : Array (Option Value)} {cc26 pp26 : Addr} {lv26 : Array Value} {lo26 : Value} {ld26 : Option Addr} {ls26 : Array (Option Value)} {a27 : Addr} {oc27 kV27 dc27 pm27 ct27 : Value} {od27 an27 : Option Addr} {sl27 : Array (Option Value)} {cd27 : Value} {a28 : Addr} {oc28 kV28 dc28 pm28 ct28 : Value} {od28 an28 : Option Addr} {sl28 : Array (Option Value)} {cd28 : Value} {a29 : Addr} {oc29 kV29 dc29 pm29 ct29 : Value} {od29 an29 : Option Addr} {sl29 : Array (Option Value)} {cd29 : Value} {a30 : Addr} {oc30 kV30 dc30 pm30 ct30 : Value} {od30 an30 : Option Addr} {sl30 : Array (Option Value)} {cd30 : Value} {a31 : Addr} {oc31 kV31 dc31 pm31 ct31 : Value} {od31 an31 : Option Addr} {sl31 : Array (Option Value)} {cc31 pp31 : Addr} {lv31 : Array Value} {lo31 : Value} {ld31 : Option Addr} {ls31 : Array (Option Value)} {a32 : Addr} {oc32 kV32 dc32 pm32 ct32 : Value} {od32 an32 : Option Addr} {sl32 : Array (Option Value)} {cd32 : Value} {a33 : Addr} {oc33 kV33 dc33 pm33 ct33 : Value} {od33 an33 : Option Addr} {sl33 : Array (Option Value)} {cd33 : Value} {a34 : Addr} {oc34 kV34 dc34 pm34 ct34 : Value} {od34 an34 : Option Addr} {sl34 : Array (Option Value)} {cd34 : Value} {a35 : Addr} {oc35 kV35 dc35 pm35 ct35 : Value} {od35 an35 : Option Addr} {sl35 : Array (Option Value)} {cd35 : Value} {a36 : Addr} {oc36 kV36 dc36 pm36 ct36 : Value} {od36 an36 : Option Addr} {sl36 : Array (Option Value)} {cc36 pp36 : Addr} {lv36 : Array Value} {lo36 : Value} {ld36 : Option Addr} {ls36 : Array (Option Value)} {tLAST : Tok}
    (gc_Calls : PySem.W.nsIn K mainGlobals "Calls" = some (some (.ref C_Calls)))
    (gc_Outer : PySem.W.nsIn K mainGlobals "Outer" = some (some (.ref C_Outer)))
    (gc_Timed : PySem.W.nsIn K mainGlobals "Timed" = some (some (.ref C_Timed)))
    (ma0 : PySem.W.findIn K (.ref C_Calls) "__init__" = some (some (.ref a0)))
    (l0 : K.lookup a0 = some ⟨oc0, od0, .func (PySem.W.fnOf "__init__" "Calls.__init__" (defArgs s_Calls_init) (defBody s_Calls_init) (defScope s_Calls_init) .none kV0 dc0 pm0 an0 cd0 ct0), sl0⟩) (c0 : PySem.W.codeIn K cd0 "Calls.__init__" = true) (k0 : PySem.W.keepIn K (.ref a0) = true)
    (mt0 : PySem.W.isFn K (.ref a0) = true) (my0 : PySem.W.typeIn K (.ref a0) = some (.type "function"))
    (ma1 : PySem.W.findIn K (.ref C_Calls) "check" = some (some (.ref a1)))
    (l1 : K.lookup a1 = some ⟨oc1, od1, .func (PySem.W.fnOf "check" "Calls.check" (defArgs s_Calls_check) (defBody s_Calls_check) (defScope s_Calls_check) .none kV1 dc1 pm1 an1 cd1 ct1), sl1⟩) (c1 : PySem.W.codeIn K cd1 "Calls.check" = true) (k1 : PySem.W.keepIn K (.ref a1) = true)
    (mt1 : PySem.W.isFn K (.ref a1) = true) (my1 : PySem.W.typeIn K (.ref a1) = some (.type "function"))
    (ma2 : PySem.W.findIn K (.ref C_Calls) "run" = some (some (.ref a2)))
    (l2 : K.lookup a2 = some ⟨oc2, od2, .func (PySem.W.fnOf "run" "Calls.run" (defArgs s_Calls_run) (defBody s_Calls_run) (defScope s_Calls_run) .none kV2 dc2 pm2 an2 cd2 ct2), sl2⟩) (c2 : PySem.W.codeIn K cd2 "Calls.run" = true) (k2 : PySem.W.keepIn K (.ref a2) = true)
    (mt2 : PySem.W.isFn K (.ref a2) = true) (my2 : PySem.W.typeIn K (.ref a2) = some (.type "function"))
    (ma3 : PySem.W.findIn K (.ref C_Outer) "__init__" = some (some (.ref a3)))
    (l3 : K.lookup a3 = some ⟨oc3, od3, .func (PySem.W.fnOf "__init__" "Outer.__init__" (defArgs s_Outer_init) (defBody s_Outer_init) (defScope s_Outer_init) .none kV3 dc3 pm3 an3 cd3 ct3), sl3⟩) (c3 : PySem.W.codeIn K cd3 "Outer.__init__" = true) (k3 : PySem.W.keepIn K (.ref a3) = true)
    (mt3 : PySem.W.isFn K (.ref a3) = true) (my3 : PySem.W.typeIn K (.ref a3) = some (.type "function"))
    (ma4 : PySem.W.findIn K (.ref C_Outer) "check" = some (some (.ref a4)))
    (l4 : K.lookup a4 = some ⟨oc4, od4, .func (PySem.W.fnOf "check" "Outer.check" (defArgs s_Outer_check) (defBody s_Outer_check) (defScope s_Outer_check) .none kV4 dc4 pm4 an4 cd4 ct4), sl4⟩) (c4 : PySem.W.codeIn K cd4 "Outer.check" = true) (k4 : PySem.W.keepIn K (.ref a4) = true)
    (mt4 : PySem.W.isFn K (.ref a4) = true) (my4 : PySem.W.typeIn K (.ref a4) = some (.type "function"))
    (ma5 : PySem.W.findIn K (.ref C_Outer) "answer" = some (some (.ref a5)))
    (l5 : K.lookup a5 = some ⟨oc5, od5, .func (PySem.W.fnOf "answer" "Outer.answer" (defArgs s_Outer_answer) (defBody s_Outer_answer) (defScope s_Outer_answer) .none kV5 dc5 pm5 an5 cd5 ct5), sl5⟩) (c5 : PySem.W.codeIn K cd5 "Outer.answer" = true) (k5 : PySem.W.keepIn K (.ref a5) = true)
    (mt5 : PySem.W.isFn K (.ref a5) = true) (my5 : PySem.W.typeIn K (.ref a5) = some (.type "function"))
    (ma6 : PySem.W.findIn K (.ref C_Outer) "change" = some (some (.ref a6)))
    (l6 : K.lookup a6 = some ⟨oc6, od6, .func (PySem.W.fnOf "change" "Outer.change" (defArgs s_Outer_change) (defBody s_Outer_change) (defScope s_Outer_change) .none kV6 dc6 pm6 an6 cd6 ct6), sl6⟩) (c6 : PySem.W.codeIn K cd6 "Outer.change" = true) (k6 : PySem.W.keepIn K (.ref a6) = true)
    (mt6 : PySem.W.isFn K (.ref a6) = true) (my6 : PySem.W.typeIn K (.ref a6) = some (.type "function"))
    (ma7 : PySem.W.findIn K (.ref C_Outer) "follow" = some (some (.ref a7)))
    (l7 : K.lookup a7 = some ⟨oc7, od7, .func (PySem.W.fnOf "follow" "Outer.follow" (defArgs s_Outer_follow) (defBody s_Outer_follow) (defScope s_Outer_follow) .none kV7 dc7 pm7 an7 cd7 ct7), sl7⟩) (c7 : PySem.W.codeIn K cd7 "Outer.follow" = true) (k7 : PySem.W.keepIn K (.ref a7) = true)
    (mt7 : PySem.W.isFn K (.ref a7) = true) (my7 : PySem.W.typeIn K (.ref a7) = some (.type "function"))
    (ma8 : PySem.W.findIn K (.ref C_Timed) "__init__" = some (some (.ref a8)))
    (l8 : K.lookup a8 = some ⟨oc8, od8, .func (PySem.W.fnOf "__init__" "Timed.__init__" (defArgs s_Timed_init) (defBody s_Timed_init) (defScope s_Timed_init) .none kV8 dc8 pm8 an8 cd8 ct8), sl8⟩) (c8 : PySem.W.codeIn K cd8 "Timed.__init__" = true) (k8 : PySem.W.keepIn K (.ref a8) = true)
    (mt8 : PySem.W.isFn K (.ref a8) = true) (my8 : PySem.W.typeIn K (.ref a8) = some (.type "function"))
    (ma9 : PySem.W.findIn K (.ref C_Timed) "add" = some (some (.ref a9)))
    (l9 : K.lookup a9 = some ⟨oc9, od9, .func (PySem.W.fnOf "add" "Timed.add" (defArgs s_Timed_add) (defBody s_Timed_add) (defScope s_Timed_add) .none kV9 dc9 pm9 an9 cd9 ct9), sl9⟩) (c9 : PySem.W.codeIn K cd9 "Timed.add" = true) (k9 : PySem.W.keepIn K (.ref a9) = true)
    (mt9 : PySem.W.isFn K (.ref a9) = true) (my9 : PySem.W.typeIn K (.ref a9) = some (.type "function"))
    (ma10 : PySem.W.findIn K (.ref C_Timed) "tick" = some (some (.ref a10)))
    (l10 : K.lookup a10 = some ⟨oc10, od10, .func (PySem.W.fnOf "tick" "Timed.tick" (defArgs s_Timed_tick) (defBody s_Timed_tick) (defScope s_Timed_tick) .none kV10 dc10 pm10 an10 cd10 ct10), sl10⟩) (c10 : PySem.W.codeIn K cd10 "Timed.tick" = true) (k10 : PySem.W.keepIn K (.ref a10) = true)
    (mt10 : PySem.W.isFn K (.ref a10) = true) (my10 : PySem.W.typeIn K (.ref a10) = some (.type "function"))
    (ma11 : PySem.W.findIn K (.ref C_Timed) "stack" = some (some (.ref a11)))
    (l11 : K.lookup a11 = some ⟨oc11, od11, .func (PySem.W.fnOf "stack" "Timed.stack" (defArgs s_Timed_stack) (defBody s_Timed_stack) (defScope s_Timed_stack) .none kV11 dc11 pm11 an11 cd11 ct11), sl11⟩) (c11 : PySem.W.codeIn K cd11 "Timed.stack" = true) (k11 : PySem.W.keepIn K (.ref a11) = true)
    (mt11 : PySem.W.isFn K (.ref a11) = true) (my11 : PySem.W.typeIn K (.ref a11) = some (.type "function"))
    (ma12 : PySem.W.findIn K (.ref C_Timed) "plan_add" = some (some (.ref a12)))
    (l12 : K.lookup a12 = some ⟨oc12, od12, .func (PySem.W.fnOf "plan_add" "Timed.plan_add" (defArgs s_Timed_plan_add) (defBody s_Timed_plan_add) (defScope s_Timed_plan_add) .none kV12 dc12 pm12 an12 cd12 ct12), sl12⟩) (c12 : PySem.W.codeIn K cd12 "Timed.plan_add" = true) (k12 : PySem.W.keepIn K (.ref a12) = true)
    (mt12 : PySem.W.isFn K (.ref a12) = true) (my12 : PySem.W.typeIn K (.ref a12) = some (.type "function"))
    (ma13 : PySem.W.findIn K (.ref C_Timed) "plan_tick" = some (some (.ref a13)))
    (l13 : K.lookup a13 = some ⟨oc13, od13, .func (PySem.W.fnOf "plan_tick" "Timed.plan_tick" (defArgs s_Timed_plan_tick) (defBody s_Timed_plan_tick) (defScope s_Timed_plan_tick) .none kV13 dc13 pm13 an13 cd13 ct13), sl13⟩) (c13 : PySem.W.codeIn K cd13 "Timed.plan_tick" = true) (k13 : PySem.W.keepIn K (.ref a13) = true)
    (mt13 : PySem.W.isFn K (.ref a13) = true) (my13 : PySem.W.typeIn K (.ref a13) = some (.type "function"))
    (ma14 : PySem.W.findIn K (.ref C_Timed) "log" = some (some (.ref a14)))
    (l14 : K.lookup a14 = some ⟨oc14, od14, .func (PySem.W.fnOf "log" "Timed.log" (defArgs s_Timed_log) (defBody s_Timed_log) (defScope s_Timed_log) .none kV14 dc14 pm14 an14 cd14 ct14), sl14⟩) (c14 : PySem.W.codeIn K cd14 "Timed.log" = true) (k14 : PySem.W.keepIn K (.ref a14) = true)
    (mt14 : PySem.W.isFn K (.ref a14) = true) (my14 : PySem.W.typeIn K (.ref a14) = some (.type "function"))
    (ga15 : PySem.W.nsIn K mainGlobals "without" = some (some (.ref a15)))
    (l15 : K.lookup a15 = some ⟨oc15, od15, .func (PySem.W.fnOf "without" "without" (defArgs s_without) (defBody s_without) (defScope s_without) .none kV15 dc15 pm15 an15 cd15 ct15), sl15⟩) (c15 : PySem.W.codeIn K cd15 "without" = true) (k15 : PySem.W.keepIn K (.ref a15) = true)
    (ga16 : PySem.W.nsIn K mainGlobals "plan_pushes" = some (some (.ref a16)))
    (l16 : K.lookup a16 = some ⟨oc16, od16, .func (PySem.W.fnOf "plan_pushes" "plan_pushes" (defArgs s_plan_pushes) (defBody s_plan_pushes) (defScope s_plan_pushes) .none kV16 dc16 pm16 an16 cd16 ct16), sl16⟩) (c16 : PySem.W.codeIn K cd16 "plan_pushes" = true) (k16 : PySem.W.keepIn K (.ref a16) = true)
    (ga17 : PySem.W.nsIn K mainGlobals "plan_pops" = some (some (.ref a17)))
    (l17 : K.lookup a17 = some ⟨oc17, od17, .func (PySem.W.fnOf "plan_pops" "plan_pops" (defArgs s_plan_pops) (defBody s_plan_pops) (defScope s_plan_pops) .none kV17 dc17 pm17 an17 cd17 ct17), sl17⟩) (c17 : PySem.W.codeIn K cd17 "plan_pops" = true) (k17 : PySem.W.keepIn K (.ref a17) = true)
    (ga18 : PySem.W.nsIn K mainGlobals "changed_order" = some (some (.ref a18)))
    (l18 : K.lookup a18 = some ⟨oc18, od18, .func (PySem.W.fnOf "changed_order" "changed_order" (defArgs s_changed_order) (defBody s_changed_order) (defScope s_changed_order) .none kV18 dc18 pm18 an18 cd18 ct18), sl18⟩) (c18 : PySem.W.codeIn K cd18 "changed_order" = true) (k18 : PySem.W.keepIn K (.ref a18) = true)
    (ga19 : PySem.W.nsIn K mainGlobals "piece_size" = some (some (.ref a19)))
    (l19 : K.lookup a19 = some ⟨oc19, od19, .func (PySem.W.fnOf "piece_size" "piece_size" (defArgs s_piece_size) (defBody s_piece_size) (defScope s_piece_size) .none kV19 dc19 pm19 an19 cd19 ct19), sl19⟩) (c19 : PySem.W.codeIn K cd19 "piece_size" = true) (k19 : PySem.W.keepIn K (.ref a19) = true)
    (ga20 : PySem.W.nsIn K mainGlobals "lowest_power" = some (some (.ref a20)))
    (l20 : K.lookup a20 = some ⟨oc20, od20, .func (PySem.W.fnOf "lowest_power" "lowest_power" (defArgs s_lowest_power) (defBody s_lowest_power) (defScope s_lowest_power) .none kV20 dc20 pm20 an20 cd20 ct20), sl20⟩) (c20 : PySem.W.codeIn K cd20 "lowest_power" = true) (k20 : PySem.W.keepIn K (.ref a20) = true)
    (ga21 : PySem.W.nsIn K mainGlobals "greatest_power" = some (some (.ref a21)))
    (l21 : K.lookup a21 = some ⟨oc21, od21, .func (PySem.W.fnOf "greatest_power" "greatest_power" (defArgs s_greatest_power) (defBody s_greatest_power) (defScope s_greatest_power) .none kV21 dc21 pm21 an21 cd21 ct21), sl21⟩) (c21 : PySem.W.codeIn K cd21 "greatest_power" = true) (k21 : PySem.W.keepIn K (.ref a21) = true)
    (ga22 : PySem.W.nsIn K mainGlobals "is_integer" = some (some (.ref a22)))
    (l22 : K.lookup a22 = some ⟨oc22, od22, .func (PySem.W.fnOf "is_integer" "is_integer" (defArgs s_is_integer) (defBody s_is_integer) (defScope s_is_integer) .none kV22 dc22 pm22 an22 cd22 ct22), sl22⟩) (c22 : PySem.W.codeIn K cd22 "is_integer" = true) (k22 : PySem.W.keepIn K (.ref a22) = true)
    (ga23 : PySem.W.nsIn K mainGlobals "check_integer" = some (some (.ref a23)))
    (l23 : K.lookup a23 = some ⟨oc23, od23, .func (PySem.W.fnOf "check_integer" "check_integer" (defArgs s_check_integer) (defBody s_check_integer) (defScope s_check_integer) .none kV23 dc23 pm23 an23 cd23 ct23), sl23⟩) (c23 : PySem.W.codeIn K cd23 "check_integer" = true) (k23 : PySem.W.keepIn K (.ref a23) = true)
    (ga24 : PySem.W.nsIn K mainGlobals "check_until" = some (some (.ref a24)))
    (l24 : K.lookup a24 = some ⟨oc24, od24, .func (PySem.W.fnOf "check_until" "check_until" (defArgs s_check_until) (defBody s_check_until) (defScope s_check_until) .none kV24 dc24 pm24 an24 cd24 ct24), sl24⟩) (c24 : PySem.W.codeIn K cd24 "check_until" = true) (k24 : PySem.W.keepIn K (.ref a24) = true)
    (ga25 : PySem.W.nsIn K mainGlobals "ending_numbers" = some (some (.ref a25)))
    (l25 : K.lookup a25 = some ⟨oc25, od25, .func (PySem.W.fnOf "ending_numbers" "ending_numbers" (defArgs s_ending_numbers) (defBody s_ending_numbers) (defScope s_ending_numbers) .none kV25 dc25 pm25 an25 cd25 ct25), sl25⟩) (c25 : PySem.W.codeIn K cd25 "ending_numbers" = true) (k25 : PySem.W.keepIn K (.ref a25) = true)
    (ga26 : PySem.W.nsIn K mainGlobals "next_pieces" = some (some (.ref a26)))
    (l26 : K.lookup a26 = some ⟨oc26, od26, .func (PySem.W.fnOf "next_pieces" "next_pieces" (defArgs s_next_pieces) (defBody s_next_pieces) (defScope s_next_pieces) .none kV26 dc26 pm26 an26 (.ref cc26) ct26), sl26⟩) (c26 : PySem.W.codeIn K (.ref cc26) "next_pieces" = true) (k26 : PySem.W.keepIn K (.ref a26) = true)
    (tl26 : K.lookup cc26 = some ⟨lo26, ld26, .fields lv26, ls26⟩) (tp26 : lv26[11]? = some (.ref pp26)) (tn26 : K.lookup pp26 = none) (tr26 : (PyProof.Rows.recsOf QQ).any (fun d => d.name == "next_pieces") = true)
    (ga27 : PySem.W.nsIn K mainGlobals "plan_moves" = some (some (.ref a27)))
    (l27 : K.lookup a27 = some ⟨oc27, od27, .func (PySem.W.fnOf "plan_moves" "plan_moves" (defArgs s_plan_moves) (defBody s_plan_moves) (defScope s_plan_moves) .none kV27 dc27 pm27 an27 cd27 ct27), sl27⟩) (c27 : PySem.W.codeIn K cd27 "plan_moves" = true) (k27 : PySem.W.keepIn K (.ref a27) = true)
    (ga28 : PySem.W.nsIn K mainGlobals "let_go" = some (some (.ref a28)))
    (l28 : K.lookup a28 = some ⟨oc28, od28, .func (PySem.W.fnOf "let_go" "let_go" (defArgs s_let_go) (defBody s_let_go) (defScope s_let_go) .none kV28 dc28 pm28 an28 cd28 ct28), sl28⟩) (c28 : PySem.W.codeIn K cd28 "let_go" = true) (k28 : PySem.W.keepIn K (.ref a28) = true)
    (ga29 : PySem.W.nsIn K mainGlobals "_law_bag" = some (some (.ref a29)))
    (l29 : K.lookup a29 = some ⟨oc29, od29, .func (PySem.W.fnOf "_law_bag" "_law_bag" (defArgs s_l_bag) (defBody s_l_bag) (defScope s_l_bag) .none kV29 dc29 pm29 an29 cd29 ct29), sl29⟩) (c29 : PySem.W.codeIn K cd29 "_law_bag" = true) (k29 : PySem.W.keepIn K (.ref a29) = true)
    (ga30 : PySem.W.nsIn K mainGlobals "_law_take" = some (some (.ref a30)))
    (l30 : K.lookup a30 = some ⟨oc30, od30, .func (PySem.W.fnOf "_law_take" "_law_take" (defArgs s_l_take) (defBody s_l_take) (defScope s_l_take) .none kV30 dc30 pm30 an30 cd30 ct30), sl30⟩) (c30 : PySem.W.codeIn K cd30 "_law_take" = true) (k30 : PySem.W.keepIn K (.ref a30) = true)
    (ga31 : PySem.W.nsIn K mainGlobals "_law_outer" = some (some (.ref a31)))
    (l31 : K.lookup a31 = some ⟨oc31, od31, .func (PySem.W.fnOf "_law_outer" "_law_outer" (defArgs s_l_outer) (defBody s_l_outer) (defScope s_l_outer) .none kV31 dc31 pm31 an31 (.ref cc31) ct31), sl31⟩) (c31 : PySem.W.codeIn K (.ref cc31) "_law_outer" = true) (k31 : PySem.W.keepIn K (.ref a31) = true)
    (tl31 : K.lookup cc31 = some ⟨lo31, ld31, .fields lv31, ls31⟩) (tp31 : lv31[11]? = some (.ref pp31)) (tn31 : K.lookup pp31 = none) (tr31 : (PyProof.Rows.recsOf QQ).any (fun d => d.name == "_law_outer") = true)
    (ga32 : PySem.W.nsIn K mainGlobals "_law_pieces" = some (some (.ref a32)))
    (l32 : K.lookup a32 = some ⟨oc32, od32, .func (PySem.W.fnOf "_law_pieces" "_law_pieces" (defArgs s_l_pieces) (defBody s_l_pieces) (defScope s_l_pieces) .none kV32 dc32 pm32 an32 cd32 ct32), sl32⟩) (c32 : PySem.W.codeIn K cd32 "_law_pieces" = true) (k32 : PySem.W.keepIn K (.ref a32) = true)
    (ga33 : PySem.W.nsIn K mainGlobals "_law_alike" = some (some (.ref a33)))
    (l33 : K.lookup a33 = some ⟨oc33, od33, .func (PySem.W.fnOf "_law_alike" "_law_alike" (defArgs s_l_alike) (defBody s_l_alike) (defScope s_l_alike) .none kV33 dc33 pm33 an33 cd33 ct33), sl33⟩) (c33 : PySem.W.codeIn K cd33 "_law_alike" = true) (k33 : PySem.W.keepIn K (.ref a33) = true)
    (ga34 : PySem.W.nsIn K mainGlobals "_law_tick" = some (some (.ref a34)))
    (l34 : K.lookup a34 = some ⟨oc34, od34, .func (PySem.W.fnOf "_law_tick" "_law_tick" (defArgs s_l_tick) (defBody s_l_tick) (defScope s_l_tick) .none kV34 dc34 pm34 an34 cd34 ct34), sl34⟩) (c34 : PySem.W.codeIn K cd34 "_law_tick" = true) (k34 : PySem.W.keepIn K (.ref a34) = true)
    (ga35 : PySem.W.nsIn K mainGlobals "_law_step" = some (some (.ref a35)))
    (l35 : K.lookup a35 = some ⟨oc35, od35, .func (PySem.W.fnOf "_law_step" "_law_step" (defArgs s_l_step) (defBody s_l_step) (defScope s_l_step) .none kV35 dc35 pm35 an35 cd35 ct35), sl35⟩) (c35 : PySem.W.codeIn K cd35 "_law_step" = true) (k35 : PySem.W.keepIn K (.ref a35) = true)
    (ga36 : PySem.W.nsIn K mainGlobals "law" = some (some (.ref a36)))
    (l36 : K.lookup a36 = some ⟨oc36, od36, .func (PySem.W.fnOf "law" "law" (defArgs s_law) (defBody s_law) (defScope s_law) .none kV36 dc36 pm36 an36 (.ref cc36) ct36), sl36⟩) (c36 : PySem.W.codeIn K (.ref cc36) "law" = true) (k36 : PySem.W.keepIn K (.ref a36) = true)
    (tl36 : K.lookup cc36 = some ⟨lo36, ld36, .fields lv36, ls36⟩) (tp36 : lv36[11]? = some (.ref pp36)) (tn36 : K.lookup pp36 = none) (tr36 : (PyProof.Rows.recsOf QQ).any (fun d => d.name == "law") = true)
    (pne26_31 : pp26 ≠ pp31)
    (pne26_36 : pp26 ≠ pp36)
    (pne31_36 : pp31 ≠ pp36)
    (z_abs : PySem.W.nsIn K mainGlobals "abs" = some none)
    (z_any : PySem.W.nsIn K mainGlobals "any" = some none)
    (z_bool : PySem.W.nsIn K mainGlobals "bool" = some none)
    (z_dict : PySem.W.nsIn K mainGlobals "dict" = some none)
    (z_int : PySem.W.nsIn K mainGlobals "int" = some none)
    (z_isinstance : PySem.W.nsIn K mainGlobals "isinstance" = some none)
    (z_len : PySem.W.nsIn K mainGlobals "len" = some none)
    (z_list : PySem.W.nsIn K mainGlobals "list" = some none)
    (z_min : PySem.W.nsIn K mainGlobals "min" = some none)
    (z_property : PySem.W.nsIn K mainGlobals "property" = some none)
    (z_range : PySem.W.nsIn K mainGlobals "range" = some none)
    (z_repr : PySem.W.nsIn K mainGlobals "repr" = some none)
    (z_reversed : PySem.W.nsIn K mainGlobals "reversed" = some none)
    (z_sorted : PySem.W.nsIn K mainGlobals "sorted" = some none)
    (z_sum : PySem.W.nsIn K mainGlobals "sum" = some none)
    (pg_Calls : PySem.W.plainGet K C_Calls Str.empty = true)
    (hd_Calls : PySem.W.hasDictIn K C_Calls = true)
    (po_Calls : PySem.W.plainOver K C_Calls = true)
    (sa_Calls : PySem.W.findIn K (.ref C_Calls) "__setattr__" = some (some (.builtin "object.__setattr__")))
    (mk_Calls : PySem.W.makesIn K C_Calls = true)
    (kp_Calls : PySem.W.keepIn K (.ref C_Calls) = true)
    (n_Calls_entries : PySem.W.findIn K (.ref C_Calls) "entries" = some none)
    (n_Calls_running : PySem.W.findIn K (.ref C_Calls) "running" = some none)
    (pg_Outer : PySem.W.plainGet K C_Outer Str.empty = true)
    (hd_Outer : PySem.W.hasDictIn K C_Outer = true)
    (po_Outer : PySem.W.plainOver K C_Outer = true)
    (sa_Outer : PySem.W.findIn K (.ref C_Outer) "__setattr__" = some (some (.builtin "object.__setattr__")))
    (mk_Outer : PySem.W.makesIn K C_Outer = true)
    (kp_Outer : PySem.W.keepIn K (.ref C_Outer) = true)
    (n_Outer_calls : PySem.W.findIn K (.ref C_Outer) "calls" = some none)
    (n_Outer_push_call : PySem.W.findIn K (.ref C_Outer) "push_call" = some none)
    (n_Outer_pop_call : PySem.W.findIn K (.ref C_Outer) "pop_call" = some none)
    (n_Outer_ask_call : PySem.W.findIn K (.ref C_Outer) "ask_call" = some none)
    (n_Outer_order : PySem.W.findIn K (.ref C_Outer) "order" = some none)
    (n_Outer_broken : PySem.W.findIn K (.ref C_Outer) "broken" = some none)
    (pg_Timed : PySem.W.plainGet K C_Timed Str.empty = true)
    (hd_Timed : PySem.W.hasDictIn K C_Timed = true)
    (po_Timed : PySem.W.plainOver K C_Timed = true)
    (sa_Timed : PySem.W.findIn K (.ref C_Timed) "__setattr__" = some (some (.builtin "object.__setattr__")))
    (mk_Timed : PySem.W.makesIn K C_Timed = true)
    (kp_Timed : PySem.W.keepIn K (.ref C_Timed) = true)
    (n_Timed_outer : PySem.W.findIn K (.ref C_Timed) "outer" = some none)
    (n_Timed_given : PySem.W.findIn K (.ref C_Timed) "given" = some none)
    (n_Timed_now : PySem.W.findIn K (.ref C_Timed) "now" = some none)
    (n_Timed_held : PySem.W.findIn K (.ref C_Timed) "held" = some none)
    (n_Timed_limits : PySem.W.findIn K (.ref C_Timed) "limits" = some none)
    (n_Timed_ends : PySem.W.findIn K (.ref C_Timed) "ends" = some none)
    (cdT : PySem.W.readsIn K C_Timed (.type "type") = true)
    (cgT : PySem.W.specialIn K (.ref C_Timed) "__getattribute__" = some (some (.builtin "type.__getattribute__")))
    (cvT : PySem.W.findCls K (.ref C_Timed) (.type "type") "LAST" = some (.val (.int 1000000000 tLAST))) : Inf.LawAtG l w K CX0 40 63 "_law_script" mg fa h := by
  have e := hfa.symm.trans (PySem.W.mg_of X G ga36)
  cases e
  have F0 := fun_mk (st := s_Calls_init) l0 c0 k0
  have F1 := fun_mk (st := s_Calls_check) l1 c1 k1
  have F2 := fun_mk (st := s_Calls_run) l2 c2 k2
  have F3 := fun_mk (st := s_Outer_init) l3 c3 k3
  have F4 := fun_mk (st := s_Outer_check) l4 c4 k4
  have F5 := fun_mk (st := s_Outer_answer) l5 c5 k5
  have F6 := fun_mk (st := s_Outer_change) l6 c6 k6
  have F7 := fun_mk (st := s_Outer_follow) l7 c7 k7
  have F8 := fun_mk (st := s_Timed_init) l8 c8 k8
  have F9 := fun_mk (st := s_Timed_add) l9 c9 k9
  have F10 := fun_mk (st := s_Timed_tick) l10 c10 k10
  have F11 := fun_mk (st := s_Timed_stack) l11 c11 k11
  have F12 := fun_mk (st := s_Timed_plan_add) l12 c12 k12
  have F13 := fun_mk (st := s_Timed_plan_tick) l13 c13 k13
  have F14 := fun_mk (st := s_Timed_log) l14 c14 k14
  have F15 := fun_mk (st := s_without) l15 c15 k15
  have F16 := fun_mk (st := s_plan_pushes) l16 c16 k16
  have F17 := fun_mk (st := s_plan_pops) l17 c17 k17
  have F18 := fun_mk (st := s_changed_order) l18 c18 k18
  have F19 := fun_mk (st := s_piece_size) l19 c19 k19
  have F20 := fun_mk (st := s_lowest_power) l20 c20 k20
  have F21 := fun_mk (st := s_greatest_power) l21 c21 k21
  have F22 := fun_mk (st := s_is_integer) l22 c22 k22
  have F23 := fun_mk (st := s_check_integer) l23 c23 k23
  have F24 := fun_mk (st := s_check_until) l24 c24 k24
  have F25 := fun_mk (st := s_ending_numbers) l25 c25 k25
  have F26 : FunT K "next_pieces" "next_pieces" s_next_pieces a26 _ cc26 := ⟨⟨_, _, _, _, _, _, _, _, rfl, l26, c26⟩, k26⟩
  have B26 : Binds K _ ["timed", "ending"] [] := .all (fd := PySem.W.fnOf "next_pieces" "next_pieces" (defArgs s_next_pieces) (defBody s_next_pieces) (defScope s_next_pieces) .none kV26 dc26 pm26 an26 (.ref cc26) ct26) fun us hl => match us, hl with | [_, _], _ => rfl
  have F27 := fun_mk (st := s_plan_moves) l27 c27 k27
  have F28 := fun_mk (st := s_let_go) l28 c28 k28
  have F29 := fun_mk (st := s_l_bag) l29 c29 k29
  have F30 := fun_mk (st := s_l_take) l30 c30 k30
  have F31 : FunT K "_law_outer" "_law_outer" s_l_outer a31 _ cc31 := ⟨⟨_, _, _, _, _, _, _, _, rfl, l31, c31⟩, k31⟩
  have B31 : Binds K _ ["_law_held", "_law_notes"] [] := .all (fd := PySem.W.fnOf "_law_outer" "_law_outer" (defArgs s_l_outer) (defBody s_l_outer) (defScope s_l_outer) .none kV31 dc31 pm31 an31 (.ref cc31) ct31) fun us hl => match us, hl with | [_, _], _ => rfl
  have F32 := fun_mk (st := s_l_pieces) l32 c32 k32
  have F33 := fun_mk (st := s_l_alike) l33 c33 k33
  have F34 := fun_mk (st := s_l_tick) l34 c34 k34
  have F35 := fun_mk (st := s_l_step) l35 c35 k35
  have F36 : FunT K "law" "law" s_law fa _ cc36 := ⟨⟨_, _, _, _, _, _, _, _, rfl, l36, c36⟩, k36⟩
  have B36 : Binds K _ ["_law_script"] [] := .all (fd := PySem.W.fnOf "law" "law" (defArgs s_law) (defBody s_law) (defScope s_law) .none kV36 dc36 pm36 an36 (.ref cc36) ct36) fun us hl => match us, hl with | [_], _ => rfl
  have T26 := tt "next_pieces" a26 cc26 pp26 _ _ _ _ _ _ tr26 (PySem.W.mg_of X G ga26) l26 rfl rfl tl26 tp26
  have T31 := tt "_law_outer" a31 cc31 pp31 _ _ _ _ _ _ tr31 (PySem.W.mg_of X G ga31) l31 rfl rfl tl31 tp31
  have T36 := tt "law" fa cc36 pp36 _ _ _ _ _ _ tr36 hfa l36 rfl rfl tl36 tp36
  let T : Txt K mg := {
    C_Calls := C_Calls,
    gc_Calls := PySem.W.mg_of X G gc_Calls,
    C_Outer := C_Outer,
    gc_Outer := PySem.W.mg_of X G gc_Outer,
    C_Timed := C_Timed,
    gc_Timed := PySem.W.mg_of X G gc_Timed,
    f_Calls_init := a0,
    d_Calls_init := _,
    F_Calls_init := F0,
    b_Calls_init := (F0.binds (ps := ["self"]) fun _ _ _ _ _ _ us hl => match us, hl with | [_], _ => rfl),
    m_Calls_init := ma0,
    t_Calls_init := mt0,
    y_Calls_init := my0,
    k_Calls_init := k0,
    f_Calls_check := a1,
    d_Calls_check := _,
    F_Calls_check := F1,
    b_Calls_check := (F1.binds (ps := ["self"]) fun _ _ _ _ _ _ us hl => match us, hl with | [_], _ => rfl),
    m_Calls_check := ma1,
    t_Calls_check := mt1,
    y_Calls_check := my1,
    k_Calls_check := k1,
    f_Calls_run := a2,
    d_Calls_run := _,
    F_Calls_run := F2,
    m_Calls_run := ma2,
    t_Calls_run := mt2,
    y_Calls_run := my2,
    k_Calls_run := k2,
    f_Outer_init := a3,
    d_Outer_init := _,
    F_Outer_init := F3,
    b_Outer_init := (F3.binds (ps := ["self", "push", "pop", "ask"]) fun _ _ _ _ _ _ us hl => match us, hl with | [_, _, _, _], _ => rfl),
    m_Outer_init := ma3,
    t_Outer_init := mt3,
    y_Outer_init := my3,
    k_Outer_init := k3,
    f_Outer_check := a4,
    d_Outer_check := _,
    F_Outer_check := F4,
    b_Outer_check := (F4.binds (ps := ["self"]) fun _ _ _ _ _ _ us hl => match us, hl with | [_], _ => rfl),
    m_Outer_check := ma4,
    t_Outer_check := mt4,
    y_Outer_check := my4,
    k_Outer_check := k4,
    f_Outer_answer := a5,
    d_Outer_answer := _,
    F_Outer_answer := F5,
    b_Outer_answer := (F5.binds (ps := ["self", "question"]) fun _ _ _ _ _ _ us hl => match us, hl with | [_, _], _ => rfl),
    m_Outer_answer := ma5,
    t_Outer_answer := mt5,
    y_Outer_answer := my5,
    k_Outer_answer := k5,
    f_Outer_change := a6,
    d_Outer_change := _,
    F_Outer_change := F6,
    b_Outer_change := (F6.binds (ps := ["self", "entries", "held"]) fun _ _ _ _ _ _ us hl => match us, hl with | [_, _, _], _ => rfl),
    m_Outer_change := ma6,
    t_Outer_change := mt6,
    y_Outer_change := my6,
    k_Outer_change := k6,
    f_Outer_follow := a7,
    d_Outer_follow := _,
    F_Outer_follow := F7,
    b_Outer_follow := (F7.binds (ps := ["self", "entries", "held"]) fun _ _ _ _ _ _ us hl => match us, hl with | [_, _, _], _ => rfl),
    m_Outer_follow := ma7,
    t_Outer_follow := mt7,
    y_Outer_follow := my7,
    k_Outer_follow := k7,
    f_Timed_init := a8,
    d_Timed_init := _,
    F_Timed_init := F8,
    b_Timed_init := (F8.binds (ps := ["self", "push", "pop", "ask"]) fun _ _ _ _ _ _ us hl => match us, hl with | [_, _, _, _], _ => rfl),
    m_Timed_init := ma8,
    t_Timed_init := mt8,
    y_Timed_init := my8,
    k_Timed_init := k8,
    f_Timed_add := a9,
    d_Timed_add := _,
    F_Timed_add := F9,
    m_Timed_add := ma9,
    t_Timed_add := mt9,
    y_Timed_add := my9,
    k_Timed_add := k9,
    f_Timed_tick := a10,
    d_Timed_tick := _,
    F_Timed_tick := F10,
    b_Timed_tick := (F10.binds (ps := ["self"]) fun _ _ _ _ _ _ us hl => match us, hl with | [_], _ => rfl),
    m_Timed_tick := ma10,
    t_Timed_tick := mt10,
    y_Timed_tick := my10,
    k_Timed_tick := k10,
    f_Timed_stack := a11,
    d_Timed_stack := _,
    F_Timed_stack := F11,
    b_Timed_stack := (F11.binds (ps := ["self"]) fun _ _ _ _ _ _ us hl => match us, hl with | [_], _ => rfl),
    m_Timed_stack := ma11,
    t_Timed_stack := mt11,
    y_Timed_stack := my11,
    k_Timed_stack := k11,
    f_Timed_plan_add := a12,
    d_Timed_plan_add := _,
    F_Timed_plan_add := F12,
    b_Timed_plan_add := (F12.binds (ps := ["self"]) fun _ _ _ _ _ _ us hl => match us, hl with | [_], _ => rfl),
    m_Timed_plan_add := ma12,
    t_Timed_plan_add := mt12,
    y_Timed_plan_add := my12,
    k_Timed_plan_add := k12,
    f_Timed_plan_tick := a13,
    d_Timed_plan_tick := _,
    F_Timed_plan_tick := F13,
    b_Timed_plan_tick := (F13.binds (ps := ["self"]) fun _ _ _ _ _ _ us hl => match us, hl with | [_], _ => rfl),
    m_Timed_plan_tick := ma13,
    t_Timed_plan_tick := mt13,
    y_Timed_plan_tick := my13,
    k_Timed_plan_tick := k13,
    f_Timed_log := a14,
    d_Timed_log := _,
    F_Timed_log := F14,
    b_Timed_log := (F14.binds (ps := ["self"]) fun _ _ _ _ _ _ us hl => match us, hl with | [_], _ => rfl),
    m_Timed_log := ma14,
    t_Timed_log := mt14,
    y_Timed_log := my14,
    k_Timed_log := k14,
    f_without := a15,
    d_without := _,
    F_without := F15,
    b_without := (F15.binds (ps := ["held", "numbers"]) fun _ _ _ _ _ _ us hl => match us, hl with | [_, _], _ => rfl),
    g_without := PySem.W.mg_of X G ga15,
    f_plan_pushes := a16,
    d_plan_pushes := _,
    F_plan_pushes := F16,
    b_plan_pushes := (F16.binds (ps := ["numbers"]) fun _ _ _ _ _ _ us hl => match us, hl with | [_], _ => rfl),
    g_plan_pushes := PySem.W.mg_of X G ga16,
    f_plan_pops := a17,
    d_plan_pops := _,
    F_plan_pops := F17,
    b_plan_pops := (F17.binds (ps := ["numbers"]) fun _ _ _ _ _ _ us hl => match us, hl with | [_], _ => rfl),
    g_plan_pops := PySem.W.mg_of X G ga17,
    f_changed_order := a18,
    d_changed_order := _,
    F_changed_order := F18,
    b_changed_order := (F18.binds (ps := ["order", "entries"]) fun _ _ _ _ _ _ us hl => match us, hl with | [_, _], _ => rfl),
    g_changed_order := PySem.W.mg_of X G ga18,
    f_piece_size := a19,
    d_piece_size := _,
    F_piece_size := F19,
    b_piece_size := (F19.binds (ps := ["first", "room"]) fun _ _ _ _ _ _ us hl => match us, hl with | [_, _], _ => rfl),
    g_piece_size := PySem.W.mg_of X G ga19,
    f_lowest_power := a20,
    d_lowest_power := _,
    F_lowest_power := F20,
    b_lowest_power := (F20.binds (ps := ["number"]) fun _ _ _ _ _ _ us hl => match us, hl with | [_], _ => rfl),
    g_lowest_power := PySem.W.mg_of X G ga20,
    f_greatest_power := a21,
    d_greatest_power := _,
    F_greatest_power := F21,
    b_greatest_power := (F21.binds (ps := ["number"]) fun _ _ _ _ _ _ us hl => match us, hl with | [_], _ => rfl),
    g_greatest_power := PySem.W.mg_of X G ga21,
    f_is_integer := a22,
    d_is_integer := _,
    F_is_integer := F22,
    b_is_integer := (F22.binds (ps := ["value"]) fun _ _ _ _ _ _ us hl => match us, hl with | [_], _ => rfl),
    g_is_integer := PySem.W.mg_of X G ga22,
    f_check_integer := a23,
    d_check_integer := _,
    F_check_integer := F23,
    b_check_integer := (F23.binds (ps := ["value"]) fun _ _ _ _ _ _ us hl => match us, hl with | [_], _ => rfl),
    g_check_integer := PySem.W.mg_of X G ga23,
    f_check_until := a24,
    d_check_until := _,
    F_check_until := F24,
    b_check_until := (F24.binds (ps := ["until", "clock"]) fun _ _ _ _ _ _ us hl => match us, hl with | [_, _], _ => rfl),
    g_check_until := PySem.W.mg_of X G ga24,
    f_ending_numbers := a25,
    d_ending_numbers := _,
    F_ending_numbers := F25,
    b_ending_numbers := (F25.binds (ps := ["timed"]) fun _ _ _ _ _ _ us hl => match us, hl with | [_], _ => rfl),
    g_ending_numbers := PySem.W.mg_of X G ga25,
    f_next_pieces := a26,
    d_next_pieces := _,
    c_next_pieces := cc26,
    p_next_pieces := pp26,
    F_next_pieces := F26,
    b_next_pieces := B26,
    g_next_pieces := PySem.W.mg_of X G ga26,
    f_plan_moves := a27,
    d_plan_moves := _,
    F_plan_moves := F27,
    b_plan_moves := (F27.binds (ps := ["ending", "begun"]) fun _ _ _ _ _ _ us hl => match us, hl with | [_, _], _ => rfl),
    g_plan_moves := PySem.W.mg_of X G ga27,
    f_let_go := a28,
    d_let_go := _,
    F_let_go := F28,
    b_let_go := (F28.binds (ps := ["timed", "ending"]) fun _ _ _ _ _ _ us hl => match us, hl with | [_, _], _ => rfl),
    g_let_go := PySem.W.mg_of X G ga28,
    f_l_bag := a29,
    d_l_bag := _,
    F_l_bag := F29,
    b_l_bag := (F29.binds (ps := ["_law_script", "_law_at"]) fun _ _ _ _ _ _ us hl => match us, hl with | [_, _], _ => rfl),
    g_l_bag := PySem.W.mg_of X G ga29,
    f_l_take := a30,
    d_l_take := _,
    F_l_take := F30,
    b_l_take := (F30.binds (ps := ["_law_bag_here", "_law_many"]) fun _ _ _ _ _ _ us hl => match us, hl with | [_, _], _ => rfl),
    g_l_take := PySem.W.mg_of X G ga30,
    f_l_outer := a31,
    d_l_outer := _,
    c_l_outer := cc31,
    p_l_outer := pp31,
    F_l_outer := F31,
    b_l_outer := B31,
    g_l_outer := PySem.W.mg_of X G ga31,
    f_l_pieces := a32,
    d_l_pieces := _,
    F_l_pieces := F32,
    b_l_pieces := (F32.binds (ps := ["_law_low", "_law_high"]) fun _ _ _ _ _ _ us hl => match us, hl with | [_, _], _ => rfl),
    g_l_pieces := PySem.W.mg_of X G ga32,
    f_l_alike := a33,
    d_l_alike := _,
    F_l_alike := F33,
    b_l_alike := (F33.binds (ps := ["_law_one", "_law_other"]) fun _ _ _ _ _ _ us hl => match us, hl with | [_, _], _ => rfl),
    g_l_alike := PySem.W.mg_of X G ga33,
    f_l_tick := a34,
    d_l_tick := _,
    F_l_tick := F34,
    b_l_tick := (F34.binds (ps := ["_law_state"]) fun _ _ _ _ _ _ us hl => match us, hl with | [_], _ => rfl),
    g_l_tick := PySem.W.mg_of X G ga34,
    f_l_step := a35,
    d_l_step := _,
    F_l_step := F35,
    b_l_step := (F35.binds (ps := ["_law_house", "_law_state", "_law_notes", "_law_names", "_law_entries", "_law_call"]) fun _ _ _ _ _ _ us hl => match us, hl with | [_, _, _, _, _, _], _ => rfl),
    g_l_step := PySem.W.mg_of X G ga35,
    c_law := cc36,
    p_law := pp36,
    pne_next_pieces_l_outer := pne26_31,
    pne_next_pieces_law := pne26_36,
    pne_l_outer_law := pne31_36,
    z_abs := PySem.W.mg_none_of X G z_abs,
    z_any := PySem.W.mg_none_of X G z_any,
    z_bool := PySem.W.mg_none_of X G z_bool,
    z_dict := PySem.W.mg_none_of X G z_dict,
    z_int := PySem.W.mg_none_of X G z_int,
    z_isinstance := PySem.W.mg_none_of X G z_isinstance,
    z_len := PySem.W.mg_none_of X G z_len,
    z_list := PySem.W.mg_none_of X G z_list,
    z_min := PySem.W.mg_none_of X G z_min,
    z_property := PySem.W.mg_none_of X G z_property,
    z_range := PySem.W.mg_none_of X G z_range,
    z_repr := PySem.W.mg_none_of X G z_repr,
    z_reversed := PySem.W.mg_none_of X G z_reversed,
    z_sorted := PySem.W.mg_none_of X G z_sorted,
    z_sum := PySem.W.mg_none_of X G z_sum,
    cl_Calls := ⟨pg_Calls, hd_Calls, po_Calls, sa_Calls⟩,
    mk_Calls := mk_Calls,
    kp_Calls := kp_Calls,
    n_Calls_entries := n_Calls_entries,
    n_Calls_running := n_Calls_running,
    cl_Outer := ⟨pg_Outer, hd_Outer, po_Outer, sa_Outer⟩,
    mk_Outer := mk_Outer,
    kp_Outer := kp_Outer,
    n_Outer_calls := n_Outer_calls,
    n_Outer_push_call := n_Outer_push_call,
    n_Outer_pop_call := n_Outer_pop_call,
    n_Outer_ask_call := n_Outer_ask_call,
    n_Outer_order := n_Outer_order,
    n_Outer_broken := n_Outer_broken,
    cl_Timed := ⟨pg_Timed, hd_Timed, po_Timed, sa_Timed⟩,
    mk_Timed := mk_Timed,
    kp_Timed := kp_Timed,
    n_Timed_outer := n_Timed_outer,
    n_Timed_given := n_Timed_given,
    n_Timed_now := n_Timed_now,
    n_Timed_held := n_Timed_held,
    n_Timed_limits := n_Timed_limits,
    n_Timed_ends := n_Timed_ends,
    cr_Timed := ⟨cdT, cgT⟩,
    uv_LAST := _,
    cv_LAST := ⟨cvT, ⟨_, rfl⟩⟩ }
  refine ⟨PySem.W.fnOf "law" "law" (defArgs s_law) (defBody s_law) (defScope s_law) .none kV36 dc36 pm36 an36 (.ref cc36) ct36, [(cc26, pp26), (cc31, pp31), (cc36, pp36)], spLaw T, (all_cons T26.2 (all_cons T31.2 (all_cons T36.2 (fun _ z => nomatch z)))), (all_cons tn26 (all_cons tn31 (all_cons tn36 (fun _ z => nomatch z)))), (all_cons T26.1 (all_cons T31.1 (all_cons T36.1 (fun _ z => nomatch z)))), fun s v => .of_eq rfl, fun H a ns hl ht hS => ⟨a, ns, rfl, hS, hl, ht _ (List.mem_cons_self ..), ht _ (List.mem_cons_of_mem _ (List.mem_cons_self ..)), ht _ (List.mem_cons_of_mem _ (List.mem_cons_of_mem _ (List.mem_cons_self ..))), fun _ => rfl⟩, fun base _ _ tb => (ok_law T (tb _ (List.mem_cons_self ..)) (tb _ (List.mem_cons_of_mem _ (List.mem_cons_self ..))) (tb _ (List.mem_cons_of_mem _ (List.mem_cons_of_mem _ (List.mem_cons_self ..)))) F36)⟩
end Ob
open PySem PySem.W PyProof.Rows
set_option maxHeartbeats 0 in
theorem PySem.Challenge.cw_oncebuilt_k51_calls_of_timed_holds : PySem.Challenge.rw_oncebuilt_k51_calls_of_timed.Holds := by
  w_on; o_law; k_head; (case hw => w_witness2)
  k_fill
  refine Inf.walk_topG (l := PySem.Challenge.rw_oncebuilt_k51_calls_of_timed) (n := 63) (k := 40) (x := "_law_script") (YP := _) (CX := fun _ => L2.CX0) rfl (by decide) rfl ⟨rfl, by decide, by decide⟩ (fun w h Y => by first | exact PySem.W.kIn_of Y | exact PySem.W.km_in_of Y) ?F (fun _ _ _ _ _ h => h)
  case F =>
    intro w mg fa h Y KX G hmg tt
    refine' Ob.all_mk KX G hmg tt ?gc_Calls ?gc_Outer ?gc_Timed ?ma0 ?l0 ?c0 ?k0 ?mt0 ?my0 ?ma1 ?l1 ?c1 ?k1 ?mt1 ?my1 ?ma2 ?l2 ?c2 ?k2 ?mt2 ?my2 ?ma3 ?l3 ?c3 ?k3 ?mt3 ?my3 ?ma4 ?l4 ?c4 ?k4 ?mt4 ?my4 ?ma5 ?l5 ?c5 ?k5 ?mt5 ?my5 ?ma6 ?l6 ?c6 ?k6 ?mt6 ?my6 ?ma7 ?l7 ?c7 ?k7 ?mt7 ?my7 ?ma8 ?l8 ?c8 ?k8 ?mt8 ?my8 ?ma9 ?l9 ?c9 ?k9 ?mt9 ?my9 ?ma10 ?l10 ?c10 ?k10 ?mt10 ?my10 ?ma11 ?l11 ?c11 ?k11 ?mt11 ?my11 ?ma12 ?l12 ?c12 ?k12 ?mt12 ?my12 ?ma13 ?l13 ?c13 ?k13 ?mt13 ?my13 ?ma14 ?l14 ?c14 ?k14 ?mt14 ?my14 ?ga15 ?l15 ?c15 ?k15 ?ga16 ?l16 ?c16 ?k16 ?ga17 ?l17 ?c17 ?k17 ?ga18 ?l18 ?c18 ?k18 ?ga19 ?l19 ?c19 ?k19 ?ga20 ?l20 ?c20 ?k20 ?ga21 ?l21 ?c21 ?k21 ?ga22 ?l22 ?c22 ?k22 ?ga23 ?l23 ?c23 ?k23 ?ga24 ?l24 ?c24 ?k24 ?ga25 ?l25 ?c25 ?k25 ?ga26 ?l26 ?c26 ?k26 ?tl26 ?tp26 ?tn26 ?tr26 ?ga27 ?l27 ?c27 ?k27 ?ga28 ?l28 ?c28 ?k28 ?ga29 ?l29 ?c29 ?k29 ?ga30 ?l30 ?c30 ?k30 ?ga31 ?l31 ?c31 ?k31 ?tl31 ?tp31 ?tn31 ?tr31 ?ga32 ?l32 ?c32 ?k32 ?ga33 ?l33 ?c33 ?k33 ?ga34 ?l34 ?c34 ?k34 ?ga35 ?l35 ?c35 ?k35 ?ga36 ?l36 ?c36 ?k36 ?tl36 ?tp36 ?tn36 ?tr36 ?pne26_31 ?pne26_36 ?pne31_36 ?z_abs ?z_any ?z_bool ?z_dict ?z_int ?z_isinstance ?z_len ?z_list ?z_min ?z_property ?z_range ?z_repr ?z_reversed ?z_sorted ?z_sum ?pg_Calls ?hd_Calls ?po_Calls ?sa_Calls ?mk_Calls ?kp_Calls ?n_Calls_entries ?n_Calls_running ?pg_Outer ?hd_Outer ?po_Outer ?sa_Outer ?mk_Outer ?kp_Outer ?n_Outer_calls ?n_Outer_push_call ?n_Outer_pop_call ?n_Outer_ask_call ?n_Outer_order ?n_Outer_broken ?pg_Timed ?hd_Timed ?po_Timed ?sa_Timed ?mk_Timed ?kp_Timed ?n_Timed_outer ?n_Timed_given ?n_Timed_now ?n_Timed_held ?n_Timed_limits ?n_Timed_ends ?cdT ?cgT ?cvT
    (case gc_Calls => k_is); (case gc_Outer => k_is); (case gc_Timed => k_is); (case ma0 => k_is); (case l0 => k_is); (case c0 => k_is); (case k0 => k_is); (case mt0 => k_is); (case my0 => k_is); (case ma1 => k_is); (case l1 => k_is); (case c1 => k_is); (case k1 => k_is); (case mt1 => k_is); (case my1 => k_is); (case ma2 => k_is); (case l2 => k_is); (case c2 => k_is); (case k2 => k_is); (case mt2 => k_is); (case my2 => k_is); (case ma3 => k_is); (case l3 => k_is); (case c3 => k_is); (case k3 => k_is); (case mt3 => k_is); (case my3 => k_is); (case ma4 => k_is); (case l4 => k_is); (case c4 => k_is); (case k4 => k_is); (case mt4 => k_is); (case my4 => k_is); (case ma5 => k_is); (case l5 => k_is); (case c5 => k_is); (case k5 => k_is); (case mt5 => k_is); (case my5 => k_is); (case ma6 => k_is); (case l6 => k_is); (case c6 => k_is); (case k6 => k_is); (case mt6 => k_is); (case my6 => k_is); (case ma7 => k_is); (case l7 => k_is); (case c7 => k_is); (case k7 => k_is); (case mt7 => k_is); (case my7 => k_is); (case ma8 => k_is); (case l8 => k_is); (case c8 => k_is); (case k8 => k_is); (case mt8 => k_is); (case my8 => k_is); (case ma9 => k_is); (case l9 => k_is); (case c9 => k_is); (case k9 => k_is); (case mt9 => k_is); (case my9 => k_is); (case ma10 => k_is); (case l10 => k_is); (case c10 => k_is); (case k10 => k_is); (case mt10 => k_is); (case my10 => k_is); (case ma11 => k_is); (case l11 => k_is); (case c11 => k_is); (case k11 => k_is); (case mt11 => k_is); (case my11 => k_is); (case ma12 => k_is); (case l12 => k_is); (case c12 => k_is); (case k12 => k_is); (case mt12 => k_is); (case my12 => k_is); (case ma13 => k_is); (case l13 => k_is); (case c13 => k_is); (case k13 => k_is); (case mt13 => k_is); (case my13 => k_is); (case ma14 => k_is); (case l14 => k_is); (case c14 => k_is); (case k14 => k_is); (case mt14 => k_is); (case my14 => k_is); (case ga15 => k_is); (case l15 => k_is); (case c15 => k_is); (case k15 => k_is); (case ga16 => k_is); (case l16 => k_is); (case c16 => k_is); (case k16 => k_is); (case ga17 => k_is); (case l17 => k_is); (case c17 => k_is); (case k17 => k_is); (case ga18 => k_is); (case l18 => k_is); (case c18 => k_is); (case k18 => k_is); (case ga19 => k_is); (case l19 => k_is); (case c19 => k_is); (case k19 => k_is); (case ga20 => k_is); (case l20 => k_is); (case c20 => k_is); (case k20 => k_is); (case ga21 => k_is); (case l21 => k_is); (case c21 => k_is); (case k21 => k_is); (case ga22 => k_is); (case l22 => k_is); (case c22 => k_is); (case k22 => k_is); (case ga23 => k_is); (case l23 => k_is); (case c23 => k_is); (case k23 => k_is); (case ga24 => k_is); (case l24 => k_is); (case c24 => k_is); (case k24 => k_is); (case ga25 => k_is); (case l25 => k_is); (case c25 => k_is); (case k25 => k_is); (case ga26 => k_is); (case l26 => k_is); (case c26 => k_is); (case k26 => k_is); (case tl26 => k_is); (case tp26 => rfl); (case tn26 => kernel_rfl); (case tr26 => rfl); (case ga27 => k_is); (case l27 => k_is); (case c27 => k_is); (case k27 => k_is); (case ga28 => k_is); (case l28 => k_is); (case c28 => k_is); (case k28 => k_is); (case ga29 => k_is); (case l29 => k_is); (case c29 => k_is); (case k29 => k_is); (case ga30 => k_is); (case l30 => k_is); (case c30 => k_is); (case k30 => k_is); (case ga31 => k_is); (case l31 => k_is); (case c31 => k_is); (case k31 => k_is); (case tl31 => k_is); (case tp31 => rfl); (case tn31 => kernel_rfl); (case tr31 => rfl); (case ga32 => k_is); (case l32 => k_is); (case c32 => k_is); (case k32 => k_is); (case ga33 => k_is); (case l33 => k_is); (case c33 => k_is); (case k33 => k_is); (case ga34 => k_is); (case l34 => k_is); (case c34 => k_is); (case k34 => k_is); (case ga35 => k_is); (case l35 => k_is); (case c35 => k_is); (case k35 => k_is); (case ga36 => k_is); (case l36 => k_is); (case c36 => k_is); (case k36 => k_is); (case tl36 => k_is); (case tp36 => rfl); (case tn36 => kernel_rfl); (case tr36 => rfl); (case pne26_31 => decide); (case pne26_36 => decide); (case pne31_36 => decide); (case z_abs => k_is); (case z_any => k_is); (case z_bool => k_is); (case z_dict => k_is); (case z_int => k_is); (case z_isinstance => k_is); (case z_len => k_is); (case z_list => k_is); (case z_min => k_is); (case z_property => k_is); (case z_range => k_is); (case z_repr => k_is); (case z_reversed => k_is); (case z_sorted => k_is); (case z_sum => k_is); (case pg_Calls => k_is); (case hd_Calls => k_is); (case po_Calls => k_is); (case sa_Calls => k_is); (case mk_Calls => k_is); (case kp_Calls => k_is); (case n_Calls_entries => k_is); (case n_Calls_running => k_is); (case pg_Outer => k_is); (case hd_Outer => k_is); (case po_Outer => k_is); (case sa_Outer => k_is); (case mk_Outer => k_is); (case kp_Outer => k_is); (case n_Outer_calls => k_is); (case n_Outer_push_call => k_is); (case n_Outer_pop_call => k_is); (case n_Outer_ask_call => k_is); (case n_Outer_order => k_is); (case n_Outer_broken => k_is); (case pg_Timed => k_is); (case hd_Timed => k_is); (case po_Timed => k_is); (case sa_Timed => k_is); (case mk_Timed => k_is); (case kp_Timed => k_is); (case n_Timed_outer => k_is); (case n_Timed_given => k_is); (case n_Timed_now => k_is); (case n_Timed_held => k_is); (case n_Timed_limits => k_is); (case n_Timed_ends => k_is); (case cdT => k_is); (case cgT => k_is); (case cvT => k_is)


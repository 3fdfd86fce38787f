import PyProof.Rows.All
import Wide.All
import OpenK.AllK
import Wide.FinOn
import HandS.ForMost
import HandS.ForExc
import HandS.Nested
import HandS.Star
import HandS.Finally
import HandS.EndTab
import HandS.Replace
import HandS.Defaults
import HandS.ClsMeth
import HandS.MakeKwOnly
import KE.KMinKey
import HandS.SortKw
import KE.KDictCopyH
import KE.KDictIter
import HandS.IterVal
import HandS.DictTup
import HandS.Wide
import HandS.WideBits
import HandS.IsInst
import HandS.Codes
import HandS.Comp
import HandS.Conv
import HandS.SortInts
import HandS.MethStar
import PySem.Challenge.RW_oncebuilt_k71_answers_of_histories
import HandS.Walk
import HandS.Rev
import HandS.Style
import HandS.TryOnly
import HandS.SetFor
set_option Elab.async false
set_option linter.all false
set_option maxRecDepth 100000
set_option maxHeartbeats 4000000
namespace Inf
open PySem PySem.Spec PyProof.Rows L2 NdefX LamX
/-! ### a cell that is told -/
def CellO (c : Addr) (v : V) : HO := .ext fun h => ∃ u, L2.RelV v u ∧ h.IsCell c (some u)
theorem cellO_at {P : Program} {w : World} {H : Hp} {h : Heap} {c : Addr} {v : V} (hok : HOk P w H h) (e : H c = some (CellO c v)) : ∃ u, L2.RelV v u ∧ h.IsCell c (some u) := by
  obtain ⟨z, _, _⟩ := hok c _ e
  exact z
theorem cellO_ok {P : Program} {w : World} {H : Hp} {h : Heap} {c : Addr} {v : V} (x : ∃ u, L2.RelV v u ∧ h.IsCell c (some u)) : ObjOk P w H h c (CellO c v) := by
  refine ⟨x, ?_, fun h1 h2 ⟨u, r, o, e, d⟩ k => ⟨u, r, o, k o e, d⟩⟩
  obtain ⟨u, _, o, e, _⟩ := x
  exact ⟨o, e⟩
/-! ### cells left out, and put back -/
def cut (cs : List Addr) (H : Hp) : Hp := fun b => if b ∈ cs then Option.none else H b
def mend (cs : List Addr) (H H1 : Hp) : Hp := fun b => if b ∈ cs then H b else H1 b
theorem cut_in {cs : List Addr} {H : Hp} {b : Addr} (h : b ∈ cs) : cut cs H b = Option.none := if_pos h
theorem cut_out {cs : List Addr} {H : Hp} {b : Addr} (h : b ∉ cs) : cut cs H b = H b := if_neg h
theorem mend_in {cs : List Addr} {H H1 : Hp} {b : Addr} (h : b ∈ cs) : mend cs H H1 b = H b := if_pos h
theorem mend_out {cs : List Addr} {H H1 : Hp} {b : Addr} (h : b ∉ cs) : mend cs H H1 b = H1 b := if_neg h
def cellsOf (F : NF) (fr : List Str) : List Addr := fr.filterMap fun y => F.cl.lookup y
theorem mem_cells {F : NF} {fr : List Str} {c : Addr} : c ∈ cellsOf F fr ↔ ∃ y ∈ fr, F.cl.lookup y = some c := List.mem_filterMap
/-- the function F stands at f, and its captured cells hold ws -/
structure Clo (H : Hp) (f : Addr) (F : NF) (fr : List Str) (ws : List V) : Prop where
  fn : H f = some (FnO f F)
  code : H F.c = some (CodeO F.c F.qual)
  len : ws.length = fr.length
  dom : ∀ y c, F.cl.lookup y = some c → y ∈ fr
  inj : ∀ x y c, F.cl.lookup x = some c → F.cl.lookup y = some c → x = y
  at_ : ∀ (i : Nat) (y : Str), fr[i]? = some y → ∃ c v, F.cl.lookup y = some c ∧ ws[i]? = some v ∧ H c = some (CellO c v)
theorem Clo.same {H H1 : Hp} {f : Addr} {F : NF} {fr : List Str} {ws : List V} (h : Clo H f F fr ws) (s : Same H H1) : Clo H1 f F fr ws :=
  ⟨s _ _ h.fn, s _ _ h.code, h.len, h.dom, h.inj, fun i y e => by
    obtain ⟨c, v, a, b, d⟩ := h.at_ i y e
    exact ⟨c, v, a, b, s _ _ d⟩⟩
theorem Clo.cell {H : Hp} {f : Addr} {F : NF} {fr : List Str} {ws : List V} (h : Clo H f F fr ws) {b : Addr} (hb : b ∈ cellsOf F fr) : ∃ v, H b = some (CellO b v) := by
  obtain ⟨y, hy, e⟩ := mem_cells.mp hb
  obtain ⟨i, hi⟩ := List.mem_iff_getElem?.mp hy
  obtain ⟨c, v, a, _, d⟩ := h.at_ i y hi
  rw [e] at a
  cases a
  exact ⟨v, d⟩
/-- what is no thing by a word of its own is no cell -/
theorem Clo.out {H : Hp} {f : Addr} {F : NF} {fr : List Str} {ws : List V} (h : Clo H f F fr ws) {b : Addr} {o : HO} (e : H b = some o) (n : ∀ φ, o ≠ .ext φ) : b ∉ cellsOf F fr := fun hb => by
  obtain ⟨v, d⟩ := h.cell hb
  rw [e] at d
  exact n _ (Option.some.inj d)
section
variable {P : Program} {w : World} {K : PySem.W.Frag} {mg : Str → Option Value} {base : Heap} {k : Nat} {f : Addr} {F : NF} {ps fr : List Str} {sp : List (Option V) → Sp}
/-- A FUNCTION THAT WAS MADE IN A DEF, called from anywhere: its cells are told; while it runs they are left out, behind it they are put back -/
theorem clo_fnR (N : NOk P w K mg base CX0 k f F ps fr sp) :
    FnR P w K mg base CX0 k f (fun vs H Q E => ∃ ws, Clo H f F fr ws ∧ sp (ws.map some) vs (cut (cellsOf F fr) H) (fun v H1 => (∀ b, b ∈ cellsOf F fr → H1 b = Option.none) → Q v (mend (cellsOf F fr) H H1)) E) := by
  intro A outer s H us vs Q E hr e0 r hsp
  obtain ⟨ws, hc, hsp⟩ := hsp
  have cellAt : ∀ b, b ∈ cellsOf F fr → ∃ v, H b = some (CellO b v) := fun b hb => hc.cell hb
  have fnout : f ∉ cellsOf F fr := fun hb => by
    obtain ⟨v, e⟩ := cellAt f hb
    obtain ⟨u, _, o, e1, e2⟩ := cellO_at e0.hok e
    obtain ⟨od, sl, doc, pm, ctv, e3⟩ := fnO_at e0.hok hc.fn
    rw [e1] at e3
    cases e3
    cases e2
  have cout : F.c ∉ cellsOf F fr := fun hb => by
    obtain ⟨v, e⟩ := cellAt F.c hb
    obtain ⟨u, _, o, e1, e2⟩ := cellO_at e0.hok e
    obtain ⟨⟨oc, vs', t, h1, h2, h3⟩, _, _⟩ := e0.hok F.c _ hc.code
    rw [e1] at h1
    cases h1
    rw [e2] at h2
    cases h2
  have hokc : HOk P w (cut (cellsOf F fr) H) s.heap := fun b o e => by
    by_cases hb : b ∈ cellsOf F fr
    · rw [cut_in hb] at e
      cases e
    · rw [cut_out hb] at e
      refine (e0.hok b o e).stay (fun c u _ q => q) (fun c q => ?_) fun c xs q => ?_
      · rw [cut_out (hc.out q (fun φ z => nomatch z))]
        exact q
      · rw [cut_out (hc.out q (fun φ z => nomatch z))]
        exact q
  have noneC : ∀ b, H b = Option.none → cut (cellsOf F fr) H b = Option.none := fun b e => by
    by_cases hb : b ∈ cellsOf F fr
    · exact cut_in hb
    · rw [cut_out hb]
      exact e
  have e1 : Env0 P w K mg base A outer s (cut (cellsOf F fr) H) := ⟨e0.frames, e0.mod, fun b o q => ⟨(e0.bs b o q).1, noneC b (e0.bs b o q).2⟩, e0.bsz, e0.funs, fun b hb => noneC b (e0.frf b hb), hokc, e0.bare⟩
  have C : CellsAt F.cl fr (ws.map some) s.heap (cut (cellsOf F fr) H) := by
    refine ⟨by rw [List.length_map]; exact hc.len, fun y c e => ?_, hc.inj, fun i y e => ?_⟩
    · have hb : c ∈ cellsOf F fr := mem_cells.mpr ⟨y, hc.dom y c e, e⟩
      obtain ⟨v, d⟩ := cellAt c hb
      obtain ⟨u, _, z⟩ := cellO_at e0.hok d
      exact ⟨cut_in hb, _, z⟩
    · obtain ⟨c, v, a, b, d⟩ := hc.at_ i y e
      refine ⟨c, a, fun v' e' => ?_⟩
      rw [List.getElem?_map, b] at e'
      cases e'
      obtain ⟨u, r', z⟩ := cellO_at e0.hok d
      exact ⟨u, r', z⟩
  refine codeAny_mono (N.run A outer s (cut (cellsOf F fr) H) us vs (ws.map some) _ E hr e1 (by rw [cut_out fnout]; exact hc.fn) (by rw [cut_out cout]; exact hc.code) C r hsp) fun res s' hq => ?_
  cases res with
  | error e => exact hq
  | ok fl =>
    cases fl with
    | next => exact hq
    | brk => exact hq
    | cont => exact hq
    | ret u =>
      obtain ⟨v, H1, os, bare, un, hok1, rv, q⟩ := hq
      have gone : ∀ b, b ∈ cellsOf F fr → H1 b = Option.none := fun b hb => by
        obtain ⟨v, d⟩ := cellAt b hb
        obtain ⟨u, _, o, z1, z2⟩ := cellO_at e0.hok d
        exact un.free b o z1 (cut_in hb) (by simp)
      have notfr : ∀ b, b ∈ cellsOf F fr → b ∉ frs outer := fun b hb z => by
        obtain ⟨v, d⟩ := cellAt b hb
        rw [e0.frf b z] at d
        cases d
      refine ⟨v, mend (cellsOf F fr) H H1, os, bare, ⟨fun b o a n h1 h2 => un.keep b o a (noneC b n) h1 h2, fun b o a n h1 h2 => un.slot b o a (noneC b n) h1 h2, fun b o a n h2 => ?_, un.there, fun b xs e => ?_, fun b o u e => ?_, fun b ps e => ?_⟩, fun b o e => ?_, rv, q gone⟩
      · by_cases hb : b ∈ cellsOf F fr
        · rw [mend_in hb]
          exact n
        · rw [mend_out hb]
          exact un.free b o a (noneC b n) h2
      · have hb := hc.out e (fun φ z => nomatch z)
        rw [mend_out hb]
        exact un.tups b xs (by rw [cut_out hb]; exact e)
      · have hb := hc.out e (fun φ z => nomatch z)
        rw [mend_out hb]
        exact un.frzs b o u (by rw [cut_out hb]; exact e)
      · have hb := hc.out e (fun φ z => nomatch z)
        rw [mend_out hb]
        exact un.tbls b ps (by rw [cut_out hb]; exact e)
      · by_cases hb : b ∈ cellsOf F fr
        · rw [mend_in hb] at e
          obtain ⟨v', d⟩ := cellAt b hb
          rw [d] at e
          cases e
          obtain ⟨u', r', o', z1, z2⟩ := cellO_at e0.hok d
          exact cellO_ok ⟨u', r', o', un.keep b o' z1 (cut_in hb) (notfr b hb) (by simp), z2⟩
        · rw [mend_out hb] at e
          refine (hok1 b o e).stay (fun c u _ q => q) (fun c q => ?_) fun c xs q => ?_
          · have hb' : c ∉ cellsOf F fr := fun z => by
              rw [gone c z] at q
              cases q
            rw [mend_out hb']
            exact q
          · have hb' : c ∉ cellsOf F fr := fun z => by
              rw [gone c z] at q
              cases q
            rw [mend_out hb']
            exact q
end
theorem mend_at {cs : List Addr} {H H1 : Hp} {a : Addr} {o : HO} (g : ∀ b, b ∈ cs → H1 b = Option.none) (e : H1 a = some o) : mend cs H H1 a = some o := by
  rw [mend_out fun z => by rw [g a z] at e; cases e]
  exact e
theorem cut_at {cs : List Addr} {H : Hp} {a : Addr} {o : HO} (n : a ∉ cs) (e : H a = some o) : cut cs H a = some o := (cut_out n).trans e
end Inf

set_option Elab.async false
set_option linter.all false
set_option maxRecDepth 100000
set_option maxHeartbeats 4000000
namespace Inf
open PySem PySem.Spec PyProof.Rows L2 NdefX LamX
/-! ### a body that ends in a return: what its names hold there is told -/
abbrev TSR := (L2.St → V → Hp → Prop) → L2.St → Hp → Prop
structure PSsR (X : Cx) (ss : List Stmt) (t : TSR) : Prop where
  run : ∀ (pins : List (Addr × Obj)) (s : Shared) (σ : L2.St) (H : Hp) (R : L2.St → V → Hp → Prop), Inv X pins σ H s → t R σ H →
    wpAny (model X.prog X.w) X.A (execs ss X.env) (fun fl s' => ∃ u v σ' H', fl = .ret u ∧ Inv X pins σ' H' s' ∧ L2.RelV v u ∧ R σ' v H') X.xe s
theorem psr_cons {X : Cx} {st : Stmt} {rest : List Stmt} {t : TS} {u : TSR} (h1 : PS X st t) (h2 : PSsR X rest u) : PSsR X (st :: rest) (fun R σ H => t { nx := fun σ' H' => u R σ' H', rt := fun _ _ => False } σ H) := by
  refine ⟨fun pins s σ H R I h => ?_⟩
  refine wpAny_execs_cons (thn (h1.run pins s σ H { nx := fun σ' H' => u R σ' H', rt := fun _ _ => False } I h) fun fl s1 q => ?_)
  cases fl with
  | next =>
    obtain ⟨σ1, H1, I1, q1⟩ := q
    exact h2.run pins s1 σ1 H1 R I1 q1
  | brk =>
    obtain ⟨_, _, _, q1⟩ := q
    exact False.elim q1
  | cont =>
    obtain ⟨_, _, _, q1⟩ := q
    exact False.elim q1
  | ret v =>
    obtain ⟨_, _, _, _, _, q1⟩ := q
    exact False.elim q1
theorem psr_ret {X : Cx} {e : Expr} {pos : Pos} {te : TE} (he : PE X e te) : PSsR X [.Return (some e) pos] (fun R σ H => te σ H (R σ)) := by
  refine ⟨fun pins s σ H R I h => ?_⟩
  refine wpAny_execs_cons (wpAny_Return_some (thn (he.run pins s σ H _ I h) fun v s1 ⟨x, H1, I1, r1, q1⟩ => ?_))
  exact ⟨v, x, σ, H1, rfl, I1, r1, q1⟩
/-! ### a def that returns things that hold its names -/
/-- the heap behind the return: the def's cells are told -/
structure Fin (cells : List (Str × Addr)) (names : List (Str × NameKind)) (N : List Str) (σ : L2.St) (H H' : Hp) : Prop where
  same : Same H H'
  gone : ∀ b, H' b = Option.none → H b = Option.none
  inj : ∀ x y c, cells.lookup x = some c → cells.lookup y = some c → x = y
  at_ : ∀ (i : Nat) (y : Str) (c : Addr) (v : V), N[i]? = some y → names.lookup y = some .cell → cells.lookup y = some c → σ[i]? = some (some v) → H' c = some (CellO c v)
theorem cells_big : ∀ (names : List (Str × NameKind)) (n lo : Nat) (acc : List (Str × Addr)), (∀ p ∈ acc, lo ≤ p.2) → lo ≤ n → ∀ p ∈ cellsFrom n names acc, lo ≤ p.2
  | [], n, lo, acc, h, _ => h
  | (x, kd) :: r, n, lo, acc, h, hn => by
    unfold cellsFrom
    split
    · exact cells_big r (n + 1) lo _ (fun p hp => by
        rcases List.mem_cons.mp hp with rfl | hp
        · exact hn
        · exact h p hp) (by omega)
    · exact cells_big r n lo acc h hn
section
variable {CX : CXT} {P : Program} {w : World} {K : PySem.W.Frag} {mg : Str → Option Value} {base : Heap} {N ps : List Str} {qual : Str} {scope : Scope} {f : Addr} {cdv : Value} {A : Around} {outer : List Env} {s s' : Shared} {H H' : Hp} {E : XK} {σ : L2.St} {Q : VK}
open Classical in
theorem fin_make (nd : N.Nodup) (J : Inv (cxOf CX P w K mg base N qual scope f cdv A outer s H E) [] σ H' s') :
    ∃ H'', Fin (envOfC qual scope s.heap.objs.size f cdv).cells scope.names N σ H' H'' ∧ Un (frs outer) [] H H'' s.heap s'.heap ∧ HOk P w H'' s'.heap := by
  have ge : ∀ (y : Str) (c : Addr), (envOfC qual scope s.heap.objs.size f cdv).cells.lookup y = some c → s.heap.objs.size ≤ c := fun y c e =>
    cells_big scope.names (s.heap.objs.size + 1) s.heap.objs.size [] (fun p hp => by cases hp) (Nat.le_succ _) (y, c) (PySem.mem_of_lookup e)
  have J0 : Un (frs outer) [] H H' s.heap s'.heap := J.base
  have inj := J.ok.inj
  let Pr : Addr → V → Prop := fun b v => ∃ (i : Nat) (y : Str), N[i]? = some y ∧ scope.names.lookup y = some .cell ∧ (envOfC qual scope s.heap.objs.size f cdv).cells.lookup y = some b ∧ σ[i]? = some (some v)
  have gone : ∀ b v, Pr b v → H' b = Option.none := fun b v ⟨i, y, _, _, e, _⟩ => J.freeC y b e
  have uniq : ∀ b v u, Pr b v → Pr b u → v = u := fun b v u ⟨i, y, a1, a2, a3, a4⟩ ⟨j, z, b1, b2, b3, b4⟩ => by
    have e1 : y = z := inj y z b a3 b3
    subst e1
    have e2 : i = j := by
      obtain ⟨h1, g1⟩ := List.getElem?_eq_some_iff.mp a1
      obtain ⟨h2, g2⟩ := List.getElem?_eq_some_iff.mp b1
      exact (List.getElem_inj nd).mp (g1.trans g2.symm)
    subst e2
    rw [a4] at b4
    exact Option.some.inj (Option.some.inj b4)
  let H'' : Hp := fun b => if h : ∃ v, Pr b v then some (CellO b (Classical.choose h)) else H' b
  have inC : ∀ b v, Pr b v → H'' b = some (CellO b v) := fun b v h => by
    have hx : ∃ v, Pr b v := ⟨v, h⟩
    show (if h : ∃ v, Pr b v then some (CellO b (Classical.choose h)) else H' b) = _
    rw [dif_pos hx, uniq b _ v (Classical.choose_spec hx) h]
  have outC : ∀ b, (¬ ∃ v, Pr b v) → H'' b = H' b := fun b h => dif_neg h
  have known : ∀ b o, H' b = some o → H'' b = some o := fun b o e => by
    rw [outC b fun ⟨v, h⟩ => by rw [gone b v h] at e; cases e]
    exact e
  refine ⟨H'', ⟨known, fun b e => ?_, inj, fun i y c v h1 h2 h3 h4 => inC c v ⟨i, y, h1, h2, h3, h4⟩⟩, ⟨J0.keep, J0.slot, fun b o a n h2 => ?_, J0.there, fun b xs e => known _ _ (J0.tups b xs e), fun b o u e => known _ _ (J0.frzs b o u e), fun b ps' e => ?_⟩, fun b o e => ?_⟩
  · by_cases hb : ∃ v, Pr b v
    · obtain ⟨v, h⟩ := hb
      rw [inC b v h] at e
      cases e
    · rw [outC b hb] at e
      exact e
  · rw [outC b fun ⟨v, i, y, _, _, e, _⟩ => by
      exact absurd (Heap.lt_size a) (Nat.not_lt.mpr (ge y b e))]
    exact J0.free b o a n h2
  · obtain ⟨more, e2⟩ := J0.tbls b ps' e
    exact ⟨more, known _ _ e2⟩
  · by_cases hb : ∃ v, Pr b v
    · obtain ⟨v, h⟩ := hb
      rw [inC b v h] at e
      cases e
      obtain ⟨i, y, a1, a2, a3, a4⟩ := h
      obtain ⟨m, hn, hl⟩ := J.loc
      obtain ⟨u, ru, lk⟩ := hl i y v a1 a4 (.inr (.inl a2))
      refine cellO_ok ⟨u, ru, ?_⟩
      rcases lk with ⟨z, _⟩ | ⟨_, c', hc', hcell⟩
      · have z' : scope.names.lookup y = some .local := z
        rw [a2] at z'
        cases z'
      · have hc2 : (envOfC qual scope s.heap.objs.size f cdv).cells.lookup y = some c' := hc'
        rw [a3] at hc2
        cases hc2
        exact hcell
    · rw [outC b hb] at e
      exact (J.hok b o e).stay (fun c u _ q => q) (fun c q => known _ _ q) fun c xs q => known _ _ q
end
/-- THE RULE for such a def -/
theorem Fun.okC {P : Program} {w : World} {K : PySem.W.Frag} {mg : Str → Option Value} {base : Heap} {x qual : Str} {st : Stmt} {f : Addr} {fd : FuncData} {N ps : List Str} {k : Nat} {sp : Sp} (F : L2.Fun K x qual st f fd) (S : FnScope N ps (defScope st)) (len : ∀ vs H Q E, sp vs H Q E → vs.length = ps.length)
    (hbody : ∀ (cdv : Value) (A : Around) (outer : List Env) (s : Shared) (H : Hp) (vs : List V) (Q : VK) (E : XK), Room k (A.deeper (envOfC qual (defScope st) s.heap.objs.size f cdv)) → PySem.W.codeIn K cdv qual = true → sp vs H Q E →
      ∃ t, PSsR (cxOf CX0 P w K mg base N qual (defScope st) f cdv A outer s H E).nox (defBody st) t ∧
        t (fun σ v H' => ∀ H'', Fin (envOfC qual (defScope st) s.heap.objs.size f cdv).cells (defScope st).names N σ H' H'' → Q v H'') (start N vs) H) : FnOk P w K mg base CX0 (k + 1) f fd ps sp := by
  obtain ⟨oc, od, kV, doc, pm, an, cdv, ct, osl, rfl, lk, hcd⟩ := F.ex
  refine ⟨len, fun A outer s H args us vs Q E hr e0 hb r hsp => ?_⟩
  have hl := len _ _ _ _ hsp
  have KX : K.In s.heap := e0.mod.kin.keeps fun b o e => (e0.bs b o e).1
  have lim : s.heap.NoLimit := e0.mod.nolimit.keeps fun b o e => (e0.bs b o e).1
  have hkind : ∀ y ∈ ps.zip us, (defScope st).names.lookup y.1 = some .local ∨ ((defScope st).names.lookup y.1 = some .cell ∧ ((cellsFrom (s.heap.objs.size + 1) (defScope st).names []).lookup y.1).isSome = true) := fun ⟨n, v⟩ hy => by
    rcases S.par n (List.of_mem_zip hy).1 with q | q
    · exact .inl q
    · exact .inr ⟨q, PySem.W.cellsFrom_some _ _ _ (.inl q)⟩
  refine codeAny_call_function hr.depth (KX _ _ lk) rfl S.co S.gen rfl (PySem.W.codeRec_of KX hcd) (hb _ _ _ _ ?_)
  refine wpAny_newFunctionEnv_cells S.kind hkind fun env he s1 xx => ?_
  subst he
  refine ⟨lim.keeps xx.toInCall.keep, codeAny_func ?_⟩
  obtain ⟨t, ht, hq⟩ := hbody cdv A outer s H vs Q E (hr.deeper _) hcd hsp
  have I : Inv (cxOf CX0 P w K mg base N qual (defScope st) f cdv A outer s H E) [] (start N vs) H s1 := inv_start S hr.hd e0 hl r xx
  refine wpAny_mono (ht.run [] s1 (start N vs) H _ (I.wish _) hq) (fun fl s' hs => ?_) fun e s' hs => False.elim hs
  obtain ⟨u, v, σ', H', rfl, J', rv, q⟩ := hs
  have J : Inv (cxOf CX0 P w K mg base N qual (defScope st) f cdv A outer s H E) [] σ' H' s' := J'.unwish
  obtain ⟨H'', hF, hU, hO⟩ := fin_make S.nd J
  exact ⟨v, H'', J.os, J.bare, hU, hO, rv, q H'' hF⟩
end Inf

set_option Elab.async false
set_option linter.all false
set_option maxRecDepth 100000
set_option maxHeartbeats 4000000
namespace Inf
open PySem PySem.Spec PyProof.Rows L2 NdefX LamX
/-! ### f( *values), f a name that holds a function that was made in a def -/
/-- such a thing is a function object -/
def FnHO (f : Addr) (o : HO) : Prop := ∀ (P : Program) (w : World) (H : Hp) (h : Heap), HOk P w H h → H f = some o → PySem.W.FnAt f h
theorem fnHO_of {f : Addr} {F : NF} : FnHO f (FnO f F) := fun P w H h hok e => by
  obtain ⟨od, sl, doc, pm, ctv, z⟩ := fnO_at hok e
  exact ⟨_, od, _, sl, z⟩
def tAct (P : Program) (w : World) (K : PySem.W.Frag) (mg : Str → Option Value) (base : Heap) (CX : CXT) (k i : Nat) (E : L2.St → XK) (te : TE) : TE := fun σ H Q => ∃ f, σ[i]? = some (some (.ref f)) ∧ te σ H fun y H1 => ∃ a xs o sp, y = V.ref a ∧ (SqT K H1 a xs ∨ SqL K H1 a xs) ∧ H1 f = some o ∧ FnHO f o ∧
  FnR P w K mg base CX k f sp ∧ sp xs H1 Q (E σ)
section
variable {X : Cx} {CX : CXT} {k i : Nat} {E : L2.St → XK} {x : Str} {e : Expr} {te : TE} {p sp_ pos : Pos}
theorem run_fnE {pins : List (Addr × Obj)} {σ : L2.St} {H : Hp} {s : Shared} {f : Addr} {sp : Sp} {Q : VK} {us : List Value} {vs : List V} (F : FnR X.prog X.w X.K X.mg X.base CX k f sp) (hr : Room k X.A) (hx : PassesAt CX X σ (E σ)) (I : Inv X pins σ H s) (r : Vals vs us) (h : sp vs H Q (E σ)) :
    wpAny (model X.prog X.w) X.A (call (.ref f) us) (EP X pins σ Q) X.xe s := by
  refine wpAny_call (codeAny_mono (F X.A X.stack s H us vs Q (E σ) hr I.env0 r h) fun r s' hq => ?_)
  match r, hq with
  | .error e, hq => exact hx pins H s e s' I hq
  | .ok (.ret u), hq => exact I.after hq
  | .ok .next, hq => exact False.elim hq
  | .ok .brk, hq => exact False.elim hq
  | .ok .cont, hq => exact False.elim hq
theorem pe_act (hN : X.N[i]? = some x) (hv : Vis X.env.scope x) (hr : Room k X.A) (hx : ∀ σ, PassesAt CX X σ (E σ)) (he : PE X e te) (hd : (x == ("__debug__" : Str)) = false := by decide) (hcd : (x == ("__classdict__" : Str)) = false := by decide)
    (hst : starEach [.Starred e sp_] X.env = [(true, eval e X.env)] := by rfl) : PE X (.Call (.Name x p) [.Starred e sp_] [] pos) (tAct X.prog X.w X.K X.mg X.base CX k i E te) := by
  refine ⟨fun pins s σ H Q I h => ?_⟩
  obtain ⟨f, hs, h⟩ := h
  refine wpAny_Call_Name_kw (thn ((pe_var (pos := p) hN hv hd hcd).run pins s σ H (fun v H1 => v = .ref f ∧ H1 = H) I ⟨.ref f, hs, rfl, rfl⟩) fun u s1 ⟨v, H1, I1, r1, ev, eH⟩ => ?_)
  subst ev
  rw [eH] at I1
  obtain rfl : u = Value.ref f := r1
  rw [show backTo pos (starEach [.Starred e sp_] X.env) = [(true, (do let v ← eval e X.env; standAt pos; pure v))] by rw [hst]; rfl]
  refine PySem.W.ks_call (P := PySem.W.FnAt f) rfl PySem.W.keeps_F (PySem.W.ks_lone ?_)
  refine thn (he.run pins s1 σ H _ I1 h) fun v s2 ⟨y, H2, I2, ry, a, xs, o, sp, ey, hxs, hf, ho, hF, q⟩ => ?_
  subst ey
  obtain rfl : v = Value.ref a := ry
  exact StX.star_any I2 hxs fun us s3 I3 rv => ⟨ho _ _ _ _ I3.hok hf, run_fnE hF hr (hx σ) I3 rv q⟩
end
/-! ### try: body finally: suite, where nothing is raised -/
section
variable {X : Cx} {body : List Stmt} {f₀ : Stmt} {fs : List Stmt} {pos : Pos} {tb tf : TS}
def tFin0 (tb tf : TS) : TS := fun D σ H => tb { nx := fun σ1 H1 => tf D σ1 H1, rt := fun _ _ => False } σ H
theorem ps_fin0 (hb : PSs X.nox body tb) (hf : PSs X.nox (f₀ :: fs) tf) : PS X (.Try body [] [] (f₀ :: fs) pos) (tFin0 tb tf) := by
  refine ⟨fun pins s σ H D I h => wpAny_Try_finally (wpAny_mono (hb.run pins s σ H _ (I.wish _) h) (fun g s1 z => ?_) fun _ _ z => False.elim z)⟩
  match g, z with
  | .ret u, z => exact (z.elim fun _ z => z.elim fun _ z => z.elim fun _ z => z.2.2).elim
  | .brk, z => exact (z.elim fun _ z => z.elim fun _ z => z.2).elim
  | .cont, z => exact (z.elim fun _ z => z.elim fun _ z => z.2).elim
  | .next, z =>
    obtain ⟨σ1, H1, J1, q1⟩ := z
    refine wpAny_execs_nil (wpAny_mono (hf.run pins s1 σ1 H1 D (J1.unwish.wish _) q1) (fun g2 s2 q2 => ?_) fun _ _ e => False.elim e)
    have q3 : SP X pins D g2 s2 := q2.unwish
    cases g2 <;> exact q3
end
end Inf

set_option Elab.async false
set_option linter.all false
set_option maxRecDepth 100000
set_option maxHeartbeats 4000000
namespace Inf
open PySem PySem.Spec PyProof.Rows L2 NdefX LamX
/-- the tables of the code objects of the top's defs, as the written part and the head tell them -/
def TopTabs (q : Program) (K : PySem.W.Frag) (mg : Str → Option Value) (h : Heap) : Prop := ∀ (x : Str) (f c P : Addr) (o1 : Obj) (fd1 : FuncData) (e : Value) (dd : Option Addr) (vs1 : Array Value) (sl : Array (Option Value)),
  (recsOf q).any (fun d => d.name == x) = true → mg x = some (.ref f) → K.lookup f = some o1 → o1.data = .func fd1 → fd1.code = .ref c → K.lookup c = some ⟨e, dd, .fields vs1, sl⟩ → vs1[11]? = some (.ref P) →
    PySem.W.CodeHd h c P ∧ h.get? P = some { cls := .none, data := .fields #[] }
theorem walk_top {l : PySem.W.OpenLaw} {n k : Nat} {q : Program} {loose : List Str} {XP : (Str → Option Value) → Heap → Prop} {YP : World → Heap → Prop} {d : DefRec} {K : Params → PySem.W.Frag} {CX : World → CXT} {x : Str}
    (hn : l.most = some n) (hn2 : n ≤ sizeLine) (hdf : d.params.defaults = []) (hr : Room k callerA) (hY : ∀ (w : World) (h : Heap), YP w h → (K w.params).In h)
    (F : ∀ (w : World) (mg : Str → Option Value) (fa : Addr) (h : Heap), YP w h → (K w.params).In h → h.Ns mainGlobals mg → mg d.name = some (.ref fa) → TopTabs q (K w.params) mg h → LawAtS l w (K w.params) (CX w) k n x mg fa h)
    (hCX : ∀ (w : World) (H : Hp) (s : Shared) (e : Value) (s' : Shared), CX w [] H s (fun _ _ _ => False) e s' → False) :
    PySem.W.WalkO q loose XP YP l.row.toRowW d [] (fun f vs => PySem.call f vs) :=
  Att.attach_callB hn hdf fun w s₀ s₁ mg mb fa o pm cd doc a vs ns G Y ho hd hcd hmg hobj hints hlen hbits hg => by
    have KX := hY w _ Y
    have tabs : TopTabs q (K w.params) mg s₁.heap := fun x f c P o1 fd1 e dd vs1 sl hrec hx k1 k2 k3 k4 k5 => by
      obtain ⟨dL, hm, hn1⟩ := List.any_eq_true.mp hrec
      have hn2 : dL.name = x := beq_iff_eq.mp hn1
      obtain ⟨a', o', fd', c', P', h1, h2, h3, h4, h5, h6⟩ := G.T.tab dL hm
      rw [hn2, hx] at h1
      cases h1
      have g1 := KX _ _ k1
      rw [g1] at h2
      cases h2
      rw [k2] at h3
      cases h3
      rw [k3] at h4
      cases h4
      have hC := PySem.W.CodeHd.of h5 h6
      obtain ⟨⟨oc, vc, e1, _, e3, e4⟩, hP⟩ := h6
      have g2 := KX _ _ k4
      rw [g2] at e1
      cases e1
      cases e3
      rw [k5] at e4
      cases e4
      exact ⟨hC, hP⟩
    obtain ⟨fd, cs, sp, hT, nT, C, hb, hsp, hF⟩ := F w mg fa _ Y KX G.T.g hmg tabs
    exact law_callTs KX G.T.g G.T.b G.T.builtins G.T.nolimit hg hT nT C G.T.bmain hobj hints (Nat.le_trans hlen hn2) hr hF hb (fun H hH hS => hsp H a ns hlen hbits hH hS) fun H e s' => hCX w H s₁ e s'
end Inf

set_option Elab.async false
set_option linter.all false
set_option maxRecDepth 100000
set_option maxHeartbeats 4000000
namespace Inf
open PySem PySem.Spec PyProof.Rows L2 NdefX LamX
/-! ### promises of defs that are called where no repr is under way -/
structure FnOkG (P : Program) (w : World) (K : PySem.W.Frag) (mg : Str → Option Value) (base : Heap) (CX : CXT) (k : Nat) (f : Addr) (fd : FuncData) (ps : List Str) (sp : Sp) : Prop where
  len : ∀ vs H Q E, sp vs H Q E → vs.length = ps.length
  run : ∀ (A : Around) (outer : List Env) (s : Shared) (H : Hp) (args : Args) (us : List Value) (vs : List V) (Q : VK) (E : XK), A.guards = some [] → Room k A → Env0 P w K mg base A outer s H → BindsTo s fd args (ps.zip us) → Vals vs us → sp vs H Q E →
    codeAny (model P w) A (.call (.ref f) args) (CR CX outer P w H s Q E) s
theorem FnOkG.of {P : Program} {w : World} {K : PySem.W.Frag} {mg : Str → Option Value} {base : Heap} {CX : CXT} {k : Nat} {f : Addr} {fd : FuncData} {ps : List Str} {sp : Sp} (F : FnOk P w K mg base CX k f fd ps sp) : FnOkG P w K mg base CX k f fd ps sp :=
  ⟨F.len, fun A outer s H args us vs Q E _ => F.run A outer s H args us vs Q E⟩
section
variable {P : Program} {w : World} {K : PySem.W.Frag} {mg mb : Str → Option Value} {CX : CXT} {k : Nat} {fa a : Addr} {cs : List (Addr × Addr)} {fd : FuncData} {x : Str} {sp : Sp} {s₁ : Shared} {vs : List Value} {ns : List Int}
/-- the law's call, from such a promise -/
theorem call_lawG (KX : K.In s₁.heap) (hns : s₁.heap.Ns mainGlobals mg) (hb : s₁.heap.Ns builtinsNs mb) (hbb : ∀ x : Str, x ≠ "__name__" → mb x = bootBuiltins x) (hlim : s₁.heap.NoLimit) (hg : s₁.gens = #[])
    (hT : ∀ p ∈ cs, s₁.heap.get? p.2 = some { cls := .none, data := .fields #[] }) (nT : ∀ p ∈ cs, K.lookup p.2 = none) (C : ∀ p ∈ cs, PySem.W.CodeHd s₁.heap p.1 p.2)
    (hbm : ∃ (bm : Addr) (ob : Obj), mg "__builtins__" = some (.ref bm) ∧ bm ≠ builtinsNs ∧ s₁.heap.get? bm = some ob ∧ ob.cls = .type "module" ∧ ob.dict = some builtinsNs ∧ ob.data = .plain)
    (ha : s₁.heap.get? a = some { cls := .type "list", data := .seq vs.toArray }) (hi : IntsAre vs ns) (hl : ns.length ≤ sizeLine) (hr : Room k callerA)
    (F : ∀ base : Heap, K.In base → base.Ns mainGlobals mg → (∀ p ∈ cs, TabB base mg p.1 p.2) → FnOkG P w K mg base CX k fa fd [x] sp) (hbind : ∀ (s : Shared) (u : Value), BindsTo s fd ⟨[u], []⟩ [(x, u)])
    (hsp : ∀ H : Hp, (∀ p ∈ cs, H p.2 = some (.tbl #[])) → SqL K H a (ns.map V.int) → sp [.ref a] H (fun v _ => v = .bl true) fun _ _ _ => False)
    (hCX : ∀ H e s', CX [] H s₁ (fun _ _ _ => False) e s' → False) :
    codeAny (model P w) callerA (.call (.ref fa) ⟨[.ref a], []⟩) (fun r s' => r = .ok (.ret (.bool true)) ∧ OldK s₁.heap s'.heap ∧ s'.os = s₁.os ∧ AllBare s'.gens) s₁ := by
  have tabAt : ∀ b, b ∈ cs.map (·.2) → s₁.heap.get? b = some { cls := .none, data := .fields #[] } := fun b hb => (List.mem_map.mp hb).elim fun p hp => hp.2 ▸ hT p hp.1
  have tabK : ∀ b, b ∈ cs.map (·.2) → K.lookup b = none := fun b hb => (List.mem_map.mp hb).elim fun p hp => hp.2 ▸ nT p hp.1
  -- the abstract heap: the tables, and the script where the written part doesn't hold it
  let H : Hp := fun b => if b ∈ cs.map (·.2) then some (.tbl #[]) else if b = a ∧ K.lookup a = none then some (.frz { cls := .type "list", data := .seq vs.toArray } (.lst (ns.map V.int))) else none
  have aNot : a ∉ cs.map (·.2) := fun z => by
    have := tabAt a z
    rw [ha] at this
    cases this
  have Htab : ∀ b, b ∈ cs.map (·.2) → H b = some (.tbl #[]) := fun b hb => if_pos hb
  have Hcase : ∀ b u, H b = some u → (b ∈ cs.map (·.2) ∧ u = .tbl #[]) ∨ (b = a ∧ K.lookup a = none ∧ u = .frz { cls := .type "list", data := .seq vs.toArray } (.lst (ns.map V.int))) := fun b u e => by
    by_cases h1 : b ∈ cs.map (·.2)
    · exact .inl ⟨h1, Option.some.inj (e.symm.trans (Htab b h1))⟩
    · by_cases h2 : b = a ∧ K.lookup a = none
      · exact .inr ⟨h2.1, h2.2, Option.some.inj (e.symm.trans ((if_neg h1).trans (if_pos h2)))⟩
      · exact absurd (e.symm.trans ((if_neg h1).trans (if_neg h2))) (fun z => nomatch z)
  have other : ∀ b o, s₁.heap.get? b = some o → (∀ its n, o.data ≠ .seq its n) → o.data ≠ .fields #[] → H b = none := fun b o e n1 n2 => by
    match q : H b with
    | none => rfl
    | some u =>
      rcases Hcase b u q with ⟨z, _⟩ | ⟨z, _, _⟩
      · rw [tabAt b z] at e
        exact absurd (by cases e; rfl) n2
      · rw [z, ha] at e
        exact absurd (by cases e; rfl) (n1 vs.toArray 0)
  have hok : HOk P w H s₁.heap := fun b u e => by
    rcases Hcase b u e with ⟨z, rfl⟩ | ⟨rfl, _, rfl⟩
    · exact tabAt b z
    · exact ⟨ha, by rw [List.length_map]; exact hl, vs, _, vals_ints hi, ha⟩
  have hS : SqL K H a (ns.map V.int) := by
    match hk : K.lookup a with
    | none => exact .inl (.inr ⟨_, (if_neg aNot).trans (if_pos ⟨rfl, hk⟩)⟩)
    | some o =>
      have e := KX a o hk
      rw [ha] at e
      cases e
      have lenV := hi.length
      exact .inr ⟨_, vs.toArray, _, hk, rfl, rfl, rfl, by rw [List.size_toArray, lenV]; exact hl, by simpa using vals_ints hi⟩
  have low : ∀ b o, s₁.heap.get? b = some o → H b = none → (hidT s₁.heap H).get? b = some o := fun b o e n => hidT_get e n
  have lowNs : ∀ {b : Addr} {m : Str → Option Value}, s₁.heap.Ns b m → (hidT s₁.heap H).Ns b m := fun {b m} h => by
    obtain ⟨o, es, ep, e, d, r⟩ := h
    exact ⟨o, es, ep, low b o e (other b o e (fun its n z => by rw [d] at z; cases z) fun z => by rw [d] at z; cases z), d, r⟩
  have lowK : K.In (hidT s₁.heap H) := fun b o e => low b o (KX b o e) (by
    match q : H b with
    | none => rfl
    | some u =>
      rcases Hcase b u q with ⟨z, _⟩ | ⟨rfl, z, _⟩
      · rw [tabK b z] at e
        cases e
      · rw [z] at e
        cases e)
  have notG : ∀ b o, s₁.heap.get? b = some o → (∀ es ep, o.data ≠ .dict es ep) → b ≠ mainGlobals := fun b o e n z => by
    obtain ⟨o', es, ep, e', d, _⟩ := hns
    rw [z, e'] at e
    cases e
    exact n es ep d
  have lowT : ∀ p ∈ cs, TabB (hidT s₁.heap H) mg p.1 p.2 := fun p hp => by
    refine ⟨?_, ?_, Ne.symm (notG p.2 _ (hT p hp) (fun es ep z => nomatch z))⟩
    · obtain ⟨o, us, file, tf, flags, tg, inF, text, tt, e1, r1, r2, r3, rest⟩ := C p hp
      refine ⟨o, us, file, tf, flags, tg, inF, text, tt, low _ o e1 (other _ o e1 (fun its n z => by rw [r2] at z; cases z) fun z => ?_), r1, r2, r3, rest⟩
      rw [r2] at z
      cases z
      simp at r3
    · obtain ⟨bm, ob, b1, b2, b3, b4, b5, b6⟩ := hbm
      refine ⟨bm, ob, b1, b2, notG bm ob b3 (fun es ep z => by rw [b6] at z; cases z), fun z => ?_, low bm ob b3 (other bm ob b3 (fun its n z => by rw [b6] at z; cases z) fun z => by rw [b6] at z; cases z), b4, b5, b6⟩
      rw [z, hT p hp] at b3
      cases b3
      cases b6
  have lowM : L2.Mod K mg (hidT s₁.heap H) := ⟨lowK, lowNs hns, ⟨mb, lowNs hb, hbb⟩, hlim.elim fun mc h => ⟨mc, lowNs h.1, h.2⟩⟩
  have e0 : Env0 P w K mg (hidT s₁.heap H) callerA [] s₁ H := ⟨rfl, lowM, fun b o e => of_hidT e, Nat.le_of_eq (hidT_size _ _), trivial, fun b hb => absurd (show b ∈ ([] : List Addr) from hb) (List.not_mem_nil), hok, .of_eq hg⟩
  refine codeAny_mono ((F _ lowK (lowNs hns) lowT).run callerA [] s₁ H ⟨[.ref a], []⟩ [.ref a] [.ref a] _ _ rfl hr e0 (hbind s₁ (.ref a)) (.cons rfl .nil) (hsp H (fun p hp => Htab _ (List.mem_map.mpr ⟨p, hp, rfl⟩)) hS)) fun r s' h => ?_
  match r, h with
  | .error e, h => exact (hCX H e s' h).elim
  | .ok .next, h => exact False.elim h
  | .ok .brk, h => exact False.elim h
  | .ok .cont, h => exact False.elim h
  | .ok (.ret u), h =>
    obtain ⟨v, H', os, bare, un, hok', r', q⟩ := h
    have q2 : v = .bl true := q
    subst q2
    obtain rfl : u = Value.bool true := r'
    have stays : ∀ b o, b ∉ cs.map (·.2) → s₁.heap.get? b = some o → s'.heap.get? b = some o := fun b o nb e => by
      match z : H b with
      | none => exact un.keep b o e z (fun z => nomatch z) (fun z => nomatch z)
      | some u =>
        rcases Hcase b u z with ⟨y, _⟩ | ⟨rfl, _, rfl⟩
        · exact absurd y nb
        · obtain ⟨e1, _⟩ := hok' b _ (un.frzs b _ _ z)
          rw [ha] at e
          cases e
          exact e1
    have tabs : ∀ p ∈ cs, ∃ more : Array Value, s'.heap.get? p.2 = some { cls := .none, data := .fields more } := fun p hp =>
      (un.tbls p.2 #[] (Htab _ (List.mem_map.mpr ⟨p, hp, rfl⟩))).elim fun more z => ⟨_, hok' p.2 _ z⟩
    refine ⟨rfl, ⟨fun b o e => ?_, fun b o e => ?_⟩, os, bare⟩
    · by_cases nb : b ∈ cs.map (·.2)
      · obtain ⟨p, hp, rfl⟩ := List.mem_map.mp nb
        rw [hT p hp] at e
        cases e
        exact (tabs p hp).elim fun more hm => .inr (.inl ⟨((C p hp).tab (hT p hp)).isCodeTable, rfl, #[], more, rfl, hm.trans (by rw [Array.empty_append])⟩)
      · exact .inl (stays b o nb e)
    · by_cases nb : b ∈ cs.map (·.2)
      · obtain ⟨p, hp, rfl⟩ := List.mem_map.mp nb
        exact (tabs p hp).elim fun more hm => ⟨_, hm⟩
      · exact ⟨o, stays b o nb e⟩
end
/-- what is known of the law's promise at the head's heap, where no repr is under way -/
def LawAtG (l : PySem.W.OpenLaw) (w : World) (K : PySem.W.Frag) (CX : CXT) (k n : Nat) (x : Str) (mg : Str → Option Value) (fa : Addr) (h : Heap) : Prop :=
  ∃ (fd : FuncData) (cs : List (Addr × Addr)) (sp : Sp), (∀ p ∈ cs, h.get? p.2 = some { cls := .none, data := .fields #[] }) ∧ (∀ p ∈ cs, K.lookup p.2 = none) ∧ (∀ p ∈ cs, PySem.W.CodeHd h p.1 p.2) ∧ (∀ (s : Shared) (u : Value), BindsTo s fd ⟨[u], []⟩ [(x, u)]) ∧
    (∀ (H : Hp) (a : Addr) (ns : List Int), ns.length ≤ n → (∀ p ∈ cs, H p.2 = some (.tbl #[])) → SqL K H a (ns.map V.int) → sp [.ref a] H (fun v _ => v = .bl true) fun _ _ _ => False) ∧
    ∀ base : Heap, K.In base → base.Ns mainGlobals mg → (∀ p ∈ cs, TabB base mg p.1 p.2) → FnOkG l.prog w K mg base CX k fa fd [x] sp
theorem walk_topG {l : PySem.W.OpenLaw} {n k : Nat} {q : Program} {loose : List Str} {XP : (Str → Option Value) → Heap → Prop} {YP : World → Heap → Prop} {d : DefRec} {K : Params → PySem.W.Frag} {CX : World → CXT} {x : Str}
    (hn : l.most = some n) (hn2 : n ≤ sizeLine) (hdf : d.params.defaults = []) (hr : Room k callerA) (hY : ∀ (w : World) (h : Heap), YP w h → (K w.params).In h)
    (F : ∀ (w : World) (mg : Str → Option Value) (fa : Addr) (h : Heap), YP w h → (K w.params).In h → h.Ns mainGlobals mg → mg d.name = some (.ref fa) → TopTabs q (K w.params) mg h → LawAtG l w (K w.params) (CX w) k n x mg fa h)
    (hCX : ∀ (w : World) (H : Hp) (s : Shared) (e : Value) (s' : Shared), CX w [] H s (fun _ _ _ => False) e s' → False) :
    PySem.W.WalkO q loose XP YP l.row.toRowW d [] (fun f vs => PySem.call f vs) :=
  Att.attach_callB hn hdf fun w s₀ s₁ mg mb fa o pm cd doc a vs ns G Y ho hd hcd hmg hobj hints hlen hbits hg => by
    have KX := hY w _ Y
    have tabs : TopTabs q (K w.params) mg s₁.heap := fun x f c P o1 fd1 e dd vs1 sl hrec hx k1 k2 k3 k4 k5 => by
      obtain ⟨dL, hm, hn1⟩ := List.any_eq_true.mp hrec
      have hn2 : dL.name = x := beq_iff_eq.mp hn1
      obtain ⟨a', o', fd', c', P', h1, h2, h3, h4, h5, h6⟩ := G.T.tab dL hm
      rw [hn2, hx] at h1
      cases h1
      have g1 := KX _ _ k1
      rw [g1] at h2
      cases h2
      rw [k2] at h3
      cases h3
      rw [k3] at h4
      cases h4
      have hC := PySem.W.CodeHd.of h5 h6
      obtain ⟨⟨oc, vc, e1, _, e3, e4⟩, hP⟩ := h6
      have g2 := KX _ _ k4
      rw [g2] at e1
      cases e1
      cases e3
      rw [k5] at e4
      cases e4
      exact ⟨hC, hP⟩
    obtain ⟨fd, cs, sp, hT, nT, C, hb, hsp, hF⟩ := F w mg fa _ Y KX G.T.g hmg tabs
    exact call_lawG KX G.T.g G.T.b G.T.builtins G.T.nolimit hg hT nT C G.T.bmain hobj hints (Nat.le_trans hlen hn2) hr hF hb (fun H hH hS => hsp H a ns hlen hH hS) fun H e s' => hCX w H s₁ e s'
/-! ### bodies and calls of such defs -/
theorem okG {P : Program} {w : World} {K : PySem.W.Frag} {mg : Str → Option Value} {base : Heap} {x qual : Str} {st : Stmt} {f : Addr} {fd : FuncData} {N ps : List Str} {k : Nat} {sp : Sp} (F : L2.Fun K x qual st f fd) (S : FnScope N ps (defScope st)) (len : ∀ vs H Q E, sp vs H Q E → vs.length = ps.length)
    (hbody : ∀ (cdv : Value) (A : Around) (outer : List Env) (s : Shared) (H : Hp) (vs : List V) (Q : VK) (E : XK), (A.deeper (envOfC qual (defScope st) s.heap.objs.size f cdv)).guards = some [] → Room k (A.deeper (envOfC qual (defScope st) s.heap.objs.size f cdv)) → sp vs H Q E →
      ∃ t, PSs (cxOf CX0 P w K mg base N qual (defScope st) f cdv A outer s H E).nox (defBody st) t ∧ t { nx := fun _ H' => Q .non H', rt := Q } (start N vs) H) : FnOkG P w K mg base CX0 (k + 1) f fd ps sp := by
  obtain ⟨oc, od, kV, doc, pm, an, cdv, ct, osl, rfl, lk, hcd⟩ := F.ex
  refine ⟨len, fun A outer s H args us vs Q E hga hr e0 hb r hsp => ?_⟩
  have KX : K.In s.heap := e0.mod.kin.keeps fun b o e => (e0.bs b o e).1
  have lim : s.heap.NoLimit := e0.mod.nolimit.keeps fun b o e => (e0.bs b o e).1
  have hl := len _ _ _ _ hsp
  have hkind : ∀ y ∈ ps.zip us, (defScope st).names.lookup y.1 = some .local ∨ ((defScope st).names.lookup y.1 = some .cell ∧ ((cellsFrom (s.heap.objs.size + 1) (defScope st).names []).lookup y.1).isSome = true) := fun ⟨n, v⟩ hy =>
    (S.par n (List.of_mem_zip hy).1).elim .inl fun q => .inr ⟨q, PySem.W.cellsFrom_some _ _ _ (.inl q)⟩
  refine codeAny_call_function hr.depth (KX _ _ lk) rfl S.co S.gen rfl (PySem.W.codeRec_of KX hcd) (hb _ _ _ _ (wpAny_newFunctionEnv_cells S.kind hkind fun env he s1 xx => ?_))
  subst he
  obtain ⟨t, ht, hq⟩ := hbody cdv A outer s H vs Q E hga (hr.deeper _) hsp
  have I : Inv (cxOf CX0 P w K mg base N qual (defScope st) f cdv A outer s H E) [] (start N vs) H s1 := inv_start S hr.hd e0 hl r xx
  refine ⟨lim.keeps xx.toInCall.keep, codeAny_func (wpAny_mono (ht.run [] s1 (start N vs) H _ (I.wish _) hq) (fun fl s' hs => ?_) fun e s' hs => False.elim hs)⟩
  have fin : ∀ {σ' : L2.St} {H' : Hp} {v : V} {u : Value}, Inv (cxOf CX0 P w K mg base N qual (defScope st) f cdv A outer s H E).nox [] σ' H' s' → L2.RelV v u → Q v H' → CE outer P w H s Q u s' :=
    fun {σ' H' v u} J rv q => ⟨v, H', J.os, J.bare, J.base, J.hok, rv, q⟩
  match fl, hs with
  | .ret u, hs => exact hs.elim fun v z => z.elim fun σ' z => z.elim fun H' z => fin z.1 z.2.1 z.2.2
  | .next, hs => exact hs.elim fun σ' z => z.elim fun H' z => fin (v := V.non) (u := Value.none) z.1 rfl z.2
  | .brk, hs => exact hs.elim fun _ z => z.elim fun _ z => False.elim z.2
  | .cont, hs => exact hs.elim fun _ z => z.elim fun _ z => False.elim z.2
section
variable {X : Cx} {CX : CXT} {k : Nat} {f : Addr} {fd : FuncData} {ps : List Str} {sp : Sp} {E : XK} {x : Str} {p pos : Pos} {e : Expr} {es : List Expr} {t : TA}
/-- f(e, ..), f such a def -/
theorem pe_callG (F : FnOkG X.prog X.w X.K X.mg X.base CX k f fd ps sp) (hG : X.A.guards = some []) (hr : Room k X.A) (hg : Gl X x) (hm : X.mg x = some (.ref f)) (hk : PySem.W.keepIn X.K (.ref f) = true) (hb : L2.Binds X.K fd ps []) (hx : Passes CX X E)
    (ha : PA X (e :: es) t) (hdb : (x == ("__debug__" : Str)) = false := by decide) (he : starEach (e :: es) X.env = (false, eval e X.env) :: starEach es X.env := by rfl) (hpl : (backTo pos (starEach es X.env)).any (·.1) = false := by rfl) :
    PE X (.Call (.Name x p) (e :: es) [] pos) (fun σ H Q => t σ H fun vs H1 => sp vs H1 Q E) := by
  refine ⟨fun pins s σ H Q I h => wpAny_Call_Name_kw (ld_glob I hg hm (PySem.W.callWith_K (h₀ := X.base) I.ok.mod.kin hk (thn (ha.run pos pins s σ H _ I h) fun us s1 ⟨vs, H1, I1, r, q⟩ => ⟨I1.kIn, ?_⟩) he hpl) hdb)⟩
  have hl : us.length = ps.length := r.length.symm.trans (F.len _ _ _ _ q)
  have hb2 : BindsTo s1 fd ⟨us, []⟩ (ps.zip us) := by
    have := hb s1 us I1.kIn (by rw [List.append_nil]; exact hl)
    rwa [List.append_nil] at this
  refine wpAny_call (codeAny_mono (F.run X.A X.stack s1 H1 ⟨us, []⟩ us vs Q E hG hr I1.env0 hb2 r q) fun res s' hq => ?_)
  match res, hq with
  | .error er, hq => exact hx pins σ H1 s1 er s' I1 hq
  | .ok (.ret u), hq => exact I1.after hq
  | .ok .next, hq => exact False.elim hq
  | .ok .brk, hq => exact False.elim hq
  | .ok .cont, hq => exact False.elim hq
/-- repr of data: what PyData.shown says -/
theorem call_reprD (hG : X.A.guards = some []) (hu : X.A.units + 64 + 16 < cLine) : CallR X (.builtin "repr") (fun xs H Q => ∃ (v : V) (d : PyData), xs = [v] ∧ Dp X.K H v d ∧ d.showable = true ∧ d.hasDict = false ∧ d.depth ≤ 64 ∧ d.shown.length ≤ sizeLine ∧ (∀ i, v = .int i → i.natAbs.log2 < 1920) ∧ Q (.str d.shown) H) := by
  intro pins s σ H xs us Q I r h
  obtain ⟨v, d, rfl, hd, hs, hnd, hdp, hsz, hi, q⟩ := h
  obtain ⟨u, rfl, ru⟩ := vals1 r
  have txt : ∀ tk, ∃ (y : V) (H1 : Hp), Inv X pins σ H1 { s with toks := tk } ∧ L2.RelV y (.str d.shown s.toks) ∧ Q y H1 := fun tk => ⟨.str d.shown, H, I.kept (t' := tk) fun _ _ z => z, ⟨_, rfl⟩, q⟩
  have obj : ∀ (a : Addr), u = .ref a → wpAny (model X.prog X.w) X.A (call (.builtin "repr") [u]) (EP X pins σ Q) X.xe s := fun a e => by
    subst e
    obtain ⟨as, rd⟩ := Dp.reads I _ _ _ hd ru
    exact repr_of_reads' rd hs (fun z => by rw [hnd] at z; cases z) hG (by omega) (fun _ _ z => z) (fun h' u tk hk => ⟨.str d.shown, H, I.kept (h' := h') (t' := tk) hk, ⟨_, rfl⟩, q⟩) hsz
  cases hd with
  | non =>
    obtain rfl : u = Value.none := ru
    exact P.repr_of_none (txt _)
  | bl b =>
    obtain rfl : u = Value.bool b := ru
    exact P.repr_of_bool (by cases b <;> exact txt _)
  | int i =>
    obtain ⟨t, rfl⟩ := ru
    exact P.repr_of_int (hi i rfl) (txt _)
  | str y =>
    obtain ⟨t, rfl⟩ := ru
    exact P.repr_of_str (txt _) hsz
  | lst h1 h2 => exact obj _ ru
  | tup h1 h2 => exact obj _ ru
end
end Inf

set_option Elab.async false
set_option linter.all false
set_option maxRecDepth 100000
set_option maxHeartbeats 4000000
namespace Inf
open PySem PySem.Spec PyProof.Rows L2 NdefX LamX
/-! ### a lambda as a value: a function that stands where it was made -/
/-- its words, the cells that it captured, its code object -/
structure LF where
  qual : Str
  params : Arguments
  body : Expr
  scope : Scope
  cl : List (Str × Addr)
  c : Addr
def LamO (f : Addr) (F : LF) : HO := .ext fun h => ∃ (pm ctv : Value), h.get? f = some (PySem.W.kla_obj "<lambda>" F.qual F.params F.body F.scope F.cl pm F.c ctv)
theorem lamO_at {P : Program} {w : World} {H : Hp} {h : Heap} {f : Addr} {F : LF} (hok : HOk P w H h) (e : H f = some (LamO f F)) : ∃ (pm ctv : Value), h.get? f = some (PySem.W.kla_obj "<lambda>" F.qual F.params F.body F.scope F.cl pm F.c ctv) := by
  obtain ⟨z, _, _⟩ := hok f _ e
  exact z
theorem lamO_ok {P : Program} {w : World} {H : Hp} {h : Heap} {f : Addr} {F : LF} (e : ∃ (pm ctv : Value), h.get? f = some (PySem.W.kla_obj "<lambda>" F.qual F.params F.body F.scope F.cl pm F.c ctv)) : ObjOk P w H h f (LamO f F) := by
  refine ⟨e, ?_, fun h1 h2 ⟨pm, ctv, z⟩ k => ⟨pm, ctv, k _ z⟩⟩
  obtain ⟨pm, ctv, z⟩ := e
  exact ⟨_, z⟩
theorem lamHO {f : Addr} {F : LF} : FnHO f (LamO f F) := fun P w H h hok e => by
  obtain ⟨pm, ctv, z⟩ := lamO_at hok e
  exact ⟨_, _, _, _, z⟩
section
variable {X : Cx} {pins : List (Addr × Obj)} {σ : L2.St} {H : Hp} {s : Shared}
/-- the lambda is made and told where it stands; its code object is new, or found in the table -/
theorem lam_told {T : List (Addr × Str)} {c P : Addr} {params : Arguments} {body : Expr} {scope : Scope} {pos : Pos} {E : Value → Shared → Prop} {Q : Value → Shared → Prop} (I : Inv X pins σ H s) (TB : TabB X.base X.mg c P) (hcode : X.env.code = .ref c)
    (hm : (P, X.env.qual ++ "<lambda>") ∈ T) (hu : ∀ p ∈ T, p.1 = P → p.2 = X.env.qual ++ "<lambda>") (hT : Tabs T H) (hdef : defaultsOf params X.env = ([], [])) (hfree : ∀ y ∈ scope.names, y.2 = .free → ∃ c, X.env.cells.lookup y.1 = some c)
    (h : ∀ (f c' : Addr) (H1 : Hp) (s' : Shared), Inv X pins σ (upd H1 f (LamO f ⟨X.env.qual ++ "<lambda>", params, body, scope, cloFrom X.env.cells scope.names [], c'⟩)) s' → (∀ b o, H b = some o → b ≠ P → H1 b = some o) → (∀ b, H1 b = none → H b = none) → Tabs T H1 → H1 f = none → H1 c' = some (CodeO c' (X.env.qual ++ "<lambda>")) → Q (.ref f) s') :
    wpAny (model X.prog X.w) X.A (eval (.Lambda params body scope pos) X.env) Q E s := by
  obtain ⟨ps, tP, tO, tA⟩ := hT _ hm
  have bP := TB.bm.keeps (h' := s.heap) I.bk
  have gP : s.heap.get? P = some { cls := .none, data := .fields ps } := I.hok P _ tP
  refine PySem.W.kla_eval hdef ?_
  cases cd : codeAmong pos ps.toList with
  | none =>
    refine PySem.W.kla_makeFunction (mg := X.mg) (c := c) (P := P) (ps := ps) (closure_ok hfree) I.ok.glob (I.mod.glob.keeps I.bk) hcode (TB.code.keeps I.bk) gP tO cd TB.gP bP fun c' ctv h' tk hx hge hlt hrec htb => ?_
    obtain ⟨c2, oc, vs, t, e2, hoc, hd, hv⟩ := hrec
    cases e2
    have nC : H c' = none := I.hok.fresh hge
    have I0 := inv_table (q := X.env.qual ++ "<lambda>") (t' := tk) (more := #[rawInt pos.line, rawInt pos.col, .ref c']) (h' := h') I tP hx htb hge ⟨oc, vs, t, hoc, hd, hv⟩
    have I1 := I0.laid (a := h'.objs.size) (o := LamO h'.objs.size ⟨X.env.qual ++ "<lambda>", params, body, scope, cloFrom X.env.cells scope.names [], c'⟩) (h' := h'.push (PySem.W.kla_obj "<lambda>" (X.env.qual ++ "<lambda>") params body scope (cloFrom X.env.cells scope.names []) ((X.mg "__name__").getD .none) c' ctv)) (t' := tk)
      (fun b u z => Heap.get?_push_of_some _ z) (Nat.le_refl _) (lamO_ok ⟨_, _, Heap.get?_push_size _ rfl⟩)
    have stays : ∀ b o, H b = some o → b ≠ P → (upd (upd H P (.tbl (ps ++ #[rawInt pos.line, rawInt pos.col, .ref c']))) c' (CodeO c' (X.env.qual ++ "<lambda>"))) b = some o := fun b o e n => by
      rw [upd_ne (ne_of_none e nC), upd_ne n]
      exact e
    have neP : ∀ {b : Addr} {c2 : Addr} {q : Str}, H b = some (CodeO c2 q) → b ≠ P := fun e z => by
      rw [z, tP] at e
      exact codeO_ne _ (Option.some.inj e).symm
    refine h _ c' _ _ I1 stays (fun b z => ?_) (fun p hp => ?_) (I0.hok.fresh (Nat.le_refl _)) upd_same
    · by_cases b1 : b = c'
      · rw [b1]
        exact nC
      · rw [upd_ne b1] at z
        by_cases b2 : b = P
        · rw [b2, upd_same] at z
          cases z
        · rw [upd_ne b2] at z
          exact z
    · obtain ⟨qs, a1, a2, a3⟩ := hT p hp
      by_cases hb : p.1 = P
      · have eL : (ps ++ #[rawInt pos.line, rawInt pos.col, .ref c']).toList = ps.toList ++ [rawInt pos.line, rawInt pos.col, .ref c'] := by simp
        refine ⟨_, by rw [hb, upd_ne (ne_of_none tP nC), upd_same], ?_, fun p' cv y => ?_⟩
        · rw [eL]
          exact PySem.TriplesOk_snoc _ _ _ _ tO
        · rw [eL] at y
          rw [hu p hp hb]
          rcases among_app _ tO y with z | z
          · obtain ⟨c0, k1, k2⟩ := tA p' cv z
            exact ⟨c0, k1, stays _ _ k2 (neP k2)⟩
          · exact ⟨c', z, upd_same⟩
      · refine ⟨qs, ?_, a2, fun p' cv y => ?_⟩
        · rw [upd_ne (ne_of_none a1 nC), upd_ne hb]
          exact a1
        · obtain ⟨c0, k1, k2⟩ := a3 p' cv y
          exact ⟨c0, k1, stays _ _ k2 (neP k2)⟩
  | some cv =>
    obtain ⟨c', e, hco⟩ := tA pos cv cd
    subst e
    refine PySem.W.kla_makeFunctionHit (mg := X.mg) (c := c) (P := P) (ps := ps) (closure_ok hfree) I.ok.glob (I.mod.glob.keeps I.bk) hcode (TB.code.keeps I.bk) gP tO cd bP fun ctv h' tk hx hsz => ?_
    have I0 : Inv X pins σ H { s with heap := h', toks := tk } := I.kept hx
    have I1 := I0.laid (a := h'.objs.size) (o := LamO h'.objs.size ⟨X.env.qual ++ "<lambda>", params, body, scope, cloFrom X.env.cells scope.names [], c'⟩) (h' := h'.push (PySem.W.kla_obj "<lambda>" (X.env.qual ++ "<lambda>") params body scope (cloFrom X.env.cells scope.names []) ((X.mg "__name__").getD .none) c' ctv)) (t' := tk)
      (fun b u z => Heap.get?_push_of_some _ z) (Nat.le_refl _) (lamO_ok ⟨_, _, Heap.get?_push_size _ rfl⟩)
    exact h _ c' H _ I1 (fun _ _ e _ => e) (fun _ z => z) hT (I0.hok.fresh (Nat.le_refl _)) hco
end
def tLamO (T : List (Addr × Str)) (P : Addr) (F : Addr → LF) : TE := fun σ H Q => Tabs T H ∧ ∀ (f c' : Addr) (H1 : Hp), (∀ b o, H b = some o → b ≠ P → H1 b = some o) → (∀ b, H1 b = none → H b = none) → Tabs T H1 → H1 f = none → H1 c' = some (CodeO c' (F c').qual) → Q (.ref f) (upd H1 f (LamO f (F c')))
theorem pe_lamO {X : Cx} {T : List (Addr × Str)} {c P : Addr} {params : Arguments} {body : Expr} {scope : Scope} {pos : Pos} (TB : TabB X.base X.mg c P) (hcode : X.env.code = .ref c) (hm : (P, X.env.qual ++ "<lambda>") ∈ T) (hu : ∀ p ∈ T, p.1 = P → p.2 = X.env.qual ++ "<lambda>")
    (hdef : defaultsOf params X.env = ([], [])) (hfree : ∀ y ∈ scope.names, y.2 = .free → X.env.scope.names.lookup y.1 = some .cell ∨ X.env.scope.names.lookup y.1 = some .free) :
    PE X (.Lambda params body scope pos) (tLamO T P fun c' => ⟨X.env.qual ++ "<lambda>", params, body, scope, cloFrom X.env.cells scope.names [], c'⟩) := by
  refine ⟨fun pins s σ H Q I h => ?_⟩
  obtain ⟨hT, q⟩ := h
  exact lam_told I TB hcode hm hu hT hdef (fun y hy e => (hfree y hy e).elim (fun z => I.ok.has _ (.inl z)) fun z => I.ok.has _ (.inr z)) fun f c' H1 s' I1 e1 n1 t1 nf hc => ⟨.ref f, _, I1, rfl, q f c' H1 e1 n1 t1 nf hc⟩
end Inf

set_option Elab.async false
set_option linter.all false
set_option maxRecDepth 100000
set_option maxHeartbeats 4000000
namespace Inf
open PySem PySem.Spec PyProof.Rows L2 NdefX LamX
/-- its words as those of a function: for the frame alone -/
def LF.nf (F : LF) : NF := ⟨"<lambda>", F.qual, F.params, [], F.scope, F.cl, F.c⟩
section
variable {P : Program} {w : World} {K : PySem.W.Frag} {mg : Str → Option Value} {base : Heap} {k : Nat} {f : Addr} {F : LF} {N ps : List Str} {sp : Sp}
/-- a lambda that captures nothing, called from anywhere -/
theorem lam_fnR (S : NScope N ps [] F.scope) (hcl : F.cl = []) (hb : ∀ (pm ctv : Value) (us : List Value), us.length = ps.length → bindArgs (PySem.W.kla_fn "<lambda>" F.qual F.params F.body F.scope F.cl pm (.ref F.c) ctv) ⟨us, []⟩ = pure (ps.zip us))
    (len : ∀ vs H Q E, sp vs H Q E → vs.length = ps.length)
    (hbody : ∀ (A : Around) (outer : List Env) (s : Shared) (H : Hp) (vs : List V) (Q : VK) (E : XK), Room k (A.deeper (envF F.nf f s.heap.objs.size)) → sp vs H Q E → ∃ te, PE (ncx CX0 P w K mg base N F.nf f A outer s H E) F.body te ∧ te (startF N vs []) H Q) :
    FnR P w K mg base CX0 (k + 1) f (fun vs H Q E => H f = some (LamO f F) ∧ H F.c = some (CodeO F.c F.qual) ∧ sp vs H Q E) := by
  intro A outer s H us vs Q E hr e0 r hsp
  obtain ⟨hf, hc, hsp⟩ := hsp
  have hl := len _ _ _ _ hsp
  have lim : s.heap.NoLimit := e0.mod.nolimit.keeps fun b o e => (e0.bs b o e).1
  obtain ⟨pm, ctv, ho⟩ := lamO_at e0.hok hf
  have C : CellsAt F.nf.cl [] [] s.heap H := by
    show CellsAt F.cl [] [] s.heap H
    rw [hcl]
    exact ⟨rfl, (fun y c e => nomatch e), (fun x y c e => nomatch e), (fun i y e => nomatch e)⟩
  refine PySem.W.kla_callFunE hr.depth ho rfl S.co S.gen rfl (codeO_at e0.hok hc) ?_
  rw [hb pm ctv us (by rw [← r.length]; exact hl)]
  refine wpAny_pure (wpAny_newFunctionEnv S.nocell (fun ⟨n, _⟩ hy => S.par n (List.of_mem_zip hy).1) (fun h₁ hns hsb => ⟨lim.fresh _ hsb, ?_⟩) S.kind)
  obtain ⟨te, ht, hq⟩ := hbody A outer s H vs Q E (hr.deeper _) hsp
  have kp : ∀ b o, s.heap.get? b = some o → h₁.get? b = some o := fun b o e => hsb.extBut b o (Nat.ne_of_lt (Heap.lt_size e)) (Heap.get?_push_of_some _ e)
  have I := inv_startN (CX := CX0) (P := P) (w := w) (K := K) (mg := mg) (base := base) (F := F.nf) (f := f) (A := A) (outer := outer) (E := E) (tk := s.toks + (ps.zip us).length) S hr.hd e0 hl r C hns kp
  refine PySem.W.kla_codeExpr (wpAny_mono (ht.run [] _ (startF N vs []) H Q I hq) (fun u s' hs => ?_) fun e s' hs => hs)
  obtain ⟨v, H', J, rv, q⟩ := hs
  exact ⟨v, H', J.os, J.bare, J.base, J.hok, rv, q⟩
end
end Inf

set_option Elab.async false
set_option linter.all false
set_option maxRecDepth 100000
set_option maxHeartbeats 4000000
namespace Inf
open PySem PySem.Spec PyProof.Rows L2 NdefX LamX
/-- a def that returns things that hold its names, by what K knows of it -/
theorem okC_of {P : Program} {w : World} {K : PySem.W.Frag} {mg : Str → Option Value} {base : Heap} {x qual : Str} {st : Stmt} {f : Addr} {N ps : List Str} {k : Nat} {sp : Sp} {oc : Value} {od : Option Addr} {kV doc pm cdv ct : Value} {an : Option Addr} {osl : Array (Option Value)}
    (lk : K.lookup f = some ⟨oc, od, .func (PySem.W.fnOf x qual (defArgs st) (defBody st) (defScope st) .none kV doc pm an cdv ct), osl⟩) (hcd : PySem.W.codeIn K cdv qual = true) (S : FnScope N ps (defScope st)) (len : ∀ vs H Q E, sp vs H Q E → vs.length = ps.length)
    (hbody : ∀ (A : Around) (outer : List Env) (s : Shared) (H : Hp) (vs : List V) (Q : VK) (E : XK), Room k (A.deeper (envOfC qual (defScope st) s.heap.objs.size f cdv)) → sp vs H Q E →
      ∃ t, PSsR (cxOf CX0 P w K mg base N qual (defScope st) f cdv A outer s H E).nox (defBody st) t ∧
        t (fun σ v H' => ∀ H'', Fin (envOfC qual (defScope st) s.heap.objs.size f cdv).cells (defScope st).names N σ H' H'' → Q v H'') (start N vs) H) :
    FnOk P w K mg base CX0 (k + 1) f (PySem.W.fnOf x qual (defArgs st) (defBody st) (defScope st) .none kV doc pm an cdv ct) ps sp := by
  refine ⟨len, fun A outer s H args us vs Q E hr e0 hb r hsp => ?_⟩
  have hl := len _ _ _ _ hsp
  have KX : K.In s.heap := e0.mod.kin.keeps fun b o e => (e0.bs b o e).1
  have lim : s.heap.NoLimit := e0.mod.nolimit.keeps fun b o e => (e0.bs b o e).1
  have hkind : ∀ y ∈ ps.zip us, (defScope st).names.lookup y.1 = some .local ∨ ((defScope st).names.lookup y.1 = some .cell ∧ ((cellsFrom (s.heap.objs.size + 1) (defScope st).names []).lookup y.1).isSome = true) := fun ⟨n, v⟩ hy => by
    rcases S.par n (List.of_mem_zip hy).1 with q | q
    · exact .inl q
    · exact .inr ⟨q, PySem.W.cellsFrom_some _ _ _ (.inl q)⟩
  refine codeAny_call_function hr.depth (KX _ _ lk) rfl S.co S.gen rfl (PySem.W.codeRec_of KX hcd) (hb _ _ _ _ ?_)
  refine wpAny_newFunctionEnv_cells S.kind hkind fun env he s1 xx => ?_
  subst he
  refine ⟨lim.keeps xx.toInCall.keep, codeAny_func ?_⟩
  obtain ⟨t, ht, hq⟩ := hbody A outer s H vs Q E (hr.deeper _) hsp
  have I : Inv (cxOf CX0 P w K mg base N qual (defScope st) f cdv A outer s H E) [] (start N vs) H s1 := inv_start S hr.hd e0 hl r xx
  refine wpAny_mono (ht.run [] s1 (start N vs) H _ (I.wish _) hq) (fun fl s' hs => ?_) fun e s' hs => False.elim hs
  obtain ⟨u, v, σ', H', rfl, J', rv, q⟩ := hs
  have J : Inv (cxOf CX0 P w K mg base N qual (defScope st) f cdv A outer s H E) [] σ' H' s' := J'.unwish
  obtain ⟨H'', hF, hU, hO⟩ := fin_make S.nd J
  exact ⟨v, H'', J.os, J.bare, hU, hO, rv, q H'' hF⟩
/-- a function that the def made, behind its return: its captured cells are told -/
theorem clo_fin {cells : List (Str × Addr)} {names nn : List (Str × NameKind)} {N fr : List Str} {σ : L2.St} {H H' : Hp} {f : Addr} {F : NF} {ws : List V} (X : Fin cells names N σ H H') (hc : ∀ y, names.lookup y = some .cell → (cells.lookup y).isSome = true) (hcl : F.cl = cloFrom cells nn []) (hcel : ∀ y ∈ nn, y.2 = .free → names.lookup y.1 = some .cell)
    (hfr : ∀ y ∈ fr, (y, NameKind.free) ∈ nn) (hrf : ∀ y ∈ nn, y.2 = .free → y.1 ∈ fr) (hf : H f = some (FnO f F)) (hco : H F.c = some (CodeO F.c F.qual)) (len : ws.length = fr.length) (at_ : ∀ (i : Nat) (y : Str), fr[i]? = some y → ∃ (j : Nat) (v : V), N[j]? = some y ∧ ws[i]? = some v ∧ σ[j]? = some (some v)) : Clo H' f F fr ws := by
  have hfree : ∀ y ∈ nn, y.2 = .free → ∃ c, cells.lookup y.1 = some c := fun y hy e => Option.isSome_iff_exists.mp (hc _ (hcel y hy e))
  refine ⟨X.same _ _ hf, X.same _ _ hco, len, fun y c e => ?_, fun x y c e1 e2 => ?_, fun i y e => ?_⟩
  · rw [hcl] at e
    have m := PySem.mem_of_lookup e
    rcases cloFrom_mem m with q | ⟨q, _⟩
    · cases q
    · exact hrf _ q rfl
  · rw [hcl] at e1 e2
    exact X.inj x y c (clo_cm hfree e1) (clo_cm hfree e2)
  · have hy : y ∈ fr := List.mem_of_getElem? e
    have hm := hfr y hy
    have hn := hcel _ hm rfl
    obtain ⟨c, hcc⟩ := Option.isSome_iff_exists.mp (hc y hn)
    obtain ⟨j, v, h1, h2, h3⟩ := at_ i y e
    refine ⟨c, v, ?_, h2, X.at_ j y c v h1 hn hcc h3⟩
    rw [hcl]
    exact clo_has hfree hm hcc
end Inf

set_option Elab.async false
set_option linter.all false
set_option maxRecDepth 100000
set_option maxHeartbeats 4000000
namespace Inf
open PySem PySem.Spec PyProof.Rows L2
section
variable {X : Cx}
/-- o.replace(str(e), "c"), a token out: what is struck is not c -/
def tStrike (to tt : TE) (c : Str) : TE := fun σ H Q => to σ H fun x H1 => ∃ a, x = V.str a ∧ tt σ H1 fun y H2 => ∃ i : Int, y = .int i ∧ i.natAbs.log2 < 1920 ∧ (Str.ofString (toString i) == c) = false ∧ a.length + (a.length + 1) * c.length ≤ 16777216 ∧ Q (.str (Txt.replace a (Str.ofString (toString i)) c)) H2
theorem pet_strike {o e : Expr} {to tt : TE} {c : Str} {ck : Nat} {apos np cp ccp pos : Pos} (ho : PE X o to) (he : PE X e tt) (hg : Gl X "str") (hm : X.mg "str" = none)
    (hbase : attributeBase o "replace" X.env (eval o X.env) = eval o X.env := by rfl)
    (hfew : ((backTo pos (starEach [.Call (.Name "str" np) [e] [] cp, .Constant (.str c) ck ccp] X.env)).all (fun x => !x.1) && (backToKw pos (keywordEach [] X.env)).all (fun x => x.1.isSome)
      && decide (([.Call (.Name "str" np) [e] [] cp, .Constant (.str c) ck ccp] : List Expr).length + ([] : List Keyword).length + (if ([] : List Keyword).isEmpty then 0 else 1) < 30)) = true := by rfl)
    (hline : (apos.endLine == pos.line) = true := by rfl) (hs : starEach [e] X.env = [(false, eval e X.env)] := by rfl) (hpl : (backTo cp (starEach [] X.env)).any (·.1) = false := by rfl) :
    PET X (.Call (.Attribute o "replace" apos) [.Call (.Name "str" np) [e] [] cp, .Constant (.str c) ck ccp] [] pos) (tStrike to tt c) := by
  intro pins s σ H Q h0 I h
  refine wpAny_Call_method_late hbase hfew hline rfl (wpAny_mono (PySem.wpAny_toks (ho.run pins s σ H _ I h)) (fun v s1 q => ?_) fun _ _ z => z.2)
  obtain ⟨hk1, x, H1, I1, r1, a, rfl, q⟩ := q
  obtain ⟨t, rfl⟩ := _root_.id r1
  refine ⟨"str", _, F.plainAttrs_str, F.slot_str_replace, F.type_str_replace, typeIs_str _ _ _, (fun _ e => nomatch e), ?_⟩
  refine Calls.callWith_builtin rfl (Calls.evalArgs_plain ?_)
  show wpAny _ _ (spliced ((false, eval (.Call (.Name "str" np) [e] [] cp) X.env) :: backTo pos (starEach [.Constant (.str c) ck ccp] X.env))) _ _ s1
  refine Calls.spliced_cons ?_
  refine wpAny_Call_Name_kw (ld_blt I1 hg hm (show bootBuiltins "str" = some (.type "str") by decide +kernel) ?_ (by decide) (by decide))
  refine PyProof.Rows.callWith_type1 (wpAny_mono (PySem.wpAny_toks ((pa_cons he pa_nil hs).run cp pins s1 σ H1 (fun vs H2 => match vs with
    | [y] => ∃ i : Int, y = V.int i ∧ i.natAbs.log2 < 1920 ∧ (Str.ofString (toString i) == c) = false ∧ a.length + (a.length + 1) * c.length ≤ 16777216 ∧ Q (.str (Txt.replace a (Str.ofString (toString i)) c)) H2
    | _ => False) I1 q)) (fun us s2 q2 => ?_) fun _ _ z => z.2) hs hpl
  obtain ⟨hk2, vs, H2, I2, r2, q2⟩ := q2
  match vs, r2, q2 with
  | [y], r2, ⟨i, ey, hz, hne, hb, q3⟩ =>
    subst ey
    obtain ⟨u, rfl, t2, rfl⟩ := vals1 r2
    have h2 : 1 ≤ s2.toks := Nat.le_trans h0 (Nat.le_trans hk1 hk2)
    refine PySem.P.str_of_int hz ?_
    refine Calls.spliced_cons (Calls.Constant_str (k := ck) (pos := ccp) (Calls.spliced_nil ?_))
    refine SC.replace (u := s2.toks) (v := s2.toks + 1) (Nat.ne_of_gt h2) (Nat.succ_ne_zero _) (Nat.ne_of_lt (Nat.lt_succ_self _)) hne hb fun t' k => ?_
    exact ⟨.str _, H2, I2.tok _, ⟨_, rfl⟩, q3⟩
/-- one token out: a return -/
theorem pst_ret {e : Expr} {te : TE} {pos : Pos} (he : PET X e te) : PST X (.Return (some e) pos) (tRet te) := fun pins s σ H D h0 I h =>
  wpAny_Return_some (thn (he pins s σ H _ h0 I h) fun v s1 ⟨x, H1, I1, r1, q1⟩ => ⟨x, σ, H1, I1, r1, q1⟩)
theorem psst_one {st : Stmt} {t : TS} (h1 : PST X st t) : PSsT X [st] t := by
  intro pins s σ H D h0 I h
  refine wpAny_execs_cons (thn (h1 pins s σ H D h0 I h) fun f s1 q => ?_)
  cases f with
  | next => exact wpAny_execs_nil q
  | ret v => exact q
  | brk => exact q
  | cont => exact q
/-- if x op 3: behind the test a token is out -/
theorem ps_ifC {a : Expr} {op : CmpOp} {r : R2} {ta : TE} {j : Int} {k : Nat} {cpos cp pos : Pos} {A B : List Stmt} {t u : TS} (ho : OpR X (compareOp op) r) (ha : PE X a ta) (hm : behindInMarks op (.Constant (.int j) k cpos) = false) (hA : PSsT X A t) (hB : PSs X B u) :
    PS X (.If (.Compare a [op] [.Constant (.int j) k cpos] cp) A B pos) (tIfS (tTest (tOp r ta (tC (.int j)))) t u) := by
  refine ⟨fun pins s σ H D I h => ?_⟩
  refine wpAny_If (wpAny_mono (Q := fun d s' => 1 ≤ s'.toks ∧ TP X pins σ (fun b H1 => if b = true then t D σ H1 else u D σ H1) d s') (E := X.xe) ?_ (fun d s1 q => ?_) fun _ _ z => z)
  · refine wpAny_isTrue_Compare1 (thn (ha.run pins s σ H _ I h) fun v s1 ⟨x, H1, I1, r1, q1⟩ => ?_) hm
    refine wpAny_Constant_int ?_
    refine wpAny_mono (PySem.wpAny_toks (ho pins _ σ H1 x (.int j) v (.int j s1.toks) _ (I1.tok _) r1 ⟨_, rfl⟩ q1)) (fun c s3 q3 => ?_) fun _ _ z => z.2
    obtain ⟨hk, z, H3, I3, r3, b, e, q3⟩ := q3
    subst e
    cases r3
    exact wpAny_truthy_bool ⟨Nat.le_trans (Nat.le_add_left 1 _) hk, H3, I3, q3⟩
  · obtain ⟨hk, H1, I1, q1⟩ := q
    cases d with
    | true => exact hA pins s1 σ H1 D hk I1 q1
    | false => exact hB.run pins s1 σ H1 D I1 q1
end
end Inf

set_option Elab.async false
set_option linter.all false
set_option maxRecDepth 100000
set_option maxHeartbeats 4000000
namespace Inf
open PySem PySem.Spec PyProof.Rows L2
section
variable {X : Cx} {CX : CXT} {k n : Nat} {f C : Addr} {fd : FuncData} {ps ks : List Str} {sp : Sp} {E : XK} {m : Str} {pos apos : Pos} {e o : Expr} {es : List Expr} {kws : List Keyword} {ta : TE} {t tk : TA} {g : List Value → List Value → List Value} {gV : List V → List V → List V}
/-- a method called with keywords: n values are written, then j keywords -/
def tMethN (C : Addr) (m : Str) (n j : Nat) (sp : Sp) (gV : List V → List V → List V) (E : XK) (ta : TE) (t tk : TA) : TE := fun σ H Q => ta σ H fun x H1 => ∃ a dx fs, x = V.ref a ∧ H1 a = some (.ins C dx fs) ∧ fs.lookup m = none ∧ t σ H1 fun vs H2 => tk σ H2 fun zs H3 => vs.length = n ∧ zs.length = j ∧ sp (gV (.ref a :: vs) zs) H3 Q E
theorem pe_methK0 {pl : Sem Bool} (he : PE X o ta) (c : Cls X.K C) (hm : Meth X.K C m f) (F : FnOk X.prog X.w X.K X.mg X.base CX k f fd ps sp) (hr : Room k X.A) (hb : KBn X.K fd ps 1 ks g gV) (hx : Passes CX X E) (hkw : PK X kws tk)
    (hall : (backToKw pos (keywordEach kws X.env)).all (·.1.isSome) = true := by rfl) (hks : (backToKw pos (keywordEach kws X.env)).filterMap (·.1) = ks := by rfl)
    (hpl : ((backTo pos (starEach [] X.env)).any (·.1) || (backToKw pos (keywordEach kws X.env)).any (·.1.isNone)) = false := by rfl)
    (ht : eval (.Call (.Attribute o m apos) [] kws pos) X.env = (do
      let ov ← eval o X.env
      standAt apos.atName
      let (f, first) ← holding [ov] (getMethod ov m pl)
      callWith pos f first (backTo pos (starEach [] X.env)) (backToKw pos (keywordEach kws X.env))) := by rfl) :
    PE X (.Call (.Attribute o m apos) [] kws pos) (tMethN C m 0 ks.length sp gV E ta tNil tk) := by
  refine ⟨fun pins s σ H Q I h => ?_⟩
  refine PySem.W.methodCall_KW (pl := pl) (thn (he.run pins s σ H _ I h) fun u s1 ⟨x, H1, I1, rx, a, dx, fs, ex, ea, l, q⟩ => ?_) ht
  subst ex
  obtain rfl : u = Value.ref a := rx
  refine getmeth_ok I1 ea c hm l ?_
  refine PySem.W.callWith_KW0 (first := [.ref a]) (h₀ := X.base) I.ok.mod.kin hm.kp hall (thn (hkw.run pos pins s1 σ H1 _ I1 q) fun ws s2 ⟨zs, H2, I2, rz, l1, l2, q2⟩ => ⟨I2.kIn, ?_⟩) hpl
  rw [hks]
  exact run_fnN (us := [.ref a]) (vs := [.ref a]) F hr hb hx I2 (.cons rfl .nil) rz rfl l2 q2
theorem pe_methK {pl : Sem Bool} (he : PE X o ta) (c : Cls X.K C) (hm : Meth X.K C m f) (F : FnOk X.prog X.w X.K X.mg X.base CX k f fd ps sp) (hr : Room k X.A) (hb : KBn X.K fd ps (n + 1) ks g gV) (hx : Passes CX X E) (ha : PA X (e :: es) t) (hkw : PK X kws tk)
    (hall : (backToKw pos (keywordEach kws X.env)).all (·.1.isSome) = true := by rfl) (hks : (backToKw pos (keywordEach kws X.env)).filterMap (·.1) = ks := by rfl)
    (hst : starEach (e :: es) X.env = (false, eval e X.env) :: starEach es X.env := by rfl)
    (hpl : ((backTo pos (starEach (e :: es) X.env)).any (·.1) || (backToKw pos (keywordEach kws X.env)).any (·.1.isNone)) = false := by rfl)
    (ht : eval (.Call (.Attribute o m apos) (e :: es) kws pos) X.env = (do
      let ov ← eval o X.env
      standAt apos.atName
      let (f, first) ← holding [ov] (getMethod ov m pl)
      callWith pos f first (backTo pos (starEach (e :: es) X.env)) (backToKw pos (keywordEach kws X.env))) := by rfl) :
    PE X (.Call (.Attribute o m apos) (e :: es) kws pos) (tMethN C m n ks.length sp gV E ta t tk) := by
  refine ⟨fun pins s σ H Q I h => ?_⟩
  refine PySem.W.methodCall_KW (pl := pl) (thn (he.run pins s σ H _ I h) fun u s1 ⟨x, H1, I1, rx, a, dx, fs, ex, ea, l, q⟩ => ?_) ht
  subst ex
  obtain rfl : u = Value.ref a := rx
  refine getmeth_ok I1 ea c hm l ?_
  refine PySem.W.callWith_KW (first := [.ref a]) (h₀ := X.base) I.ok.mod.kin hm.kp hall (thn (ha.run pos pins s1 σ H1 _ I1 q) fun us s2 ⟨vs, H2, I2, r, q2⟩ => ?_) hpl hst
  refine thn (hkw.run pos pins s2 σ H2 _ I2 q2) fun ws s3 ⟨zs, H3, I3, rz, l1, l2, q3⟩ => ⟨I3.kIn, ?_⟩
  rw [hks]
  exact run_fnN (us := .ref a :: us) (vs := .ref a :: vs) F hr hb hx I3 (.cons rfl r) rz (congrArg Nat.succ l1) l2 q3
end
end Inf

set_option Elab.async false
set_option linter.all false
set_option maxRecDepth 100000
set_option maxHeartbeats 4000000
namespace Inf
open PySem PySem.Spec PyProof.Rows L2 NdefX LamX
section
variable {X : Cx} {pins : List (Addr × Obj)} {σ : L2.St} {H : Hp} {s : Shared}
/-- a lambda in a def that makes functions by name, too: the table knows the names by their places -/
theorem lam_toldN {T : List NTab} {nm : Nat → Nat → Str} {c P : Addr} {params : Arguments} {body : Expr} {scope : Scope} {pos : Pos} {E : Value → Shared → Prop} {Q : Value → Shared → Prop} (I : Inv X pins σ H s) (TB : TabB X.base X.mg c P) (hcode : X.env.code = .ref c)
    (hm : (P, nm) ∈ T) (hn : nm pos.line pos.col = X.env.qual ++ "<lambda>") (hu : ∀ p ∈ T, p.1 = P → p.2 = nm) (hT : TabsN T H) (hdef : defaultsOf params X.env = ([], [])) (hfree : ∀ y ∈ scope.names, y.2 = .free → ∃ c, X.env.cells.lookup y.1 = some c)
    (h : ∀ (f c' : Addr) (H1 : Hp) (s' : Shared), Inv X pins σ H1 s' → ExtN H H1 → (∀ b, H1 b = Option.none → H b = Option.none) → TabsN T H1 → H f = none → H1 f = some (LamO f ⟨X.env.qual ++ "<lambda>", params, body, scope, cloFrom X.env.cells scope.names [], c'⟩) → H1 c' = some (CodeO c' (X.env.qual ++ "<lambda>")) → Q (.ref f) s') :
    wpAny (model X.prog X.w) X.A (eval (.Lambda params body scope pos) X.env) Q E s := by
  obtain ⟨ps, hP, ht, ha⟩ := (show TabN H P nm from hT _ hm)
  have bP := TB.bm.keeps (h' := s.heap) I.bk
  have gP : s.heap.get? P = some { cls := .none, data := .fields ps } := I.hok P _ hP
  refine PySem.W.kla_eval hdef ?_
  cases cd : codeAmong pos ps.toList with
  | none =>
    refine PySem.W.kla_makeFunction (mg := X.mg) (c := c) (P := P) (ps := ps) (closure_ok hfree) I.ok.glob (I.mod.glob.keeps I.bk) hcode (TB.code.keeps I.bk) gP ht cd TB.gP bP fun c' ctv h' tk hx hge hlt hrec htb => ?_
    obtain ⟨c2, oc, vs, t, e2, hoc, hd, hv⟩ := hrec
    cases e2
    have nC : H c' = none := I.hok.fresh hge
    have I1 := inv_table (q := X.env.qual ++ "<lambda>") (t' := tk) (more := #[rawInt pos.line, rawInt pos.col, .ref c']) (h' := h') I hP hx htb hge ⟨oc, vs, t, hoc, hd, hv⟩
    have hE : ExtN H (upd (upd H P (.tbl (ps ++ #[rawInt pos.line, rawInt pos.col, .ref c']))) c' (CodeO c' (X.env.qual ++ "<lambda>"))) := fun b o e n => by
      rw [upd_ne (ne_of_none e nC), upd_ne (fun z => n ps (Option.some.inj (e.symm.trans (by rw [z]; exact hP))))]
      exact e
    have eL : (ps ++ #[rawInt pos.line, rawInt pos.col, .ref c']).toList = ps.toList ++ [rawInt pos.line, rawInt pos.col, .ref c'] := by simp
    have T1 : TabsN T (upd (upd H P (.tbl (ps ++ #[rawInt pos.line, rawInt pos.col, .ref c']))) c' (CodeO c' (X.env.qual ++ "<lambda>"))) := fun p hp => by
      by_cases hb : p.1 = P
      · rw [hu p hp hb, hb]
        refine ⟨_, by rw [upd_ne (ne_of_none hP nC), upd_same], by rw [eL]; exact PySem.TriplesOk_snoc _ _ _ _ ht, fun p' cv hcv => ?_⟩
        rw [eL] at hcv
        rcases among_app2 _ ht hcv with z | ⟨z, z1, z2⟩
        · obtain ⟨c0, e1, e2⟩ := ha p' cv z
          exact ⟨c0, e1, hE _ _ e2 codeO_ne⟩
        · refine ⟨c', z, ?_⟩
          rw [← z1, ← z2, hn]
          exact upd_same
      · obtain ⟨ps', a1, a2, a3⟩ := hT p hp
        refine ⟨ps', by rw [upd_ne (ne_of_none a1 nC), upd_ne hb]; exact a1, a2, fun p' cv hcv => ?_⟩
        obtain ⟨c0, e1, e2⟩ := a3 p' cv hcv
        exact ⟨c0, e1, hE _ _ e2 codeO_ne⟩
    have nF := I1.hok.fresh (Nat.le_refl h'.objs.size)
    have I2 := I1.laid (a := h'.objs.size) (o := LamO h'.objs.size ⟨X.env.qual ++ "<lambda>", params, body, scope, cloFrom X.env.cells scope.names [], c'⟩) (h' := h'.push (PySem.W.kla_obj "<lambda>" (X.env.qual ++ "<lambda>") params body scope (cloFrom X.env.cells scope.names []) ((X.mg "__name__").getD .none) c' ctv)) (t' := tk)
      (fun b u z => Heap.get?_push_of_some _ z) (Nat.le_refl _) (lamO_ok ⟨_, _, Heap.get?_push_size _ rfl⟩)
    refine h h'.objs.size c' _ _ I2 (fun b o e n => ?_) (fun b e => NdefX.upd_none (NdefX.upd_none (NdefX.upd_none e))) (T1.ext fun b o e => ?_) (I.hok.fresh (Nat.le_trans hge (Nat.le_of_lt hlt))) upd_same ?_
    · have e1 := hE b o e n
      exact (upd_ne (ne_of_none e1 nF)).trans e1
    · exact (upd_ne (ne_of_none e nF)).trans e
    · exact (upd_ne (Nat.ne_of_lt hlt)).trans upd_same
  | some cv =>
    obtain ⟨c', e, hco⟩ := ha pos cv cd
    subst e
    rw [hn] at hco
    refine PySem.W.kla_makeFunctionHit (mg := X.mg) (c := c) (P := P) (ps := ps) (closure_ok hfree) I.ok.glob (I.mod.glob.keeps I.bk) hcode (TB.code.keeps I.bk) gP ht cd bP fun ctv h' tk hx hsz => ?_
    have I0 : Inv X pins σ H { s with heap := h', toks := tk } := I.kept hx
    have nF : H h'.objs.size = none := I0.hok.fresh (Nat.le_refl _)
    have I2 := I0.laid (a := h'.objs.size) (o := LamO h'.objs.size ⟨X.env.qual ++ "<lambda>", params, body, scope, cloFrom X.env.cells scope.names [], c'⟩) (h' := h'.push (PySem.W.kla_obj "<lambda>" (X.env.qual ++ "<lambda>") params body scope (cloFrom X.env.cells scope.names []) ((X.mg "__name__").getD .none) c' ctv)) (t' := tk)
      (fun b u z => Heap.get?_push_of_some _ z) (Nat.le_refl _) (lamO_ok ⟨_, _, Heap.get?_push_size _ rfl⟩)
    refine h h'.objs.size c' _ _ I2 (fun b o e n => ?_) (fun b e => NdefX.upd_none e) (hT.ext fun b o e => ?_) nF upd_same ?_
    · exact (upd_ne (ne_of_none e nF)).trans e
    · exact (upd_ne (ne_of_none e nF)).trans e
    · exact (upd_ne (ne_of_none hco nF)).trans hco
end
def tLamN (T : List NTab) (F : Addr → LF) : TE := fun σ H Q => TabsN T H ∧ ∀ (f c' : Addr) (H1 : Hp), ExtN H H1 → (∀ b, H1 b = Option.none → H b = Option.none) → TabsN T H1 → H f = none → H1 f = some (LamO f (F c')) → H1 c' = some (CodeO c' (F c').qual) → Q (.ref f) H1
theorem pe_lamN {X : Cx} {T : List NTab} {nm : Nat → Nat → Str} {c P : Addr} {params : Arguments} {body : Expr} {scope : Scope} {pos : Pos} (TB : TabB X.base X.mg c P) (hcode : X.env.code = .ref c) (hm : (P, nm) ∈ T) (hn : nm pos.line pos.col = X.env.qual ++ "<lambda>") (hu : ∀ p ∈ T, p.1 = P → p.2 = nm)
    (hdef : defaultsOf params X.env = ([], [])) (hfree : ∀ y ∈ scope.names, y.2 = .free → X.env.scope.names.lookup y.1 = some .cell ∨ X.env.scope.names.lookup y.1 = some .free) :
    PE X (.Lambda params body scope pos) (tLamN T fun c' => ⟨X.env.qual ++ "<lambda>", params, body, scope, cloFrom X.env.cells scope.names [], c'⟩) := by
  refine ⟨fun pins s σ H Q I h => ?_⟩
  obtain ⟨hT, q⟩ := h
  exact lam_toldN I TB hcode hm hn hu hT hdef (fun y hy e => (hfree y hy e).elim (fun z => I.ok.has _ (.inl z)) fun z => I.ok.has _ (.inr z)) fun f c' H1 s' I1 e1 n1 t1 nf hf hc => ⟨.ref f, H1, I1, rfl, q f c' H1 e1 n1 t1 nf hf hc⟩
end Inf

set_option Elab.async false
set_option linter.all false
set_option maxRecDepth 100000
set_option maxHeartbeats 4000000
namespace Inf
open PySem PySem.Spec PyProof.Rows L2 ClX
section
variable {M : Model} {A : Around} {E : Value → Shared → Prop} {s : Shared} {K : PySem.W.Frag} {env : Env} {pos : Pos} {first : List Value} {Q : Value → Shared → Prop} {kws : List Keyword} {q g : Addr} {self : Value}
/-- a bound method, called by names alone -/
theorem callWith_MK0 (hf : PySem.W.fnIn K g = true) (hall : (backToKw pos (keywordEach kws env)).all (·.1.isSome) = true)
    (h : wpAny M A (evalAll ((backToKw pos (keywordEach kws env)).map (·.2))) (fun ks s₂ => PySem.W.MethP K q g self s₂.heap ∧ wpAny M A (call (.ref q) (first ++ []) (((backToKw pos (keywordEach kws env)).filterMap (·.1)).zip ks)) Q E s₂) E s)
    (hplain : ((backTo pos (starEach [] env)).any (·.1) || (backToKw pos (keywordEach kws env)).any (·.1.isNone)) = false := by rfl) :
    wpAny M A (callWith pos (.ref q) first (backTo pos (starEach [] env)) (backToKw pos (keywordEach kws env))) Q E s :=
  PySem.W.callWith_of hplain (PySem.W.keeps_M hf) (evalArgs_kw2_nil hall h)
theorem callWith_MK {e : Expr} {rest : List Expr} (hf : PySem.W.fnIn K g = true) (hall : (backToKw pos (keywordEach kws env)).all (·.1.isSome) = true)
    (h : wpAny M A (spliced (backTo pos (starEach (e :: rest) env))) (fun vs s₁ => wpAny M A (evalAll ((backToKw pos (keywordEach kws env)).map (·.2)))
      (fun ks s₂ => PySem.W.MethP K q g self s₂.heap ∧ wpAny M A (call (.ref q) (first ++ vs) (((backToKw pos (keywordEach kws env)).filterMap (·.1)).zip ks)) Q E s₂) E s₁) E s)
    (hplain : ((backTo pos (starEach (e :: rest) env)).any (·.1) || (backToKw pos (keywordEach kws env)).any (·.1.isNone)) = false := by rfl) (he : starEach (e :: rest) env = (false, eval e env) :: starEach rest env := by rfl) :
    wpAny M A (callWith pos (.ref q) first (backTo pos (starEach (e :: rest) env)) (backToKw pos (keywordEach kws env))) Q E s :=
  PySem.W.callWith_of hplain (PySem.W.keeps_M hf) (evalArgs_kw2 hall h he)
end
section
variable {X : Cx} {CX : CXT} {k n : Nat} {f C p : Addr} {mc : Value} {fd : FuncData} {ps ks : List Str} {sp : Sp} {E : XK} {m x : Str} {pos apos : Pos} {e o : Expr} {es : List Expr} {kws : List Keyword} {ta : TE} {t tk : TA} {g : List Value → List Value → List Value} {gV : List V → List V → List V}
/-- the call of a bound classmethod by values and names -/
theorem run_cmN {pins : List (Addr × Obj)} {σ : L2.St} {H : Hp} {s : Shared} {Q : VK} {q : Addr} {us ws : List Value} {vs zs : List V} (F : FnOk X.prog X.w X.K X.mg X.base CX k f fd ps sp) (hr : Room k X.A) (hb : KBn X.K fd ps (n + 1) ks g gV) (hx : Passes CX X E)
    (I : Inv X ((q, PySem.W.methodObj (.ref f) (.ref C)) :: pins) σ H s) (r : Vals vs us) (rz : Vals zs ws) (l1 : vs.length = n) (l2 : zs.length = ks.length) (h : sp (gV (.ref C :: vs) zs) H Q E) :
    wpAny (model X.prog X.w) X.A (call (.ref q) us (ks.zip ws)) (EP X pins σ Q) X.xe s := by
  have r1 : Vals (V.ref C :: vs) (Value.ref C :: us) := .cons rfl r
  have r2 := hb.rel r1 rz
  have n1 : (Value.ref C :: us).length = n + 1 := by
    rw [List.length_cons, ← r.length, l1]
  have z : wpAny (model X.prog X.w) X.A (call (.ref q) us (ks.zip ws)) (EP X ((q, PySem.W.methodObj (.ref f) (.ref C)) :: pins) σ Q) X.xe s := by
    refine wpAny_call (PySem.W.method_call (pin_at I) (codeAny_mono (F.run X.A X.stack s H ⟨Value.ref C :: us, ks.zip ws⟩ (g (Value.ref C :: us) ws) _ Q E hr I.env0 (hb.to s _ ws I.kIn n1 (rz.length.symm.trans l2)) r2 h) fun r s' hq => ?_))
    cases r with
    | error e => exact hx _ σ H s e s' I hq
    | ok fl =>
      cases fl with
      | ret u => exact I.after hq
      | next => exact False.elim hq
      | brk => exact False.elim hq
      | cont => exact False.elim hq
  exact thn z fun _ _ y => unpinE y
/-- C.m(k = v, ..), m a classmethod: n values are written, then j names -/
def tCMethN (C : Addr) (n j : Nat) (sp : Sp) (gV : List V → List V → List V) (E : XK) (ta : TE) (t tk : TA) : TE := fun σ H Q => ta σ H fun x H1 => x = .ref C ∧ t σ H1 fun vs H2 => tk σ H2 fun zs H3 => vs.length = n ∧ zs.length = j ∧ sp (gV (.ref C :: vs) zs) H3 Q E
theorem pe_cmethK0 {pl : Sem Bool} (he : PE X o ta) (r : CRead X.K C mc) (c : CMet X.K C mc m p f) (F : FnOk X.prog X.w X.K X.mg X.base CX k f fd ps sp) (hr : Room k X.A) (hb : KBn X.K fd ps 1 ks g gV) (hx : Passes CX X E) (hkw : PK X kws tk)
    (hall : (backToKw pos (keywordEach kws X.env)).all (·.1.isSome) = true := by rfl) (hks : (backToKw pos (keywordEach kws X.env)).filterMap (·.1) = ks := by rfl)
    (hpl : ((backTo pos (starEach [] X.env)).any (·.1) || (backToKw pos (keywordEach kws X.env)).any (·.1.isNone)) = false := by rfl)
    (ht : eval (.Call (.Attribute o m apos) [] kws pos) X.env = (do
      let ov ← eval o X.env
      standAt apos.atName
      let (f, first) ← holding [ov] (getMethod ov m pl)
      callWith pos f first (backTo pos (starEach [] X.env)) (backToKw pos (keywordEach kws X.env))) := by rfl) :
    PE X (.Call (.Attribute o m apos) [] kws pos) (tCMethN C 0 ks.length sp gV E ta tNil tk) := by
  refine ⟨fun pins s σ H Q I h => ?_⟩
  refine PySem.W.methodCall_KW (pl := pl) (thn (he.run pins s σ H _ I h) fun u s1 ⟨x, H1, I1, rx, ex, q⟩ => ?_) ht
  subst ex
  obtain rfl : u = Value.ref C := rx
  refine getmethcm_ok I1 r c fun s2 I2 => ?_
  refine callWith_MK0 (first := []) c.fi hall (thn (hkw.run pos _ s2 σ H1 _ I2 q) fun ws s3 ⟨zs, H2, I3, rz, l1, l2, q2⟩ => ⟨⟨pin_at I3, I3.kIn⟩, ?_⟩) hpl
  rw [hks]
  exact run_cmN (us := []) (vs := []) F hr hb hx I3 .nil rz rfl l2 q2
theorem pe_cmethK {pl : Sem Bool} (he : PE X o ta) (r : CRead X.K C mc) (c : CMet X.K C mc m p f) (F : FnOk X.prog X.w X.K X.mg X.base CX k f fd ps sp) (hr : Room k X.A) (hb : KBn X.K fd ps (n + 1) ks g gV) (hx : Passes CX X E) (ha : PA X (e :: es) t) (hkw : PK X kws tk)
    (hall : (backToKw pos (keywordEach kws X.env)).all (·.1.isSome) = true := by rfl) (hks : (backToKw pos (keywordEach kws X.env)).filterMap (·.1) = ks := by rfl)
    (hst : starEach (e :: es) X.env = (false, eval e X.env) :: starEach es X.env := by rfl)
    (hpl : ((backTo pos (starEach (e :: es) X.env)).any (·.1) || (backToKw pos (keywordEach kws X.env)).any (·.1.isNone)) = false := by rfl)
    (ht : eval (.Call (.Attribute o m apos) (e :: es) kws pos) X.env = (do
      let ov ← eval o X.env
      standAt apos.atName
      let (f, first) ← holding [ov] (getMethod ov m pl)
      callWith pos f first (backTo pos (starEach (e :: es) X.env)) (backToKw pos (keywordEach kws X.env))) := by rfl) :
    PE X (.Call (.Attribute o m apos) (e :: es) kws pos) (tCMethN C n ks.length sp gV E ta t tk) := by
  refine ⟨fun pins s σ H Q I h => ?_⟩
  refine PySem.W.methodCall_KW (pl := pl) (thn (he.run pins s σ H _ I h) fun u s1 ⟨x, H1, I1, rx, ex, q⟩ => ?_) ht
  subst ex
  obtain rfl : u = Value.ref C := rx
  refine getmethcm_ok I1 r c fun s2 I2 => ?_
  refine callWith_MK (self := .ref C) (first := []) c.fi hall (thn (ha.run pos _ s2 σ H1 _ I2 q) fun us s3 ⟨vs, H2, I3, rv, q2⟩ => ?_) hpl hst
  refine thn (hkw.run pos _ s3 σ H2 _ I3 q2) fun ws s4 ⟨zs, H3, I4, rz, l1, l2, q3⟩ => ⟨⟨pin_at I4, I4.kIn⟩, ?_⟩
  rw [hks]
  exact run_cmN F hr hb hx I4 rv rz l1 l2 q3
/-- c(e, .., k = v, ..), c a local name that holds the class at C -/
def tMakeL (C : Addr) (n j : Nat) (sp : Sp) (gV : List V → List V → List V) (E : XK) (ta : TE) (t tk : TA) : TE := fun σ H Q => ta σ H fun x H0 => x = .ref C ∧ tMakeK C n j sp gV E t tk σ H0 Q
theorem pe_makeL (hc : PE X (.Name x pos) ta) (M : Mk X.K C f) (F : FnOk X.prog X.w X.K X.mg X.base CX k f fd ps sp) (hr : Room (k + 1) X.A) (hb : KBn X.K fd ps (n + 1) ks g gV) (hx : Passes CX X E) (ha : PA X (e :: es) t) (hkw : PK X kws tk)
    (hall : (backToKw apos (keywordEach kws X.env)).all (·.1.isSome) = true := by rfl) (hks : (backToKw apos (keywordEach kws X.env)).filterMap (·.1) = ks := by rfl)
    (he : starEach (e :: es) X.env = (false, eval e X.env) :: starEach es X.env := by rfl) (hpl : ((backTo apos (starEach (e :: es) X.env)).any (·.1) || (backToKw apos (keywordEach kws X.env)).any (·.1.isNone)) = false := by rfl) :
    PE X (.Call (.Name x pos) (e :: es) kws apos) (tMakeL C n ks.length sp gV E ta t tk) := by
  refine ⟨fun pins s σ H Q I h => ?_⟩
  refine wpAny_Call_Name_kw (thn (hc.run pins s σ H _ I h) fun u s0 ⟨y, H0, I0, ry, ey, h0⟩ => ?_)
  subst ey
  obtain rfl : u = Value.ref C := ry
  refine PySem.W.callWith_KW (h₀ := X.base) I0.ok.mod.kin M.kp hall (thn (ha.run apos pins s0 σ H0 _ I0 h0) fun us s1 ⟨vs, H1, I1, r, q⟩ => ?_) hpl he
  refine thn (hkw.run apos pins s1 σ H1 _ I1 q) fun ws s2 ⟨zs, H2, I2, rz, l1, l2, q2⟩ => ⟨I2.kIn, ?_⟩
  rw [hks]
  exact run_makeK M F hr hb hx I2 r rz l1 l2 q2
end
end Inf

set_option Elab.async false
set_option linter.all false
set_option maxRecDepth 100000
set_option maxHeartbeats 4000000
namespace Inf
open PySem PySem.Spec PyProof.Rows L2 NdefX LamX
/-! ### a lambda that captures cells -/
/-- a cell at c that holds v -/
def CellAt (H : Hp) (c : Addr) (v : V) : Prop := ∃ φ, H c = some (.ext φ) ∧ ∀ h : Heap, φ h → ∃ u, L2.RelV v u ∧ h.IsCell c (some u)
theorem CellAt.of {H : Hp} {c : Addr} {v : V} (h : H c = some (CellO c v)) : CellAt H c v := ⟨_, h, fun _ z => z⟩
theorem CellAt.at_ {P : Program} {w : World} {H : Hp} {h : Heap} {c : Addr} {v : V} (hok : HOk P w H h) (e : CellAt H c v) : ∃ u, L2.RelV v u ∧ h.IsCell c (some u) := by
  obtain ⟨φ, e1, e2⟩ := e
  obtain ⟨z, _, _⟩ := hok c _ e1
  exact e2 _ z
theorem CellAt.same {H H1 : Hp} {c : Addr} {v : V} (h : CellAt H c v) (s : Same H H1) : CellAt H1 c v := by
  obtain ⟨φ, e1, e2⟩ := h
  exact ⟨φ, s _ _ e1, e2⟩
/-- the lambda F stands at f, and its captured cells hold ws -/
structure LClo (H : Hp) (f : Addr) (F : LF) (fr : List Str) (ws : List V) : Prop where
  fn : H f = some (LamO f F)
  code : H F.c = some (CodeO F.c F.qual)
  len : ws.length = fr.length
  dom : ∀ y c, F.cl.lookup y = some c → y ∈ fr
  inj : ∀ x y c, F.cl.lookup x = some c → F.cl.lookup y = some c → x = y
  at_ : ∀ (i : Nat) (y : Str), fr[i]? = some y → ∃ c v, F.cl.lookup y = some c ∧ ws[i]? = some v ∧ CellAt H c v
theorem LClo.same {H H1 : Hp} {f : Addr} {F : LF} {fr : List Str} {ws : List V} (h : LClo H f F fr ws) (s : Same H H1) : LClo H1 f F fr ws :=
  ⟨s _ _ h.fn, s _ _ h.code, h.len, h.dom, h.inj, fun i y e => by
    obtain ⟨c, v, a, b, d⟩ := h.at_ i y e
    exact ⟨c, v, a, b, d.same s⟩⟩
theorem LClo.cell {H : Hp} {f : Addr} {F : LF} {fr : List Str} {ws : List V} (h : LClo H f F fr ws) {b : Addr} (hb : b ∈ cellsOf F.nf fr) : ∃ v, CellAt H b v := by
  obtain ⟨y, hy, e⟩ := mem_cells.mp hb
  obtain ⟨i, hi⟩ := List.mem_iff_getElem?.mp hy
  obtain ⟨c, v, a, _, d⟩ := h.at_ i y hi
  have e' : F.cl.lookup y = some b := e
  rw [e'] at a
  cases a
  exact ⟨v, d⟩
theorem LClo.out {H : Hp} {f : Addr} {F : LF} {fr : List Str} {ws : List V} (h : LClo H f F fr ws) {b : Addr} {o : HO} (e : H b = some o) (n : ∀ φ, o ≠ .ext φ) : b ∉ cellsOf F.nf fr := fun hb => by
  obtain ⟨v, φ, d, _⟩ := h.cell hb
  rw [e] at d
  exact n _ (Option.some.inj d)
section
variable {P : Program} {w : World} {K : PySem.W.Frag} {mg : Str → Option Value} {base : Heap} {k : Nat} {f : Addr} {F : LF} {N ps fr : List Str} {sp : List (Option V) → Sp}
theorem lam_run (S : NScope N ps fr F.scope) (hb : ∀ (pm ctv : Value) (us : List Value), us.length = ps.length → bindArgs (PySem.W.kla_fn "<lambda>" F.qual F.params F.body F.scope F.cl pm (.ref F.c) ctv) ⟨us, []⟩ = pure (ps.zip us))
    (len : ∀ ws vs H Q E, sp ws vs H Q E → vs.length = ps.length)
    (hbody : ∀ (A : Around) (outer : List Env) (s : Shared) (H : Hp) (vs : List V) (ws : List (Option V)) (Q : VK) (E : XK), Room k (A.deeper (envF F.nf f s.heap.objs.size)) → ws.length = fr.length → sp ws vs H Q E → ∃ te, PE (ncx CX0 P w K mg base N F.nf f A outer s H E) F.body te ∧ te (startF N vs ws) H Q)
    (A : Around) (outer : List Env) (s : Shared) (H : Hp) (us : List Value) (vs : List V) (ws : List (Option V)) (Q : VK) (E : XK) (hr : Room (k + 1) A) (e0 : Env0 P w K mg base A outer s H) (hf : H f = some (LamO f F)) (hc : H F.c = some (CodeO F.c F.qual)) (C : CellsAt F.cl fr ws s.heap H) (r : Vals vs us) (hsp : sp ws vs H Q E) :
    codeAny (model P w) A (.call (.ref f) ⟨us, []⟩) (CR CX0 outer P w H s Q E) s := by
  have hl := len _ _ _ _ _ hsp
  have lim : s.heap.NoLimit := e0.mod.nolimit.keeps fun b o e => (e0.bs b o e).1
  obtain ⟨pm, ctv, ho⟩ := lamO_at e0.hok hf
  refine PySem.W.kla_callFunE hr.depth ho rfl S.co S.gen rfl (codeO_at e0.hok hc) ?_
  rw [hb pm ctv us (by rw [← r.length]; exact hl)]
  refine wpAny_pure (wpAny_newFunctionEnv S.nocell (fun ⟨n, _⟩ hy => S.par n (List.of_mem_zip hy).1) (fun h₁ hns hsb => ⟨lim.fresh _ hsb, ?_⟩) S.kind)
  obtain ⟨te, ht, hq⟩ := hbody A outer s H vs ws Q E (hr.deeper _) C.len hsp
  have kp : ∀ b o, s.heap.get? b = some o → h₁.get? b = some o := fun b o e => hsb.extBut b o (Nat.ne_of_lt (Heap.lt_size e)) (Heap.get?_push_of_some _ e)
  have I := inv_startN (CX := CX0) (P := P) (w := w) (K := K) (mg := mg) (base := base) (F := F.nf) (f := f) (A := A) (outer := outer) (E := E) (tk := s.toks + (ps.zip us).length) S hr.hd e0 hl r C hns kp
  refine PySem.W.kla_codeExpr (wpAny_mono (ht.run [] _ (startF N vs ws) H Q I hq) (fun u s' hs => ?_) fun e s' hs => hs)
  obtain ⟨v, H', J, rv, q⟩ := hs
  exact ⟨v, H', J.os, J.bare, J.base, J.hok, rv, q⟩
/-- A LAMBDA THAT CAPTURES CELLS, called from anywhere: its cells are told; while it runs they are left out, behind it they are put back -/
theorem lam_cloR (S : NScope N ps fr F.scope) (hb : ∀ (pm ctv : Value) (us : List Value), us.length = ps.length → bindArgs (PySem.W.kla_fn "<lambda>" F.qual F.params F.body F.scope F.cl pm (.ref F.c) ctv) ⟨us, []⟩ = pure (ps.zip us))
    (len : ∀ ws vs H Q E, sp ws vs H Q E → vs.length = ps.length)
    (hbody : ∀ (A : Around) (outer : List Env) (s : Shared) (H : Hp) (vs : List V) (ws : List (Option V)) (Q : VK) (E : XK), Room k (A.deeper (envF F.nf f s.heap.objs.size)) → ws.length = fr.length → sp ws vs H Q E → ∃ te, PE (ncx CX0 P w K mg base N F.nf f A outer s H E) F.body te ∧ te (startF N vs ws) H Q) :
    FnR P w K mg base CX0 (k + 1) f (fun vs H Q E => ∃ ws, LClo H f F fr ws ∧ sp (ws.map some) vs (cut (cellsOf F.nf fr) H) (fun v H1 => (∀ b, b ∈ cellsOf F.nf fr → H1 b = Option.none) → Q v (mend (cellsOf F.nf fr) H H1)) E) := by
  intro A outer s H us vs Q E hr e0 r hsp
  obtain ⟨ws, hc, hsp⟩ := hsp
  have cellAt : ∀ b, b ∈ cellsOf F.nf fr → ∃ v, CellAt H b v := fun b hb => hc.cell hb
  have isC : ∀ b, b ∈ cellsOf F.nf fr → ∃ u, s.heap.IsCell b (some u) := fun b hb => by
    obtain ⟨v, e⟩ := cellAt b hb
    obtain ⟨u, _, z⟩ := e.at_ e0.hok
    exact ⟨u, z⟩
  have fnout : f ∉ cellsOf F.nf fr := fun hb => by
    obtain ⟨u, o, e1, e2⟩ := isC f hb
    obtain ⟨pm, ctv, e3⟩ := lamO_at e0.hok hc.fn
    rw [e1] at e3
    cases e3
    cases e2
  have cout : F.c ∉ cellsOf F.nf fr := fun hb => by
    obtain ⟨u, o, e1, e2⟩ := isC F.c hb
    obtain ⟨⟨oc, vs', t, h1, h2, h3⟩, _, _⟩ := e0.hok F.c _ hc.code
    rw [e1] at h1
    cases h1
    rw [e2] at h2
    cases h2
  have hokc : HOk P w (cut (cellsOf F.nf fr) H) s.heap := fun b o e => by
    by_cases hb : b ∈ cellsOf F.nf fr
    · rw [cut_in hb] at e
      cases e
    · rw [cut_out hb] at e
      refine (e0.hok b o e).stay (fun c u _ q => q) (fun c q => ?_) fun c xs q => ?_
      · rw [cut_out (hc.out q (fun φ z => nomatch z))]
        exact q
      · rw [cut_out (hc.out q (fun φ z => nomatch z))]
        exact q
  have noneC : ∀ b, H b = Option.none → cut (cellsOf F.nf fr) H b = Option.none := fun b e => by
    by_cases hb : b ∈ cellsOf F.nf fr
    · exact cut_in hb
    · rw [cut_out hb]
      exact e
  have e1 : Env0 P w K mg base A outer s (cut (cellsOf F.nf fr) H) := ⟨e0.frames, e0.mod, fun b o q => ⟨(e0.bs b o q).1, noneC b (e0.bs b o q).2⟩, e0.bsz, e0.funs, fun b hb => noneC b (e0.frf b hb), hokc, e0.bare⟩
  have C : CellsAt F.cl fr (ws.map some) s.heap (cut (cellsOf F.nf fr) H) := by
    refine ⟨by rw [List.length_map]; exact hc.len, fun y c e => ?_, hc.inj, fun i y e => ?_⟩
    · have hb : c ∈ cellsOf F.nf fr := mem_cells.mpr ⟨y, hc.dom y c e, e⟩
      obtain ⟨u, z⟩ := isC c hb
      exact ⟨cut_in hb, _, z⟩
    · obtain ⟨c, v, a, b, d⟩ := hc.at_ i y e
      refine ⟨c, a, fun v' e' => ?_⟩
      rw [List.getElem?_map, b] at e'
      cases e'
      obtain ⟨u, r', z⟩ := d.at_ e0.hok
      exact ⟨u, r', z⟩
  refine codeAny_mono (lam_run S hb len hbody A outer s (cut (cellsOf F.nf fr) H) us vs (ws.map some) _ E hr e1 (by rw [cut_out fnout]; exact hc.fn) (by rw [cut_out cout]; exact hc.code) C r hsp) fun res s' hq => ?_
  cases res with
  | error e => exact hq
  | ok fl =>
    cases fl with
    | next => exact hq
    | brk => exact hq
    | cont => exact hq
    | ret u =>
      obtain ⟨v, H1, os, bare, un, hok1, rv, q⟩ := hq
      have gone : ∀ b, b ∈ cellsOf F.nf fr → H1 b = Option.none := fun b hb => by
        obtain ⟨u, o, z1, z2⟩ := isC b hb
        exact un.free b o z1 (cut_in hb) (by simp)
      have notfr : ∀ b, b ∈ cellsOf F.nf fr → b ∉ frs outer := fun b hb z => by
        obtain ⟨v, φ, d, _⟩ := cellAt b hb
        rw [e0.frf b z] at d
        cases d
      refine ⟨v, mend (cellsOf F.nf fr) H H1, os, bare, ⟨fun b o a n h1 h2 => un.keep b o a (noneC b n) h1 h2, fun b o a n h1 h2 => un.slot b o a (noneC b n) h1 h2, fun b o a n h2 => ?_, un.there, fun b xs e => ?_, fun b o u e => ?_, fun b ps e => ?_⟩, fun b o e => ?_, rv, q gone⟩
      · by_cases hb : b ∈ cellsOf F.nf fr
        · rw [mend_in hb]
          exact n
        · rw [mend_out hb]
          exact un.free b o a (noneC b n) h2
      · have hb := hc.out e (fun φ z => nomatch z)
        rw [mend_out hb]
        exact un.tups b xs (by rw [cut_out hb]; exact e)
      · have hb := hc.out e (fun φ z => nomatch z)
        rw [mend_out hb]
        exact un.frzs b o u (by rw [cut_out hb]; exact e)
      · have hb := hc.out e (fun φ z => nomatch z)
        rw [mend_out hb]
        exact un.tbls b ps (by rw [cut_out hb]; exact e)
      · by_cases hb : b ∈ cellsOf F.nf fr
        · rw [mend_in hb] at e
          obtain ⟨v', φ, d, _⟩ := cellAt b hb
          rw [d] at e
          cases e
          obtain ⟨z, ⟨o', z1⟩, st⟩ := e0.hok b _ d
          have z2 := un.keep b o' z1 (cut_in hb) (notfr b hb) (by simp)
          refine ⟨st _ _ z (fun x hx => ?_), ⟨o', z2⟩, st⟩
          rw [z1] at hx
          cases hx
          exact z2
        · rw [mend_out hb] at e
          refine (hok1 b o e).stay (fun c u _ q => q) (fun c q => ?_) fun c xs q => ?_
          · have hb' : c ∉ cellsOf F.nf fr := fun z => by
              rw [gone c z] at q
              cases q
            rw [mend_out hb']
            exact q
          · have hb' : c ∉ cellsOf F.nf fr := fun z => by
              rw [gone c z] at q
              cases q
            rw [mend_out hb']
            exact q
end
/-! ### a call while the def's cells are told -/
/-- HT is H with the def's cells cs told -/
structure Tel (cells : List (Str × Addr)) (names : List (Str × NameKind)) (N : List Str) (σ : L2.St) (H : Hp) (cs : List Addr) (HT : Hp) : Prop where
  no : ∀ b, b ∈ cs → H b = Option.none
  ext : ∀ b, b ∈ cs → ∃ φ, HT b = some (.ext φ)
  out : ∀ b, b ∉ cs → HT b = H b
  inj : ∀ x y c, cells.lookup x = some c → cells.lookup y = some c → x = y
  has : ∀ y, names.lookup y = some .cell → ∃ c, cells.lookup y = some c
  at_ : ∀ (i : Nat) (y : Str) (c : Addr) (v : V), N[i]? = some y → names.lookup y = some .cell → cells.lookup y = some c → σ[i]? = some (some v) → CellAt HT c v
theorem Tel.same {cells : List (Str × Addr)} {names : List (Str × NameKind)} {N : List Str} {σ : L2.St} {H HT : Hp} {cs : List Addr} (t : Tel cells names N σ H cs HT) : Same H HT := fun b o e => by
  rw [t.out b fun z => by rw [t.no b z] at e; cases e]
  exact e
theorem Tel.cut_at {cells : List (Str × Addr)} {names : List (Str × NameKind)} {N : List Str} {σ : L2.St} {H HT H1 : Hp} {cs : List Addr} (t : Tel cells names N σ H cs HT) (g : ∀ b, b ∈ cs → H1 b = HT b) {b : Addr} {o : HO} (e : H1 b = some o) (n : ∀ φ, o ≠ .ext φ) : cut cs H1 b = some o := by
  rw [cut_out fun z => ?_]
  · exact e
  · obtain ⟨φ, f⟩ := t.ext b z
    rw [g b z, f] at e
    exact n _ (Option.some.inj e).symm
theorem Tel.cut_same {cells : List (Str × Addr)} {names : List (Str × NameKind)} {N : List Str} {σ : L2.St} {H HT H1 : Hp} {cs : List Addr} (t : Tel cells names N σ H cs HT) (s : Same HT H1) : Same H (cut cs H1) := fun b o e => by
  rw [cut_out fun z => by rw [t.no b z] at e; cases e]
  exact s _ _ (t.same _ _ e)
theorem Tel.back {cells : List (Str × Addr)} {names : List (Str × NameKind)} {N : List Str} {σ : L2.St} {H HT : Hp} {cs : List Addr} (t : Tel cells names N σ H cs HT) : cut cs HT = H := funext fun b => by
  by_cases hb : b ∈ cs
  · rw [cut_in hb, t.no b hb]
  · rw [cut_out hb, t.out b hb]
theorem mend_cut {cs : List Addr} {H : Hp} : mend cs H (cut cs H) = H := funext fun b => by
  by_cases hb : b ∈ cs
  · rw [mend_in hb]
  · rw [mend_out hb, cut_out hb]
/-- a lambda that was made in the def, while the def's cells are told -/
theorem Tel.lclo {cells : List (Str × Addr)} {names : List (Str × NameKind)} {N : List Str} {σ : L2.St} {H HT : Hp} {cs : List Addr} (t : Tel cells names N σ H cs HT) {NL psL fr : List Str} {F : LF} {f : Addr} {js : List Nat} {ws : List V}
    (S : NScope NL psL fr F.scope) (hcl : F.cl = cloFrom cells F.scope.names []) (hfree : ∀ y ∈ fr, names.lookup y = some .cell)
    (hN : js.map (fun j => N[j]?) = fr.map some) (hσ : js.map (fun j => σ[j]?) = ws.map fun v => some (some v))
    (hf : H f = some (LamO f F)) (hc : H F.c = some (CodeO F.c F.qual)) : LClo HT f F fr ws := by
  have hfr : ∀ y ∈ F.scope.names, y.2 = .free → ∃ c, cells.lookup y.1 = some c := fun y hy e => t.has _ (hfree _ (S.free y hy e))
  have l1 := congrArg List.length hN
  have l2 := congrArg List.length hσ
  rw [List.length_map, List.length_map] at l1 l2
  refine ⟨t.same _ _ hf, t.same _ _ hc, by omega, fun y c e => ?_, fun x y c e1 e2 => ?_, fun i y e => ?_⟩
  · rw [hcl] at e
    rcases cloFrom_mem (PySem.mem_of_lookup e) with h | ⟨h, _⟩
    · cases h
    · exact S.free _ h rfl
  · rw [hcl] at e1 e2
    exact t.inj x y c (clo_cm hfr e1) (clo_cm hfr e2)
  · have my : y ∈ fr := List.mem_of_getElem? e
    obtain ⟨c, hc⟩ := t.has y (hfree y my)
    have li : i < fr.length := (List.getElem?_eq_some_iff.mp e).1
    obtain ⟨j, hj⟩ : ∃ j, js[i]? = some j := ⟨_, List.getElem?_eq_getElem (by omega)⟩
    obtain ⟨v, hv⟩ : ∃ v, ws[i]? = some v := ⟨_, List.getElem?_eq_getElem (by omega)⟩
    have n1 : (js.map fun j => N[j]?)[i]? = some (some y) := by
      rw [hN, List.getElem?_map, e]
      rfl
    have n2 : (js.map fun j => σ[j]?)[i]? = some (some (some v)) := by
      rw [hσ, List.getElem?_map, hv]
      rfl
    rw [List.getElem?_map, hj] at n1 n2
    exact ⟨c, v, by rw [hcl]; exact clo_has hfr (PySem.mem_of_lookup (S.frk y my)) hc, hv, t.at_ j y c v (Option.some.inj n1) (hfree y my) hc (Option.some.inj n2)⟩
section
variable {X : Cx} {pins : List (Addr × Obj)} {σ : L2.St} {H : Hp} {s : Shared}
def frCells (l : List (Str × Addr)) : List Addr := l.filterMap fun p => l.lookup p.1
theorem mem_frCells {l : List (Str × Addr)} {b : Addr} (h : b ∈ frCells l) : ∃ x, l.lookup x = some b := by
  obtain ⟨p, _, e⟩ := List.mem_filterMap.mp h
  exact ⟨p.1, e⟩
theorem frCells_mem {l : List (Str × Addr)} {x : Str} {b : Addr} (h : l.lookup x = some b) : b ∈ frCells l := List.mem_filterMap.mpr ⟨(x, b), PySem.mem_of_lookup h, h⟩
theorem tel_run {k : Nat} {f : Addr} {fd : FuncData} {ps : List Str} {ds : List Value} {dvs : List V} {sp : Sp} {Q : VK} {us : List Value} {vs : List V} (F : FnOk X.prog X.w X.K X.mg X.base CX0 k f fd ps sp) (hr : Room k X.A) (hb : Binds X.K fd ps ds) (hd : Vals dvs ds) (hfn : ∀ x, X.fn x = true)
    (I : Inv X pins σ H s) (r : Vals vs us) (h : ∀ cs HT, Tel X.env.cells X.env.scope.names X.N σ H cs HT → sp (vs ++ dvs) HT (fun v H1 => (∀ b, b ∈ cs → H1 b = HT b) ∧ Q v (cut cs H1)) E0) : wpAny (model X.prog X.w) X.A (call (.ref f) us) (EP X pins σ Q) X.xe s := by
  let cs := frCells X.env.cells
  let HT : Hp := fun b => if b ∈ cs then (match s.heap.get? b with | some o => some (.ext fun h => h.get? b = some o) | Option.none => Option.none) else H b
  have big : ∀ b, b ∈ cs → X.s_0.heap.objs.size ≤ b := fun b hb => by
    obtain ⟨x, e⟩ := mem_frCells hb
    exact I.ok.cab x b (hfn x) e
  have no : ∀ b, b ∈ cs → H b = Option.none := fun b hb => by
    obtain ⟨x, e⟩ := mem_frCells hb
    exact I.freeC x b e
  have inT : ∀ b, b ∈ cs → ∃ v o, s.heap.get? b = some o ∧ o.data = .cell v ∧ HT b = some (.ext fun h => h.get? b = some o) := fun b hb => by
    obtain ⟨x, e⟩ := mem_frCells hb
    obtain ⟨v, o, e1, e2⟩ := I.cell x b e
    refine ⟨v, o, e1, e2, ?_⟩
    show (if b ∈ cs then _ else _) = _
    rw [if_pos hb, e1]
  have outT : ∀ b, b ∉ cs → HT b = H b := fun b hb => if_neg hb
  have nonT : ∀ b, b ∉ cs → H b = Option.none → HT b = Option.none := fun b hb e => (outT b hb).trans e
  have T : Tel X.env.cells X.env.scope.names X.N σ H cs HT := by
    refine ⟨no, fun b hb => ?_, outT, I.ok.inj, fun y h => I.ok.has _ (.inl h), fun i y c v h1 h2 h3 h4 => ?_⟩
    · obtain ⟨v, o, _, _, e⟩ := inT b hb
      exact ⟨_, e⟩
    · obtain ⟨v', o, e1, e2, e3⟩ := inT c (frCells_mem h3)
      obtain ⟨m, hn, hl⟩ := I.loc
      obtain ⟨u, ru, lk⟩ := hl i y v h1 h4 (.inr (.inl h2))
      refine ⟨_, e3, fun h hh => ⟨u, ru, o, hh, ?_⟩⟩
      rcases lk with ⟨z, _⟩ | ⟨_, c', hc', hcell⟩
      · have z' : X.env.scope.names.lookup y = some .local := z
        rw [h2] at z'
        cases z'
      · rw [h3] at hc'
        cases hc'
        obtain ⟨o', g1, g2⟩ := hcell
        rw [e1] at g1
        cases g1
        exact g2
  have ncs : ∀ b, b < X.s_0.heap.objs.size → b ∉ cs := fun b l m => Nat.not_lt.mpr (big b m) l
  have e0 := I.env0
  have notfr : ∀ b, b ∈ frs X.stack → b ∉ cs := fun b hb m => by
    rcases List.mem_cons.mp (I.stkSub b hb) with e | hb'
    · obtain ⟨x, ex⟩ := mem_frCells m
      exact I.cne x b ex e
    · obtain ⟨_, o, ho, _⟩ := I.ok.funs.mem hb'
      exact ncs b (Heap.lt_size ho) m
  have nonext : ∀ {b : Addr} {o : HO}, H b = some o → b ∉ cs := fun e m => by
    rw [no _ m] at e
    cases e
  have e1 : Env0 X.prog X.w X.K X.mg X.base X.A X.stack s HT := by
    refine ⟨e0.frames, e0.mod, fun b o q => ⟨(e0.bs b o q).1, nonT b (ncs b (Nat.lt_of_lt_of_le (Heap.lt_size q) I.ok.bsz)) (e0.bs b o q).2⟩, e0.bsz, e0.funs, fun b hb => nonT b (notfr b hb) (e0.frf b hb), fun b o e => ?_, e0.bare⟩
    by_cases hb : b ∈ cs
    · obtain ⟨v, o', g1, g2, g3⟩ := inT b hb
      rw [g3] at e
      cases e
      exact ⟨g1, ⟨o', g1⟩, fun h1 h2 z k => k _ z⟩
    · rw [outT b hb] at e
      refine (e0.hok b o e).stay (fun c u _ q => q) (fun c q => ?_) fun c xs q => ?_
      · rw [outT c (nonext q)]
        exact q
      · rw [outT c (nonext q)]
        exact q
  have hq0 := h cs HT T
  have r2 : Vals (vs ++ dvs) (us ++ ds) := r.append hd
  have hl : (us ++ ds).length = ps.length := by rw [← r2.length]; exact F.len _ _ _ _ hq0
  refine wpAny_call (codeAny_mono (F.run X.A X.stack s HT ⟨us, []⟩ (us ++ ds) (vs ++ dvs) _ E0 hr e1 (hb s us I.kIn hl) r2 hq0) fun r s' hq => ?_)
  cases r with
  | error e => exact False.elim hq
  | ok fl =>
    cases fl with
    | next => exact False.elim hq
    | brk => exact False.elim hq
    | cont => exact False.elim hq
    | ret u =>
      obtain ⟨v, H1, os, bare, un, hok1, rv, kc, q⟩ := hq
      have notin : ∀ {b : Addr} {o : HO}, H1 b = some o → (∀ φ, o ≠ .ext φ) → b ∉ cs := fun {b o} e n m => by
        obtain ⟨v, o', _, _, g3⟩ := inT b m
        rw [kc b m, g3] at e
        exact n _ (Option.some.inj e).symm
      have keepC : ∀ b o, b ∈ cs → s.heap.get? b = some o → s'.heap.get? b = some o := fun b o m e => by
        obtain ⟨v, o', g1, _, g3⟩ := inT b m
        rw [g1] at e
        cases e
        have := hok1 b _ ((kc b m).trans g3)
        exact this.1
      refine I.after ⟨v, cut cs H1, os, bare, ⟨fun b o a n h1 h2 => ?_, fun b o a n h1 h2 => ?_, fun b o a n h2 => ?_, un.there, fun b xs e => ?_, fun b o u e => ?_, fun b ps e => ?_⟩, fun b o e => ?_, rv, q⟩
      · by_cases m : b ∈ cs
        · exact keepC b o m a
        · exact un.keep b o a (nonT b m n) h1 h2
      · exact un.slot b o a (nonT b (notfr b h1) n) h1 h2
      · by_cases m : b ∈ cs
        · exact cut_in m
        · rw [cut_out m]
          exact un.free b o a (nonT b m n) h2
      · have m := nonext e
        rw [cut_out m]
        exact un.tups b xs ((outT b m).trans e)
      · have m := nonext e
        rw [cut_out m]
        exact un.frzs b o u ((outT b m).trans e)
      · have m := nonext e
        rw [cut_out m]
        exact un.tbls b ps ((outT b m).trans e)
      · by_cases m : b ∈ cs
        · rw [cut_in m] at e
          cases e
        · rw [cut_out m] at e
          refine (hok1 b o e).stay (fun c u _ q => q) (fun c q => ?_) fun c xs q => ?_
          · rw [cut_out (notin q (fun φ z => nomatch z))]
            exact q
          · rw [cut_out (notin q (fun φ z => nomatch z))]
            exact q
end
/-- f(..) while the cells are told -/
def tCallT (X : Cx) (sp : Sp) (dvs : List V) (t : TA) : TE := fun σ H Q => t σ H fun vs H1 => ∀ cs HT, Tel X.env.cells X.env.scope.names X.N σ H1 cs HT → sp (vs ++ dvs) HT (fun v H2 => (∀ b, b ∈ cs → H2 b = HT b) ∧ Q v (cut cs H2)) E0
theorem pe_callT {X : Cx} {k : Nat} {f : Addr} {fd : FuncData} {ps : List Str} {ds : List Value} {dvs : List V} {sp : Sp} {x : Str} {p pos : Pos} {e : Expr} {es : List Expr} {t : TA} (hfn : ∀ x, X.fn x = true) (F : FnOk X.prog X.w X.K X.mg X.base CX0 k f fd ps sp) (hr : Room k X.A) (hg : Gl X x) (hm : X.mg x = some (.ref f)) (hk : PySem.W.keepIn X.K (.ref f) = true) (hb : Binds X.K fd ps ds) (hd : Vals dvs ds)
    (ha : PA X (e :: es) t) (hdb : (x == ("__debug__" : Str)) = false := by decide) (he : starEach (e :: es) X.env = (false, eval e X.env) :: starEach es X.env := by rfl) (hpl : (backTo pos (starEach es X.env)).any (·.1) = false := by rfl) :
    PE X (.Call (.Name x p) (e :: es) [] pos) (tCallT X sp dvs t) := by
  refine ⟨fun pins s σ H Q I h => ?_⟩
  refine wpAny_Call_Name_kw (ld_glob I hg hm ?_ hdb)
  refine PySem.W.callWith_K (h₀ := X.base) I.ok.mod.kin hk (thn (ha.run pos pins s σ H _ I h) fun us s1 ⟨vs, H1, I1, r, q⟩ => ⟨I1.kIn, ?_⟩) he hpl
  exact tel_run F hr hb hd hfn I1 r q
section
variable {X : Cx} {pins : List (Addr × Obj)} {σ : L2.St} {H : Hp} {s : Shared}
/-- a lambda in a def that makes functions by name, too: the table knows the names by their places -/
theorem lam_toldP {T : List NTab} {nm : Nat → Nat → Str} {c P : Addr} {params : Arguments} {body : Expr} {scope : Scope} {pos : Pos} {E : Value → Shared → Prop} {Q : Value → Shared → Prop} (I : Inv X pins σ H s) (TB : TabB X.base X.mg c P) (hcode : X.env.code = .ref c)
    (hm : (P, nm) ∈ T) (hn : nm pos.line pos.col = X.env.qual ++ "<lambda>") (hu : ∀ p ∈ T, p.1 = P → p.2 = nm) (hT : TabsN T H) (hdef : defaultsOf params X.env = ([], [])) (hfree : ∀ y ∈ scope.names, y.2 = .free → ∃ c, X.env.cells.lookup y.1 = some c)
    (h : ∀ (f c' : Addr) (H1 : Hp) (s' : Shared), Inv X pins σ H1 s' → (∀ b o, H b = some o → b ≠ P → H1 b = some o) → (∀ b, H1 b = Option.none → H b = Option.none) → TabsN T H1 → H f = none → H1 f = some (LamO f ⟨X.env.qual ++ "<lambda>", params, body, scope, cloFrom X.env.cells scope.names [], c'⟩) → H1 c' = some (CodeO c' (X.env.qual ++ "<lambda>")) → Q (.ref f) s') :
    wpAny (model X.prog X.w) X.A (eval (.Lambda params body scope pos) X.env) Q E s := by
  obtain ⟨ps, hP, ht, ha⟩ := (show TabN H P nm from hT _ hm)
  have bP := TB.bm.keeps (h' := s.heap) I.bk
  have gP : s.heap.get? P = some { cls := .none, data := .fields ps } := I.hok P _ hP
  refine PySem.W.kla_eval hdef ?_
  cases cd : codeAmong pos ps.toList with
  | none =>
    refine PySem.W.kla_makeFunction (mg := X.mg) (c := c) (P := P) (ps := ps) (closure_ok hfree) I.ok.glob (I.mod.glob.keeps I.bk) hcode (TB.code.keeps I.bk) gP ht cd TB.gP bP fun c' ctv h' tk hx hge hlt hrec htb => ?_
    obtain ⟨c2, oc, vs, t, e2, hoc, hd, hv⟩ := hrec
    cases e2
    have nC : H c' = none := I.hok.fresh hge
    have I1 := inv_table (q := X.env.qual ++ "<lambda>") (t' := tk) (more := #[rawInt pos.line, rawInt pos.col, .ref c']) (h' := h') I hP hx htb hge ⟨oc, vs, t, hoc, hd, hv⟩
    have hE : ExtN H (upd (upd H P (.tbl (ps ++ #[rawInt pos.line, rawInt pos.col, .ref c']))) c' (CodeO c' (X.env.qual ++ "<lambda>"))) := fun b o e n => by
      rw [upd_ne (ne_of_none e nC), upd_ne (fun z => n ps (Option.some.inj (e.symm.trans (by rw [z]; exact hP))))]
      exact e
    have eL : (ps ++ #[rawInt pos.line, rawInt pos.col, .ref c']).toList = ps.toList ++ [rawInt pos.line, rawInt pos.col, .ref c'] := by simp
    have T1 : TabsN T (upd (upd H P (.tbl (ps ++ #[rawInt pos.line, rawInt pos.col, .ref c']))) c' (CodeO c' (X.env.qual ++ "<lambda>"))) := fun p hp => by
      by_cases hb : p.1 = P
      · rw [hu p hp hb, hb]
        refine ⟨_, by rw [upd_ne (ne_of_none hP nC), upd_same], by rw [eL]; exact PySem.TriplesOk_snoc _ _ _ _ ht, fun p' cv hcv => ?_⟩
        rw [eL] at hcv
        rcases among_app2 _ ht hcv with z | ⟨z, z1, z2⟩
        · obtain ⟨c0, e1, e2⟩ := ha p' cv z
          exact ⟨c0, e1, hE _ _ e2 codeO_ne⟩
        · refine ⟨c', z, ?_⟩
          rw [← z1, ← z2, hn]
          exact upd_same
      · obtain ⟨ps', a1, a2, a3⟩ := hT p hp
        refine ⟨ps', by rw [upd_ne (ne_of_none a1 nC), upd_ne hb]; exact a1, a2, fun p' cv hcv => ?_⟩
        obtain ⟨c0, e1, e2⟩ := a3 p' cv hcv
        exact ⟨c0, e1, hE _ _ e2 codeO_ne⟩
    have nF := I1.hok.fresh (Nat.le_refl h'.objs.size)
    have I2 := I1.laid (a := h'.objs.size) (o := LamO h'.objs.size ⟨X.env.qual ++ "<lambda>", params, body, scope, cloFrom X.env.cells scope.names [], c'⟩) (h' := h'.push (PySem.W.kla_obj "<lambda>" (X.env.qual ++ "<lambda>") params body scope (cloFrom X.env.cells scope.names []) ((X.mg "__name__").getD .none) c' ctv)) (t' := tk)
      (fun b u z => Heap.get?_push_of_some _ z) (Nat.le_refl _) (lamO_ok ⟨_, _, Heap.get?_push_size _ rfl⟩)
    have hX : ∀ b o, H b = some o → b ≠ P → (upd (upd H P (.tbl (ps ++ #[rawInt pos.line, rawInt pos.col, .ref c']))) c' (CodeO c' (X.env.qual ++ "<lambda>"))) b = some o := fun b o e n => by
      rw [upd_ne (ne_of_none e nC), upd_ne n]
      exact e
    refine h h'.objs.size c' _ _ I2 (fun b o e n => ?_) (fun b e => NdefX.upd_none (NdefX.upd_none (NdefX.upd_none e))) (T1.ext fun b o e => ?_) (I.hok.fresh (Nat.le_trans hge (Nat.le_of_lt hlt))) upd_same ?_
    · have e1 := hX b o e n
      exact (upd_ne (ne_of_none e1 nF)).trans e1
    · exact (upd_ne (ne_of_none e nF)).trans e
    · exact (upd_ne (Nat.ne_of_lt hlt)).trans upd_same
  | some cv =>
    obtain ⟨c', e, hco⟩ := ha pos cv cd
    subst e
    rw [hn] at hco
    refine PySem.W.kla_makeFunctionHit (mg := X.mg) (c := c) (P := P) (ps := ps) (closure_ok hfree) I.ok.glob (I.mod.glob.keeps I.bk) hcode (TB.code.keeps I.bk) gP ht cd bP fun ctv h' tk hx hsz => ?_
    have I0 : Inv X pins σ H { s with heap := h', toks := tk } := I.kept hx
    have nF : H h'.objs.size = none := I0.hok.fresh (Nat.le_refl _)
    have I2 := I0.laid (a := h'.objs.size) (o := LamO h'.objs.size ⟨X.env.qual ++ "<lambda>", params, body, scope, cloFrom X.env.cells scope.names [], c'⟩) (h' := h'.push (PySem.W.kla_obj "<lambda>" (X.env.qual ++ "<lambda>") params body scope (cloFrom X.env.cells scope.names []) ((X.mg "__name__").getD .none) c' ctv)) (t' := tk)
      (fun b u z => Heap.get?_push_of_some _ z) (Nat.le_refl _) (lamO_ok ⟨_, _, Heap.get?_push_size _ rfl⟩)
    refine h h'.objs.size c' _ _ I2 (fun b o e n => ?_) (fun b e => NdefX.upd_none e) (hT.ext fun b o e => ?_) nF upd_same ?_
    · exact (upd_ne (ne_of_none e nF)).trans e
    · exact (upd_ne (ne_of_none e nF)).trans e
    · exact (upd_ne (ne_of_none hco nF)).trans hco
end
def tLamP (T : List NTab) (P : Addr) (F : Addr → LF) : TE := fun σ H Q => TabsN T H ∧ ∀ (f c' : Addr) (H1 : Hp), (∀ b o, H b = some o → b ≠ P → H1 b = some o) → (∀ b, H1 b = Option.none → H b = Option.none) → TabsN T H1 → H f = none → H1 f = some (LamO f (F c')) → H1 c' = some (CodeO c' (F c').qual) → Q (.ref f) H1
theorem pe_lamP {X : Cx} {T : List NTab} {nm : Nat → Nat → Str} {c P : Addr} {params : Arguments} {body : Expr} {scope : Scope} {pos : Pos} (TB : TabB X.base X.mg c P) (hcode : X.env.code = .ref c) (hm : (P, nm) ∈ T) (hn : nm pos.line pos.col = X.env.qual ++ "<lambda>") (hu : ∀ p ∈ T, p.1 = P → p.2 = nm)
    (hdef : defaultsOf params X.env = ([], [])) (hfree : ∀ y ∈ scope.names, y.2 = .free → X.env.scope.names.lookup y.1 = some .cell ∨ X.env.scope.names.lookup y.1 = some .free) :
    PE X (.Lambda params body scope pos) (tLamP T P fun c' => ⟨X.env.qual ++ "<lambda>", params, body, scope, cloFrom X.env.cells scope.names [], c'⟩) := by
  refine ⟨fun pins s σ H Q I h => ?_⟩
  obtain ⟨hT, q⟩ := h
  exact lam_toldP I TB hcode hm hn hu hT hdef (fun y hy e => (hfree y hy e).elim (fun z => I.ok.has _ (.inl z)) fun z => I.ok.has _ (.inr z)) fun f c' H1 s' I1 e1 n1 t1 nf hf hc => ⟨.ref f, H1, I1, rfl, q f c' H1 e1 n1 t1 nf hf hc⟩
/-! ### f(e, ..), f a name that holds a function that was made in a def -/
def tActP (P : Program) (w : World) (K : PySem.W.Frag) (mg : Str → Option Value) (base : Heap) (CX : CXT) (k i : Nat) (E : L2.St → XK) (t : TA) : TE := fun σ H Q => ∃ f, σ[i]? = some (some (.ref f)) ∧ t σ H fun vs H1 => ∃ o sp, H1 f = some o ∧ FnHO f o ∧ FnR P w K mg base CX k f sp ∧ sp vs H1 Q (E σ)
theorem lamHO2 {f : Addr} {F : LF} : FnHO f (LamO f F) := lamHO
theorem pe_actP {X : Cx} {CX : CXT} {k i : Nat} {E : L2.St → XK} {x : Str} {e : Expr} {es : List Expr} {t : TA} {p pos : Pos} (hN : X.N[i]? = some x) (hv : Vis X.env.scope x) (hr : Room k X.A) (hx : ∀ σ, PassesAt CX X σ (E σ)) (ha : PA X (e :: es) t) (hd : (x == ("__debug__" : Str)) = false := by decide) (hcd : (x == ("__classdict__" : Str)) = false := by decide)
    (he : starEach (e :: es) X.env = (false, eval e X.env) :: starEach es X.env := by rfl) (hpl : (backTo pos (starEach es X.env)).any (·.1) = false := by rfl) : PE X (.Call (.Name x p) (e :: es) [] pos) (tActP X.prog X.w X.K X.mg X.base CX k i E t) := by
  refine ⟨fun pins s σ H Q I h => ?_⟩
  obtain ⟨f, hs, h⟩ := h
  refine wpAny_Call_Name_kw (thn ((pe_var (pos := p) hN hv hd hcd).run pins s σ H (fun v H1 => v = .ref f ∧ H1 = H) I ⟨.ref f, hs, rfl, rfl⟩) fun u s1 ⟨v, H1, I1, r1, ev, eH⟩ => ?_)
  subst ev
  rw [eH] at I1
  obtain rfl : u = Value.ref f := r1
  rw [he]
  refine PySem.W.callWith_of (P := PySem.W.FnAt f) (by show ((false || (backTo pos (starEach es X.env)).any (·.1)) || false) = false; rw [hpl]; rfl) PySem.W.keeps_F (PySem.Calls.evalArgs_plain (?_ : wpAny _ _ (spliced (backTo pos ((false, eval e X.env) :: starEach es X.env))) _ _ _))
  rw [← he]
  exact thn (ha.run pos pins s1 σ H _ I1 h) fun us s2 ⟨vs, H2, I2, r, o, sp, hf, ho, hF, q⟩ => ⟨ho _ _ _ _ I2.hok hf, run_fnE hF hr (hx σ) I2 r q⟩
/-! ### f( *values), f a name that holds a function: one of a def, or one of the module -/
def FnIs (K : PySem.W.Frag) (H : Hp) (f : Addr) : Prop := (∃ o, H f = some o ∧ FnHO f o) ∨ ∃ (oc : Value) (od : Option Addr) (fd : FuncData) (sl : Array (Option Value)), K.lookup f = some ⟨oc, od, .func fd, sl⟩
theorem FnIs.at_ {K : PySem.W.Frag} {P : Program} {w : World} {H : Hp} {h : Heap} {f : Addr} (g : FnIs K H f) (hok : HOk P w H h) (k : K.In h) : PySem.W.FnAt f h := by
  rcases g with ⟨o, e, z⟩ | ⟨oc, od, fd, sl, e⟩
  · exact z _ _ _ _ hok e
  · exact ⟨_, _, _, _, k _ _ e⟩
def tActG (P : Program) (w : World) (K : PySem.W.Frag) (mg : Str → Option Value) (base : Heap) (CX : CXT) (k i : Nat) (E : L2.St → XK) (te : TE) : TE := fun σ H Q => ∃ f, σ[i]? = some (some (.ref f)) ∧ te σ H fun y H1 => ∃ a xs sp, y = V.ref a ∧ (SqT K H1 a xs ∨ SqL K H1 a xs) ∧ FnIs K H1 f ∧
  FnR P w K mg base CX k f sp ∧ sp xs H1 Q (E σ)
theorem pe_actG {X : Cx} {CX : CXT} {k i : Nat} {E : L2.St → XK} {x : Str} {e : Expr} {te : TE} {p sp_ pos : Pos} (hN : X.N[i]? = some x) (hv : Vis X.env.scope x) (hr : Room k X.A) (hx : ∀ σ, PassesAt CX X σ (E σ)) (he : PE X e te) (hd : (x == ("__debug__" : Str)) = false := by decide) (hcd : (x == ("__classdict__" : Str)) = false := by decide)
    (hst : starEach [.Starred e sp_] X.env = [(true, eval e X.env)] := by rfl) : PE X (.Call (.Name x p) [.Starred e sp_] [] pos) (tActG X.prog X.w X.K X.mg X.base CX k i E te) := by
  refine ⟨fun pins s σ H Q I h => ?_⟩
  obtain ⟨f, hs, h⟩ := h
  refine wpAny_Call_Name_kw (thn ((pe_var (pos := p) hN hv hd hcd).run pins s σ H (fun v H1 => v = .ref f ∧ H1 = H) I ⟨.ref f, hs, rfl, rfl⟩) fun u s1 ⟨v, H1, I1, r1, ev, eH⟩ => ?_)
  subst ev
  rw [eH] at I1
  obtain rfl : u = Value.ref f := r1
  rw [show backTo pos (starEach [.Starred e sp_] X.env) = [(true, (do let v ← eval e X.env; standAt pos; pure v))] by rw [hst]; rfl]
  refine PySem.W.ks_call (P := PySem.W.FnAt f) rfl PySem.W.keeps_F (PySem.W.ks_lone ?_)
  refine thn (he.run pins s1 σ H _ I1 h) fun v s2 ⟨y, H2, I2, ry, a, xs, sp, ey, hxs, hf, hF, q⟩ => ?_
  subst ey
  obtain rfl : v = Value.ref a := ry
  exact StX.star_any I2 hxs fun us s3 I3 rv => ⟨hf.at_ I3.hok I3.kIn, run_fnE hF hr (hx σ) I3 rv q⟩
end Inf

set_option Elab.async false
set_option linter.all false
set_option maxRecDepth 100000
set_option maxHeartbeats 4000000
namespace Inf
open PySem PySem.Spec PyProof.Rows L2 NdefX LamX
/-! ### min(xs, default=d) -/
/-- what the walk has kept behind j items -/
def OldAt (P : Nat → Value → Prop) (bt : Nat → Nat → Bool) : Nat → Array Value → Prop
  | 0, old => old = #[]
  | j + 1, old => ∃ v, old = #[v, v] ∧ P (argBest bt j) v
/-- what it ends with -/
def EndAt (P : Nat → Value → Prop) (bt : Nat → Nat → Bool) (n : Nat) (d v : Value) : Prop := (n = 0 ∧ v = d) ∨ (0 < n ∧ P (argBest bt (n - 1)) v)
def kwD (d : Value) : List (Str × Value) := [(Str.ofString "default", d)]
theorem nameD : (toString "min" ++ toString ".loop" : String) = "min.loop" := by decide
theorem minD_loop {prog : Program} {w : World} {A : Around} {R : Result → Shared → Prop} {I : Addr} {fp wr : List Addr} {n : Nat} {P : Nat → Value → Prop} {St : Nat → Heap → Prop} (W : Walks prog w A.in1 I fp wr n P St) {bt : Nat → Nat → Bool} (hc : CmpOf prog w A.in1 .Lt P bt) {S : Addr} (hSf : S ∉ fp) (d : Value) :
    ∀ (k j : Nat) (s : Shared) (old : Array Value) (c : Nat), n = j + k → St j s.heap → OldAt P bt j old → s.heap.get? S = some { cls := .type "list", dict := none, data := .seq old c, slots := #[] } →
      (∀ v h' tk, EndAt P bt n d v → (∀ b o, b ∉ wr → b ≠ S → s.heap.get? b = some o → h'.get? b = some o) → R (.ok (.ret v)) { s with heap := h', toks := tk }) → codeAny (model prog w) A (.builtin "min.loop" ⟨[.ref I, .none, .ref S], kwD d⟩) R s := by
  have hSw : S ∉ wr := fun h => hSf (W.sub _ h)
  intro k
  induction k with
  | zero =>
    intro j s old c hk hst ho hS hR
    obtain rfl : n = j := hk
    refine codeAny_builtin F.entry_min_loop (?_ : wpAny _ _ _ _ _ _)
    rw [Around.under_plainId F.plain_min_loop _]
    refine wpAny_bind (wpAny_seqItems hS rfl (?_ : wpAny _ _ (tryCatch (pyNext (.ref I)) _ >>= _) _ _ _))
    refine wpAny_bind (wpAny_tryCatch (W.done s _ _ hst fun h' tk hk' => ?_))
    cases n with
    | zero =>
      obtain rfl : old = #[] := ho
      refine wpAny_bind (wpAny_rule (wpAny_pure (hR d h' tk (.inl ⟨rfl, rfl⟩) fun b o hb _ e => hk' b o hb e)))
    | succ j =>
      obtain ⟨v, rfl, hv⟩ := ho
      have hS' := hk' S _ hSw hS
      refine wpAny_bind (?_ : wpAny _ _ (updateSeq S fun _ => #[]) _ _ _)
      refine wpAny_updateSeq hS' rfl (wpAny_bind (wpAny_letGo (wpAny_pure (hR v _ tk (.inr ⟨Nat.succ_pos j, hv⟩) fun b o hb n e => ?_))))
      exact (Heap.get?_update_other _ _ (Ne.symm n)).trans (hk' b o hb e)
  | succ k ih =>
    intro j s old c hk hst ho hS hR
    refine codeAny_builtin F.entry_min_loop (?_ : wpAny _ _ _ _ _ _)
    rw [Around.under_plainId F.plain_min_loop _]
    refine wpAny_bind (wpAny_seqItems hS rfl (?_ : wpAny _ _ (tryCatch (pyNext (.ref I)) _ >>= _) _ _ _))
    refine wpAny_bind (wpAny_tryCatch (W.item j s _ _ (by omega) hst fun v h' tk hP hst' hk' => ?_))
    have hS' := hk' S _ hSw hS
    have off : ∀ (g : Array Value → Array Value) (b : Addr) (o : Obj), b ≠ S → h'.get? b = some o → (h'.update S (Obj.mapSeq g)).get? b = some o := fun g b o n e => (Heap.get?_update_other _ _ (Ne.symm n)).trans e
    cases j with
    | zero =>
      obtain rfl : old = #[] := ho
      refine wpAny_bind (wpAny_pure ?_)
      refine wpAny_bind (?_ : wpAny _ _ (updateSeq S fun _ => #[v, v]) _ _ _)
      refine wpAny_updateSeq hS' rfl ?_
      rw [nameD]
      refine wpAny_pure ⟨plainId_quiet F.plain_min_loop _, ih 1 _ #[v, v] _ (by omega) (W.frame _ _ _ hst' fun b hb o e => off _ b o (fun z => hSf (by rw [← z]; exact hb)) e) ⟨v, rfl, hP⟩ (Heap.get?_update_self _ hS' rfl) fun v' h'' tk'' he hk'' => ?_⟩
      exact hR v' h'' tk'' he fun b o hb n e => hk'' b o hb n (off _ b o n (hk' b o hb e))
    | succ j =>
      obtain ⟨vb, rfl, hPb⟩ := ho
      refine wpAny_bind (wpAny_pure ?_)
      refine wpAny_bind (wpAny_tryCatch (wpAny_holding (wpAny_bind (hc (j + 1) (argBest bt j) v vb _ _ _ hP hPb ?_))))
      refine wpAny_bind (wpAny_holding (wpAny_truthy_bool (wpAny_bind (wpAny_letGo (wpAny_pure ?_)))))
      cases hb : bt (j + 1) (argBest bt j) with
      | true =>
        rw [if_pos rfl]
        refine wpAny_bind (?_ : wpAny _ _ (updateSeq S fun _ => #[v, v]) _ _ _)
        refine wpAny_updateSeq hS' rfl (wpAny_bind (wpAny_letGo ?_))
        rw [nameD]
        refine wpAny_pure ⟨plainId_quiet F.plain_min_loop _, ih (j + 2) _ #[v, v] _ (by omega) (W.frame _ _ _ hst' fun b hb o e => off _ b o (fun z => hSf (by rw [← z]; exact hb)) e) ⟨v, rfl, by rw [argBest, hb]; exact hP⟩ (Heap.get?_update_self _ hS' rfl) fun v' h'' tk'' he hk'' => ?_⟩
        exact hR v' h'' tk'' he fun b o hb n e => hk'' b o hb n (off _ b o n (hk' b o hb e))
      | false =>
        rw [if_neg Bool.false_ne_true]
        refine wpAny_bind (wpAny_letGo ?_)
        rw [nameD]
        refine wpAny_pure ⟨plainId_quiet F.plain_min_loop _, ih (j + 2) _ #[vb, vb] c (by omega) hst' ⟨vb, rfl, by rw [argBest, hb]; exact hPb⟩ hS' fun v' h'' tk'' he hk'' => ?_⟩
        exact hR v' h'' tk'' he fun b o hb n e => hk'' b o hb n (hk' b o hb e)
theorem args_minD (a d : Value) : argsOk "min" ⟨[a], kwD d⟩ := by unfold argsOk; kernel_rfl
theorem call_minD {prog : Program} {w : World} {A : Around} {E : Value → Shared → Prop} {s : Shared} {l : Addr} {d : Value} {xs : Array (Int × Tok)} {Q : Value → Shared → Prop} (hh : A.handled = none) (hl : s.heap.IsList l (intItems xs))
    (h : ∀ v h' tk, EndAt (fun i v => (intItems xs)[i]? = some v) (fun i j => decide (numAt xs i < numAt xs j)) xs.size d v → (∀ b o, s.heap.get? b = some o → h'.get? b = some o) → Q v { s with heap := h', toks := tk }) :
    wpAny (model prog w) A (call (.builtin "min") [.ref l] (kwD d)) Q E s := by
  refine PyProof.Rows.kmk_tree PySem.F.kind_min PySem.F.plain_min PySem.F.entry_min (args_minD _ _) ?_
  refine wpAny_bind (m := Builtin.Builtins.bindParams "min" ["key", "default"] 0 ⟨[], kwD d⟩) (wpAny_of_eq (show Builtin.Builtins.bindParams "min" ["key", "default"] 0 ⟨[], kwD d⟩ = pure [none, some d] from rfl) (wpAny_bind (wpAny_pure ?_)))
  refine wpAny_bind (iter_intList hl fun s₂ e st hfp hne => ?_)
  subst e
  refine wpAny_bind (wpAny_newObj_type ?_)
  rw [nameD]
  have hlt : l < s.heap.objs.size := by
    obtain ⟨_, e, _⟩ := hl
    exact Heap.lt_size e
  refine wpAny_pure ⟨plainId_quiet F.plain_min_loop _, minD_loop (Walks.list (A := A.in1) hh _ l hne (intItems xs)) (CmpOf.ints_lt (numAt xs) (fun _ _ => intItems_at)) (fun hm => Nat.lt_irrefl _ (hfp _ hm)) d (intItems xs).size 0 _ #[] _ (Nat.zero_add _).symm ?_ rfl (Heap.get?_push_size _ rfl) fun v h' tk he hk => ?_⟩
  · exact (Walks.list (prog := prog) (w := w) (A := A.in1) hh _ l hne (intItems xs)).frame _ _ _ st fun b _ o e => Heap.get?_push_of_some _ e
  · refine h v h' tk (by simpa [intItems] using he) fun b o e => ?_
    have lb := Heap.lt_size e
    have sz : (s.heap.push { cls := .type "list_iterator", data := .fields #[.ref l, .int 0 0] }).objs.size = s.heap.objs.size + 1 := Heap.size_push ..
    refine hk b o (fun m => ?_) (fun z => ?_) (Heap.get?_push_of_some _ (Heap.get?_push_of_some _ e))
    · rw [List.mem_singleton.mp m] at lb
      exact Nat.lt_irrefl _ lb
    · have z : b = (s.heap.push { cls := .type "list_iterator", data := .fields #[.ref l, .int 0 0] }).objs.size := z
      rw [z, sz] at lb
      exact absurd lb (Nat.not_lt.mpr (Nat.le_succ _))
/-- min(xs, default=d) of a list of ints, any number of them -/
def rMinD (K : PySem.W.Frag) : List V → List V → Hp → VK → Prop := fun vs zs H Q => ∃ (a : Addr) (ns : List Int) (d : V), vs = [V.ref a] ∧ zs = [d] ∧ SqL K H a (ns.map V.int) ∧ (ns = [] → Q d H) ∧ ∀ m ∈ ns, (∀ y ∈ ns, m ≤ y) → Q (.int m) H
theorem cr_minD {X : Cx} (hc : X.calm = true) : CallRK X (.builtin "min") [Str.ofString "default"] (rMinD X.K) := by
  intro pins s σ H vs zs us ws Q I r rz h
  obtain ⟨a, ns, d, rfl, rfl, hs, q0, q1⟩ := h
  obtain rfl := Vals.ref1 r
  obtain ⟨wd, rfl, ed⟩ := vals1 rz
  obtain ⟨its, rv, hl, hz⟩ := I.list hs
  have hi := rv.ints
  obtain ⟨xs, e⟩ := hi.allInts.items
  have hn : numsOf (intItems xs).toList = ns := by rw [← e]; exact hi.numsOf
  rw [nums_intItems] at hn
  subst hn
  have hl2 := hl.isList
  rw [e] at hl2
  refine call_minD (d := wd) (I.ok.hd hc) hl2 fun v h' tk he hk => ?_
  have lx : (xs.toList.map (·.1)).length = xs.size := by rw [List.length_map, Array.length_toList]
  rcases he with ⟨h0, rfl⟩ | ⟨h0, he⟩
  · exact ⟨d, H, I.kept hk, ed, q0 (List.length_eq_zero_iff.mp (lx.trans h0))⟩
  · obtain ⟨t, rfl⟩ := intItems_at he
    obtain ⟨h1, h2⟩ := argBest_lt (numAt xs) (xs.size - 1)
    refine ⟨.int _, H, I.kept hk, ⟨t, rfl⟩, q1 _ ?_ fun y my => ?_⟩
    · rw [numAt_eq]
      exact PySem.getD_mem (by rw [lx]; omega)
    · obtain ⟨j, hj, rfl⟩ := mem_getD my
      rw [lx] at hj
      rw [← numAt_eq]
      exact h2 j (by omega)
end Inf

set_option Elab.async false
set_option linter.all false
set_option maxRecDepth 100000
set_option maxHeartbeats 4000000
namespace Inf
open PySem PySem.Spec PyProof.Rows
/-! ### {**d, k: v} -/
section
variable {prog : Program} {w : World} {K : Type} [DecidableEq K] {knd : KeyKind prog w K} {A : Around} {E : Value → Shared → Prop} {s : Shared}
theorem idx_list {es : Array DictEntry} {p : DictEntry → Bool} : es.findIdx? p = es.toList.findIdx? p := by
  obtain ⟨l⟩ := es
  simp
/-- what a stored pair makes of a dict, on either way -/
theorem put_hit {h : Heap} {d : Addr} {o : Obj} {es : Array DictEntry} {ep i : Nat} {kvs : List (K × Value)} {k : K} {v : Value} (ho : h.get? d = some o) (hc : o.ExactDict) (hd : o.data = .dict es ep) (hk : KeysOf knd es) (hp : Pairs knd es.toList kvs) (hn : (kvs.map (·.1)).Nodup) (hi : es.findIdx? (fun e => knd.is k e.key) = some i) :
    (h.update d (Obj.mapDict fun es => es.modify i fun e => { e with val := v })).DictOf knd d (stored kvs k v) := by
  have hl : es.toList.findIdx? (fun e => knd.is k e.key) = some i := idx_list.symm.trans hi
  have hx : kvs.findIdx? (fun kv => decide (kv.1 = k)) = some i := (hp.findIdx k).symm.trans hl
  have e : stored kvs k v = kvs.map fun kv => if kv.1 = k then (kv.1, v) else kv := by
    unfold stored
    exact if_pos (any_of_findIdx_some hx)
  have h1 := hp.modify hn hl v
  refine ⟨_, _, ep, Heap.get?_update_self _ ho (Obj.isFreed_of_dict (Obj.data_mapDict hd _)), hc.mapDict _, Obj.data_mapDict hd _, hk.modify _ _, ?_, ?_⟩
  · rw [e]
    obtain ⟨l⟩ := es
    simpa using h1
  · rw [e, keys_map_store]
    exact hn
theorem put_new {h : Heap} {d : Addr} {o : Obj} {es : Array DictEntry} {ep : Nat} {kvs : List (K × Value)} {k : K} {key v : Value} (hkey : knd.is k key = true) (ho : h.get? d = some o) (hc : o.ExactDict) (hd : o.data = .dict es ep) (hk : KeysOf knd es) (hp : Pairs knd es.toList kvs) (hn : (kvs.map (·.1)).Nodup) (hi : es.findIdx? (fun e => knd.is k e.key) = none) :
    (h.update d (Obj.mapDictKeys (·.push ⟨knd.hash k, key, v⟩))).DictOf knd d (stored kvs k v) := by
  have hx : kvs.findIdx? (fun kv => decide (kv.1 = k)) = none := (hp.findIdx k).symm.trans (idx_list.symm.trans hi)
  have hm : k ∉ kvs.map (·.1) := not_mem_of_findIdx_none hx
  have e : stored kvs k v = kvs ++ [(k, v)] := by
    unfold stored
    refine if_neg fun z => ?_
    obtain ⟨kv, m, q⟩ := List.any_eq_true.mp z
    exact hm (List.mem_map.mpr ⟨kv, m, of_decide_eq_true q⟩)
  have h1 := hp.append hkey (knd.hash k) v
  refine ⟨_, _, ep + 1, Heap.get?_update_self _ ho (Obj.isFreed_of_dict (Obj.data_mapDictKeys hd _)), hc.mapDictKeys _, Obj.data_mapDictKeys hd _, hk.push hkey _, ?_, ?_⟩
  · rw [e]
    obtain ⟨l⟩ := es
    simpa using h1
  · rw [e, List.map_append]
    refine List.nodup_append.mpr ⟨hn, List.nodup_cons.mpr ⟨(fun z => nomatch z), List.nodup_nil⟩, fun a ha b hb z => ?_⟩
    rw [z, List.mem_singleton.mp hb] at ha
    exact hm ha
theorem put_ok {d : Addr} {kvs : List (K × Value)} {k : K} {key v : Value} {Q : Unit → Shared → Prop} (hkey : knd.is k key = true) (hm : s.heap.DictOf knd d kvs) (hsz : kvs.length ≤ sizeLine)
    (hQ : ∀ h', h'.DictOf knd d (stored kvs k v) → Heap.SameBut d s.heap h' → Q () { s with heap := h' }) : wpAny (model prog w) A (dictPut d (knd.hash k) key v) Q E s := by
  obtain ⟨o, es, ep, ho, hc, hd, hk, hp, hn⟩ := hm
  have hes : es.size ≤ sizeLine := by
    have := hp.length
    rw [Array.length_toList] at this
    omega
  unfold dictPut
  refine wpAny_bind (wpAny_dictFind_of hkey ho hd hk ?_)
  cases hi : es.findIdx? fun e => knd.is k e.key with
  | some i => exact wpAny_updateDict ho hd (hQ _ (put_hit ho hc hd hk hp hn hi) (Heap.SameBut.update ..))
  | none => exact wpAny_updateDictKeys (hz := hes) ho hd (hQ _ (put_new hkey ho hc hd hk hp hn hi) (Heap.SameBut.update ..))
theorem ite_same {M : Model} {c : Prop} [Decidable c] {a b : Sem Unit} {Q : Unit → Shared → Prop} (hb : wpAny M A b Q E s) (ha : wpAny M A b Q E s → wpAny M A a Q E s) : wpAny M A (if c then a else b) Q E s := by
  by_cases z : c
  · rw [if_pos z]
    exact ha hb
  · rw [if_neg z]
    exact hb
theorem merge_ok {d o : Addr} {kvs more : List (K × Value)} {Q : Unit → Shared → Prop} (hdo : d ≠ o) (hoS : (o == sysModules) = false) (hd : s.heap.DictOf knd d kvs) (ho : s.heap.DictOf knd o more) (hsz : kvs.length + more.length ≤ sizeLine)
    (hQ : ∀ h', h'.DictOf knd d (merged kvs more) → Heap.SameBut d s.heap h' → Q () { s with heap := h' }) : wpAny (model prog w) A (mergeMapping d (.ref o) false) Q E s := by
  obtain ⟨od, esd, epd, hod, hcd, hdd, hkd, hpd, hnd⟩ := id hd
  obtain ⟨oo, eso, epo, hoo, hco, hdo', hko, hpo, hno⟩ := id ho
  have hlen : more.length = eso.size := by
    rw [← hpo.length, Array.length_toList]
  unfold mergeMapping
  refine wpAny_bind (wpAny_isInstance ho.typeIs isSubtype_dict_dict ?_)
  dsimp only
  rw [if_pos rfl]
  refine wpAny_bind (wpAny_specialOf ho.typeIs F.slot_dict_iter.lookup ?_)
  refine wpAny_bind (wpAny_pure ?_)
  rw [show (some (Value.builtin "dict.__iter__") == some (Value.builtin "dict.__iter__")) = true from beq_self_eq_true _]
  dsimp only
  rw [if_neg (by rw [hoS]; exact Bool.false_ne_true)]
  refine wpAny_bind (wpAny_dictEntries hod hdd ?_)
  refine ite_same ?_ fun loop => ?_
  · refine wpAny_bind (wpAny_dictEntries hoo hdo' (wpAny_bind (wpAny_dictEpoch hoo hdo' (wpAny_bind ?_))))
    refine wpAny_forIn_list _ (fun rest _ s' => ∃ h' i, s' = { s with heap := h' } ∧ rest = (List.range eso.size).drop i ∧ i ≤ eso.size ∧ h'.DictOf knd d (merged kvs (more.take i)) ∧ h'.get? o = some oo ∧ Heap.SameBut d s.heap h')
      _ ?_ ?_ _ _ ⟨s.heap, 0, rfl, rfl, Nat.zero_le _, hd, hoo, Heap.SameBut.refl _ _⟩
    · rintro x rest b s' ⟨h', i, rfl, hr, hi, hd', hoo', hs'⟩
      have hlt : i < eso.size := by
        refine Nat.lt_of_not_le fun z => ?_
        rw [List.drop_eq_nil_of_le (by rw [List.length_range]; exact z)] at hr
        cases hr
      rw [List.drop_eq_getElem_cons (by rw [List.length_range]; exact hlt)] at hr
      obtain ⟨hx, hrest⟩ := List.cons.inj hr
      rw [List.getElem_range] at hx
      subst hx
      have hml : x < more.length := by omega
      obtain ⟨hkey, hval⟩ := hpo.get? (e := eso[x]) (k := more[x].1) (v := more[x].2) (by rw [Array.getElem?_toList, Array.getElem?_eq_getElem hlt]) (List.getElem?_eq_getElem hml)
      obtain ⟨k', hkey', hhash⟩ := hko eso[x] (Array.getElem_mem hlt)
      have ek : k' = more[x].1 := knd.inj _ _ _ hkey' hkey
      refine wpAny_bind (wpAny_dictEntries hoo' hdo' ?_)
      rw [Array.getElem?_eq_getElem hlt]
      dsimp only
      rw [if_neg Bool.false_ne_true, hhash, ek]
      have hz : (merged kvs (more.take x)).length ≤ sizeLine := by
        have h1 := merged_length_le kvs (more.take x)
        rw [List.length_take] at h1
        omega
      refine wpAny_bind (wpAny_holding (put_ok hkey hd' hz fun h'' hd'' hs'' => ?_))
      have hoo'' : h''.get? o = some oo := (hs''.2 o (Ne.symm hdo)).trans hoo'
      refine wpAny_bind (wpAny_dictEpoch hoo'' hdo' ?_)
      rw [if_neg (by simp)]
      refine wpAny_pure ⟨h'', x + 1, rfl, hrest, hlt, ?_, hoo'', hs'.trans hs''⟩
      rw [merged_take_succ kvs more x more[x] (List.getElem?_eq_getElem hml), ← hval]
      exact hd''
    · rintro b s' ⟨h', i, rfl, hr, hi, hd', hoo', hs'⟩
      have hin : i = eso.size := by
        refine Nat.le_antisymm hi (Nat.le_of_not_lt fun z => ?_)
        rw [List.drop_eq_getElem_cons (by rw [List.length_range]; exact z)] at hr
        cases hr
      rw [hin, ← hlen, List.take_length] at hd'
      exact wpAny_pure (hQ h' hd' hs')
  · refine wpAny_bind (wpAny_dictEntries hoo hdo' (wpAny_bind (wpAny_of_eq (a := PUnit.unit) ?_ loop)))
    rw [← Array.forIn_toList]
    refine forIn_yield_id _ fun e he c => ?_
    obtain ⟨k, hkey, _⟩ := hko e (Array.mem_toList_iff.mp he)
    have := knd.byValue k _ hkey
    cases hek : e.key with
    | ref a =>
      rw [hek] at this
      cases this
    | _ => rfl
/-- {**m, k: v} -/
theorem star_ok {m tk tv : Sem Value} {Q : Value → Shared → Prop}
    (h : wpAny (model prog w) A m (fun mv s1 => ∃ o more, mv = .ref o ∧ s.heap.objs.size ≠ o ∧ (o == sysModules) = false ∧ more.length < sizeLine ∧ s1.heap.DictOf knd s.heap.objs.size [] ∧ s1.heap.DictOf knd o more ∧
      ∀ h', h'.DictOf knd s.heap.objs.size more → Heap.SameBut s.heap.objs.size s1.heap h' →
        wpAny (model prog w) A (subDict [(tk, tv)]) (fun b s2 => ∃ more2 k v, s.heap.objs.size ≠ b ∧ (b == sysModules) = false ∧ more2.length < sizeLine ∧ s2.heap.DictOf knd s.heap.objs.size more2 ∧ s2.heap.DictOf knd b [(k, v)] ∧
          ∀ h'', h''.DictOf knd s.heap.objs.size (stored more2 k v) → Heap.SameBut s.heap.objs.size s2.heap h'' → Q (.ref s.heap.objs.size) { s2 with heap := h'' }) E { s1 with heap := h' }) E
      { s with heap := s.heap.push { cls := .type "dict", data := .dict #[] } }) :
    wpAny (model prog w) A (dictDisplay [(none, m), (some tk, tv)]) Q E s := by
  unfold dictDisplay
  dsimp only
  refine wpAny_bind ?_
  rw [List.forIn_cons]
  dsimp only
  refine wpAny_bind (wpAny_bind ?_)
  rw [if_pos (show ([] : List (Sem Value × Sem Value)).isEmpty = true from rfl)]
  refine wpAny_pure ?_
  dsimp only
  refine wpAny_bind (wpAny_alloc ?_)
  refine wpAny_bind (wpAny_holding (wpAny_mono h (fun mv s1 h1 => ?_) fun _ _ e => e))
  obtain ⟨o, more, rfl, hdo, hoS, hz, hd, ho, q⟩ := h1
  have hn : (more.map (·.1)).Nodup := let ⟨_, _, _, _, _, _, _, _, hn⟩ := ho; hn
  refine wpAny_bind (wpAny_onRaise (wpAny_tryCatch (wpAny_onRaise (wpAny_holding (merge_ok hdo hoS hd ho (by rw [List.length_nil]; omega) fun h' hd' hs' => ?_)))))
  rw [merged_nil_of_nodup more hn] at hd'
  refine wpAny_pure ?_
  dsimp only
  rw [List.forIn_cons]
  dsimp only
  rw [if_neg (by simp)]
  refine wpAny_bind (wpAny_pure ?_)
  dsimp only
  rw [List.forIn_nil]
  refine wpAny_pure ?_
  dsimp only
  refine wpAny_bind ?_
  rw [if_neg (by simp)]
  refine wpAny_bind (wpAny_holding (wpAny_mono (q h' hd' hs') (fun b s2 h2 => ?_) fun _ _ e => e))
  obtain ⟨more2, k, v, hdb, hbS, hz2, hd2, hb2, q2⟩ := h2
  refine wpAny_bind (wpAny_onRaise (wpAny_holding (merge_ok hdb hbS hd2 hb2 (by rw [List.length_singleton]; omega) fun h'' hd'' hs'' => ?_)))
  refine wpAny_pure ?_
  dsimp only
  exact wpAny_pure (q2 h'' hd'' hs'')
end
section
open L2
variable {X : Cx} {pos : Pos}
/-- {**e, k: v}: a new dict, and one more for the pair -/
def tStar (te tk tv : TE) : TE := fun σ H Q => ∀ p, H p = none → te σ (upd H p (.dK [])) fun x H1 => ∃ (a : Addr) (kvs : List (Key × V)), x = .ref a ∧ a ≠ p ∧ H1 p = some (.dK []) ∧ Rd H1 a (.dK kvs) ∧ kvs.length < sizeLine ∧
  ∀ b, upd H1 p (.dK kvs) b = none → tk σ (upd (upd H1 p (.dK kvs)) b (.dK [])) fun y H2 => tv σ H2 fun z H3 => ∃ k z', [(y, z)] = [(kV k, z')] ∧ p ≠ b ∧ H3 p = some (.dK kvs) ∧ H3 b = some (.dK []) ∧ Q (.ref p) (upd (upd H3 b (.dK [(k, z')])) p (.dK (putK kvs k z')))
theorem pe_dstar {e k v : Expr} {te tk tv : TE} (he : PE X e te) (hk : PE X k tk) (hv : PE X v tv) : PE X (.Dict [none, some k] [e, v] pos) (tStar te tk tv) := by
  refine ⟨fun pins s σ H Q I q => ?_⟩
  rw [arm_eval_Dict]
  show wpAny _ _ (do standAt pos; dictDisplay [(none, do let x ← eval e X.env; standAt pos; pure x), (some (eval k X.env), do let x ← eval v X.env; standAt pos; pure x)]) _ _ _
  refine wpAny_bind (wpAny_standAt (star_ok (knd := mixKind X.prog X.w) ?_))
  have hn := I.hok.fresh (Nat.le_refl s.heap.objs.size)
  have I1 := I.laid (a := s.heap.objs.size) (o := .dK []) (h' := s.heap.push { cls := .type "dict", data := .dict #[] }) (t' := s.toks) (fun _ _ q => Heap.get?_push_of_some _ q) (Nat.le_refl _) (dk_empty s.heap I.big)
  refine wpAny_bind (thn (he.run pins _ σ _ _ I1 (q _ hn)) fun u s1 ⟨x, H1, I2, rx, a, kvs, ex, na, hp, hr, hz, q2⟩ => ?_)
  subst ex
  obtain rfl : u = .ref a := rx
  obtain ⟨z, lo, vs, rel, dd⟩ := dk_rd I2.hok hr
  obtain ⟨z0, lo0, vs0, r0, dd0⟩ := dk_of I2.hok hp
  cases r0
  have hl : vs.length < sizeLine := by rw [← rel.length]; exact hz
  refine wpAny_bind (wpAny_standAt (wpAny_pure ⟨a, vs, rfl, Ne.symm na, lo, hl, dd0, dd, fun h' d' hs => ?_⟩))
  have he0 : ∃ q, h'.get? s.heap.objs.size = some q := let ⟨q, _, _, hq, _⟩ := d'; ⟨q, hq⟩
  have I3 := d_write (t' := s1.toks) I2 (by rw [hp]; exact True.intro) hs he0 (dk_new z lo0 rel d')
  have I4 := I3.laid (a := h'.objs.size) (o := .dK []) (h' := h'.push { cls := .type "dict", data := .dict #[] }) (t' := s1.toks) (fun _ _ q => Heap.get?_push_of_some _ q) (Nat.le_refl _) (dk_empty h' I3.big)
  refine wpAny_subDict (knd := mixKind X.prog X.w) (Nat.le_of_ble_eq_true rfl) ?_
  refine thn ((pps_cons hk hv pps_nil).run pins _ σ _ (fun ps H3 => ∃ k z', ps = [(kV k, z')] ∧ s.heap.objs.size ≠ h'.objs.size ∧ H3 s.heap.objs.size = some (.dK kvs) ∧ H3 h'.objs.size = some (.dK []) ∧ Q (.ref s.heap.objs.size) (upd (upd H3 h'.objs.size (.dK [(k, z')])) s.heap.objs.size (.dK (putK kvs k z')))) I4 (q2 _ (I3.hok.fresh (Nat.le_refl _)))) fun ws s2 ⟨ps, H3, I5, rel2, k, z', eps, npb, hp3, hb3, q3⟩ => ?_
  subst eps
  obtain ⟨rs, c, rk⟩ := carries_of (P := X.prog) (w := X.w) (kvs := [(k, z')]) rel2
  obtain ⟨zb, hdb, vsb, rb, ddb⟩ := dk_of I5.hok hb3
  cases rb
  refine ⟨rs, c, ddb, fun h2 d2 hs2 => ?_⟩
  obtain ⟨zp, hdp, vsp, rp, ddp⟩ := dk_of I5.hok hp3
  cases rk with
  | @cons p1 q1 ps1 qs1 hpq t1 =>
    cases t1
    obtain ⟨kq, wq⟩ := q1
    obtain ⟨ek, rw'⟩ := hpq
    have ek : k = kq := ek
    subst ek
    have ddp2 : h2.DictOf (mixKind X.prog X.w) s.heap.objs.size vsp := ddp.sameBut hs2 npb
    have he2 : ∃ q, h2.get? h'.objs.size = some q := let ⟨q, _, _, hq, _⟩ := d2; ⟨q, hq⟩
    have I6 := d_write (t' := s2.toks + ws.length) I5 (by rw [hb3]; exact True.intro) hs2 he2 (dk_new (kvs := [(k, z')]) (vs := [(k, wq)]) (by rw [sizeLine_eq, List.length_singleton]; omega) hdb (.cons ⟨rfl, rw'⟩ .nil) d2)
    have hp6 : upd H3 h'.objs.size (.dK [(k, z')]) s.heap.objs.size = some (.dK kvs) := by
      rw [upd_ne npb]
      exact hp3
    refine ⟨vsp, k, wq, npb, hdb, by rw [← rp.length]; exact hz, ddp2, d2, fun h3 d3 hs3 => ⟨.ref s.heap.objs.size, _, ?_, rfl, q3⟩⟩
    have he3 : ∃ q, h3.get? s.heap.objs.size = some q := let ⟨q, _, _, hq, _⟩ := d3; ⟨q, hq⟩
    have hz3 : (putK kvs k z').length ≤ sizeLine := Nat.le_trans (length_putK _ _ _) hz
    exact d_write (t' := s2.toks + ws.length) I6 (by rw [hp6]; exact True.intro) hs3 he3 (dk_new hz3 hdp (rp.put k rw') d3)
end
end Inf

set_option Elab.async false
set_option linter.all false
set_option maxRecDepth 100000
set_option maxHeartbeats 4000000
namespace Inf
open PySem PySem.Spec PyProof.Rows L2
/-! ### next(iter(d), None) -/
section
variable {prog : Program} {w : World} {K : Type} [DecidableEq K] {knd : PySem.KeyKind prog w K} {A : Around} {E : Value → Shared → Prop} {s : Shared} {d it : Addr} {kvs : List (K × Value)} {ep : Nat} {v : Value}
theorem itr_ok {Q : Value → Shared → Prop} (lo : (d == sysModules) = false) (hm : s.heap.DictAt knd d kvs ep)
    (h : ∀ o, (s.heap.push o).IsKeyIter s.heap.objs.size d 0 kvs.length ep → Q (.ref s.heap.objs.size) { s with heap := s.heap.push o }) : wpAny (model prog w) A (call (.builtin "iter") [.ref d]) Q E s := by
  refine Calls.call_function_entry (by decide +kernel) (by decide +kernel) PySem.W.kdk_entry_iter (PySem.W.kdk_args_iter _) ?_
  unfold Builtin.«iter»
  refine wpAny_bind (m := someArgs "iter" 1 2 _) (wpAny_of_eq (a := [Value.ref d]) (by first | rfl | kernel_rfl!) ?_)
  show wpAny _ _ (pyIter (.ref d) >>= _) _ _ _
  refine wpAny_bind (wpAny_pyIter_dict lo hm ?_)
  exact wpAny_pure ⟨_, rfl, h _ ⟨_, Heap.get?_push_size _ rfl, rfl, rfl⟩⟩
theorem nxt_ok {Q : Value → Shared → Prop} (hh : A.handled = none) (hit : s.heap.IsKeyIter it d 0 kvs.length ep) (hm : s.heap.DictAt knd d kvs ep)
    (h : ∀ u h', (match kvs with | [] => u = v | kv :: _ => knd.is kv.1 u = true) → Heap.ExtBut it s.heap h' → Q u { s with heap := h' }) : wpAny (model prog w) A (call (.builtin "next") [.ref it, v]) Q E s := by
  refine Calls.call_function_entry (by decide +kernel) (by decide +kernel) PySem.W.kdk_entry_next (PySem.W.kdk_args_next2 _ _) ?_
  unfold Builtin.«next»
  refine wpAny_bind (m := someArgs "next" 1 2 _) (wpAny_of_eq (a := [Value.ref it, v]) (by first | rfl | kernel_rfl!) ?_)
  dsimp only
  refine wpAny_bind (wpAny_specialOf (name := Str.ofString "__next__") hit.typeIs PySem.F.slot_dict_keyiterator_next.lookup ?_)
  refine wpAny_ite_split (fun hab => absurd hab (by decide)) (fun _ => ?_)
  match kvs, hit, hm, h with
  | [], hit, hm, h => exact wpAny_bind (wpAny_pyNext_dict_end (A := A.in1) hh hit hm rfl fun h' k => wpAny_pure ⟨_, rfl, h _ _ rfl k⟩)
  | kv :: r, hit, hm, h => exact wpAny_bind (wpAny_pyNext_dict_item (k := kv.1) (v := kv.2) hit hm rfl fun key h' hk _ sb => wpAny_pure ⟨_, rfl, h _ _ hk sb.extBut⟩)
end
section
variable {X : Cx} {e : Expr} {te : TE}
def fstV (kvs : List (Key × V)) : V := match kvs with
  | [] => .non
  | kv :: _ => kV kv.1
/-- the first key of a dict, None without one -/
def tFirst (te : TE) : TE := fun σ H Q => te σ H fun x H1 => ∃ (a : Addr) (kvs : List (Key × V)), x = .ref a ∧ Rd H1 a (.dK kvs) ∧ Q (fstV kvs) H1
theorem key_rel {k : Key} {u : Value} (h : keyIs k u = true) : RelV (kV k) u := by
  rcases keyIs_shape h with ⟨i, t, ek, ev⟩ | ⟨z, t, ek, ev⟩
  · subst ek
    exact ⟨t, ev⟩
  · subst ek
    exact ⟨t, ev⟩
theorem pe_first {p p2 p3 pos pos2 : Pos} {j : Nat} (hc : X.calm = true) (hgi : Gl X "iter") (hmi : X.mg "iter" = none) (hgn : Gl X "next") (hmn : X.mg "next" = none) (he : PE X e te)
    (hs : starEach [e] X.env = (false, eval e X.env) :: starEach [] X.env := by rfl)
    (hs2 : ∀ a b : Expr, starEach [.Call a [e] [] pos2, b] X.env = (false, eval (.Call a [e] [] pos2) X.env) :: starEach [b] X.env := by intros; rfl) :
    PE X (.Call (.Name "next" p) [.Call (.Name "iter" p2) [e] [] pos2, .Constant .none j p3] [] pos) (tFirst te) := by
  refine ⟨fun pins s σ H Q I h => ?_⟩
  refine wpAny_Call_Name_kw (ld_blt (u := .builtin "next") I hgn hmn (by first | rfl | decide +kernel) ?_ (by decide) (by decide))
  refine PyProof.Rows.callWith_builtin1 ?_ (hs2 _ _) rfl
  rw [hs2]
  show wpAny _ _ (spliced ((false, eval (.Call (.Name "iter" p2) [e] [] pos2) X.env) :: [(false, eval (.Constant .none j p3) X.env)])) _ _ s
  refine Calls.spliced_cons ?_
  refine wpAny_Call_Name_kw (ld_blt (u := .builtin "iter") I hgi hmi (by first | rfl | decide +kernel) ?_ (by decide) (by decide))
  refine PyProof.Rows.callWith_builtin1 ?_ hs rfl
  rw [hs]
  show wpAny _ _ (spliced [(false, eval e X.env)]) _ _ s
  refine Calls.spliced_cons (thn (he.run pins s σ H _ I h) fun u s1 ⟨x, H1, I1, r1, a, kvs, ex, hr, q⟩ => Calls.spliced_nil ?_)
  subst ex
  obtain rfl : u = .ref a := r1
  obtain ⟨z, lo, vs, rel, dd⟩ := dk_rd I1.hok hr
  obtain ⟨ep, hat⟩ := dd.dictAt
  refine itr_ok lo hat fun o hit => ?_
  have hat2 : (s1.heap.push o).DictAt (mixKind X.prog X.w) a vs ep := let ⟨o', es, ho, r⟩ := hat; ⟨o', es, Heap.get?_push_of_some _ ho, r⟩
  refine Calls.spliced_cons (Constant_none (Calls.spliced_nil ?_))
  refine nxt_ok (I1.ok.hd hc) hit hat2 fun u h' hu k => ?_
  have I2 : L2.Inv X pins σ H1 { s1 with heap := h' } := I1.kept (t' := s1.toks) fun b w' e => k b w' (fun z => by
    rw [z] at e
    exact absurd (Heap.lt_size e) (Nat.lt_irrefl _)) (Heap.get?_push_of_some _ e)
  refine ⟨fstV kvs, H1, I2, ?_, q⟩
  cases rel with
  | nil => exact hu
  | @cons a1 b1 _ _ hh t =>
    show L2.RelV (kV a1.1) u
    rw [hh.1]
    exact key_rel hu
end
end Inf

set_option Elab.async false
set_option linter.all false
set_option maxRecDepth 100000
set_option maxHeartbeats 4000000
namespace Inf
open PySem PySem.Spec PyProof.Rows L2 NdefX LamX
/-! ### o.m(..) while the def's cells are told -/
def tMethT (X : Cx) (C : Addr) (m : Str) (sp : Sp) (dvs : List V) (ta : TE) (t : TA) : TE := fun σ H Q => ta σ H fun x H1 => ∃ a dx fs, x = .ref a ∧ H1 a = some (.ins C dx fs) ∧ fs.lookup m = none ∧
  t σ H1 fun vs H2 => ∀ cs HT, Tel X.env.cells X.env.scope.names X.N σ H2 cs HT → sp (x :: (vs ++ dvs)) HT (fun v H3 => (∀ b, b ∈ cs → H3 b = HT b) ∧ Q v (cut cs H3)) E0
section
variable {X : Cx} {k : Nat} {C f : Addr} {m : Str} {fd : FuncData} {ps : List Str} {ds : List Value} {dvs : List V} {sp : Sp} {o e : Expr} {es : List Expr} {ta : TE} {t : TA} {apos pos : Pos} {pl : Sem Bool}
theorem pe_methT (hfn : ∀ x, X.fn x = true) (he : PE X o ta) (c : Cls X.K C) (hm : Meth X.K C m f) (F : FnOk X.prog X.w X.K X.mg X.base CX0 k f fd ps sp) (hr : Room k X.A) (hb : Binds X.K fd ps ds) (hd : Vals dvs ds) (ha : PA X (e :: es) t)
    (hst : starEach (e :: es) X.env = (false, eval e X.env) :: starEach es X.env := by rfl) (hpl : (backTo pos (starEach es X.env)).any (·.1) = false := by rfl)
    (ht : eval (.Call (.Attribute o m apos) (e :: es) [] pos) X.env = (do
      let ov ← eval o X.env
      standAt apos.atName
      let (f, first) ← holding [ov] (getMethod ov m pl)
      callWith pos f first (backTo pos (starEach (e :: es) X.env)) (backToKw pos (keywordEach [] X.env))) := by rfl) :
    PE X (.Call (.Attribute o m apos) (e :: es) [] pos) (tMethT X C m sp dvs ta t) := by
  refine ⟨fun pins s σ H Q I h => ?_⟩
  refine PySem.W.methodCall_KW (pl := pl) (thn (he.run pins s σ H _ I h) fun u s1 ⟨x, H1, I1, rx, a, dx, fs, ex, ea, l, q⟩ => ?_) ht
  subst ex
  obtain rfl : u = Value.ref a := rx
  refine getmeth_ok I1 ea c hm l ?_
  refine PySem.W.callWith_K (first := [.ref a]) (h₀ := X.base) I.ok.mod.kin hm.kp (thn (ha.run pos pins s1 σ H1 _ I1 q) fun us s2 ⟨vs, H2, I2, r, q2⟩ => ⟨I2.kIn, ?_⟩) hst hpl
  exact tel_run (us := .ref a :: us) (vs := .ref a :: vs) F hr hb hd hfn I2 (.cons rfl r) q2
theorem pe_methT0 (hfn : ∀ x, X.fn x = true) (he : PE X o ta) (c : Cls X.K C) (hm : Meth X.K C m f) (F : FnOk X.prog X.w X.K X.mg X.base CX0 k f fd ps sp) (hr : Room k X.A) (hb : Binds X.K fd ps ds) (hd : Vals dvs ds)
    (ht : eval (.Call (.Attribute o m apos) [] [] pos) X.env = (do
      let ov ← eval o X.env
      standAt apos.atName
      let (f, first) ← holding [ov] (getMethod ov m pl)
      callWith pos f first (backTo pos (starEach [] X.env)) (backToKw pos (keywordEach [] X.env))) := by rfl) :
    PE X (.Call (.Attribute o m apos) [] [] pos) (tMethT X C m sp dvs ta tNil) := by
  refine ⟨fun pins s σ H Q I h => ?_⟩
  refine PySem.W.methodCall_KW (pl := pl) (thn (he.run pins s σ H _ I h) fun u s1 ⟨x, H1, I1, rx, a, dx, fs, ex, ea, l, q⟩ => ?_) ht
  subst ex
  obtain rfl : u = Value.ref a := rx
  refine getmeth_ok I1 ea c hm l ?_
  exact PySem.W.callWith_K0 (first := [.ref a]) I1.kIn hm.kp (tel_run (us := [.ref a]) (vs := [.ref a]) F hr hb hd hfn I1 (.cons rfl .nil) q)
end
end Inf

set_option Elab.async false
set_option linter.all false
set_option maxRecDepth 100000
set_option maxHeartbeats 4000000
namespace Inf
open PySem PySem.Spec PyProof.Rows L2
/-! ### d.setdefault(t, x), t a tuple of ints and texts -/
def rSetT : V → List V → Hp → VK → Prop := fun x xs H Q => ∃ (a : Addr) (kvs : List (List L2.Key × V)) (k : List L2.Key) (b : Addr) (d : V), x = .ref a ∧ xs = [.ref b, d] ∧ H a = some (.dT kvs) ∧ H b = some (.tup (k.map kV)) ∧ kvs.length < sizeLine ∧
  (∀ v, valV kvs k = some v → Q v H) ∧ (valV kvs k = none → Q d (upd H a (.dT (putK kvs k d))))
theorem relO_some {o : Option V} {u : Value} (r : RelO o (some u)) : ∃ v, o = some v ∧ RelV v u := by
  cases o with
  | none => exact (show False from r).elim
  | some v => exact ⟨v, rfl, r⟩
theorem relO_none {o : Option V} (r : RelO o none) : o = none := by
  cases o with
  | none => rfl
  | some v => exact (show False from r).elim
theorem mt_setT {X : Cx} (hu : X.A.units + 1 < cLine) : MtR X "dict.setdefault" rSetT := by
  intro pins s σ H x xs v us Q I rx rxs h
  obtain ⟨a, kvs, k, b, d, rfl, rfl, ha, hb, hl, q1, q2⟩ := h
  cases rx
  obtain ⟨u1, u2, rfl, r1, r2⟩ := vals2 rxs
  cases r1
  obtain ⟨z, hd, xs', rel, dd⟩ := dt_of I.hok ha
  have hz : xs'.length ≤ sizeLine := by rw [← Paired.length rel]; exact z
  have hl2 : (putK kvs k d).length ≤ sizeLine := by
    have := length_putK kvs k d
    omega
  have rv := rel.val k
  refine call_setdefault_heap (hsz := hz) (tupleKind_room_in1 hu) (key_of I.hok hb) hd dd (fun p hp => ?_) fun hn h' dd' hs => ?_
  · rw [hp] at rv
    obtain ⟨v0, ev, r0⟩ := relO_some rv
    show EP X pins σ Q p.2 _
    exact ⟨v0, H, I.tok _, r0, q1 v0 ev⟩
  · rw [hn] at rv
    obtain ⟨o, es, ep, hq, h2, h3, h4, _, h5⟩ := dd'
    show EP X pins σ Q u2 _
    refine ⟨d, _, d_write (ob := .dT (putK kvs k d)) I (by rw [ha]; exact True.intro) hs ⟨o, hq⟩ ⟨hl2, hd, _, (rel.put k hb r2).keeps (fun c ys ec => ?_), o, es, ep, hq, h2, h3, h4, h5⟩, r2, q2 (relO_none rv)⟩
    rw [upd_ne (ne_of ec ha (fun z => nomatch z))]
    exact ec
end Inf

set_option Elab.async false
set_option linter.all false
set_option maxRecDepth 100000
set_option maxHeartbeats 4000000
namespace Inf
open PySem PySem.Spec PyProof.Rows L2
/-! ### f(), f a local name that holds a function -/
def tActZ (P : Program) (w : World) (K : PySem.W.Frag) (mg : Str → Option Value) (base : Heap) (CX : CXT) (k i : Nat) (E : L2.St → XK) : TE := fun σ H Q => ∃ f o sp, σ[i]? = some (some (.ref f)) ∧ H f = some o ∧ FnHO f o ∧ FnR P w K mg base CX k f sp ∧ sp [] H Q (E σ)
theorem pe_actZ {X : Cx} {CX : CXT} {k i : Nat} {E : L2.St → XK} {x : Str} {p pos : Pos} (hN : X.N[i]? = some x) (hv : Vis X.env.scope x) (hr : Room k X.A) (hx : ∀ σ, PassesAt CX X σ (E σ)) (hd : (x == ("__debug__" : Str)) = false := by decide) (hcd : (x == ("__classdict__" : Str)) = false := by decide) :
    PE X (.Call (.Name x p) [] [] pos) (tActZ X.prog X.w X.K X.mg X.base CX k i E) := by
  refine ⟨fun pins s σ H Q I h => ?_⟩
  obtain ⟨f, o, sp, hs, hf, ho, hF, q⟩ := h
  refine wpAny_Call_Name_kw (thn ((pe_var (pos := p) hN hv hd hcd).run pins s σ H (fun v H1 => v = .ref f ∧ H1 = H) I ⟨.ref f, hs, rfl, rfl⟩) fun u s1 ⟨v, H1, I1, r1, ev, eH⟩ => ?_)
  subst ev
  rw [eH] at I1
  obtain rfl : u = Value.ref f := r1
  refine PySem.W.callWith_of (P := PySem.W.FnAt f) (by rfl) PySem.W.keeps_F (PyProof.Rows.evalArgs_empty ?_)
  exact ⟨ho _ _ _ _ I1.hok hf, run_fnE hF hr (hx σ) I1 .nil q⟩
end Inf

set_option Elab.async false
set_option linter.all false
set_option maxRecDepth 100000
set_option maxHeartbeats 4000000
namespace Inf
open PySem PySem.Spec PyProof.Rows L2 NdefX LamX
/-! ### a call by names alone while the def's cells are told -/
section
variable {X : Cx} {pins : List (Addr × Obj)} {σ : L2.St} {H : Hp} {s : Shared}
theorem tel_runN {k n : Nat} {f : Addr} {fd : FuncData} {ps ks : List Str} {g : List Value → List Value → List Value} {gV : List V → List V → List V} {sp : Sp} {Q : VK} {us ws : List Value} {vs zs : List V} (F : FnOk X.prog X.w X.K X.mg X.base CX0 k f fd ps sp) (hr : Room k X.A) (hb : KBn X.K fd ps n ks g gV) (hfn : ∀ x, X.fn x = true)
    (I : Inv X pins σ H s) (r : Vals vs us) (rz : Vals zs ws) (l1 : vs.length = n) (l2 : zs.length = ks.length) (h : ∀ cs HT, Tel X.env.cells X.env.scope.names X.N σ H cs HT → sp (gV vs zs) HT (fun v H1 => (∀ b, b ∈ cs → H1 b = HT b) ∧ Q v (cut cs H1)) E0) : wpAny (model X.prog X.w) X.A (call (.ref f) us (ks.zip ws)) (EP X pins σ Q) X.xe s := by
  let cs := frCells X.env.cells
  let HT : Hp := fun b => if b ∈ cs then (match s.heap.get? b with | some o => some (.ext fun h => h.get? b = some o) | Option.none => Option.none) else H b
  have big : ∀ b, b ∈ cs → X.s_0.heap.objs.size ≤ b := fun b hb => by
    obtain ⟨x, e⟩ := mem_frCells hb
    exact I.ok.cab x b (hfn x) e
  have no : ∀ b, b ∈ cs → H b = Option.none := fun b hb => by
    obtain ⟨x, e⟩ := mem_frCells hb
    exact I.freeC x b e
  have inT : ∀ b, b ∈ cs → ∃ v o, s.heap.get? b = some o ∧ o.data = .cell v ∧ HT b = some (.ext fun h => h.get? b = some o) := fun b hb => by
    obtain ⟨x, e⟩ := mem_frCells hb
    obtain ⟨v, o, e1, e2⟩ := I.cell x b e
    refine ⟨v, o, e1, e2, ?_⟩
    show (if b ∈ cs then _ else _) = _
    rw [if_pos hb, e1]
  have outT : ∀ b, b ∉ cs → HT b = H b := fun b hb => if_neg hb
  have nonT : ∀ b, b ∉ cs → H b = Option.none → HT b = Option.none := fun b hb e => (outT b hb).trans e
  have T : Tel X.env.cells X.env.scope.names X.N σ H cs HT := by
    refine ⟨no, fun b hb => ?_, outT, I.ok.inj, fun y h => I.ok.has _ (.inl h), fun i y c v h1 h2 h3 h4 => ?_⟩
    · obtain ⟨v, o, _, _, e⟩ := inT b hb
      exact ⟨_, e⟩
    · obtain ⟨v', o, e1, e2, e3⟩ := inT c (frCells_mem h3)
      obtain ⟨m, hn, hl⟩ := I.loc
      obtain ⟨u, ru, lk⟩ := hl i y v h1 h4 (.inr (.inl h2))
      refine ⟨_, e3, fun h hh => ⟨u, ru, o, hh, ?_⟩⟩
      rcases lk with ⟨z, _⟩ | ⟨_, c', hc', hcell⟩
      · have z' : X.env.scope.names.lookup y = some .local := z
        rw [h2] at z'
        cases z'
      · rw [h3] at hc'
        cases hc'
        obtain ⟨o', g1, g2⟩ := hcell
        rw [e1] at g1
        cases g1
        exact g2
  have ncs : ∀ b, b < X.s_0.heap.objs.size → b ∉ cs := fun b l m => Nat.not_lt.mpr (big b m) l
  have e0 := I.env0
  have notfr : ∀ b, b ∈ frs X.stack → b ∉ cs := fun b hb m => by
    rcases List.mem_cons.mp (I.stkSub b hb) with e | hb'
    · obtain ⟨x, ex⟩ := mem_frCells m
      exact I.cne x b ex e
    · obtain ⟨_, o, ho, _⟩ := I.ok.funs.mem hb'
      exact ncs b (Heap.lt_size ho) m
  have nonext : ∀ {b : Addr} {o : HO}, H b = some o → b ∉ cs := fun e m => by
    rw [no _ m] at e
    cases e
  have e1 : Env0 X.prog X.w X.K X.mg X.base X.A X.stack s HT := by
    refine ⟨e0.frames, e0.mod, fun b o q => ⟨(e0.bs b o q).1, nonT b (ncs b (Nat.lt_of_lt_of_le (Heap.lt_size q) I.ok.bsz)) (e0.bs b o q).2⟩, e0.bsz, e0.funs, fun b hb => nonT b (notfr b hb) (e0.frf b hb), fun b o e => ?_, e0.bare⟩
    by_cases hb : b ∈ cs
    · obtain ⟨v, o', g1, g2, g3⟩ := inT b hb
      rw [g3] at e
      cases e
      exact ⟨g1, ⟨o', g1⟩, fun h1 h2 z k => k _ z⟩
    · rw [outT b hb] at e
      refine (e0.hok b o e).stay (fun c u _ q => q) (fun c q => ?_) fun c xs q => ?_
      · rw [outT c (nonext q)]
        exact q
      · rw [outT c (nonext q)]
        exact q
  have hq0 := h cs HT T
  have r2 := hb.rel r rz
  refine wpAny_call (codeAny_mono (F.run X.A X.stack s HT ⟨us, ks.zip ws⟩ (g us ws) (gV vs zs) _ E0 hr e1 (hb.to s us ws I.kIn (r.length.symm.trans l1) (rz.length.symm.trans l2)) r2 hq0) fun r s' hq => ?_)
  cases r with
  | error e => exact False.elim hq
  | ok fl =>
    cases fl with
    | next => exact False.elim hq
    | brk => exact False.elim hq
    | cont => exact False.elim hq
    | ret u =>
      obtain ⟨v, H1, os, bare, un, hok1, rv, kc, q⟩ := hq
      have notin : ∀ {b : Addr} {o : HO}, H1 b = some o → (∀ φ, o ≠ .ext φ) → b ∉ cs := fun {b o} e n m => by
        obtain ⟨v, o', _, _, g3⟩ := inT b m
        rw [kc b m, g3] at e
        exact n _ (Option.some.inj e).symm
      have keepC : ∀ b o, b ∈ cs → s.heap.get? b = some o → s'.heap.get? b = some o := fun b o m e => by
        obtain ⟨v, o', g1, _, g3⟩ := inT b m
        rw [g1] at e
        cases e
        have := hok1 b _ ((kc b m).trans g3)
        exact this.1
      refine I.after ⟨v, cut cs H1, os, bare, ⟨fun b o a n h1 h2 => ?_, fun b o a n h1 h2 => ?_, fun b o a n h2 => ?_, un.there, fun b xs e => ?_, fun b o u e => ?_, fun b ps e => ?_⟩, fun b o e => ?_, rv, q⟩
      · by_cases m : b ∈ cs
        · exact keepC b o m a
        · exact un.keep b o a (nonT b m n) h1 h2
      · exact un.slot b o a (nonT b (notfr b h1) n) h1 h2
      · by_cases m : b ∈ cs
        · exact cut_in m
        · rw [cut_out m]
          exact un.free b o a (nonT b m n) h2
      · have m := nonext e
        rw [cut_out m]
        exact un.tups b xs ((outT b m).trans e)
      · have m := nonext e
        rw [cut_out m]
        exact un.frzs b o u ((outT b m).trans e)
      · have m := nonext e
        rw [cut_out m]
        exact un.tbls b ps ((outT b m).trans e)
      · by_cases m : b ∈ cs
        · rw [cut_in m] at e
          cases e
        · rw [cut_out m] at e
          refine (hok1 b o e).stay (fun c u _ q => q) (fun c q => ?_) fun c xs q => ?_
          · rw [cut_out (notin q (fun φ z => nomatch z))]
            exact q
          · rw [cut_out (notin q (fun φ z => nomatch z))]
            exact q
end
def tCallKT (X : Cx) (m : Nat) (sp : Sp) (gV : List V → List V → List V) (tk : TA) : TE := fun σ H Q => tk σ H fun zs H1 => zs.length = m ∧ ∀ cs HT, Tel X.env.cells X.env.scope.names X.N σ H1 cs HT → sp (gV [] zs) HT (fun v H2 => (∀ b, b ∈ cs → H2 b = HT b) ∧ Q v (cut cs H2)) E0
theorem pe_kwT {X : Cx} {k : Nat} {f : Addr} {fd : FuncData} {ps ks : List Str} {g : List Value → List Value → List Value} {gV : List V → List V → List V} {sp : Sp} {x : Str} {p pos : Pos} {kws : List Keyword} {tk : TA} (hfn : ∀ x, X.fn x = true) (F : FnOk X.prog X.w X.K X.mg X.base CX0 k f fd ps sp) (hr : Room k X.A) (hg : Gl X x) (hm : X.mg x = some (.ref f))
    (hk : PySem.W.keepIn X.K (.ref f) = true) (hb : KBn X.K fd ps 0 ks g gV) (hkw : PK X kws tk)
    (hall : (backToKw pos (keywordEach kws X.env)).all (·.1.isSome) = true := by rfl)
    (hks : (backToKw pos (keywordEach kws X.env)).filterMap (·.1) = ks := by rfl) (hdb : (x == ("__debug__" : Str)) = false := by decide)
    (hpl : ((backTo pos (starEach [] X.env)).any (·.1) || (backToKw pos (keywordEach kws X.env)).any (·.1.isNone)) = false := by rfl) :
    PE X (.Call (.Name x p) [] kws pos) (tCallKT X ks.length sp gV tk) :=
  ⟨fun pins s σ H Q I h => wpAny_Call_Name_kw (ld_glob I hg hm (PySem.W.callWith_KW0 (h₀ := X.base) I.ok.mod.kin hk hall
    (thn (hkw.run pos pins s σ H _ I h) fun ws s2 ⟨zs, H2, I2, rz, l1, q2⟩ => ⟨I2.kIn, by rw [hks]; exact tel_runN (us := []) (vs := []) F hr hb hfn I2 .nil rz rfl l1 q2⟩) hpl) hdb)⟩
end Inf


set_option Elab.async false
set_option linter.all false
set_option maxRecDepth 100000
set_option maxHeartbeats 4000000
namespace Ob
open PySem PySem.Spec PyProof.Rows L2
/-! ### a def whose code object is named: it makes functions -/
structure FunT (K : PySem.W.Frag) (x qual : Str) (st : Stmt) (f : Addr) (fd : FuncData) (c : Addr) : Prop where
  ex : ∃ (oc : Value) (od : Option Addr) (kV doc pm : Value) (an : Option Addr) (ct : Value) (osl : Array (Option Value)),
    fd = PySem.W.fnOf x qual (defArgs st) (defBody st) (defScope st) .none kV doc pm an (.ref c) ct ∧ K.lookup f = some ⟨oc, od, .func fd, osl⟩ ∧ PySem.W.codeIn K (.ref c) qual = true
  kp : PySem.W.keepIn K (.ref f) = true
theorem FunT.ok {P : Program} {w : World} {K : PySem.W.Frag} {mg : Str → Option Value} {base : Heap} {x qual : Str} {st : Stmt} {f c : Addr} {fd : FuncData} {CX : CXT} {N ps : List Str} {k : Nat} {sp : Sp} (F : FunT K x qual st f fd c) (S : FnScope N ps (defScope st)) (len : ∀ vs H Q E, sp vs H Q E → vs.length = ps.length)
    (hbody : ∀ (A : Around) (outer : List Env) (s : Shared) (H : Hp) (vs : List V) (Q : VK) (E : XK), Room k (A.deeper (envOfC qual (defScope st) s.heap.objs.size f (.ref c))) → sp vs H Q E →
      ∃ t, PSs (cxOf CX P w K mg base N qual (defScope st) f (.ref c) A outer s H E) (defBody st) t ∧ t { nx := fun _ H' => Q .non H', rt := Q } (L2.start N vs) H) : FnOk P w K mg base CX (k + 1) f fd ps sp := by
  obtain ⟨oc, od, kV, doc, pm, an, ct, osl, rfl, lk, hcd⟩ := F.ex
  exact fn_of lk hcd S len fun A outer s H vs Q E hr hsp => hbody A outer s H vs Q E hr hsp
theorem FunT.okC {P : Program} {w : World} {K : PySem.W.Frag} {mg : Str → Option Value} {base : Heap} {x qual : Str} {st : Stmt} {f c : Addr} {fd : FuncData} {N ps : List Str} {k : Nat} {sp : Sp} (F : FunT K x qual st f fd c) (S : FnScope N ps (defScope st)) (len : ∀ vs H Q E, sp vs H Q E → vs.length = ps.length)
    (hbody : ∀ (A : Around) (outer : List Env) (s : Shared) (H : Hp) (vs : List V) (Q : VK) (E : XK), Room k (A.deeper (envOfC qual (defScope st) s.heap.objs.size f (.ref c))) → sp vs H Q E →
      ∃ t, Inf.PSsR (cxOf CX0 P w K mg base N qual (defScope st) f (.ref c) A outer s H E).nox (defBody st) t ∧
        t (fun σ v H' => ∀ H'', Inf.Fin (envOfC qual (defScope st) s.heap.objs.size f (.ref c)).cells (defScope st).names N σ H' H'' → Q v H'') (L2.start N vs) H) : FnOk P w K mg base CX0 (k + 1) f fd ps sp := by
  obtain ⟨oc, od, kV, doc, pm, an, ct, osl, rfl, lk, hcd⟩ := F.ex
  exact Inf.okC_of lk hcd S len hbody
theorem all_cons {α : Type} {P : α → Prop} {a : α} {l : List α} (h : P a) (t : ∀ x ∈ l, P x) : ∀ x ∈ a :: l, P x := fun x m => (List.mem_cons.mp m).elim (fun e => by rw [e]; exact h) (t x)

/-! ### the text -/
def topS (i : Nat) : Stmt := PySem.Challenge.pw_oncebuilt_k71_answers_of_histories.main.body.getD i (.Pass ⟨0, 0, 0, 0⟩)
abbrev s_plan_pushes : Stmt := topS 5
abbrev n_plan_pushes : List Str := ["numbers", "number"]
theorem sc_plan_pushes : FnScope n_plan_pushes ["numbers"] (defScope s_plan_pushes) := ⟨rfl, rfl, rfl, by decide +kernel, rfl, by decide +kernel, by decide +kernel⟩
abbrev s_plan_pops : Stmt := topS 6
abbrev n_plan_pops : List Str := ["numbers", "number"]
theorem sc_plan_pops : FnScope n_plan_pops ["numbers"] (defScope s_plan_pops) := ⟨rfl, rfl, rfl, by decide +kernel, rfl, by decide +kernel, by decide +kernel⟩
abbrev s_pieces : Stmt := topS 9
abbrev n_pieces : List Str := ["begin", "end", "found", "first", "size"]
theorem sc_pieces : FnScope n_pieces ["begin", "end"] (defScope s_pieces) := ⟨rfl, rfl, rfl, by decide +kernel, rfl, by decide +kernel, by decide +kernel⟩
abbrev s_piece_size : Stmt := topS 10
abbrev n_piece_size : List Str := ["first", "room", "fitting"]
theorem sc_piece_size : FnScope n_piece_size ["first", "room"] (defScope s_piece_size) := ⟨rfl, rfl, rfl, by decide +kernel, rfl, by decide +kernel, by decide +kernel⟩
abbrev s_lowest_power : Stmt := topS 11
abbrev n_lowest_power : List Str := ["number"]
theorem sc_lowest_power : FnScope n_lowest_power ["number"] (defScope s_lowest_power) := ⟨rfl, rfl, rfl, by decide +kernel, rfl, by decide +kernel, by decide +kernel⟩
abbrev s_greatest_power : Stmt := topS 12
abbrev n_greatest_power : List Str := ["number"]
theorem sc_greatest_power : FnScope n_greatest_power ["number"] (defScope s_greatest_power) := ⟨rfl, rfl, rfl, by decide +kernel, rfl, by decide +kernel, by decide +kernel⟩
abbrev s_is_integer : Stmt := topS 13
abbrev n_is_integer : List Str := ["value"]
theorem sc_is_integer : FnScope n_is_integer ["value"] (defScope s_is_integer) := ⟨rfl, rfl, rfl, by decide +kernel, rfl, by decide +kernel, by decide +kernel⟩
abbrev s_check_integer : Stmt := topS 14
abbrev n_check_integer : List Str := ["value"]
theorem sc_check_integer : FnScope n_check_integer ["value"] (defScope s_check_integer) := ⟨rfl, rfl, rfl, by decide +kernel, rfl, by decide +kernel, by decide +kernel⟩
abbrev s_check_number : Stmt := topS 15
abbrev n_check_number : List Str := ["value"]
theorem sc_check_number : FnScope n_check_number ["value"] (defScope s_check_number) := ⟨rfl, rfl, rfl, by decide +kernel, rfl, by decide +kernel, by decide +kernel⟩
abbrev s_answers : Stmt := topS 18
abbrev n_answers : List Str := ["push", "pop", "ask", "history", "entries", "passed", "found", "action", "index", "entry"]
theorem sc_answers : FnScope n_answers ["push", "pop", "ask", "history"] (defScope s_answers) := ⟨rfl, rfl, rfl, by decide +kernel, rfl, by decide +kernel, by decide +kernel⟩
abbrev s_plan_answers : Stmt := topS 19
abbrev n_plan_answers : List Str := ["history", "ends", "asked", "entries", "entry"]
theorem sc_plan_answers : FnScope n_plan_answers ["history"] (defScope s_plan_answers) := ⟨rfl, rfl, rfl, by decide +kernel, rfl, by decide +kernel, by decide +kernel⟩
abbrev s_present_ends : Stmt := topS 20
abbrev n_present_ends : List Str := ["history", "ends", "present", "at", "entry", "index"]
theorem sc_present_ends : FnScope n_present_ends ["history"] (defScope s_present_ends) := ⟨rfl, rfl, rfl, by decide +kernel, rfl, by decide +kernel, by decide +kernel⟩
abbrev s_is_entry : Stmt := topS 21
abbrev n_is_entry : List Str := ["entry", "present", "word", "passed"]
theorem sc_is_entry : FnScope n_is_entry ["entry", "present"] (defScope s_is_entry) := ⟨rfl, rfl, rfl, by decide +kernel, rfl, by decide +kernel, by decide +kernel⟩
abbrev s_members_by_nodes : Stmt := topS 22
abbrev n_members_by_nodes : List Str := ["ends", "nodes", "index", "end", "piece"]
theorem sc_members_by_nodes : FnScope n_members_by_nodes ["ends"] (defScope s_members_by_nodes) := ⟨rfl, rfl, rfl, by decide +kernel, rfl, by decide +kernel, by decide +kernel⟩
abbrev s_walk_size : Stmt := topS 23
abbrev n_walk_size : List Str := ["length", "size"]
theorem sc_walk_size : FnScope n_walk_size ["length"] (defScope s_walk_size) := ⟨rfl, rfl, rfl, by decide +kernel, rfl, by decide +kernel, by decide +kernel⟩
abbrev s_visit : Stmt := topS 24
abbrev n_visit : List Str := ["entries", "nodes", "asked", "first", "size", "inserted", "half"]
theorem sc_visit : FnScope n_visit ["entries", "nodes", "asked", "first", "size"] (defScope s_visit) := ⟨rfl, rfl, rfl, by decide +kernel, rfl, by decide +kernel, by decide +kernel⟩
abbrev s_Unions_init : Stmt := inClass (topS 26) 0
abbrev n_Unions_init : List Str := ["self", "many"]
theorem sc_Unions_init : FnScope n_Unions_init ["self", "many"] (defScope s_Unions_init) := ⟨rfl, rfl, rfl, by decide +kernel, rfl, by decide +kernel, by decide +kernel⟩
abbrev s_Unions_push : Stmt := inClass (topS 26) 1
abbrev n_Unions_push : List Str := ["self", "pair", "upper", "lower"]
theorem sc_Unions_push : FnScope n_Unions_push ["self", "pair"] (defScope s_Unions_push) := ⟨rfl, rfl, rfl, by decide +kernel, rfl, by decide +kernel, by decide +kernel⟩
abbrev s_Unions_pop : Stmt := inClass (topS 26) 2
abbrev n_Unions_pop : List Str := ["self", "lower", "upper"]
theorem sc_Unions_pop : FnScope n_Unions_pop ["self"] (defScope s_Unions_pop) := ⟨rfl, rfl, rfl, by decide +kernel, rfl, by decide +kernel, by decide +kernel⟩
abbrev s_Unions_ask : Stmt := inClass (topS 26) 3
abbrev n_Unions_ask : List Str := ["self", "question"]
theorem sc_Unions_ask : FnScope n_Unions_ask ["self", "question"] (defScope s_Unions_ask) := ⟨rfl, rfl, rfl, by decide +kernel, rfl, by decide +kernel, by decide +kernel⟩
abbrev s_Unions_root_of : Stmt := inClass (topS 26) 4
abbrev n_Unions_root_of : List Str := ["self", "point", "root"]
theorem sc_Unions_root_of : FnScope n_Unions_root_of ["self", "point"] (defScope s_Unions_root_of) := ⟨rfl, rfl, rfl, by decide +kernel, rfl, by decide +kernel, by decide +kernel⟩
abbrev s_Unions_count_of : Stmt := inClass (topS 26) 5
abbrev n_Unions_count_of : List Str := ["self", "root"]
theorem sc_Unions_count_of : FnScope n_Unions_count_of ["self", "root"] (defScope s_Unions_count_of) := ⟨rfl, rfl, rfl, by decide +kernel, rfl, by decide +kernel, by decide +kernel⟩
abbrev s_l_bag : Stmt := topS 28
abbrev n_l_bag : List Str := ["_law_script", "_law_at", "_law_cell", "_law_great", "_law_primes"]
theorem sc_l_bag : FnScope n_l_bag ["_law_script", "_law_at"] (defScope s_l_bag) := ⟨rfl, rfl, rfl, by decide +kernel, rfl, by decide +kernel, by decide +kernel⟩
abbrev s_l_take : Stmt := topS 29
abbrev n_l_take : List Str := ["_law_bag_here", "_law_many", "_law_digit"]
theorem sc_l_take : FnScope n_l_take ["_law_bag_here", "_law_many"] (defScope s_l_take) := ⟨rfl, rfl, rfl, by decide +kernel, rfl, by decide +kernel, by decide +kernel⟩
abbrev s_l_history : Stmt := topS 30
abbrev n_l_history : List Str := ["_law_bag_here", "_law_most", "_law_wide", "_law_deeds", "_law_present_here", "_law_turn", "_law_road", "_law_word", "_law_points", "_law_k"]
theorem sc_l_history : FnScope n_l_history ["_law_bag_here", "_law_most", "_law_wide"] (defScope s_l_history) := ⟨rfl, rfl, rfl, by decide +kernel, rfl, by decide +kernel, by decide +kernel⟩
abbrev s_l_present : Stmt := topS 31
abbrev n_l_present : List Str := ["_law_deeds", "_law_index", "_law_found", "_law_at", "_law_entry"]
theorem sc_l_present : FnScope n_l_present ["_law_deeds", "_law_index"] (defScope s_l_present) := ⟨rfl, rfl, rfl, by decide +kernel, rfl, by decide +kernel, by decide +kernel⟩
abbrev s_l_component : Stmt := topS 32
abbrev n_l_component : List Str := ["_law_pairs", "_law_point", "_law_found", "_law_turn", "_law_one", "_law_other"]
theorem sc_l_component : FnScope n_l_component ["_law_pairs", "_law_point"] (defScope s_l_component) := ⟨rfl, rfl, rfl, by decide +kernel, rfl, by decide +kernel, by decide +kernel⟩
abbrev s_l_answer : Stmt := topS 33
abbrev n_l_answer : List Str := ["_law_pairs", "_law_wide", "_law_question", "_law_found", "_law_point"]
theorem sc_l_answer : FnScope n_l_answer ["_law_pairs", "_law_wide", "_law_question"] (defScope s_l_answer) := ⟨rfl, rfl, rfl, by decide +kernel, rfl, by decide +kernel, by decide +kernel⟩
abbrev s_l_told : Stmt := topS 34
abbrev n_l_told : List Str := ["_law_deeds", "_law_wide", "_law_unions"]
theorem sc_l_told : FnScope n_l_told ["_law_deeds", "_law_wide"] (defScope s_l_told) := ⟨rfl, rfl, rfl, by decide +kernel, rfl, by decide +kernel, by decide +kernel⟩
abbrev s_law : Stmt := topS 35
abbrev n_law : List Str := ["_law_script", "_law_at", "_law_bag_here", "_law_wide", "_law_deeds", "_law_due", "_law_index", "_law_entry", "_law_pairs", "_law_shown", "_law_unions", "_law_told_here", "_law_one"]
theorem sc_law : FnScope n_law ["_law_script"] (defScope s_law) := ⟨rfl, rfl, rfl, by decide +kernel, rfl, by decide +kernel, by decide +kernel⟩
structure Txt (K : PySem.W.Frag) (mg : Str → Option Value) where
  C_Unions : Addr
  gc_Unions : mg "Unions" = some (.ref C_Unions)
  f_Unions_init : Addr
  d_Unions_init : FuncData
  -- 
  F_Unions_init : Fun K "__init__" "Unions.__init__" s_Unions_init f_Unions_init d_Unions_init
  b_Unions_init : Binds K d_Unions_init ["self", "many"] []
  m_Unions_init : PySem.W.findIn K (.ref C_Unions) "__init__" = some (some (.ref f_Unions_init))
  t_Unions_init : PySem.W.isFn K (.ref f_Unions_init) = true
  y_Unions_init : PySem.W.typeIn K (.ref f_Unions_init) = some (.type "function")
  k_Unions_init : PySem.W.keepIn K (.ref f_Unions_init) = true
  f_Unions_push : Addr
  d_Unions_push : FuncData
  -- 
  F_Unions_push : Fun K "push" "Unions.push" s_Unions_push f_Unions_push d_Unions_push
  b_Unions_push : Binds K d_Unions_push ["self", "pair"] []
  m_Unions_push : PySem.W.findIn K (.ref C_Unions) "push" = some (some (.ref f_Unions_push))
  t_Unions_push : PySem.W.isFn K (.ref f_Unions_push) = true
  y_Unions_push : PySem.W.typeIn K (.ref f_Unions_push) = some (.type "function")
  k_Unions_push : PySem.W.keepIn K (.ref f_Unions_push) = true
  f_Unions_pop : Addr
  d_Unions_pop : FuncData
  -- 
  F_Unions_pop : Fun K "pop" "Unions.pop" s_Unions_pop f_Unions_pop d_Unions_pop
  b_Unions_pop : Binds K d_Unions_pop ["self"] []
  m_Unions_pop : PySem.W.findIn K (.ref C_Unions) "pop" = some (some (.ref f_Unions_pop))
  t_Unions_pop : PySem.W.isFn K (.ref f_Unions_pop) = true
  y_Unions_pop : PySem.W.typeIn K (.ref f_Unions_pop) = some (.type "function")
  k_Unions_pop : PySem.W.keepIn K (.ref f_Unions_pop) = true
  f_Unions_ask : Addr
  d_Unions_ask : FuncData
  -- 
  F_Unions_ask : Fun K "ask" "Unions.ask" s_Unions_ask f_Unions_ask d_Unions_ask
  b_Unions_ask : Binds K d_Unions_ask ["self", "question"] []
  m_Unions_ask : PySem.W.findIn K (.ref C_Unions) "ask" = some (some (.ref f_Unions_ask))
  t_Unions_ask : PySem.W.isFn K (.ref f_Unions_ask) = true
  y_Unions_ask : PySem.W.typeIn K (.ref f_Unions_ask) = some (.type "function")
  k_Unions_ask : PySem.W.keepIn K (.ref f_Unions_ask) = true
  f_Unions_root_of : Addr
  d_Unions_root_of : FuncData
  -- 
  F_Unions_root_of : Fun K "root_of" "Unions.root_of" s_Unions_root_of f_Unions_root_of d_Unions_root_of
  b_Unions_root_of : Binds K d_Unions_root_of ["self", "point"] []
  m_Unions_root_of : PySem.W.findIn K (.ref C_Unions) "root_of" = some (some (.ref f_Unions_root_of))
  t_Unions_root_of : PySem.W.isFn K (.ref f_Unions_root_of) = true
  y_Unions_root_of : PySem.W.typeIn K (.ref f_Unions_root_of) = some (.type "function")
  k_Unions_root_of : PySem.W.keepIn K (.ref f_Unions_root_of) = true
  f_Unions_count_of : Addr
  d_Unions_count_of : FuncData
  -- 
  F_Unions_count_of : Fun K "count_of" "Unions.count_of" s_Unions_count_of f_Unions_count_of d_Unions_count_of
  b_Unions_count_of : Binds K d_Unions_count_of ["self", "root"] []
  m_Unions_count_of : PySem.W.findIn K (.ref C_Unions) "count_of" = some (some (.ref f_Unions_count_of))
  t_Unions_count_of : PySem.W.isFn K (.ref f_Unions_count_of) = true
  y_Unions_count_of : PySem.W.typeIn K (.ref f_Unions_count_of) = some (.type "function")
  k_Unions_count_of : PySem.W.keepIn K (.ref f_Unions_count_of) = true
  f_plan_pushes : Addr
  d_plan_pushes : FuncData
  F_plan_pushes : Fun K "plan_pushes" "plan_pushes" s_plan_pushes f_plan_pushes d_plan_pushes
  b_plan_pushes : Binds K d_plan_pushes ["numbers"] []
  g_plan_pushes : mg "plan_pushes" = some (.ref f_plan_pushes)
  f_plan_pops : Addr
  d_plan_pops : FuncData
  F_plan_pops : Fun K "plan_pops" "plan_pops" s_plan_pops f_plan_pops d_plan_pops
  b_plan_pops : Binds K d_plan_pops ["numbers"] []
  g_plan_pops : mg "plan_pops" = some (.ref f_plan_pops)
  f_pieces : Addr
  d_pieces : FuncData
  F_pieces : Fun K "pieces" "pieces" s_pieces f_pieces d_pieces
  b_pieces : Binds K d_pieces ["begin", "end"] []
  g_pieces : mg "pieces" = some (.ref f_pieces)
  f_piece_size : Addr
  d_piece_size : FuncData
  F_piece_size : Fun K "piece_size" "piece_size" s_piece_size f_piece_size d_piece_size
  b_piece_size : Binds K d_piece_size ["first", "room"] []
  g_piece_size : mg "piece_size" = some (.ref f_piece_size)
  f_lowest_power : Addr
  d_lowest_power : FuncData
  F_lowest_power : Fun K "lowest_power" "lowest_power" s_lowest_power f_lowest_power d_lowest_power
  b_lowest_power : Binds K d_lowest_power ["number"] []
  g_lowest_power : mg "lowest_power" = some (.ref f_lowest_power)
  f_greatest_power : Addr
  d_greatest_power : FuncData
  F_greatest_power : Fun K "greatest_power" "greatest_power" s_greatest_power f_greatest_power d_greatest_power
  b_greatest_power : Binds K d_greatest_power ["number"] []
  g_greatest_power : mg "greatest_power" = some (.ref f_greatest_power)
  f_is_integer : Addr
  d_is_integer : FuncData
  F_is_integer : Fun K "is_integer" "is_integer" s_is_integer f_is_integer d_is_integer
  b_is_integer : Binds K d_is_integer ["value"] []
  g_is_integer : mg "is_integer" = some (.ref f_is_integer)
  f_check_integer : Addr
  d_check_integer : FuncData
  F_check_integer : Fun K "check_integer" "check_integer" s_check_integer f_check_integer d_check_integer
  b_check_integer : Binds K d_check_integer ["value"] []
  g_check_integer : mg "check_integer" = some (.ref f_check_integer)
  f_check_number : Addr
  d_check_number : FuncData
  F_check_number : Fun K "check_number" "check_number" s_check_number f_check_number d_check_number
  b_check_number : Binds K d_check_number ["value"] []
  g_check_number : mg "check_number" = some (.ref f_check_number)
  f_answers : Addr
  d_answers : FuncData
  F_answers : Fun K "answers" "answers" s_answers f_answers d_answers
  b_answers : Binds K d_answers ["push", "pop", "ask", "history"] []
  g_answers : mg "answers" = some (.ref f_answers)
  f_plan_answers : Addr
  d_plan_answers : FuncData
  F_plan_answers : Fun K "plan_answers" "plan_answers" s_plan_answers f_plan_answers d_plan_answers
  b_plan_answers : Binds K d_plan_answers ["history"] []
  g_plan_answers : mg "plan_answers" = some (.ref f_plan_answers)
  f_present_ends : Addr
  d_present_ends : FuncData
  F_present_ends : Fun K "present_ends" "present_ends" s_present_ends f_present_ends d_present_ends
  b_present_ends : Binds K d_present_ends ["history"] []
  g_present_ends : mg "present_ends" = some (.ref f_present_ends)
  f_is_entry : Addr
  d_is_entry : FuncData
  F_is_entry : Fun K "is_entry" "is_entry" s_is_entry f_is_entry d_is_entry
  b_is_entry : Binds K d_is_entry ["entry", "present"] []
  g_is_entry : mg "is_entry" = some (.ref f_is_entry)
  f_members_by_nodes : Addr
  d_members_by_nodes : FuncData
  F_members_by_nodes : Fun K "members_by_nodes" "members_by_nodes" s_members_by_nodes f_members_by_nodes d_members_by_nodes
  b_members_by_nodes : Binds K d_members_by_nodes ["ends"] []
  g_members_by_nodes : mg "members_by_nodes" = some (.ref f_members_by_nodes)
  f_walk_size : Addr
  d_walk_size : FuncData
  F_walk_size : Fun K "walk_size" "walk_size" s_walk_size f_walk_size d_walk_size
  b_walk_size : Binds K d_walk_size ["length"] []
  g_walk_size : mg "walk_size" = some (.ref f_walk_size)
  f_visit : Addr
  d_visit : FuncData
  F_visit : Fun K "visit" "visit" s_visit f_visit d_visit
  b_visit : Binds K d_visit ["entries", "nodes", "asked", "first", "size"] []
  g_visit : mg "visit" = some (.ref f_visit)
  f_l_bag : Addr
  d_l_bag : FuncData
  F_l_bag : Fun K "_law_bag" "_law_bag" s_l_bag f_l_bag d_l_bag
  b_l_bag : Binds K d_l_bag ["_law_script", "_law_at"] []
  g_l_bag : mg "_law_bag" = some (.ref f_l_bag)
  f_l_take : Addr
  d_l_take : FuncData
  F_l_take : Fun K "_law_take" "_law_take" s_l_take f_l_take d_l_take
  b_l_take : Binds K d_l_take ["_law_bag_here", "_law_many"] []
  g_l_take : mg "_law_take" = some (.ref f_l_take)
  f_l_history : Addr
  d_l_history : FuncData
  F_l_history : Fun K "_law_history" "_law_history" s_l_history f_l_history d_l_history
  b_l_history : Binds K d_l_history ["_law_bag_here", "_law_most", "_law_wide"] []
  g_l_history : mg "_law_history" = some (.ref f_l_history)
  f_l_present : Addr
  d_l_present : FuncData
  F_l_present : Fun K "_law_present" "_law_present" s_l_present f_l_present d_l_present
  b_l_present : Binds K d_l_present ["_law_deeds", "_law_index"] []
  g_l_present : mg "_law_present" = some (.ref f_l_present)
  f_l_component : Addr
  d_l_component : FuncData
  F_l_component : Fun K "_law_component" "_law_component" s_l_component f_l_component d_l_component
  b_l_component : Binds K d_l_component ["_law_pairs", "_law_point"] []
  g_l_component : mg "_law_component" = some (.ref f_l_component)
  f_l_answer : Addr
  d_l_answer : FuncData
  F_l_answer : Fun K "_law_answer" "_law_answer" s_l_answer f_l_answer d_l_answer
  b_l_answer : Binds K d_l_answer ["_law_pairs", "_law_wide", "_law_question"] []
  g_l_answer : mg "_law_answer" = some (.ref f_l_answer)
  f_l_told : Addr
  d_l_told : FuncData
  c_l_told : Addr
  p_l_told : Addr
  F_l_told : FunT K "_law_told" "_law_told" s_l_told f_l_told d_l_told c_l_told
  b_l_told : Binds K d_l_told ["_law_deeds", "_law_wide"] []
  g_l_told : mg "_law_told" = some (.ref f_l_told)
  c_law : Addr
  p_law : Addr
  pne_l_told_law : p_l_told ≠ p_law
  z_abs : mg "abs" = none
  z_any : mg "any" = none
  z_bool : mg "bool" = none
  z_enumerate : mg "enumerate" = none
  z_int : mg "int" = none
  z_isinstance : mg "isinstance" = none
  z_len : mg "len" = none
  z_list : mg "list" = none
  z_max : mg "max" = none
  z_min : mg "min" = none
  z_range : mg "range" = none
  z_repr : mg "repr" = none
  z_reversed : mg "reversed" = none
  z_str : mg "str" = none
  z_tuple : mg "tuple" = none
  u_GREATEST : Value
  v_GREATEST : mg "GREATEST" = some u_GREATEST
  r_GREATEST : RelV (V.int (10 ^ (30 : Nat))) u_GREATEST
  c_WORDS : Addr
  g_WORDS : mg "WORDS" = some (.ref c_WORDS)
  s_WORDS : ∀ H : Hp, SqT K H c_WORDS [V.str "add", V.str "remove", V.str "ask"]
  cl_Unions : Cls K C_Unions
  mk_Unions : PySem.W.makesIn K C_Unions = true
  kp_Unions : PySem.W.keepIn K (.ref C_Unions) = true
  n_Unions_groups : NoAttr K C_Unions "groups"
  n_Unions_parents : NoAttr K C_Unions "parents"
  n_Unions_counts : NoAttr K C_Unions "counts"
  n_Unions_moved : NoAttr K C_Unions "moved"

theorem log_lo {n : Nat} (h : n ≠ 0) : 2 ^ n.log2 ≤ n := Nat.log2_self_le h
theorem log_hi {n : Nat} : n < 2 ^ (n.log2 + 1) := Nat.lt_log2_self
theorem log_lt {n f : Nat} (h : n ≠ 0) (hf : n < 2 ^ f) : n.log2 < f := (Nat.log2_lt h).mpr hf
theorem rest_lt {n : Nat} (h : n ≠ 0) : n - 2 ^ n.log2 < 2 ^ n.log2 := by
  have a := log_hi (n := n)
  have b := log_lo h
  rw [Nat.pow_succ] at a
  omega
theorem rest_lt' {n f : Nat} (h : n ≠ 0) (hf : n < 2 ^ (f + 1)) : n - 2 ^ n.log2 < 2 ^ f := by
  have a := rest_lt h
  have b := log_lt h hf
  have c : 2 ^ n.log2 ≤ 2 ^ f := Nat.pow_le_pow_right (by decide) (by omega)
  omega
/-- the lowest power -/
def low (n : Nat) : Nat := if h : n = 0 then 1 else if n % 2 = 0 then 2 * low (n / 2) else 1
termination_by n
decreasing_by omega
theorem low_even {n : Nat} (h : n ≠ 0) (e : n % 2 = 0) : low n = 2 * low (n / 2) := by
  rw [low, dif_neg h, if_pos e]
theorem low_odd {n : Nat} (e : n % 2 = 1) : low n = 1 := by
  rw [low, dif_neg (by omega), if_neg (by omega)]
theorem low_is : ∀ (j n : Nat), n ≠ 0 → n % 2 ^ j = 0 → ¬ n % 2 ^ (j + 1) = 0 → low n = 2 ^ j
  | 0, n, h, _, e => by
    rw [Nat.zero_add, Nat.pow_one] at e
    exact low_odd (by omega)
  | j + 1, n, h, a, b => by
    have e2 : n % 2 = 0 := by
      rw [Nat.pow_succ] at a
      have := Nat.mod_mod_of_dvd n (show 2 ∣ 2 ^ j * 2 from ⟨2 ^ j, Nat.mul_comm _ _⟩)
      rw [a] at this
      omega
    obtain ⟨m, rfl⟩ : ∃ m, n = 2 * m := ⟨n / 2, by omega⟩
    have hm : m ≠ 0 := by omega
    rw [low_even h e2, Nat.mul_div_cancel_left _ (by decide), Nat.pow_succ, Nat.mul_comm]
    have a' : m % 2 ^ j = 0 := by
      rw [Nat.pow_succ, Nat.mul_comm (2 ^ j) 2, Nat.mul_mod_mul_left] at a
      omega
    have b' : ¬ m % 2 ^ (j + 1) = 0 := fun z => by
      rw [Nat.pow_succ, Nat.mul_comm (2 ^ (j + 1)) 2, Nat.mul_mod_mul_left, z] at b
      exact b rfl
    rw [low_is j m hm a' b']
theorem low_pow (j : Nat) : low (2 ^ j) = 2 ^ j := by
  refine low_is j _ (Nat.pos_iff_ne_zero.mp (Nat.two_pow_pos j)) (Nat.mod_self _) fun z => ?_
  rw [Nat.mod_eq_of_lt (Nat.pow_lt_pow_right (by decide) (by omega))] at z
  have := Nat.two_pow_pos j
  omega

theorem ifT {c : Bool} {A B : Prop} (hc : c = true) (h : A) : if c = true then A else B := by
  rw [if_pos hc]
  exact h
theorem ifF {c : Bool} {A B : Prop} (hc : c = false) (h : B) : if c = true then A else B := by
  rw [hc, if_neg Bool.false_ne_true]
  exact h
theorem dF {p : Prop} [Decidable p] (h : ¬ p) : decide p = false := decide_eq_false h
theorem dT {p : Prop} [Decidable p] (h : p) : decide p = true := decide_eq_true h
theorem bits_nat {n : Nat} (h : n ≠ 0) : (Builtin.Int.intBits (n : Int) : Nat) = n.log2 + 1 := by
  unfold Builtin.Int.intBits
  rw [if_neg (show ¬ ((n : Int) == 0) = true by simpa using (show (n : Int) ≠ 0 by omega))]
  rfl
theorem gp_eq {n : Nat} (h : n ≠ 0) : (1 : Int) * 2 ^ (((Builtin.Int.intBits (n : Int) : Nat) : Int) - 1).toNat = ((2 ^ n.log2 : Nat) : Int) := by
  rw [bits_nat h, show (((n.log2 + 1 : Nat) : Int) - 1).toNat = n.log2 by omega, Int.one_mul]
  exact (PySem.W.kbt_cast _).symm
theorem gp_ok {n : Nat} (h : n ≠ 0) (hn : n < 2 ^ 200) : CShl 1 (((Builtin.Int.intBits (n : Int) : Nat) : Int) - 1) := by
  have a := log_lt h hn
  rw [bits_nat h, show (((n.log2 + 1 : Nat) : Int) - 1) = (n.log2 : Int) by omega]
  exact shl_ok (n := 1) (by decide) (by omega)
theorem nat_cast_lt {a : Nat} {n : Nat} (h : n < 2 ^ a) : (n : Int).natAbs < 2 ^ a := h
theorem pow_nat (k : Nat) : (2 : Int) ^ k = ((2 ^ k : Nat) : Int) := (PySem.W.kbt_cast k).symm
theorem p10 : (10 : Int) ^ Int.toNat 30 = ((10 ^ 30 : Nat) : Int) := by decide +kernel
theorem le6 : 6 ≤ sizeLine := by decide
theorem p100 : (10 ^ 30 : Nat) < 2 ^ 100 := by decide +kernel
def intAt (σ : L2.St) (i : Nat) : Nat := match σ[i]? with
  | some (some (V.int r)) => r.toNat
  | _ => 0
theorem le2 : 2 ≤ sizeLine := by decide
theorem cdiv_nat (a b : Nat) : ((a : Int) / (b : Int)) = ((a / b : Nat) : Int) := rfl

/-! ### heaps -/
theorem same_put {H H1 : Hp} {p : Addr} {o : HO} (h : Same H H1) (n : H p = none) : Same H (upd H1 p o) := fun b u e => by
  rw [upd_ne (ne_of_none e n)]
  exact h b u e
theorem same_new {H : Hp} {p : Addr} {o : HO} (n : H p = none) : Same H (upd H p o) := same_put (Same.refl H) n
theorem same_no {H H1 : Hp} {p : Addr} (h : Same H H1) (n : H1 p = none) : H p = none := h.free n
/-- all but p is as it was -/
def But (p : Addr) (H H' : Hp) : Prop := ∀ b o, H b = some o → b ≠ p → H' b = some o
theorem but_refl (p : Addr) (H : Hp) : But p H H := fun _ _ h _ => h
theorem but_trans {p : Addr} {H H1 H2 : Hp} (a : But p H H1) (b : But p H1 H2) : But p H H2 := fun c o h n => b c o (a c o h n) n
theorem but_of_same {p : Addr} {H H1 : Hp} (a : Same H H1) : But p H H1 := fun c o h _ => a c o h
theorem but_upd (p : Addr) (H : Hp) (o : HO) : But p H (upd H p o) := fun b u e n => by
  rw [upd_ne n]
  exact e
theorem but_fresh {p : Addr} {H0 H H1 : Hp} (s : Same H0 H) (n : H0 p = none) (b : But p H H1) : Same H0 H1 := fun c o e => b c o (s c o e) (ne_of_none e n)
/-! ### a bag of digits -/
def Bag (H : Hp) (p : Addr) : Prop := ∃ g m c : Int, H p = some (.lst [.int g, .int m, .int c]) ∧ 0 ≤ g ∧ 0 ≤ m ∧ m < 2147483648
theorem fm0 {a b : Int} (h : 0 < b) : 0 ≤ a.fmod b := by
  rw [Int.fmod_eq_emod_of_nonneg a (by omega)]
  exact Int.emod_nonneg a (by omega)
theorem fm1 {a b : Int} (h : 0 < b) : a.fmod b < b := by
  rw [Int.fmod_eq_emod_of_nonneg a (by omega)]
  exact Int.emod_lt_of_pos a h
theorem nz1 : (2147483647 : Int) ≠ 0 := by decide
theorem nz2 : (2147483629 : Int) ≠ 0 := by decide
section
variable {P : Program} {w : World} {K : PySem.W.Frag} {mg : Str → Option Value} {base : Heap}
def spTake : Sp := fun vs H Q _ => ∃ (p : Addr) (n : Int), vs = [.ref p, .int n] ∧ Bag H p ∧ 0 < n ∧ n.natAbs < 2 ^ 200 ∧
  ∀ r H', 0 ≤ r → r < n → Bag H' p → But p H H' → Q (.int r) H'
theorem ok_take (T : Txt K mg) : FnOk P w K mg base CX0 1 T.f_l_take T.d_l_take ["_law_bag_here", "_law_many"] spTake := by
  refine T.F_l_take.ok sc_l_take (fun vs H Q E h => ?_) (fun cdv A outer s H vs Q E hr h => ?_)
  · obtain ⟨p, n, rfl, _⟩ := h
    rfl
  · obtain ⟨p, n, rfl, ⟨g, m, c, hb, g0, m0, m1⟩, n0, n1, q⟩ := h
    refine ⟨_, (pss_cons (ps_if (pt_cmpR op_gt (pe_ix (r := rIxL K) ix_list (pv 0) pe_int (fun _ _ => rfl)) pe_int (nomark _)) (pss_cons (ps_set (i := 2) sc_l_take.nd rfl (.inl rfl) (pe_op op_modN (pe_ix (r := rIxL K) ix_list (pv 0) pe_int (fun _ _ => rfl)) (pv 1)))
        (pss_cons (ps_asg (pe_op op_fdivW (pe_ix (r := rIxL K) ix_list (pv 0) pe_int (fun _ _ => rfl)) (pv 1)) (pg_sub (pv 0) pe_int set_list))
        (pss_one (ps_ret (pv 2))))) pss_nil)
      (pss_cons (ps_asg (pe_op op_add (pe_ix (r := rIxL K) ix_list (pv 0) pe_int (fun _ _ => rfl)) pe_int) (pg_sub (pv 0) pe_int set_list))
      (pss_cons (ps_asg (pe_op op_modN (pe_op op_add (pe_op op_add (pe_op op_mul (pe_ix (r := rIxL K) ix_list (pv 0) pe_int (fun _ _ => rfl)) pe_int) (pe_op op_mul pe_int (pe_ix (r := rIxL K) ix_list (pv 0) pe_int (fun _ _ => rfl)))) pe_int) pe_int) (pg_sub (pv 0) pe_int set_list))
      (pss_one (ps_ret (pe_op op_modN (pe_op op_modN (pe_op op_pow (pe_op op_fdivW (pe_ix (r := rIxL K) ix_list (pv 0) pe_int (fun _ _ => rfl)) pe_int) pe_int) pe_int) (pv 1))))))), ?_⟩
    have hB : SqL K H p [.int g, .int m, .int c] := .inl (.inl hb)
    refine ⟨_, rfl, p, _, 0, .int g, rfl, rfl, hB, atI_nat (j := 0) rfl, _, _, rfl, rfl, _, rfl, ite2 (fun e => ?_) (fun e => ?_)⟩
    · refine ⟨_, rfl, p, _, 0, .int g, rfl, rfl, hB, atI_nat (j := 0) rfl, _, rfl, _, _, rfl, rfl, (by omega), ?_⟩
      refine ⟨_, rfl, p, _, 0, .int g, rfl, rfl, hB, atI_nat (j := 0) rfl, _, rfl, _, _, rfl, rfl, wide_div n0 n1 (by decide) (by decide), ?_⟩
      refine ⟨_, rfl, p, _, _, 0, rfl, rfl, hb, rfl, ?_⟩
      refine ⟨_, rfl, ?_⟩
      exact q _ _ (fm0 n0) (fm1 n0) ⟨g / n, m, c, upd_same, Int.ediv_nonneg g0 (by omega), m0, m1⟩ (but_upd _ _ _)
    · refine ⟨_, rfl, p, _, 2, .int c, rfl, rfl, hB, atI_nat (j := 2) rfl, _, _, rfl, rfl, ?_⟩
      refine ⟨_, rfl, p, _, _, 2, rfl, rfl, hb, rfl, ?_⟩
      have h2 : upd H p (.lst [.int g, .int m, .int (c + 1)]) p = some (.lst [.int g, .int m, .int (c + 1)]) := upd_same
      have hB2 : SqL K (upd H p (.lst [.int g, .int m, .int (c + 1)])) p [.int g, .int m, .int (c + 1)] := .inl (.inl h2)
      refine ⟨_, rfl, p, _, 1, .int m, rfl, rfl, hB2, atI_nat (j := 1) rfl, _, _, rfl, rfl, .inr ⟨by decide, by decide⟩, _, rfl, p, _, 2, .int (c + 1), rfl, rfl, hB2, atI_nat (j := 2) rfl, _, _, rfl, rfl, .inl ⟨by decide, by decide⟩, _, _, rfl, rfl, _, _, rfl, rfl, _, _, rfl, rfl, nz1, ?_⟩
      refine ⟨_, rfl, p, _, _, 1, rfl, rfl, h2, rfl, ?_⟩
      have m0' := fm0 (a := m * 48271 + 6661 * (c + 1) + 17) (show (0 : Int) < 2147483647 by decide)
      have m1' := fm1 (a := m * 48271 + 6661 * (c + 1) + 17) (show (0 : Int) < 2147483647 by decide)
      refine ⟨_, rfl, p, _, 1, _, rfl, rfl, .inl (.inl upd_same), atI_nat (j := 1) rfl, _, _, rfl, rfl, ⟨by decide, by decide⟩, _, _, rfl, rfl, ⟨by decide, by decide, ?_⟩, _, _, rfl, rfl, nz2, _, rfl, _, _, rfl, rfl, (by omega), ?_⟩
      · omega
      exact q _ _ (fm0 n0) (fm1 n0) ⟨g, _, c + 1, upd_same, g0, m0', by omega⟩ (but_trans (but_upd _ _ _) (but_upd _ _ _))
theorem le3 : 3 ≤ sizeLine := by decide
theorem nz3 : (8 : Int) ≠ 0 := by decide
theorem primes_at (k : Nat) : ∃ v : Int, 0 < v ∧ v < 2147483648 ∧ atI [V.int 2147483629, V.int 2147483587, V.int 2147483579, V.int 2147483563, V.int 2147483549, V.int 2147483543, V.int 2147483497, V.int 2147483489] ((k : Int).fmod 8) = some (.int v) := by
  have e : (k : Int).fmod 8 = ((k % 8 : Nat) : Int) := by
    rw [Int.fmod_eq_emod_of_nonneg _ (by decide)]
    rfl
  have h : k % 8 < 8 := Nat.mod_lt _ (by decide)
  rw [e]
  generalize k % 8 = j at h
  match j, h with
  | 0, _ => exact ⟨_, by decide, by decide, atI_nat (j := 0) rfl⟩
  | 1, _ => exact ⟨_, by decide, by decide, atI_nat (j := 1) rfl⟩
  | 2, _ => exact ⟨_, by decide, by decide, atI_nat (j := 2) rfl⟩
  | 3, _ => exact ⟨_, by decide, by decide, atI_nat (j := 3) rfl⟩
  | 4, _ => exact ⟨_, by decide, by decide, atI_nat (j := 4) rfl⟩
  | 5, _ => exact ⟨_, by decide, by decide, atI_nat (j := 5) rfl⟩
  | 6, _ => exact ⟨_, by decide, by decide, atI_nat (j := 6) rfl⟩
  | 7, _ => exact ⟨_, by decide, by decide, atI_nat (j := 7) rfl⟩
  | n + 8, h => exact absurd h (by omega)
def spBag (K : PySem.W.Frag) : Sp := fun vs H Q _ => ∃ (a : Addr) (ns : List Int) (k : Nat), vs = [.ref a, .int (k : Int)] ∧ SqL K H a (ns.map V.int) ∧ k ≤ 1000 ∧
  ∀ p H', H p = none → Same H H' → Bag H' p → Q (.ref p) H'
theorem ok_bag (T : Txt K mg) : FnOk P w K mg base CX0 1 T.f_l_bag T.d_l_bag ["_law_script", "_law_at"] (spBag K) := by
  refine T.F_l_bag.ok sc_l_bag (fun vs H Q E h => ?_) (fun cdv A outer s H vs Q E hr h => ?_)
  · obtain ⟨a, ns, k, rfl, _⟩ := h
    rfl
  · obtain ⟨a, ns, k, rfl, hS, hk, q⟩ := h
    refine ⟨_, (pss_cons (ps_set (i := 2) sc_l_bag.nd rfl (.inl rfl) pe_int)
      (C8.pss_cut (ps_if (pt_cmpR op_lt (pv 1) (pe_callB call_len_seq (by rfl) T.z_len (by decide +kernel) (pa_cons (pv 0) pa_nil)) (nomark _)) (pss_one (ps_set (i := 2) sc_l_bag.nd rfl (.inl rfl) (pe_ix (r := rIxL K) ix_list (pv 0) (pv 1) (fun _ _ => rfl)))) pss_nil)
      (pss_cons (ps_set (i := 3) sc_l_bag.nd rfl (.inl rfl) pe_int)
      (C8.pss_cut (ps_if (pt_cmpR op_ge (pe_callB call_abs (by rfl) T.z_abs (by decide +kernel) (pa_cons (pv 2) pa_nil)) (pe_op op_pow pe_int pe_int) (nomark _)) (pss_one (ps_set (i := 3) sc_l_bag.nd rfl (.inl rfl) (pe_callB call_abs (by rfl) T.z_abs (by decide +kernel) (pa_cons (pv 2) pa_nil)))) pss_nil)
      (pss_cons (ps_set (i := 4) sc_l_bag.nd rfl (.inl rfl) (pe_lst (pa_cons pe_int (pa_cons pe_int (pa_cons pe_int (pa_cons pe_int (pa_cons pe_int (pa_cons pe_int (pa_cons pe_int (pa_cons pe_int pa_nil))))))))))
      (pss_one (ps_ret (pe_lst (pa_cons (pv 3) (pa_cons (pe_op op_modN (pe_op op_pow (pe_op op_add (pe_op op_add (pe_op op_modN (pv 2) pe_int) (pe_op op_mul pe_int (pv 1))) pe_int) pe_int) (pe_ix (r := rIxL K) ix_list (pv 4) (pe_op op_modN (pv 1) pe_int) (fun _ _ => rfl))) (pa_cons pe_int pa_nil))))))))))), ?_⟩
    refine ⟨fun σ' H' => H' = H ∧ ∃ c : Int, σ' = [some (.ref a), some (.int (k : Int)), some (.int c), none, none], ?_, fun σ' H' hM => ?_⟩
    · refine ⟨_, rfl, _, rfl, a, _, rfl, .inl hS, _, _, rfl, rfl, _, rfl, ite2 (fun e => ?_) (fun e => ?_)⟩
      · have e2 := of_decide_eq_true e
        have e3 : k < ns.length := by
          rw [List.length_map] at e2
          omega
        have e4 : (ns.map V.int)[k]? = some (.int ns[k]) := by
          rw [List.getElem?_map, List.getElem?_eq_getElem e3]
          rfl
        exact ⟨_, rfl, _, rfl, a, _, _, _, rfl, rfl, hS, atI_nat e4, rfl, _, rfl⟩
      · exact ⟨rfl, _, rfl⟩
    · obtain ⟨rfl, c, rfl⟩ := hM
      refine ⟨fun σ'' H'' => H'' = H' ∧ ∃ g : Int, σ'' = [some (.ref a), some (.int (k : Int)), some (.int c), some (.int g), none] ∧ 0 ≤ g, ?_, fun σ'' H'' hM => ?_⟩
      · refine ⟨_, rfl, _, rfl, _, _, rfl, rfl, ⟨by decide, by decide, by decide⟩, _, _, rfl, rfl, _, rfl, ite2 (fun e => ?_) (fun e => ?_)⟩
        · refine ⟨_, rfl, _, rfl, rfl, _, rfl, ?_⟩
          split <;> omega
        · exact ⟨rfl, _, rfl, by decide⟩
      · obtain ⟨rfl, g, rfl, g0⟩ := hM
        refine ⟨by decide, fun o no => ?_⟩
        obtain ⟨v, v0, v1, hv⟩ := primes_at k
        have h0 := fm0 (a := c) (show (0 : Int) < 2147483647 by decide)
        have h1 := fm1 (a := c) (show (0 : Int) < 2147483647 by decide)
        refine ⟨_, rfl, _, rfl, _, _, rfl, rfl, nz1, _, rfl, _, _, rfl, rfl, .inl ⟨by decide, by decide⟩, _, _, rfl, rfl, _, _, rfl, rfl, _, _, rfl, rfl, ⟨by decide, by decide, by omega⟩, _, rfl, _, rfl, _, _, rfl, rfl, nz3, o, _, _, _, rfl, rfl, .inl (.inl upd_same), hv, _, _, rfl, rfl, by omega, ?_⟩
        refine ⟨le3, fun p np => ?_⟩
        have np' : H'' p = none := (same_new no).free np
        exact q _ _ np' (same_put (same_new no) np') ⟨g, _, 0, upd_same, g0, fm0 v0, by have := fm1 (a := (c.fmod 2147483647 + 104717 * (k : Int) + 13) ^ Int.toNat 5) v0; omega⟩
end
theorem but_put {p q : Addr} {H H1 : Hp} {o : HO} (b : But p H H1) (n : H1 q = none) : But p H (upd H1 q o) := fun c u e nc => by
  have e1 := b c u e nc
  rw [upd_ne (ne_of_none e1 n)]
  exact e1
theorem bag_put {p q : Addr} {H : Hp} {o : HO} (b : Bag H p) (n : H q = none) : Bag (upd H q o) p := by
  obtain ⟨g, m, c, e, r⟩ := b
  exact ⟨g, m, c, by rw [upd_ne (ne_of_none e n)]; exact e, r⟩
theorem bag_same {p : Addr} {H H1 : Hp} (b : Bag H p) (s : Same H H1) : Bag H1 p := by
  obtain ⟨g, m, c, e, r⟩ := b
  exact ⟨g, m, c, s _ _ e, r⟩
theorem bag_ne {p q : Addr} {H : Hp} (b : Bag H p) (n : H q = none) : q ≠ p := by
  obtain ⟨g, m, c, e, r⟩ := b
  exact (ne_of_none e n).symm

end Ob

set_option Elab.async false
set_option linter.all false
set_option maxRecDepth 100000
set_option maxHeartbeats 1000000
namespace Ob
open PySem PySem.Spec PyProof.Rows L2
open LamX (Tabs TabB TabS ExtN)

/-- nothing stands there -/
structure Fr (H : Hp) (p : Addr) : Prop where
  h : H p = none
theorem neN {H : Hp} {a b : Addr} {o : HO} (h' : Fr H b) (h : H a = some o) : a ≠ b := ne_of_none h h'.h
theorem neN' {H : Hp} {a b : Addr} {o : HO} (h' : Fr H a) (h : H b = some o) : a ≠ b := (ne_of_none h h'.h).symm
theorem atNew {H : Hp} {a p : Addr} {o u : HO} (n : Fr H p) (h : H a = some o) : upd H p u a = some o := (upd_ne (ne_of_none h n.h)).trans h
theorem atNe {H : Hp} {a p : Addr} {o u : HO} (n : a ≠ p) (h : H a = some o) : upd H p u a = some o := (upd_ne n).trans h
theorem atSame {H H1 : Hp} {a : Addr} {o : HO} (s : Same H H1) (h : H a = some o) : H1 a = some o := s _ _ h
/-- all is kept but what stands in cs -/
structure Kp (cs : List Addr) (H H' : Hp) : Prop where
  at_ : ∀ b o, H b = some o → b ∉ cs → H' b = some o
theorem kp_refl (cs : List Addr) (H : Hp) : Kp cs H H := ⟨fun _ _ e _ => e⟩
theorem kp_trans {cs : List Addr} {H H1 H2 : Hp} (a : Kp cs H H1) (b : Kp cs H1 H2) : Kp cs H H2 := ⟨fun c o e n => b.at_ c o (a.at_ c o e n) n⟩
theorem kp_up {cs : List Addr} {H H1 : Hp} {a : Addr} {o : HO} (m : a ∈ cs) (h : Kp cs H H1) : Kp cs H (upd H1 a o) := ⟨fun b u e n => by
  rw [upd_ne (show b ≠ a from fun z => n (by rw [z]; exact m))]
  exact h.at_ b u e n⟩
theorem kp_new {cs : List Addr} {H H1 : Hp} {a : Addr} {o : HO} (m : Fr H1 a) (h : Kp cs H H1) : Kp cs H (upd H1 a o) := ⟨fun b u e n => by
  rw [upd_ne (ne_of_none (h.at_ b u e n) m.h)]
  exact h.at_ b u e n⟩
theorem kp_newF {cs : List Addr} {H H1 : Hp} {a : Addr} {o : HO} (m : Fr H a) (h : Kp cs H H1) : Kp cs H (upd H1 a o) := ⟨fun b u e n => by
  rw [upd_ne (ne_of_none e m.h)]
  exact h.at_ b u e n⟩
theorem kp_same {cs : List Addr} {H H1 : Hp} (s : Same H H1) : Kp cs H H1 := ⟨fun b o e _ => s b o e⟩
theorem kp_more {cs ds : List Addr} {H H1 : Hp} (h : Kp cs H H1) (m : ∀ a ∈ cs, a ∈ ds) : Kp ds H H1 := ⟨fun b o e n => h.at_ b o e fun z => n (m b z)⟩
/-- what is changed is new, as H sees it -/
theorem kp_fresh {cs ds : List Addr} {H H1 H2 : Hp} (a : Kp cs H H1) (b : Kp ds H1 H2) (n : ∀ x ∈ ds, x ∈ cs ∨ Fr H x) : Kp cs H H2 := ⟨fun x o e m => b.at_ x o (a.at_ x o e m) fun z => (n x z).elim m fun f => ne_of_none e f.h rfl⟩
theorem atKp {cs : List Addr} {H H1 : Hp} {a : Addr} {o : HO} (s : Kp cs H H1) (n : a ∉ cs) (h : H a = some o) : H1 a = some o := s.at_ _ _ h n
theorem not_nil {a : Addr} : a ∉ ([] : List Addr) := fun z => nomatch z
theorem not_cons {a b : Addr} {l : List Addr} (h : a ≠ b) (t : a ∉ l) : a ∉ b :: l := fun z => (List.mem_cons.mp z).elim h t
theorem not_app {a : Addr} {l m : List Addr} (h : a ∉ l) (t : a ∉ m) : a ∉ l ++ m := fun z => (List.mem_append.mp z).elim h t
theorem sqlOf {K : PySem.W.Frag} {H : Hp} {a : Addr} {xs : List V} (h : H a = some (.lst xs)) : SqL K H a xs := .inl (.inl h)
theorem sqtOf {K : PySem.W.Frag} {H : Hp} {a : Addr} {xs : List V} (h : H a = some (.tup xs)) : SqT K H a xs := .inl (.inl h)
theorem sqlSame {K : PySem.W.Frag} {H H1 : Hp} {a : Addr} {xs : List V} (s : Same H H1) (h : SqL K H a xs) : SqL K H1 a xs := s.seq h
theorem neO {H : Hp} {a b : Addr} {x y : HO} (ha : H a = some x) (hb : H b = some y) (n : x ≠ y) : a ≠ b := fun z => by
  rw [z, hb] at ha
  exact n (Option.some.inj ha).symm
theorem noneOf {H H1 : Hp} {p : Addr} (h : Fr H1 p) (k : ∀ o, H p = some o → ∃ u, H1 p = some u) : Fr H p := ⟨by
  cases e : H p with
  | none => rfl
  | some o =>
    obtain ⟨u, z⟩ := k o e
    rw [h.h] at z
    cases z⟩
theorem same_newF {H : Hp} {p : Addr} {o : HO} (n : Fr H p) : Same H (upd H p o) := same_new n.h
theorem same_putF {H H1 : Hp} {p : Addr} {o : HO} (n : Fr H1 p) (h : Same H H1) : Same H (upd H1 p o) := h.trans (same_new n.h)
theorem same_putG {H H1 : Hp} {p : Addr} {o : HO} (n : Fr H p) (h : Same H H1) : Same H (upd H1 p o) := same_put h n.h
theorem memA {a : Addr} {l : List Addr} : a ∈ a :: l := List.mem_cons_self ..
theorem memB {a b : Addr} {l : List Addr} (h : a ∈ l) : a ∈ b :: l := List.mem_cons_of_mem _ h
theorem memL {a : Addr} {l m : List Addr} (h : a ∈ l) : a ∈ l ++ m := List.mem_append.mpr (.inl h)
theorem memR {a : Addr} {l m : List Addr} (h : a ∈ m) : a ∈ l ++ m := List.mem_append.mpr (.inr h)
theorem kp_transR {cs : List Addr} {H H1 H2 : Hp} (b : Kp cs H1 H2) (a : Kp cs H H1) : Kp cs H H2 := kp_trans a b
theorem kp_sameR {cs : List Addr} {H H1 H2 : Hp} (b : Same H1 H2) (a : Kp cs H H1) : Kp cs H H2 := kp_trans a (kp_same b)
theorem kp_freshR {cs ds : List Addr} {H H1 H2 : Hp} (b : Kp ds H1 H2) (n : ∀ x ∈ ds, x ∈ cs ∨ Fr H x) (a : Kp cs H H1) : Kp cs H H2 := kp_fresh a b n
theorem same_transR {H H1 H2 : Hp} (b : Same H1 H2) (a : Same H H1) : Same H H2 := a.trans b
theorem subNil {P : Addr → Prop} : ∀ x ∈ ([] : List Addr), P x := fun _ h => nomatch h
theorem subCons {P : Addr → Prop} {a : Addr} {l : List Addr} (h : P a) (t : ∀ x ∈ l, P x) : ∀ x ∈ a :: l, P x := fun x m => (List.mem_cons.mp m).elim (fun e => by rw [e]; exact h) (t x)
theorem subApp {P : Addr → Prop} {l m : List Addr} (h : ∀ x ∈ l, P x) (t : ∀ x ∈ m, P x) : ∀ x ∈ l ++ m, P x := fun x e => (List.mem_append.mp e).elim (h x) (t x)
theorem sqtAll {K : PySem.W.Frag} {H : Hp} {a : Addr} {xs : List V} (h : ∀ H, SqT K H a xs) : SqT K H a xs := h H
theorem sqtSame {K : PySem.W.Frag} {H H1 : Hp} {a : Addr} {xs : List V} (s : Same H H1) (h : SqT K H a xs) : SqT K H1 a xs := by
  rcases h with (h | ⟨o, h⟩) | h
  · exact .inl (.inl (s _ _ h))
  · exact .inl (.inr ⟨o, s _ _ h⟩)
  · exact .inr h
theorem frUp {H : Hp} {a p : Addr} {o : HO} (n : p ≠ a) (h : Fr H p) : Fr (upd H a o) p := ⟨by rw [upd_ne n]; exact h.h⟩
theorem bag_putF {p q : Addr} {H : Hp} {o : HO} (n : Fr H q) (b : Bag H p) : Bag (upd H q o) p := bag_put b n.h
theorem bag_kpR {p : Addr} {cs : List Addr} {H H1 : Hp} (k : Kp cs H H1) (n : p ∉ cs) (h : Bag H p) : Bag H1 p := by
  obtain ⟨g, m, c, e, z⟩ := h
  exact ⟨g, m, c, k.at_ _ _ e n, z⟩

/-- a promise that a run does not open by itself -/
structure Bx (p : Prop) : Prop where
  h : p
def bx (sp : Sp) : Sp := fun vs H Q E => Bx (sp vs H Q E)
theorem fnBx {P : Program} {w : World} {K : PySem.W.Frag} {mg : Str → Option Value} {base : Heap} {CX : CXT} {k : Nat} {f : Addr} {fd : FuncData} {ps : List Str} {sp : Sp} (F : FnOk P w K mg base CX k f fd ps sp) : FnOk P w K mg base CX k f fd ps (bx sp) := F.imp fun _ _ _ _ h => h.h

set_option hygiene false in
local macro_rules
  | `(tactic| kp_flats) => `(tactic| first
    | assumption
    | exact upd_same
    | (apply atNew; assumption; kp_flats)
    | (apply atNe; (next => kbo_bools); kp_flats)
    | (apply atSame; assumption; kp_flats)
    | (apply atKp; assumption; (next => kaf_pre); kp_flats))
set_option hygiene false in
local macro_rules
  | `(tactic| kaf_pre) => `(tactic| first
    | assumption
    | exact not_nil
    | (apply not_cons; (next => kbo_bools); kaf_pre)
    | (apply not_app; (next => kaf_pre); kaf_pre))
set_option hygiene false in
local macro_rules
  | `(tactic| kbo_bools) => `(tactic| first
    | assumption
    | (apply Ne.symm; assumption)
    | (apply neN; assumption; kp_flats)
    | (apply neN'; assumption; kp_flats))
set_option hygiene false in
local macro_rules
  | `(tactic| o_reads) => `(tactic| first
    | with_reducible rfl
    | assumption
    | rfl
    | kp_flats
    | (show SqL _ _ _ _; first | assumption | (apply sqlOf; kp_flats) | (apply sqlSame; assumption; o_reads))
    | (show SqT _ _ _ _; first | assumption | (apply sqtOf; kp_flats) | (apply sqtAll; assumption) | (apply sqtSame; assumption; o_reads))
    | (show Cls _ _; first | exact T.cl_Unions)
    | (show NoAttr _ _ _; first | exact T.n_Unions_groups | exact T.n_Unions_parents | exact T.n_Unions_counts | exact T.n_Unions_moved)
    | (apply Or.inl; o_reads)
    | (apply Or.inr; o_reads)
    | (apply And.intro; (next => o_reads); o_reads)
    | (apply Exists.intro; o_reads)
    | exact Nat.le_of_ble_eq_true rfl
    | exact Nat.succ_ne_zero _
    | (show Fr _ _; kba_ints)
    | (show Same _ _; kd_subs)
    | (show Kp _ _ _; kxs_still)
    | (show (_ : Nat) ≤ _; simp only [List.length_append, List.length_map, List.length_cons, List.length_nil, List.length_take, List.length_drop, List.length_replicate, List.length_range, sizeLine_eq]; omega)
    | (show _ = none; apply Fr.h; kba_ints)
    | (show Bag _ _; first | assumption | (apply bag_putF; assumption; o_reads) | (apply bag_neF; (next => kbo_bools); o_reads) | (apply bag_kpR; assumption; (next => kaf_pre); o_reads))
    | omega
    | decide)
local macro_rules
  | `(tactic| o_readsAll) => `(tactic| repeat (first
    | (refine fun (pNew : Addr) (nNew : _ = none) => ?_; replace nNew := Fr.mk nNew)
    | (refine fun (xNew dNew : Addr) (nNew : _ = none) (mNew : _ = none) (eNew : dNew ≠ xNew) => ?_; replace nNew := Fr.mk nNew; replace mNew := Fr.mk mNew)
    | (apply And.intro; next => o_reads)
    | apply Exists.intro (α := V)
    | apply Exists.intro (α := Addr)
    | apply Exists.intro (α := Int)
    | apply Exists.intro (α := Bool)
    | apply Exists.intro (α := List V)
    | apply Exists.intro (α := List Nat)
    | apply Exists.intro (α := List (Str × V))
    | apply Exists.intro (α := List _)
    | apply Exists.intro (α := Str)
    | apply Exists.intro (α := HO)
    | apply Exists.intro (α := Sp)
    | apply Exists.intro (α := VK)))
set_option hygiene false in
local macro_rules
  | `(tactic| kba_ints) => `(tactic| first
    | assumption
    | (apply frUp; (first | assumption | (apply Ne.symm; assumption)); kba_ints)
    | (apply noneOf; assumption; intro oF eF; apply Exists.intro; kp_flats)
    | (apply frUp; (next => kbo_bools); kba_ints))
set_option hygiene false in
local macro_rules
  | `(tactic| kxs_still) => `(tactic| first
    | assumption
    | exact kp_refl _ _
    | (apply kp_newF; assumption; kxs_still)
    | (apply kp_new; assumption; kxs_still)
    | (apply kp_up; (next => o_fieldsN); kxs_still)
    | (apply kp_new; (next => kba_ints); kxs_still)
    | (apply kp_sameR; assumption; kxs_still)
    | (apply kp_transR; assumption; kxs_still)
    | (apply kp_freshR; assumption; (next => kaf_suf); kxs_still))
set_option hygiene false in
local macro_rules
  | `(tactic| kaf_suf) => `(tactic| first
    | assumption
    | exact subNil
    | (apply subCons; (first | (apply Or.inl; o_fieldsN) | (apply Or.inr; kba_ints)); kaf_suf)
    | (apply subApp; (next => kaf_suf); kaf_suf))
set_option hygiene false in
local macro_rules
  | `(tactic| o_fieldsN) => `(tactic| first
    | assumption
    | exact memA
    | (apply memB; o_fieldsN)
    | (apply memL; o_fieldsN)
    | (apply memR; o_fieldsN))
set_option hygiene false in
local macro_rules
  | `(tactic| kd_subs) => `(tactic| first
    | assumption
    | exact Same.refl _
    | (apply same_putF; assumption; kd_subs)
    | (apply same_putG; assumption; kd_subs)
    | (apply same_putF; (next => kba_ints); kd_subs)
    | (apply same_transR; assumption; kd_subs))

set_option pp.maxSteps 900
/-! ### the size of a walk -/
section
variable {P : Program} {w : World} {K : PySem.W.Frag} {mg : Str → Option Value} {base : Heap}
def spWs : Sp := fun vs H Q _ => ∃ n : Nat, vs = [.int (n : Int)] ∧ n ≤ 100000 ∧ ∀ j : Nat, n ≤ 2 ^ j → (j = 0 ∨ 2 ^ (j - 1) < n) → Q (.int ((2 ^ j : Nat) : Int)) H
theorem ok_ws (T : Txt K mg) : FnOk P w K mg base CX0 1 T.f_walk_size T.d_walk_size ["length"] spWs := by
  refine T.F_walk_size.ok sc_walk_size (fun vs H Q E h => ?_) (fun cdv A outer s H vs Q E hr h => ?_)
  · obtain ⟨n, rfl, _⟩ := h
    rfl
  · obtain ⟨n, rfl, hn, q⟩ := h
    refine ⟨_, (pss_cons (ps_set (i := 1) sc_walk_size.nd rfl (.inl rfl) pe_int)
      (pss_cons (ps_while PassesOwn.never (pt_cmpR op_lt (pv 1) (pv 0) (nomark _)) (pss_one (ps_aug (i := 1) sc_walk_size.nd rfl (.inl rfl) pe_int iop_mul)))
      (pss_one (ps_ret (pv 1))))), ?_⟩
    refine while_by (fun σ H' => ∃ j : Nat, σ = [some (.int (n : Int)), some (.int ((2 ^ j : Nat) : Int))] ∧ (j = 0 ∨ 2 ^ (j - 1) < n) ∧ H' = H) (fun σ _ => n - intAt σ 1) ⟨0, rfl, .inl rfl, rfl⟩ ?_ ?_
    · rintro σ H' ⟨j, rfl, hj, rfl⟩
      refine ⟨_, rfl, _, rfl, _, _, rfl, rfl, _, rfl, ite2 (fun e => ?_) (fun e => ?_)⟩
      · have e1 := of_decide_eq_true e
        have e2 : 2 ^ j < n := by omega
        refine ⟨_, rfl, _, _, rfl, rfl, ?_, ⟨j + 1, ?_, .inr e2, rfl⟩, ?_⟩
        · exact .inr ⟨by decide, by decide⟩
        · show [some (V.int (n : Int)), some (V.int (((2 ^ j : Nat) : Int) * 2))] = _
          rw [Nat.pow_succ, Int.natCast_mul]
          rfl
        · show n - (((2 ^ j : Nat) : Int) * 2).toNat < n - (((2 ^ j : Nat) : Int)).toNat
          have := Nat.two_pow_pos j
          omega
      · have e1 : ¬ ((2 ^ j : Nat) : Int) < (n : Int) := fun z => e (decide_eq_true z)
        show ∃ _, _
        exact ⟨_, rfl, q j (by omega) hj⟩
    · rintro σ H' Q1 Q2 m ⟨x, hx, y, hy, i, j, e1, e2, c, e3, q⟩
      exact ⟨x, hx, y, hy, i, j, e1, e2, c, e3, m _ _ q⟩
end
end Ob

set_option Elab.async false
set_option linter.all false
set_option maxRecDepth 100000
set_option maxHeartbeats 1000000
namespace Ob
open PySem PySem.Spec PyProof.Rows L2
open LamX (Tabs TabB TabS ExtN)

set_option hygiene false in
local macro_rules
  | `(tactic| kp_flats) => `(tactic| first
    | assumption
    | exact upd_same
    | (apply atNew; assumption; kp_flats)
    | (apply atNe; (next => kbo_bools); kp_flats)
    | (apply atSame; assumption; kp_flats)
    | (apply atKp; assumption; (next => kaf_pre); kp_flats))
set_option hygiene false in
local macro_rules
  | `(tactic| kaf_pre) => `(tactic| first
    | assumption
    | exact not_nil
    | (apply not_cons; (next => kbo_bools); kaf_pre)
    | (apply not_app; (next => kaf_pre); kaf_pre))
set_option hygiene false in
local macro_rules
  | `(tactic| kbo_bools) => `(tactic| first
    | assumption
    | (apply Ne.symm; assumption)
    | (apply neN; assumption; kp_flats)
    | (apply neN'; assumption; kp_flats))
set_option hygiene false in
local macro_rules
  | `(tactic| o_reads) => `(tactic| first
    | with_reducible rfl
    | assumption
    | rfl
    | kp_flats
    | (show SqL _ _ _ _; first | assumption | (apply sqlOf; kp_flats) | (apply sqlSame; assumption; o_reads))
    | (show SqT _ _ _ _; first | assumption | (apply sqtOf; kp_flats) | (apply sqtAll; assumption) | (apply sqtSame; assumption; o_reads))
    | (show Cls _ _; first | exact T.cl_Unions)
    | (show NoAttr _ _ _; first | exact T.n_Unions_groups | exact T.n_Unions_parents | exact T.n_Unions_counts | exact T.n_Unions_moved)
    | (apply Or.inl; o_reads)
    | (apply Or.inr; o_reads)
    | (apply And.intro; (next => o_reads); o_reads)
    | (apply Exists.intro; o_reads)
    | exact Nat.le_of_ble_eq_true rfl
    | exact Nat.succ_ne_zero _
    | (show Fr _ _; kba_ints)
    | (show Same _ _; kd_subs)
    | (show Kp _ _ _; kxs_still)
    | (show (_ : Nat) ≤ _; simp only [List.length_append, List.length_map, List.length_cons, List.length_nil, List.length_take, List.length_drop, List.length_replicate, List.length_range, sizeLine_eq]; omega)
    | (show _ = none; apply Fr.h; kba_ints)
    | (show Bag _ _; first | assumption | (apply bag_putF; assumption; o_reads) | (apply bag_neF; (next => kbo_bools); o_reads) | (apply bag_kpR; assumption; (next => kaf_pre); o_reads))
    | omega
    | decide)
local macro_rules
  | `(tactic| o_readsAll) => `(tactic| repeat (first
    | (refine fun (pNew : Addr) (nNew : _ = none) => ?_; replace nNew := Fr.mk nNew)
    | (refine fun (xNew dNew : Addr) (nNew : _ = none) (mNew : _ = none) (eNew : dNew ≠ xNew) => ?_; replace nNew := Fr.mk nNew; replace mNew := Fr.mk mNew)
    | (apply And.intro; next => o_reads)
    | apply Exists.intro (α := V)
    | apply Exists.intro (α := Addr)
    | apply Exists.intro (α := Int)
    | apply Exists.intro (α := Bool)
    | apply Exists.intro (α := List V)
    | apply Exists.intro (α := List Nat)
    | apply Exists.intro (α := List (Str × V))
    | apply Exists.intro (α := List _)
    | apply Exists.intro (α := Str)
    | apply Exists.intro (α := HO)
    | apply Exists.intro (α := Sp)
    | apply Exists.intro (α := VK)))
set_option hygiene false in
local macro_rules
  | `(tactic| kba_ints) => `(tactic| first
    | assumption
    | (apply frUp; (first | assumption | (apply Ne.symm; assumption)); kba_ints)
    | (apply noneOf; assumption; intro oF eF; apply Exists.intro; kp_flats)
    | (apply frUp; (next => kbo_bools); kba_ints))
set_option hygiene false in
local macro_rules
  | `(tactic| kxs_still) => `(tactic| first
    | assumption
    | exact kp_refl _ _
    | (apply kp_newF; assumption; kxs_still)
    | (apply kp_new; assumption; kxs_still)
    | (apply kp_up; (next => o_fieldsN); kxs_still)
    | (apply kp_new; (next => kba_ints); kxs_still)
    | (apply kp_sameR; assumption; kxs_still)
    | (apply kp_transR; assumption; kxs_still)
    | (apply kp_freshR; assumption; (next => kaf_suf); kxs_still))
set_option hygiene false in
local macro_rules
  | `(tactic| kaf_suf) => `(tactic| first
    | assumption
    | exact subNil
    | (apply subCons; (first | (apply Or.inl; o_fieldsN) | (apply Or.inr; kba_ints)); kaf_suf)
    | (apply subApp; (next => kaf_suf); kaf_suf))
set_option hygiene false in
local macro_rules
  | `(tactic| o_fieldsN) => `(tactic| first
    | assumption
    | exact memA
    | (apply memB; o_fieldsN)
    | (apply memL; o_fieldsN)
    | (apply memR; o_fieldsN))
set_option hygiene false in
local macro_rules
  | `(tactic| kd_subs) => `(tactic| first
    | assumption
    | exact Same.refl _
    | (apply same_putF; assumption; kd_subs)
    | (apply same_putG; assumption; kd_subs)
    | (apply same_putF; (next => kba_ints); kd_subs)
    | (apply same_transR; assumption; kd_subs))

def Mu (H : Hp) (cs : List Addr) : Prop := ∀ a ∈ cs, ∃ o, H a = some o ∧ (∀ xs, o ≠ .tup xs) ∧ ∀ φ, o ≠ .ext φ
theorem Mu.tup {H : Hp} {cs : List Addr} {t : Addr} {xs : List V} (n : Mu H cs) (h : H t = some (.tup xs)) : t ∉ cs := fun m => by
  obtain ⟨o, e, k, _⟩ := n t m
  rw [h] at e
  exact k xs (Option.some.inj e).symm
theorem Mu.ext {H : Hp} {cs : List Addr} {t : Addr} {φ : Heap → Prop} (n : Mu H cs) (h : H t = some (.ext φ)) : t ∉ cs := fun m => by
  obtain ⟨o, e, _, k⟩ := n t m
  rw [h] at e
  exact k φ (Option.some.inj e).symm
theorem Mu.fr {H : Hp} {cs : List Addr} {a : Addr} (n : Mu H cs) (f : Fr H a) : a ∉ cs := fun m => by
  obtain ⟨o, e, _⟩ := n a m
  rw [f.h] at e
  cases e
theorem Mu.sub {H : Hp} {cs ds : List Addr} (n : Mu H cs) (s : ∀ a ∈ ds, a ∈ cs) : Mu H ds := fun a m => n a (s a m)
theorem mu_nil {H : Hp} : Mu H [] := fun _ m => nomatch m
theorem mu_cons {H : Hp} {a : Addr} {o : HO} {l : List Addr} (e : H a = some o) (k : ∀ xs, o ≠ .tup xs) (k2 : ∀ φ, o ≠ .ext φ) (t : Mu H l) : Mu H (a :: l) := fun x m => (List.mem_cons.mp m).elim (fun z => by rw [z]; exact ⟨o, e, k, k2⟩) (t x)
theorem mu_lst {H : Hp} {a : Addr} {xs : List V} {l : List Addr} (e : H a = some (.lst xs)) (t : Mu H l) : Mu H (a :: l) := mu_cons e (fun _ z => nomatch z) (fun _ z => nomatch z) t
theorem mu_ins {H : Hp} {a C dx : Addr} {fs : List (Str × V)} {l : List Addr} (e : H a = some (.ins C dx fs)) (t : Mu H l) : Mu H (a :: l) := mu_cons e (fun _ z => nomatch z) (fun _ z => nomatch z) t
theorem mu_app {H : Hp} {l m : List Addr} (a : Mu H l) (b : Mu H m) : Mu H (l ++ m) := fun x h => (List.mem_append.mp h).elim (a x) (b x)
/-- what does not change stays; what changes is told again -/
theorem Mu.kp {H H1 : Hp} {cs ds : List Addr} (n : Mu H cs) (k : Kp ds H H1) (m : Mu H1 ds) : Mu H1 cs := fun a ha => by
  by_cases e : a ∈ ds
  · exact m a e
  · obtain ⟨o, h1, h2⟩ := n a ha
    exact ⟨o, k.at_ _ _ h1 e, h2⟩
theorem Mu.same {H H1 : Hp} {cs : List Addr} (n : Mu H cs) (s : Same H H1) : Mu H1 cs := fun a m => (n a m).imp fun _ z => ⟨s _ _ z.1, z.2⟩
theorem kp_tup {cs : List Addr} {H H1 : Hp} (k : Kp cs H H1) (n : Mu H cs) {t : Addr} {xs : List V} (h : H t = some (.tup xs)) : H1 t = some (.tup xs) := k.at_ _ _ h (n.tup h)

set_option pp.maxSteps 900
/-! ### the entries of a walk -/
abbrev nV (k : Nat) : V := .int (k : Int)
def WEnt (H : Hp) (x : V) (e : Str × Nat) : Prop := ∃ p : Addr, x = .ref p ∧ H p = some (.tup [.str e.1, .int (e.2 : Int)])
theorem WEnt.kp {H H1 : Hp} {x : V} {e : Str × Nat} {cs : List Addr} (h : WEnt H x e) (k : Kp cs H H1) (m : Mu H cs) : WEnt H1 x e := by
  obtain ⟨p, h1, h2⟩ := h
  exact ⟨p, h1, kp_tup k m h2⟩
structure WLog (H : Hp) (xs : List V) (es : List (Str × Nat)) : Prop where
  len : xs.length = es.length
  at_ : ∀ (q : Nat) (x : V) (e : Str × Nat), xs[q]? = some x → es[q]? = some e → WEnt H x e
theorem WLog.kp {H H1 : Hp} {xs : List V} {es : List (Str × Nat)} {cs : List Addr} (h : WLog H xs es) (k : Kp cs H H1) (m : Mu H cs) : WLog H1 xs es := ⟨h.len, fun q x e a b => (h.at_ q x e a b).kp k m⟩
theorem WLog.nil {H : Hp} : WLog H [] [] := ⟨rfl, fun q x e z => by cases q <;> cases z⟩
theorem WLog.app {H : Hp} {xs ys : List V} {es fs : List (Str × Nat)} (h : WLog H xs es) (g : WLog H ys fs) : WLog H (xs ++ ys) (es ++ fs) := by
  refine ⟨by rw [List.length_append, List.length_append, h.len, g.len], fun q x e a b => ?_⟩
  by_cases c : q < xs.length
  · rw [List.getElem?_append_left c] at a
    rw [List.getElem?_append_left (by rw [← h.len]; exact c)] at b
    exact h.at_ q x e a b
  · rw [List.getElem?_append_right (by omega)] at a
    rw [List.getElem?_append_right (by rw [← h.len]; omega), ← h.len] at b
    exact g.at_ _ x e a b
theorem WLog.one {H : Hp} {x : V} {e : Str × Nat} (h : WEnt H x e) : WLog H [x] [e] := ⟨rfl, fun q y d a b => by
  match q, a, b with
  | 0, a, b =>
    cases a
    cases b
    exact h
  | q + 1, a, _ => cases q <;> cases a⟩
theorem wstep {H0 H1 : Hp} {D t : Addr} {ys : List V} {es : List (Str × Nat)} {e : Str × Nat} (fD : Fr H0 D) (s : Same H0 H1) (eD : H1 D = some (.lst ys)) (wl : WLog H1 ys es) (nt : H1 t = none) :
    upd H1 t (.tup [.str e.1, .int (e.2 : Int)]) D = some (.lst ys) ∧ Same H0 (upd (upd H1 t (.tup [.str e.1, .int (e.2 : Int)])) D (.lst (ys ++ [.ref t]))) ∧ ∃ zs, upd (upd H1 t (.tup [.str e.1, .int (e.2 : Int)])) D (.lst (ys ++ [.ref t])) D = some (.lst zs) ∧ WLog (upd (upd H1 t (.tup [.str e.1, .int (e.2 : Int)])) D (.lst (ys ++ [.ref t]))) zs (es ++ [e]) := by
  have ft := Fr.mk nt
  have st : Same H1 (upd H1 t (.tup [.str e.1, .int (e.2 : Int)])) := same_newF ft
  have eD2 := st _ _ eD
  have mD : Mu (upd H1 t (.tup [.str e.1, .int (e.2 : Int)])) [D] := mu_lst eD2 mu_nil
  have kD : Kp [D] (upd H1 t (.tup [.str e.1, .int (e.2 : Int)])) (upd (upd H1 t (.tup [.str e.1, .int (e.2 : Int)])) D (.lst (ys ++ [.ref t]))) := kp_up memA (kp_refl _ _)
  exact ⟨eD2, same_putG fD (s.trans st), _, upd_same, ((wl.kp (kp_same (cs := []) st) mu_nil).kp kD mD).app (WLog.one (WEnt.kp ⟨t, rfl, upd_same⟩ kD mD))⟩
theorem take_map {α β : Type} (f : α → β) {l : List α} {i : Nat} {x : α} (h : l[i]? = some x) : (l.take (i + 1)).map f = (l.take i).map f ++ [f x] := by
  rw [List.take_succ, h, List.map_append]
  rfl
section
variable {P : Program} {w : World} {K : PySem.W.Frag} {mg : Str → Option Value} {base : Heap}
def spPush : Sp := fun vs H Q _ => ∃ (a : Addr) (ns : List Nat), vs = [.ref a] ∧ H a = some (.lst (ns.map nV)) ∧ ns.length < 4000000 ∧ ∀ p xs H', Fr H p → Same H H' → H' p = some (.lst xs) → WLog H' xs (ns.map fun i => ("push", i)) → Q (.ref p) H'
theorem ok_push (T : Txt K mg) : FnOk P w K mg base CX0 1 T.f_plan_pushes T.d_plan_pushes ["numbers"] spPush := by
  refine T.F_plan_pushes.ok sc_plan_pushes (fun vs H Q E h => ?_) (fun cdv A outer s H vs Q E hr h => ?_)
  · obtain ⟨a, ns, rfl, _⟩ := h
    rfl
  · obtain ⟨a, ns, rfl, ha, hn, q⟩ := h
    refine ⟨_, (pss_one (ps_ret (pe_lc (own := [("number", 1)]) (g := gName 1) (tt := tYes) rfl sc_plan_pushes.nd (pi_list (pv 0)) (blkOk_by (N := n_plan_pushes) (sc := defScope s_plan_pushes) (by decide +kernel)) (fun _ _ _ _ _ => (pg_name (i := 1) sc_plan_pushes.nd rfl (.inl rfl))) (fun _ _ _ _ _ => pts_nil) (fun _ _ _ _ _ => (pe_tup (pa_cons pe_str (pa_cons (pv 1) pa_nil))))))), ?_⟩
    refine ⟨_, rfl, a, rfl, ⟨_, sqlOf ha⟩, fun D nD => ?_⟩
    have fD := Fr.mk nD
    refine lc_it (walk_list (K := K) (a := a) (xs := ns.map nV)) (fun i H' => Same H H' ∧ ∃ ys, H' D = some (.lst ys) ∧ WLog H' ys ((ns.take i).map fun i => (("push" : Str), i))) ⟨same_newF fD, [], upd_same, WLog.nil⟩ (fun i H' _ z => sqlOf (z.1 _ _ ha)) ?_ ?_
    · rintro i x H1 H2 hi ⟨s1, ys, eD, wl⟩ ⟨rfl, hx⟩
      have li := List.length_map (as := ns) nV
      obtain ⟨n, hn', rfl⟩ : ∃ n : Nat, ns[i]? = some n ∧ x = .int (n : Int) := by
        rw [List.getElem?_map] at hx
        obtain ⟨n, h1, h2⟩ := Option.map_eq_some_iff.mp hx
        exact ⟨n, h1, h2.symm⟩
      refine ⟨rfl, ?_⟩
      unfold tYes
      refine ifT rfl ?_
      refine ⟨_, rfl, le2, fun t nt => ?_⟩
      obtain ⟨z1, z2, z3⟩ := wstep (e := ("push", n)) fD s1 eD wl nt
      refine ⟨ys, z1, ?_, z2, ?_⟩
      · rw [wl.len, List.length_map, sizeLine_eq]
        have := List.length_take_le i ns
        omega
      · rw [take_map (fun i => (("push" : Str), i)) hn']
        exact z3
    · rintro H1 ⟨s1, ys, eD, wl⟩
      have hl : ns.length = ns.length := rfl
      rw [List.length_map, ← hl, List.take_length] at wl
      exact q _ _ _ fD s1 eD wl
def spPops : Sp := fun vs H Q _ => ∃ (a : Addr) (ns : List Nat), vs = [.ref a] ∧ H a = some (.lst (ns.map nV)) ∧ ns.length < 4000000 ∧ ∀ p xs H', Fr H p → Same H H' → H' p = some (.lst xs) → WLog H' xs (ns.reverse.map fun i => ("pop", i)) → Q (.ref p) H'
theorem ok_pops (T : Txt K mg) : FnOk P w K mg base CX0 1 T.f_plan_pops T.d_plan_pops ["numbers"] spPops := by
  refine T.F_plan_pops.ok sc_plan_pops (fun vs H Q E h => ?_) (fun cdv A outer s H vs Q E hr h => ?_)
  · obtain ⟨a, ns, rfl, _⟩ := h
    rfl
  · obtain ⟨a, ns, rfl, ha, hn, q⟩ := h
    refine ⟨_, (pss_one (ps_ret (pe_lc (own := [("number", 1)]) (g := gName 1) (tt := tYes) rfl sc_plan_pops.nd (RT.pi_revA (by rfl) T.z_reversed (pv 0)) (blkOk_by (N := n_plan_pops) (sc := defScope s_plan_pops) (by decide +kernel)) (fun _ _ _ _ _ => (pg_name (i := 1) sc_plan_pops.nd rfl (.inl rfl))) (fun _ _ _ _ _ => pts_nil) (fun _ _ _ _ _ => (pe_tup (pa_cons pe_str (pa_cons (pv 1) pa_nil))))))), ?_⟩
    refine ⟨_, rfl, a, _, rfl, .inl ⟨sqlOf ha, fun D nD => ?_⟩⟩
    have fD := Fr.mk nD
    refine lc_it (walk_rev (K := K) (a := a) (xs := ns.map nV)) (fun i H' => Same H H' ∧ ∃ ys, H' D = some (.lst ys) ∧ WLog H' ys ((ns.reverse.take i).map fun i => (("pop" : Str), i))) ⟨same_newF fD, [], upd_same, WLog.nil⟩ (fun i H' _ z => sqlOf (z.1 _ _ ha)) ?_ ?_
    · rintro i x H1 H2 hi ⟨s1, ys, eD, wl⟩ ⟨rfl, hx⟩
      have li := List.length_map (as := ns) nV
      obtain ⟨n, hn', rfl⟩ : ∃ n : Nat, ns.reverse[i]? = some n ∧ x = .int (n : Int) := by
        rw [List.getElem?_map] at hx
        obtain ⟨n, h1, h2⟩ := Option.map_eq_some_iff.mp hx
        rw [li] at h1 hi
        exact ⟨n, by rw [List.getElem?_reverse hi]; exact h1, h2.symm⟩
      refine ⟨rfl, ?_⟩
      unfold tYes
      refine ifT rfl ?_
      refine ⟨_, rfl, le2, fun t nt => ?_⟩
      obtain ⟨z1, z2, z3⟩ := wstep (e := ("pop", n)) fD s1 eD wl nt
      refine ⟨ys, z1, ?_, z2, ?_⟩
      · rw [wl.len, List.length_map, sizeLine_eq]
        have := List.length_take_le i ns.reverse
        rw [li] at hi
        omega
      · rw [take_map (fun i => (("pop" : Str), i)) hn']
        exact z3
    · rintro H1 ⟨s1, ys, eD, wl⟩
      have hl : ns.reverse.length = ns.length := List.length_reverse
      rw [List.length_map, ← hl, List.take_length] at wl
      exact q _ _ _ fD s1 eD wl
end
end Ob

set_option Elab.async false
set_option linter.all false
set_option maxRecDepth 100000
set_option maxHeartbeats 1000000
namespace Ob
open PySem PySem.Spec PyProof.Rows L2
open LamX (Tabs TabB TabS ExtN)

set_option hygiene false in
local macro_rules
  | `(tactic| kp_flats) => `(tactic| first
    | assumption
    | exact upd_same
    | (apply atNew; assumption; kp_flats)
    | (apply atNe; (next => kbo_bools); kp_flats)
    | (apply atSame; assumption; kp_flats)
    | (apply atKp; assumption; (next => kaf_pre); kp_flats))
set_option hygiene false in
local macro_rules
  | `(tactic| kaf_pre) => `(tactic| first
    | assumption
    | exact not_nil
    | (apply not_cons; (next => kbo_bools); kaf_pre)
    | (apply not_app; (next => kaf_pre); kaf_pre))
set_option hygiene false in
local macro_rules
  | `(tactic| kbo_bools) => `(tactic| first
    | assumption
    | (apply Ne.symm; assumption)
    | (apply neN; assumption; kp_flats)
    | (apply neN'; assumption; kp_flats))
set_option hygiene false in
local macro_rules
  | `(tactic| o_reads) => `(tactic| first
    | with_reducible rfl
    | assumption
    | rfl
    | kp_flats
    | (show SqL _ _ _ _; first | assumption | (apply sqlOf; kp_flats) | (apply sqlSame; assumption; o_reads))
    | (show SqT _ _ _ _; first | assumption | (apply sqtOf; kp_flats) | (apply sqtAll; assumption) | (apply sqtSame; assumption; o_reads))
    | (show Cls _ _; first | exact T.cl_Unions)
    | (show NoAttr _ _ _; first | exact T.n_Unions_groups | exact T.n_Unions_parents | exact T.n_Unions_counts | exact T.n_Unions_moved)
    | (apply Or.inl; o_reads)
    | (apply Or.inr; o_reads)
    | (apply And.intro; (next => o_reads); o_reads)
    | (apply Exists.intro; o_reads)
    | exact Nat.le_of_ble_eq_true rfl
    | exact Nat.succ_ne_zero _
    | (show Fr _ _; kba_ints)
    | (show Same _ _; kd_subs)
    | (show Kp _ _ _; kxs_still)
    | (show (_ : Nat) ≤ _; simp only [List.length_append, List.length_map, List.length_cons, List.length_nil, List.length_take, List.length_drop, List.length_replicate, List.length_range, sizeLine_eq]; omega)
    | (show _ = none; apply Fr.h; kba_ints)
    | (show Bag _ _; first | assumption | (apply bag_putF; assumption; o_reads) | (apply bag_neF; (next => kbo_bools); o_reads) | (apply bag_kpR; assumption; (next => kaf_pre); o_reads))
    | omega
    | decide)
local macro_rules
  | `(tactic| o_readsAll) => `(tactic| repeat (first
    | (refine fun (pNew : Addr) (nNew : _ = none) => ?_; replace nNew := Fr.mk nNew)
    | (refine fun (xNew dNew : Addr) (nNew : _ = none) (mNew : _ = none) (eNew : dNew ≠ xNew) => ?_; replace nNew := Fr.mk nNew; replace mNew := Fr.mk mNew)
    | (apply And.intro; next => o_reads)
    | apply Exists.intro (α := V)
    | apply Exists.intro (α := Addr)
    | apply Exists.intro (α := Int)
    | apply Exists.intro (α := Bool)
    | apply Exists.intro (α := List V)
    | apply Exists.intro (α := List Nat)
    | apply Exists.intro (α := List (Str × V))
    | apply Exists.intro (α := List _)
    | apply Exists.intro (α := Str)
    | apply Exists.intro (α := HO)
    | apply Exists.intro (α := Sp)
    | apply Exists.intro (α := VK)))
set_option hygiene false in
local macro_rules
  | `(tactic| kba_ints) => `(tactic| first
    | assumption
    | (apply frUp; (first | assumption | (apply Ne.symm; assumption)); kba_ints)
    | (apply noneOf; assumption; intro oF eF; apply Exists.intro; kp_flats)
    | (apply frUp; (next => kbo_bools); kba_ints))
set_option hygiene false in
local macro_rules
  | `(tactic| kxs_still) => `(tactic| first
    | assumption
    | exact kp_refl _ _
    | (apply kp_newF; assumption; kxs_still)
    | (apply kp_new; assumption; kxs_still)
    | (apply kp_up; (next => o_fieldsN); kxs_still)
    | (apply kp_new; (next => kba_ints); kxs_still)
    | (apply kp_sameR; assumption; kxs_still)
    | (apply kp_transR; assumption; kxs_still)
    | (apply kp_freshR; assumption; (next => kaf_suf); kxs_still))
set_option hygiene false in
local macro_rules
  | `(tactic| kaf_suf) => `(tactic| first
    | assumption
    | exact subNil
    | (apply subCons; (first | (apply Or.inl; o_fieldsN) | (apply Or.inr; kba_ints)); kaf_suf)
    | (apply subApp; (next => kaf_suf); kaf_suf))
set_option hygiene false in
local macro_rules
  | `(tactic| o_fieldsN) => `(tactic| first
    | assumption
    | exact memA
    | (apply memB; o_fieldsN)
    | (apply memL; o_fieldsN)
    | (apply memR; o_fieldsN))
set_option hygiene false in
local macro_rules
  | `(tactic| kd_subs) => `(tactic| first
    | assumption
    | exact Same.refl _
    | (apply same_putF; assumption; kd_subs)
    | (apply same_putG; assumption; kd_subs)
    | (apply same_putF; (next => kba_ints); kd_subs)
    | (apply same_transR; assumption; kd_subs))

set_option pp.maxSteps 900
/-! ### a visit to a node -/
def pushW (ns : List Nat) : List (Str × Nat) := ns.map fun i => ("push", i)
def popW (ns : List Nat) : List (Str × Nat) := ns.reverse.map fun i => ("pop", i)
def askedIn (bs : List Bool) (f s : Nat) : Bool := ((bs.drop f).take s).any id
def walkW (N : Nat → Nat → List Nat) (bs : List Bool) : Nat → Nat → List (Str × Nat)
  | 0, f => if askedIn bs f 1 = true then pushW (N f 1) ++ [(("ask" : Str), f)] ++ popW (N f 1) else []
  | k + 1, f => if askedIn bs f (2 ^ (k + 1)) = true then pushW (N f (2 ^ (k + 1))) ++ (walkW N bs k f ++ walkW N bs k (f + 2 ^ k)) ++ popW (N f (2 ^ (k + 1))) else []
def midW (N : Nat → Nat → List Nat) (bs : List Bool) : Nat → Nat → List (Str × Nat)
  | 0, f => [("ask", f)]
  | k + 1, f => walkW N bs k f ++ walkW N bs k (f + 2 ^ k)
theorem walkW_eq {N : Nat → Nat → List Nat} {bs : List Bool} {k f : Nat} : walkW N bs k f = if askedIn bs f (2 ^ k) = true then pushW (N f (2 ^ k)) ++ midW N bs k f ++ popW (N f (2 ^ k)) else [] := by
  cases k with
  | zero => rfl
  | succ k => rfl
/-- the members by the nodes of a walk, in a dict -/
def NodesAt (H : Hp) (kvs : List (List Key × V)) (N : Nat → Nat → List Nat) : Prop := ∀ f s : Nat, (N f s).length < 4000000 ∧ ((valV kvs [.inl (f : Int), .inl (s : Int)] = none ∧ N f s = []) ∨ ∃ a, valV kvs [.inl (f : Int), .inl (s : Int)] = some (.ref a) ∧ H a = some (.lst ((N f s).map nV)))
theorem NodesAt.kp {H H1 : Hp} {kvs : List (List Key × V)} {N : Nat → Nat → List Nat} {cs : List Addr} (h : NodesAt H kvs N) (k : Kp cs H H1) (n : ∀ f s a, valV kvs [.inl ((f : Nat) : Int), .inl ((s : Nat) : Int)] = some (.ref a) → a ∉ cs) : NodesAt H1 kvs N := fun f s => by
  obtain ⟨h0, h1⟩ := h f s
  exact ⟨h0, h1.imp id fun ⟨a, e, ea⟩ => ⟨a, e, k.at_ _ _ ea (n f s a e)⟩⟩
theorem cut_range {xs : List V} {f s : Nat} : cutV xs (some (f : Int)) (some ((f : Int) + (s : Int))) = (xs.drop f).take s := by
  unfold cutV
  have e1 : HT.sIx xs.length 0 (some (f : Int)) = min f xs.length := by
    simp [HT.sIx]
    try omega
  have e2 : HT.sIx xs.length xs.length (some ((f : Int) + (s : Int))) = min (f + s) xs.length := by
    simp [HT.sIx]
    rw [if_neg (by omega), show ((f : Int) + (s : Int)).toNat = f + s by omega]
  rw [e1, e2]
  by_cases h : f ≤ xs.length
  · rw [Nat.min_eq_left h]
    refine List.take_eq_take_iff.mpr ?_
    rw [List.length_drop]
    omega
  · rw [Nat.min_eq_right (show xs.length ≤ f by omega), List.drop_eq_nil_of_le (Nat.le_refl xs.length), List.drop_eq_nil_of_le (show xs.length ≤ f by omega), List.take_nil, List.take_nil]
section
variable {P : Program} {w : World} {K : PySem.W.Frag} {mg : Str → Option Value} {base : Heap}
def spVis : Nat → Sp
  | 0 => fun _ _ _ _ => False
  | k + 1 => fun vs H Q _ => ∃ (en nd ak : Addr) (f : Nat) (xs0 : List V) (kvs : List (List Key × V)) (bs : List Bool) (N : Nat → Nat → List Nat), vs = [.ref en, .ref nd, .ref ak, .int (f : Int), .int ((2 ^ k : Nat) : Int)] ∧ H en = some (.lst xs0) ∧ H nd = some (.dT kvs) ∧ H ak = some (.lst (bs.map V.bl)) ∧ NodesAt H kvs N ∧
    (∀ f s a, valV kvs [.inl ((f : Nat) : Int), .inl ((s : Nat) : Int)] = some (.ref a) → a ≠ en) ∧ ak ≠ en ∧ f + 2 ^ k ≤ 2 ^ 20 ∧ bs.length ≤ 2 ^ 20 ∧ xs0.length + (walkW N bs k f).length < 2 ^ 24 ∧
    ∀ ys H', Kp [en] H H' → H' en = some (.lst (xs0 ++ ys)) → WLog H' ys (walkW N bs k f) → Q .non H'
theorem ok_visit (T : Txt K mg) : ∀ k, FnOk P w K mg base CX0 (k + 2) T.f_visit T.d_visit ["entries", "nodes", "asked", "first", "size"] (spVis k)
  | 0 => ⟨fun _ _ _ _ h => h.elim, fun _ _ _ _ _ _ _ _ _ _ _ _ _ h => h.elim⟩
  | k + 1 => by
    have G_visit := ok_visit T k
    have G_plan_pushes := ok_push (P := P) (w := w) (base := base) T
    have G_plan_pops := ok_pops (P := P) (w := w) (base := base) T
    refine T.F_visit.ok sc_visit (fun vs H Q E h => ?_) (fun cdv A outer s H vs Q E hr h => ?_)
    · obtain ⟨en, nd, ak, f, xs0, kvs, bs, N, rfl, _⟩ := h
      rfl
    · obtain ⟨en, nd, ak, f, xs0, kvs, bs, N, rfl, he, hn, ha, hN, hne, nae, hf, hb, hx, q⟩ := h
      refine ⟨_, (pss_cons (ps_if (pt_not (pt_truth (pe_callB (cr_any rfl) (by rfl) T.z_any (by decide +kernel) (pa_cons (pe_slice sl_list (pv 2) (po_some (pv 3)) (po_some (pe_op op_add (pv 3) (pv 4)))) pa_nil)) (by intro _; rfl))) (pss_one ps_retN) pss_nil)
      (pss_cons (ps_set (i := 5) sc_visit.nd rfl (.inl rfl) (pe_dget2 (hu_of hr) (pv 1) (pe_tup (pa_cons (pv 3) (pa_cons (pv 4) pa_nil))) (pe_lst pa_nil) ⟨rfl, rfl, rfl, rfl⟩))
      (pss_cons (ps_expr (pe_bm PySem.F.plainAttrs_list PySem.F.slot_list_extend PySem.F.type_list_extend mt_extend (pv 0) (pa_cons (pe_call G_plan_pushes (hr.mono (by omega)) rfl T.g_plan_pushes T.F_plan_pushes.kp T.b_plan_pushes .nil pass0 (pa_cons (pv 5) pa_nil)) pa_nil)))
      (C8.pss_cut (ps_if (pt_cmpR op_eq (pv 4) pe_int (nomark _)) (pss_one (ps_expr (pe_bm PySem.F.plainAttrs_list PySem.F.slot_list_append PySem.F.type_list_append mt_append (pv 0) (pa_cons (pe_tup (pa_cons pe_str (pa_cons (pv 3) pa_nil))) pa_nil)))) (pss_cons (ps_set (i := 6) sc_visit.nd rfl (.inl rfl) (pe_op op_fdivW (pv 4) pe_int))
        (pss_cons (ps_expr (pe_call G_visit (hr.mono (by omega)) rfl T.g_visit T.F_visit.kp T.b_visit .nil pass0 (pa_cons (pv 0) (pa_cons (pv 1) (pa_cons (pv 2) (pa_cons (pv 3) (pa_cons (pv 6) pa_nil)))))))
        (pss_one (ps_expr (pe_call G_visit (hr.mono (by omega)) rfl T.g_visit T.F_visit.kp T.b_visit .nil pass0 (pa_cons (pv 0) (pa_cons (pv 1) (pa_cons (pv 2) (pa_cons (pe_op op_add (pv 3) (pv 6)) (pa_cons (pv 6) pa_nil)))))))))))
      (pss_one (ps_expr (pe_bm PySem.F.plainAttrs_list PySem.F.slot_list_extend PySem.F.type_list_extend mt_extend (pv 0) (pa_cons (pe_call G_plan_pops (hr.mono (by omega)) rfl T.g_plan_pops T.F_plan_pops.kp T.b_plan_pops .nil pass0 (pa_cons (pv 5) pa_nil)) pa_nil)))))))), ?_⟩
      refine ⟨_, rfl, _, rfl, f, rfl, _, rfl, _, rfl, _, _, rfl, rfl, f + (2 ^ k : Nat), rfl, ak, _, rfl, sqlOf ha, fun p np => ⟨p, ((bs.drop f).take (2 ^ k)), rfl, sqlOf ?_, askedIn bs f (2 ^ k), rfl, ?_⟩⟩
      · rw [upd_same, cut_range, List.map_take, List.map_drop]
      rw [walkW_eq] at hx q
      have s1 : Same H (upd H p (.lst (cutV (bs.map V.bl) (some (f : Int)) (some ((f : Int) + ((2 ^ k : Nat) : Int)))))) := same_newF (Fr.mk np)
      generalize upd H p (.lst (cutV (bs.map V.bl) (some (f : Int)) (some ((f : Int) + ((2 ^ k : Nat) : Int))))) = H1 at s1 ⊢
      have he1 := s1 _ _ he
      by_cases c : askedIn bs f (2 ^ k) = true
      · rw [if_pos c] at hx q
        refine ifF (by rw [c]; rfl) ⟨_, rfl, nd, rfl, .inr ⟨kvs, .inl (s1 _ _ hn)⟩, _, rfl, _, rfl, le2, fun b nb => ⟨Nat.zero_le _, fun z nz => ⟨_, DGet.t (k := [.inl (f : Int), .inl ((2 ^ k : Nat) : Int)]) (atNew (Fr.mk nz) (atNew (Fr.mk nb) (s1 _ _ hn))) (atNew (Fr.mk nz) upd_same), ?_⟩⟩⟩
        have s3 : Same H (upd (upd H1 b (.tup [.int (f : Int), .int ((2 ^ k : Nat) : Int)])) z (.lst [])) := (s1.trans (same_newF (Fr.mk nb))).trans (same_newF (Fr.mk nz))
        have ez : upd (upd H1 b (.tup [.int (f : Int), .int ((2 ^ k : Nat) : Int)])) z (.lst []) z = some (.lst []) := upd_same
        have nzen : z ≠ en := fun e => by
          rw [e, upd_ne (ne_of_none he1 nb), he1] at nz
          cases nz
        show (gName 5) _ _ (upd (upd H1 b (.tup [.int (f : Int), .int ((2 ^ k : Nat) : Int)])) z (.lst [])) _
        generalize upd (upd H1 b (.tup [.int (f : Int), .int ((2 ^ k : Nat) : Int)])) z (.lst []) = H3 at s3 ez ⊢
        obtain ⟨hl, hcase⟩ := hN f (2 ^ k)
        obtain ⟨ia, eia, hia, nia⟩ : ∃ ia, (valV kvs [.inl (f : Int), .inl ((2 ^ k : Nat) : Int)]).getD (.ref z) = .ref ia ∧ H3 ia = some (.lst ((N f (2 ^ k)).map nV)) ∧ ia ≠ en := by
          rcases hcase with ⟨e1, e2⟩ | ⟨a, e1, e2⟩
          · exact ⟨z, by rw [e1]; rfl, by rw [e2]; exact ez, nzen⟩
          · exact ⟨a, by rw [e1]; rfl, s3 _ _ e2, hne _ _ _ e1⟩
        rw [eia]
        have he3 := s3 _ _ he
        have lp : (pushW (N f (2 ^ k))).length = (N f (2 ^ k)).length := List.length_map ..
        have lq : (popW (N f (2 ^ k))).length = (N f (2 ^ k)).length := by
          unfold popW
          rw [List.length_map, List.length_reverse]
        rw [List.length_append, List.length_append, lp, lq] at hx
        refine ⟨_, rfl, .inl ⟨rfl, _, sqlOf he3⟩, _, rfl, ia, _, rfl, hia, hl, fun p xs H4 fp s4 ep wl => ⟨en, p, _, _, rfl, rfl, s4 _ _ he3, ep, ?_, ?_⟩⟩
        · have := wl.len
          rw [List.length_map] at this
          rw [sizeLine_eq]
          omega
        have m4 : Mu H4 [en] := mu_lst (s4 _ _ he3) mu_nil
        have k5 : Kp [en] H4 (upd H4 en (.lst (xs0 ++ xs))) := kp_up memA (kp_refl _ _)
        have k05 : Kp [en] H (upd H4 en (.lst (xs0 ++ xs))) := kp_trans (kp_same (s3.trans s4)) k5
        have e5 : upd H4 en (.lst (xs0 ++ xs)) en = some (.lst (xs0 ++ xs)) := upd_same
        have wl5 := wl.kp k5 m4
        have hia5 := k5.at_ _ _ (s4 _ _ hia) (not_cons nia not_nil)
        show C8.tCut _ _ _ _ (upd H4 en (.lst (xs0 ++ xs)))
        generalize upd H4 en (.lst (xs0 ++ xs)) = H5 at k05 e5 wl5 hia5 ⊢
        have hN5 := hN.kp k05 (fun f s a e => not_cons (hne f s a e) not_nil)
        refine ⟨fun σ H' => ∃ zs y6, σ = [some (.ref en), some (.ref nd), some (.ref ak), some (.int (f : Int)), some (.int ((2 ^ k : Nat) : Int)), some (.ref ia), y6] ∧ Kp [en] H H' ∧ H' en = some (.lst (xs0 ++ zs)) ∧ WLog H' zs (pushW (N f (2 ^ k)) ++ midW N bs k f) ∧ H' ia = some (.lst ((N f (2 ^ k)).map nV)), ?_, ?_⟩
        · have hlx := wl.len
          rw [List.length_map] at hlx
          have nne : nd ≠ en := fun z => by
            rw [z, he] at hn
            cases hn
          have m5 : Mu H5 [en] := mu_lst e5 mu_nil
          cases k with
          | zero =>
            refine ⟨_, rfl, rfl, _, rfl, ifT rfl ⟨_, rfl, .inl ⟨rfl, _, sqlOf e5⟩, _, rfl, le2, fun t nt => ⟨en, _, _, rfl, rfl, atNew (Fr.mk nt) e5, ?_, ?_⟩⟩⟩
            · rw [List.length_append, sizeLine_eq]
              have : (midW N bs 0 f).length = 1 := rfl
              omega
            have ft := Fr.mk nt
            have s6 := same_newF (o := .tup [.str (Str.ofString "ask"), .int (f : Int)]) ft
            have e6 := s6 _ _ e5
            have m6 : Mu (upd H5 t (.tup [.str (Str.ofString "ask"), .int (f : Int)])) [en] := mu_lst e6 mu_nil
            have k6 : Kp [en] (upd H5 t (.tup [.str (Str.ofString "ask"), .int (f : Int)])) (upd (upd H5 t (.tup [.str (Str.ofString "ask"), .int (f : Int)])) en (.lst (xs0 ++ xs ++ [.ref t]))) := kp_up memA (kp_refl _ _)
            exact ⟨xs ++ [.ref t], _, rfl, kp_trans k05 (kp_trans (kp_same s6) k6), by rw [upd_same, List.append_assoc], (((wl5.kp (kp_same (cs := []) s6) mu_nil)).kp k6 m6).app (WLog.one (WEnt.kp ⟨t, rfl, upd_same⟩ k6 m6)), k6.at_ _ _ (s6 _ _ hia5) (not_cons nia not_nil)⟩
          | succ j =>
            have h2 : (2 : Nat) ^ (j + 1) = 2 ^ j + 2 ^ j := by rw [Nat.pow_succ]; omega
            have hp := Nat.two_pow_pos j
            refine ⟨_, rfl, rfl, _, rfl, ifF ?_ ?_⟩
            · exact decide_eq_false fun z => by
                injection z with z
                omega
            refine ⟨_, rfl, _, _, rfl, rfl, ?_, ?_⟩
            · exact ⟨by decide, by decide +kernel⟩
            have eh : (((2 ^ (j + 1) : Nat) : Int) / 2) = ((2 ^ j : Nat) : Int) := by omega
            have hm : midW N bs (j + 1) f = walkW N bs j f ++ walkW N bs j (f + 2 ^ j) := rfl
            rw [hm, List.length_append] at hx
            refine ⟨_, rfl, _, rfl, _, rfl, _, rfl, _, rfl, en, nd, ak, f, xs0 ++ xs, kvs, bs, N, ?_, e5, k05.at_ _ _ hn (not_cons nne not_nil), k05.at_ _ _ ha (not_cons nae not_nil), hN5, hne, nae, by omega, hb, ?_, fun ys1 H6 k6 e6 w6 => ?_⟩
            · show [_, _, _, _, V.int _] = _
              rw [eh]
            · rw [List.length_append]
              omega
            have k06 := kp_trans k05 k6
            have m6 : Mu H6 [en] := mu_lst e6 mu_nil
            have l6 := w6.len
            refine ⟨_, rfl, _, rfl, _, rfl, _, rfl, _, rfl, _, _, rfl, rfl, _, rfl, en, nd, ak, f + 2 ^ j, xs0 ++ xs ++ ys1, kvs, bs, N, ?_, e6, k06.at_ _ _ hn (not_cons nne not_nil), k06.at_ _ _ ha (not_cons nae not_nil), hN.kp k06 (fun f s a e => not_cons (hne f s a e) not_nil), hne, nae, by omega, hb, ?_, fun ys2 H7 k7 e7 w7 => ?_⟩
            · show [_, _, _, V.int ((f : Int) + (((2 ^ (j + 1) : Nat) : Int) / 2)), V.int (((2 ^ (j + 1) : Nat) : Int) / 2)] = _
              rw [eh, Int.natCast_add]
            · rw [List.length_append, List.length_append]
              omega
            exact ⟨xs ++ ys1 ++ ys2, _, rfl, kp_trans k06 k7, by rw [e7, List.append_assoc, List.append_assoc, List.append_assoc], by
              rw [hm, ← List.append_assoc]
              exact ((wl5.kp k6 m5).app w6 |>.kp k7 m6).app w7, k7.at_ _ _ (k6.at_ _ _ hia5 (not_cons nia not_nil)) (not_cons nia not_nil)⟩
        · rintro σ H6 ⟨zs, y6, rfl, k06, e6, wl6, hia6⟩
          have l6 := wl6.len
          rw [List.length_append, lp] at l6
          refine ⟨_, rfl, .inl ⟨rfl, _, sqlOf e6⟩, _, rfl, ia, _, rfl, hia6, hl, fun p xs2 H7 fp s7 ep wl7 => ⟨en, p, _, _, rfl, rfl, s7 _ _ e6, ep, ?_, ?_⟩⟩
          · have := wl7.len
            rw [List.length_map, List.length_reverse] at this
            rw [sizeLine_eq, List.length_append]
            omega
          have e7 := s7 _ _ e6
          have m7 : Mu H7 [en] := mu_lst e7 mu_nil
          have k8 : Kp [en] H7 (upd H7 en (.lst (xs0 ++ zs ++ xs2))) := kp_up memA (kp_refl _ _)
          exact q (zs ++ xs2) _ (kp_trans k06 (kp_trans (kp_same s7) k8)) (by rw [upd_same, List.append_assoc]) (((wl6.kp (kp_same (cs := []) s7) mu_nil).kp k8 m7).app (wl7.kp k8 m7))
      · rw [if_neg c] at hx q
        refine ifT (by rw [Bool.eq_false_iff.mpr c]; rfl) ?_
        refine q [] _ (kp_same s1) ?_ WLog.nil
        rw [List.append_nil]
        exact he1
end
end Ob

set_option Elab.async false
set_option linter.all false
set_option maxRecDepth 100000
set_option maxHeartbeats 1000000
namespace Ob
open PySem PySem.Spec PyProof.Rows L2
open LamX (Tabs TabB TabS ExtN)

set_option hygiene false in
local macro_rules
  | `(tactic| kp_flats) => `(tactic| first
    | assumption
    | exact upd_same
    | (apply atNew; assumption; kp_flats)
    | (apply atNe; (next => kbo_bools); kp_flats)
    | (apply atSame; assumption; kp_flats)
    | (apply atKp; assumption; (next => kaf_pre); kp_flats))
set_option hygiene false in
local macro_rules
  | `(tactic| kaf_pre) => `(tactic| first
    | assumption
    | exact not_nil
    | (apply not_cons; (next => kbo_bools); kaf_pre)
    | (apply not_app; (next => kaf_pre); kaf_pre))
set_option hygiene false in
local macro_rules
  | `(tactic| kbo_bools) => `(tactic| first
    | assumption
    | (apply Ne.symm; assumption)
    | (apply neN; assumption; kp_flats)
    | (apply neN'; assumption; kp_flats))
set_option hygiene false in
local macro_rules
  | `(tactic| o_reads) => `(tactic| first
    | with_reducible rfl
    | assumption
    | rfl
    | kp_flats
    | (show SqL _ _ _ _; first | assumption | (apply sqlOf; kp_flats) | (apply sqlSame; assumption; o_reads))
    | (show SqT _ _ _ _; first | assumption | (apply sqtOf; kp_flats) | (apply sqtAll; assumption) | (apply sqtSame; assumption; o_reads))
    | (show Cls _ _; first | exact T.cl_Unions)
    | (show NoAttr _ _ _; first | exact T.n_Unions_groups | exact T.n_Unions_parents | exact T.n_Unions_counts | exact T.n_Unions_moved)
    | (apply Or.inl; o_reads)
    | (apply Or.inr; o_reads)
    | (apply And.intro; (next => o_reads); o_reads)
    | (apply Exists.intro; o_reads)
    | exact Nat.le_of_ble_eq_true rfl
    | exact Nat.succ_ne_zero _
    | (show Fr _ _; kba_ints)
    | (show Same _ _; kd_subs)
    | (show Kp _ _ _; kxs_still)
    | (show (_ : Nat) ≤ _; simp only [List.length_append, List.length_map, List.length_cons, List.length_nil, List.length_take, List.length_drop, List.length_replicate, List.length_range, sizeLine_eq]; omega)
    | (show _ = none; apply Fr.h; kba_ints)
    | (show Bag _ _; first | assumption | (apply bag_putF; assumption; o_reads) | (apply bag_neF; (next => kbo_bools); o_reads) | (apply bag_kpR; assumption; (next => kaf_pre); o_reads))
    | omega
    | decide)
local macro_rules
  | `(tactic| o_readsAll) => `(tactic| repeat (first
    | (refine fun (pNew : Addr) (nNew : _ = none) => ?_; replace nNew := Fr.mk nNew)
    | (refine fun (xNew dNew : Addr) (nNew : _ = none) (mNew : _ = none) (eNew : dNew ≠ xNew) => ?_; replace nNew := Fr.mk nNew; replace mNew := Fr.mk mNew)
    | (apply And.intro; next => o_reads)
    | apply Exists.intro (α := V)
    | apply Exists.intro (α := Addr)
    | apply Exists.intro (α := Int)
    | apply Exists.intro (α := Bool)
    | apply Exists.intro (α := List V)
    | apply Exists.intro (α := List Nat)
    | apply Exists.intro (α := List (Str × V))
    | apply Exists.intro (α := List _)
    | apply Exists.intro (α := Str)
    | apply Exists.intro (α := HO)
    | apply Exists.intro (α := Sp)
    | apply Exists.intro (α := VK)))
set_option hygiene false in
local macro_rules
  | `(tactic| kba_ints) => `(tactic| first
    | assumption
    | (apply frUp; (first | assumption | (apply Ne.symm; assumption)); kba_ints)
    | (apply noneOf; assumption; intro oF eF; apply Exists.intro; kp_flats)
    | (apply frUp; (next => kbo_bools); kba_ints))
set_option hygiene false in
local macro_rules
  | `(tactic| kxs_still) => `(tactic| first
    | assumption
    | exact kp_refl _ _
    | (apply kp_newF; assumption; kxs_still)
    | (apply kp_new; assumption; kxs_still)
    | (apply kp_up; (next => o_fieldsN); kxs_still)
    | (apply kp_new; (next => kba_ints); kxs_still)
    | (apply kp_sameR; assumption; kxs_still)
    | (apply kp_transR; assumption; kxs_still)
    | (apply kp_freshR; assumption; (next => kaf_suf); kxs_still))
set_option hygiene false in
local macro_rules
  | `(tactic| kaf_suf) => `(tactic| first
    | assumption
    | exact subNil
    | (apply subCons; (first | (apply Or.inl; o_fieldsN) | (apply Or.inr; kba_ints)); kaf_suf)
    | (apply subApp; (next => kaf_suf); kaf_suf))
set_option hygiene false in
local macro_rules
  | `(tactic| o_fieldsN) => `(tactic| first
    | assumption
    | exact memA
    | (apply memB; o_fieldsN)
    | (apply memL; o_fieldsN)
    | (apply memR; o_fieldsN))
set_option hygiene false in
local macro_rules
  | `(tactic| kd_subs) => `(tactic| first
    | assumption
    | exact Same.refl _
    | (apply same_putF; assumption; kd_subs)
    | (apply same_putG; assumption; kd_subs)
    | (apply same_putF; (next => kba_ints); kd_subs)
    | (apply same_transR; assumption; kd_subs))

set_option pp.maxSteps 900
/-! ### the lowest power by the and of both signs -/
theorem and_parts (a b : Nat) : a &&& b = 2 * (a / 2 &&& b / 2) + (a % 2 &&& b % 2) := by
  have h1 : (a &&& b) / 2 = a / 2 &&& b / 2 := Nat.and_div_two
  have h2 : (a &&& b) % 2 = a % 2 &&& b % 2 := by
    have := Nat.and_mod_two_pow (a := a) (b := b) (n := 1)
    simpa using this
  omega
theorem low_and : ∀ n : Nat, n ≠ 0 → n - (n &&& (n - 1)) = low n := by
  intro n
  induction n using Nat.strongRecOn with
  | ind n ih =>
    intro h
    by_cases e : n % 2 = 0
    · obtain ⟨m, rfl⟩ : ∃ m, n = 2 * m := ⟨n / 2, by omega⟩
      have hm : m ≠ 0 := by omega
      have i := ih m (by omega) hm
      rw [low_even h e, and_parts, show 2 * m / 2 = m by omega, show (2 * m - 1) / 2 = m - 1 by omega, show 2 * m % 2 = 0 by omega, Nat.zero_and, ← i]
      omega
    · rw [low_odd (by omega), and_parts, show (n - 1) / 2 = n / 2 by omega, show (n - 1) % 2 = 0 by omega, Nat.and_zero, Nat.and_self]
      omega
theorem low_bits {n : Nat} (h : n ≠ 0) : Builtin.bitAnd (n : Int) (-(n : Int)) = (low n : Int) := by
  have e1 : (Builtin.bitNot (-(n : Int))).toNat = n - 1 := by
    show (-(-(n : Int)) - 1).toNat = n - 1
    omega
  have e2 : n &&& (n - 1) ≤ n := Nat.and_le_left
  rw [bitAnd_pn (by omega) (by omega), e1, Int.toNat_natCast, ← low_and n h]
  omega
theorem low_spec : ∀ n : Nat, n ≠ 0 → ∃ e, low n = 2 ^ e ∧ n % 2 ^ e = 0 ∧ n % 2 ^ (e + 1) ≠ 0 := by
  intro n
  induction n using Nat.strongRecOn with
  | ind n ih =>
    intro h
    by_cases e : n % 2 = 0
    · obtain ⟨m, rfl⟩ : ∃ m, n = 2 * m := ⟨n / 2, by omega⟩
      have hm : m ≠ 0 := by omega
      obtain ⟨k, e1, e2, e3⟩ := ih m (by omega) hm
      refine ⟨k + 1, ?_, ?_, ?_⟩
      · rw [low_even h e, show 2 * m / 2 = m by omega, e1, Nat.pow_succ, Nat.mul_comm]
      · rw [Nat.pow_succ, Nat.mul_comm (2 ^ k) 2, Nat.mul_mod_mul_left, e2]
      · rw [Nat.pow_succ, Nat.mul_comm (2 ^ (k + 1)) 2, Nat.mul_mod_mul_left]
        omega
    · exact ⟨0, low_odd (by omega), Nat.mod_one _, by rw [Nat.zero_add, Nat.pow_one]; omega⟩
/-! ### pieces -/
def szP (a r : Nat) : Nat := if a = 0 then 2 ^ r.log2 else min (2 ^ r.log2) (low a)
def pcF : Nat → Nat → Nat → List (Nat × Nat)
  | 0, _, _ => []
  | f + 1, a, r => if r = 0 then [] else (a, szP a r) :: pcF f (a + szP a r) (r - szP a r)
def enough (k a r : Nat) : Prop := ∃ m, r < 2 ^ m ∧ (((a = 0 ∨ a % 2 ^ m = 0) ∧ m ≤ k) ∨ ∃ j, a ≠ 0 ∧ a % 2 ^ j = 0 ∧ j ≤ 100 ∧ (100 - j) + m + 1 ≤ k)
theorem mod_le {a i j : Nat} (h : a % 2 ^ j = 0) (l : i ≤ j) : a % 2 ^ i = 0 := by
  have d : 2 ^ i ∣ 2 ^ j := Nat.pow_dvd_pow 2 l
  exact Nat.mod_eq_zero_of_dvd (Nat.dvd_trans d (Nat.dvd_of_mod_eq_zero h))
theorem mod_add {a b i : Nat} (h : a % 2 ^ i = 0) (h2 : b % 2 ^ i = 0) : (a + b) % 2 ^ i = 0 := by
  rw [Nat.add_mod, h, h2]
  simp
theorem odd_up {a e : Nat} (h : a % 2 ^ e = 0) (h2 : a % 2 ^ (e + 1) ≠ 0) : (a + 2 ^ e) % 2 ^ (e + 1) = 0 := by
  obtain ⟨q, rfl⟩ := Nat.dvd_of_mod_eq_zero h
  have hp := Nat.two_pow_pos e
  rw [Nat.pow_succ, Nat.mul_mod_mul_left] at h2
  have h3 : q % 2 = 1 := by
    rcases Nat.mod_two_eq_zero_or_one q with z | z
    · rw [z] at h2
      exact absurd rfl h2
    · exact z
  rw [show 2 ^ e * q + 2 ^ e = 2 ^ e * (q + 1) by rw [Nat.mul_add, Nat.mul_one], Nat.pow_succ, Nat.mul_mod_mul_left, show (q + 1) % 2 = 0 by omega, Nat.mul_zero]
theorem szP_le {a r : Nat} (h : r ≠ 0) : szP a r ≤ r := by
  have l2 := log_lo h
  unfold szP
  split
  · exact l2
  · exact Nat.le_trans (Nat.min_le_left _ _) l2
theorem enough_step {k a r : Nat} (h : enough k a r) (hr : r ≠ 0) (hb : a + r ≤ 2 ^ 100) :
    ∃ k', k = k' + 1 ∧ enough k' (a + szP a r) (r - szP a r) ∧ szP a r ≤ r ∧ 0 < szP a r ∧ ∃ j, szP a r = 2 ^ j ∧ a % 2 ^ j = 0 := by
  obtain ⟨m, hm, hc⟩ := h
  have lo := log_lo hr
  have rl := rest_lt hr
  have ll := log_lt hr hm
  have hp := Nat.two_pow_pos r.log2
  rcases hc with ⟨hz, hk⟩ | ⟨j, ha, hj, hj1, hk⟩
  · have es : szP a r = 2 ^ r.log2 := by
      unfold szP
      by_cases z : a = 0
      · rw [if_pos z]
      · rw [if_neg z]
        obtain ⟨e, e1, e2, e3⟩ := low_spec a z
        rw [e1]
        rcases hz with hz | hz
        · exact absurd hz z
        · have : m ≤ e := by
            refine Nat.le_of_not_lt fun q => e3 (mod_le hz (by omega))
          exact Nat.min_eq_left (Nat.pow_le_pow_right (by decide) (by omega))
    have ad : a % 2 ^ r.log2 = 0 := by
      rcases hz with hz | hz
      · rw [hz]
        exact Nat.zero_mod _
      · exact mod_le hz (by omega)
    rw [es]
    exact ⟨k - 1, by omega, ⟨r.log2, rl, .inl ⟨.inr (mod_add ad (Nat.mod_self _)), by omega⟩⟩, lo, hp, _, rfl, ad⟩
  · obtain ⟨e, e1, e2, e3⟩ := low_spec a ha
    have hje : j ≤ e := Nat.le_of_not_lt fun q => e3 (mod_le hj (by omega))
    by_cases c : 2 ^ e ≤ 2 ^ r.log2
    · have es : szP a r = 2 ^ e := by
        unfold szP
        rw [if_neg ha, e1]
        exact Nat.min_eq_right c
      rw [es]
      have he : e < 100 := by
        have h1 : 2 ^ e < 2 ^ 100 := by omega
        exact (Nat.pow_lt_pow_iff_right (by decide)).mp h1
      have hpe := Nat.two_pow_pos e
      exact ⟨k - 1, by omega, ⟨m, by omega, .inr ⟨e + 1, by omega, odd_up e2 e3, by omega, by omega⟩⟩, by omega, hpe, _, rfl, e2⟩
    · have es : szP a r = 2 ^ r.log2 := by
        unfold szP
        rw [if_neg ha, e1]
        exact Nat.min_eq_left (by omega)
      have hle : r.log2 ≤ e := by
        refine Nat.le_of_not_lt fun q => c (Nat.pow_le_pow_right (by decide) (by omega))
      rw [es]
      exact ⟨k - 1, by omega, ⟨r.log2, rl, .inl ⟨.inr (mod_add (mod_le e2 hle) (Nat.mod_self _)), by omega⟩⟩, lo, hp, _, rfl, mod_le e2 hle⟩
theorem enough_all {a r : Nat} (h : a + r ≤ 10 ^ 30) : enough 201 a r := by
  have h1 : (10 ^ 30 : Nat) < 2 ^ 100 := by decide +kernel
  by_cases z : a = 0
  · exact ⟨100, by omega, .inl ⟨.inl z, by decide⟩⟩
  · exact ⟨100, by omega, .inr ⟨0, z, Nat.mod_one _, by decide, by decide⟩⟩
theorem pcF_zero (f a : Nat) : pcF f a 0 = [] := by
  cases f with
  | zero => rfl
  | succ f => exact if_pos rfl
theorem pcF_pos {f a r : Nat} (h : r ≠ 0) : pcF (f + 1) a r = (a, szP a r) :: pcF f (a + szP a r) (r - szP a r) := if_neg h
theorem pcF_len : ∀ (f a r : Nat), (pcF f a r).length ≤ f
  | 0, _, _ => Nat.le_refl _
  | f + 1, a, r => by
    by_cases h : r = 0
    · subst h
      rw [pcF_zero]
      exact Nat.zero_le _
    · rw [pcF_pos h, List.length_cons]
      have := pcF_len f (a + szP a r) (r - szP a r)
      omega
/-- a right list of pieces from a on, to b -/
def okP : Nat → List (Nat × Nat) → Nat → Prop
  | a, [], b => a = b
  | a, (x, s) :: t, b => x = a ∧ (∃ j, s = 2 ^ j ∧ a % 2 ^ j = 0) ∧ a + s ≤ b ∧ (∀ y s', t.head? = some (y, s') → ¬ (s' = s ∧ a % (2 * s) = 0)) ∧ okP (a + s) t b
/-- two neighbours never make one -/
theorem szP_next {a r : Nat} (hr : r ≠ 0) (h : r - szP a r ≠ 0) : ¬ (szP (a + szP a r) (r - szP a r) = szP a r ∧ a % (2 * szP a r) = 0) := by
  rintro ⟨e1, e2⟩
  have es : szP a r = 2 ^ r.log2 := by
    unfold szP
    by_cases z : a = 0
    · rw [if_pos z]
    · rw [if_neg z]
      obtain ⟨e, f1, f2, f3⟩ := low_spec a z
      rw [f1]
      refine Nat.min_eq_left (Nat.le_of_not_lt fun q => ?_)
      have f4 : szP a r = 2 ^ e := by
        unfold szP
        rw [if_neg z, f1]
        exact Nat.min_eq_right (Nat.le_of_lt q)
      rw [f4, show 2 * 2 ^ e = 2 ^ (e + 1) by rw [Nat.pow_succ, Nat.mul_comm]] at e2
      exact f3 e2
  have rl := rest_lt hr
  have le := szP_le (a := a + szP a r) h
  omega
theorem okP_all : ∀ (k a r : Nat), enough k a r → a + r ≤ 2 ^ 100 → okP a (pcF k a r) (a + r)
  | k, a, r, h, hb => by
    by_cases hr : r = 0
    · subst hr
      rw [pcF_zero]
      exact rfl
    · obtain ⟨k', rfl, h2, s1, s0, j, ej, aj⟩ := enough_step h hr hb
      rw [pcF_pos hr]
      refine ⟨rfl, ⟨j, ej, aj⟩, by omega, fun y s' e => ?_, ?_⟩
      · by_cases z : r - szP a r = 0
        · rw [z, pcF_zero] at e
          cases e
        · cases k' with
          | zero => cases e
          | succ k' =>
            rw [pcF_pos z] at e
            obtain ⟨rfl, rfl⟩ := Prod.mk.inj (Option.some.inj e)
            exact szP_next hr z
      · have := okP_all k' (a + szP a r) (r - szP a r) h2 (by omega)
        rw [show a + szP a r + (r - szP a r) = a + r by omega] at this
        exact this
end Ob

set_option Elab.async false
set_option linter.all false
set_option maxRecDepth 100000
set_option maxHeartbeats 1000000
namespace Ob
open PySem PySem.Spec PyProof.Rows L2
open LamX (Tabs TabB TabS ExtN)

set_option hygiene false in
local macro_rules
  | `(tactic| kp_flats) => `(tactic| first
    | assumption
    | exact upd_same
    | (apply atNew; assumption; kp_flats)
    | (apply atNe; (next => kbo_bools); kp_flats)
    | (apply atSame; assumption; kp_flats)
    | (apply atKp; assumption; (next => kaf_pre); kp_flats))
set_option hygiene false in
local macro_rules
  | `(tactic| kaf_pre) => `(tactic| first
    | assumption
    | exact not_nil
    | (apply not_cons; (next => kbo_bools); kaf_pre)
    | (apply not_app; (next => kaf_pre); kaf_pre))
set_option hygiene false in
local macro_rules
  | `(tactic| kbo_bools) => `(tactic| first
    | assumption
    | (apply Ne.symm; assumption)
    | (apply neN; assumption; kp_flats)
    | (apply neN'; assumption; kp_flats))
set_option hygiene false in
local macro_rules
  | `(tactic| o_reads) => `(tactic| first
    | with_reducible rfl
    | assumption
    | rfl
    | kp_flats
    | (show SqL _ _ _ _; first | assumption | (apply sqlOf; kp_flats) | (apply sqlSame; assumption; o_reads))
    | (show SqT _ _ _ _; first | assumption | (apply sqtOf; kp_flats) | (apply sqtAll; assumption) | (apply sqtSame; assumption; o_reads))
    | (show Cls _ _; first | exact T.cl_Unions)
    | (show NoAttr _ _ _; first | exact T.n_Unions_groups | exact T.n_Unions_parents | exact T.n_Unions_counts | exact T.n_Unions_moved)
    | (apply Or.inl; o_reads)
    | (apply Or.inr; o_reads)
    | (apply And.intro; (next => o_reads); o_reads)
    | (apply Exists.intro; o_reads)
    | exact Nat.le_of_ble_eq_true rfl
    | exact Nat.succ_ne_zero _
    | (show Fr _ _; kba_ints)
    | (show Same _ _; kd_subs)
    | (show Kp _ _ _; kxs_still)
    | (show (_ : Nat) ≤ _; simp only [List.length_append, List.length_map, List.length_cons, List.length_nil, List.length_take, List.length_drop, List.length_replicate, List.length_range, sizeLine_eq]; omega)
    | (show _ = none; apply Fr.h; kba_ints)
    | (show Bag _ _; first | assumption | (apply bag_putF; assumption; o_reads) | (apply bag_neF; (next => kbo_bools); o_reads) | (apply bag_kpR; assumption; (next => kaf_pre); o_reads))
    | omega
    | decide)
local macro_rules
  | `(tactic| o_readsAll) => `(tactic| repeat (first
    | (refine fun (pNew : Addr) (nNew : _ = none) => ?_; replace nNew := Fr.mk nNew)
    | (refine fun (xNew dNew : Addr) (nNew : _ = none) (mNew : _ = none) (eNew : dNew ≠ xNew) => ?_; replace nNew := Fr.mk nNew; replace mNew := Fr.mk mNew)
    | (apply And.intro; next => o_reads)
    | apply Exists.intro (α := V)
    | apply Exists.intro (α := Addr)
    | apply Exists.intro (α := Int)
    | apply Exists.intro (α := Bool)
    | apply Exists.intro (α := List V)
    | apply Exists.intro (α := List Nat)
    | apply Exists.intro (α := List (Str × V))
    | apply Exists.intro (α := List _)
    | apply Exists.intro (α := Str)
    | apply Exists.intro (α := HO)
    | apply Exists.intro (α := Sp)
    | apply Exists.intro (α := VK)))
set_option hygiene false in
local macro_rules
  | `(tactic| kba_ints) => `(tactic| first
    | assumption
    | (apply frUp; (first | assumption | (apply Ne.symm; assumption)); kba_ints)
    | (apply noneOf; assumption; intro oF eF; apply Exists.intro; kp_flats)
    | (apply frUp; (next => kbo_bools); kba_ints))
set_option hygiene false in
local macro_rules
  | `(tactic| kxs_still) => `(tactic| first
    | assumption
    | exact kp_refl _ _
    | (apply kp_newF; assumption; kxs_still)
    | (apply kp_new; assumption; kxs_still)
    | (apply kp_up; (next => o_fieldsN); kxs_still)
    | (apply kp_new; (next => kba_ints); kxs_still)
    | (apply kp_sameR; assumption; kxs_still)
    | (apply kp_transR; assumption; kxs_still)
    | (apply kp_freshR; assumption; (next => kaf_suf); kxs_still))
set_option hygiene false in
local macro_rules
  | `(tactic| kaf_suf) => `(tactic| first
    | assumption
    | exact subNil
    | (apply subCons; (first | (apply Or.inl; o_fieldsN) | (apply Or.inr; kba_ints)); kaf_suf)
    | (apply subApp; (next => kaf_suf); kaf_suf))
set_option hygiene false in
local macro_rules
  | `(tactic| o_fieldsN) => `(tactic| first
    | assumption
    | exact memA
    | (apply memB; o_fieldsN)
    | (apply memL; o_fieldsN)
    | (apply memR; o_fieldsN))
set_option hygiene false in
local macro_rules
  | `(tactic| kd_subs) => `(tactic| first
    | assumption
    | exact Same.refl _
    | (apply same_putF; assumption; kd_subs)
    | (apply same_putG; assumption; kd_subs)
    | (apply same_putF; (next => kba_ints); kd_subs)
    | (apply same_transR; assumption; kd_subs))

set_option pp.maxSteps 900
section
variable {P : Program} {w : World} {K : PySem.W.Frag} {mg : Str → Option Value} {base : Heap}
def spGp : Sp := fun vs H Q _ => ∃ n : Nat, vs = [.int (n : Int)] ∧ n ≠ 0 ∧ n < 2 ^ 200 ∧ Q (.int ((2 ^ n.log2 : Nat) : Int)) H
theorem ok_gp (T : Txt K mg) : FnOk P w K mg base CX0 1 T.f_greatest_power T.d_greatest_power ["number"] spGp := by
  refine T.F_greatest_power.ok sc_greatest_power (fun vs H Q E h => ?_) (fun cdv A outer s H vs Q E hr h => ?_)
  · obtain ⟨n, rfl, _⟩ := h
    rfl
  · obtain ⟨n, rfl, h0, h1, q⟩ := h
    refine ⟨_, (pss_one (ps_ret (pe_op op_shlW pe_int (pe_op op_sub (pe_bits (pv 0)) pe_int)))), ?_⟩
    rw [← gp_eq h0] at q
    exact ⟨_, rfl, _, rfl, _, _, rfl, rfl, _, _, rfl, rfl, gp_ok h0 h1, q⟩
def spIsI : Sp := fun vs H Q _ => ∃ i : Int, vs = [.int i] ∧ Q (.bl true) H
theorem ok_isi (T : Txt K mg) : FnOk P w K mg base CX0 1 T.f_is_integer T.d_is_integer ["value"] spIsI := by
  refine T.F_is_integer.ok sc_is_integer (fun vs H Q E h => ?_) (fun cdv A outer s H vs Q E hr h => ?_)
  · obtain ⟨i, rfl, _⟩ := h
    rfl
  · obtain ⟨i, rfl, q⟩ := h
    refine ⟨_, (pss_one (ps_ret (pe_and (pe_callB call_isi (by rfl) T.z_isinstance (by decide +kernel) (pa_cons (pv 0) (pa_cons (pe_bltn (v := .ty "int") (by rfl) T.z_int (by decide +kernel) rfl) pa_nil))) (pe_one (pe_not (pe_callB call_isi (by rfl) T.z_isinstance (by decide +kernel) (pa_cons (pv 0) (pa_cons (pe_bltn (v := .ty "bool") (by rfl) T.z_bool (by decide +kernel) rfl) pa_nil)))))))), ?_⟩
    refine ⟨_, rfl, .int i, .ty "int", .type "int", .type "int", true, rfl, .ty _, .base (.int _), kit_ty (by decide +kernel), true, rfl, iteT ?_⟩
    exact ⟨_, rfl, .int i, .ty "bool", .type "int", .type "bool", false, rfl, .ty _, .base (.int _), kit_ty (by decide +kernel), false, rfl, q⟩
theorem ok_cki (T : Txt K mg) : FnOk P w K mg base CX0 2 T.f_check_integer T.d_check_integer ["value"] (fun vs H Q _ => ∃ i : Int, vs = [.int i] ∧ Q .non H) := by
  have G_is_integer := ok_isi (P := P) (w := w) (base := base) T
  refine T.F_check_integer.ok sc_check_integer (fun vs H Q E h => ?_) (fun cdv A outer s H vs Q E hr h => ?_)
  · obtain ⟨i, rfl, _⟩ := h
    rfl
  · obtain ⟨i, rfl, q⟩ := h
    refine ⟨_, (pss_one (ps_if (pt_not (pt_val (pe_call G_is_integer (hr.mono (by omega)) rfl T.g_is_integer T.F_is_integer.kp T.b_is_integer .nil pass0 (pa_cons (pv 0) pa_nil)))) pss_never pss_nil)), ?_⟩
    exact ⟨_, rfl, i, rfl, true, rfl, iteF q⟩
def spCheck : Sp := fun vs H Q _ => ∃ n : Nat, vs = [.int (n : Int)] ∧ n ≤ 10 ^ 30 ∧ Q .non H
theorem ok_check (T : Txt K mg) : FnOk P w K mg base CX0 3 T.f_check_number T.d_check_number ["value"] spCheck := by
  have G_check_integer := ok_cki (P := P) (w := w) (base := base) T
  refine T.F_check_number.ok sc_check_number (fun vs H Q E h => ?_) (fun cdv A outer s H vs Q E hr h => ?_)
  · obtain ⟨n, rfl, _⟩ := h
    rfl
  · obtain ⟨n, rfl, h0, q⟩ := h
    have rG := T.r_GREATEST
    refine ⟨_, (pss_cons (ps_expr (pe_call G_check_integer (hr.mono (by omega)) rfl T.g_check_integer T.F_check_integer.kp T.b_check_integer .nil pass0 (pa_cons (pv 0) pa_nil)))
      (pss_one (ps_if (PW.pt (pw_or (pt_cmpR op_lt (pv 0) pe_int (nomark _)) (pw_or1 (pt_cmpR op_gt (pv 0) (pe_glob rfl T.v_GREATEST T.r_GREATEST) (nomark _))))) pss_never pss_nil))), ?_⟩
    refine ⟨_, rfl, (n : Int), rfl, ?_⟩
    refine ⟨_, rfl, _, _, rfl, rfl, _, rfl, ?_⟩
    refine ifF (dF (by omega)) ?_
    refine ⟨_, rfl, _, _, rfl, rfl, _, rfl, ?_⟩
    have h1 : ¬ ((10 : Int) ^ 30 < (n : Int)) := by
      have : (10 : Int) ^ 30 = ((10 ^ 30 : Nat) : Int) := by decide +kernel
      rw [this]
      omega
    exact ifF (dF h1) q


def spLp : Sp := fun vs H Q _ => ∃ n : Nat, vs = [.int (n : Int)] ∧ n ≠ 0 ∧ Q (.int (low n : Int)) H
theorem ok_lp (T : Txt K mg) : FnOk P w K mg base CX0 3 T.f_lowest_power T.d_lowest_power ["number"] spLp := by
  refine T.F_lowest_power.ok sc_lowest_power (fun vs H Q E h => ?_) (fun cdv A outer s H vs Q E hr h => ?_)
  · obtain ⟨n, rfl, _⟩ := h
    rfl
  · obtain ⟨n, rfl, h0, q⟩ := h
    refine ⟨_, (pss_one (ps_ret (pe_op op_and (pv 0) (pe_un un_neg (pv 0))))), ?_⟩
    rw [← low_bits h0] at q
    exact ⟨_, rfl, _, rfl, _, rfl, _, _, rfl, rfl, q⟩
def spPs : Sp := fun vs H Q _ => ∃ a r : Nat, vs = [.int (a : Int), .int (r : Int)] ∧ r ≠ 0 ∧ r < 2 ^ 200 ∧ Q (.int (szP a r : Int)) H
theorem ok_ps (T : Txt K mg) : FnOk P w K mg base CX0 4 T.f_piece_size T.d_piece_size ["first", "room"] spPs := by
  have G_greatest_power := ok_gp (P := P) (w := w) (base := base) T
  have G_lowest_power := ok_lp (P := P) (w := w) (base := base) T
  refine T.F_piece_size.ok sc_piece_size (fun vs H Q E h => ?_) (fun cdv A outer s H vs Q E hr h => ?_)
  · obtain ⟨a, r, rfl, _⟩ := h
    rfl
  · obtain ⟨a, r, rfl, h0, h1, q⟩ := h
    refine ⟨_, (pss_cons (ps_set (i := 2) sc_piece_size.nd rfl (.inl rfl) (pe_call G_greatest_power (hr.mono (by omega)) rfl T.g_greatest_power T.F_greatest_power.kp T.b_greatest_power .nil pass0 (pa_cons (pv 1) pa_nil)))
      (pss_cons (ps_if (pt_cmpR op_eq (pv 0) pe_int (nomark _)) (pss_one (ps_ret (pv 2))) pss_nil)
      (pss_one (ps_ret (pe_callB (call_min2 rfl) (by rfl) T.z_min (by decide +kernel) (pa_cons (pv 2) (pa_cons (pe_call G_lowest_power (hr.mono (by omega)) rfl T.g_lowest_power T.F_lowest_power.kp T.b_lowest_power .nil pass0 (pa_cons (pv 0) pa_nil)) pa_nil))))))), ?_⟩
    refine ⟨_, rfl, r, rfl, h0, h1, _, rfl, rfl, _, rfl, ite2 (fun e => ?_) (fun e => ?_)⟩
    · have e1 := V.int.inj (of_decide_eq_true e)
      have e2 : szP a r = 2 ^ r.log2 := if_pos (by omega)
      rw [e2] at q
      exact ⟨_, rfl, q⟩
    · have e1 : a ≠ 0 := fun z => e (dT (by rw [z]; rfl))
      have e2 : szP a r = min (2 ^ r.log2) (low a) := if_neg e1
      refine ⟨_, rfl, _, rfl, a, rfl, e1, _, _, rfl, ?_⟩
      have e3 : (if (low a : Int) < ((2 ^ r.log2 : Nat) : Int) then (low a : Int) else ((2 ^ r.log2 : Nat) : Int)) = (szP a r : Int) := by
        rw [e2]
        split <;> omega
      rw [e3]
      exact q
/-- a list of pairs at p -/
def PL (H : Hp) (p : Addr) (l : List (Nat × Nat)) : Prop := ∃ ts : List Addr, H p = some (.lst (ts.map V.ref)) ∧ ts.length = l.length ∧
  ∀ (i : Nat) (t : Addr) (x : Nat × Nat), ts[i]? = some t → l[i]? = some x → H t = some (.tup [.int (x.1 : Int), .int (x.2 : Int)])
theorem PL.same {H H1 : Hp} {p : Addr} {l : List (Nat × Nat)} (h : PL H p l) (s : Same H H1) : PL H1 p l := by
  obtain ⟨ts, a, b, c⟩ := h
  exact ⟨ts, s _ _ a, b, fun i t x e1 e2 => s _ _ (c i t x e1 e2)⟩
theorem PL.nil {H : Hp} {p : Addr} : PL (upd H p (.lst [])) p [] := ⟨[], upd_same, rfl, fun i t x e => by simp at e⟩
theorem PL.add {H : Hp} {p t : Addr} {l : List (Nat × Nat)} {ts : List Addr} {x : Nat × Nat} (e1 : H p = some (.lst (ts.map V.ref))) (e2 : ts.length = l.length)
    (e3 : ∀ (i : Nat) (t : Addr) (x : Nat × Nat), ts[i]? = some t → l[i]? = some x → H t = some (.tup [.int (x.1 : Int), .int (x.2 : Int)])) (n : H t = none) :
    PL (upd (upd H t (.tup [.int (x.1 : Int), .int (x.2 : Int)])) p (.lst ((ts.map V.ref) ++ [V.ref t]))) p (l ++ [x]) := by
  have ntp : t ≠ p := (ne_of_none e1 n).symm
  refine ⟨ts ++ [t], by rw [upd_same, List.map_append]; rfl, by rw [List.length_append, List.length_append, e2]; rfl, fun i u y f1 f2 => ?_⟩
  by_cases hi : i < ts.length
  · rw [List.getElem?_append_left hi] at f1
    rw [List.getElem?_append_left (by omega)] at f2
    have g := e3 i u y f1 f2
    have hup : u ≠ p := fun z => by
      rw [z, e1] at g
      cases g
    rw [upd_ne hup, upd_ne (ne_of_none g n)]
    exact g
  · rw [List.getElem?_append_right (by omega)] at f1 f2
    by_cases hz : i - ts.length = 0
    · rw [hz] at f1
      rw [show i - l.length = 0 by omega] at f2
      cases f1
      cases f2
      rw [upd_ne ntp, upd_same]
    · rw [show i - ts.length = (i - ts.length - 1) + 1 by omega] at f1
      simp at f1
def spPieces : Sp := fun vs H Q _ => ∃ a r : Nat, vs = [.int (a : Int), .int ((a + r : Nat) : Int)] ∧ a + r ≤ 10 ^ 30 ∧ ∀ p H', H p = none → Same H H' → PL H' p (pcF 201 a r) → Q (.ref p) H'
theorem ok_pieces (T : Txt K mg) : FnOk P w K mg base CX0 5 T.f_pieces T.d_pieces ["begin", "end"] spPieces := by
  have G_piece_size := ok_ps (P := P) (w := w) (base := base) T
  have G_check_number := ok_check (P := P) (w := w) (base := base) T
  refine T.F_pieces.ok sc_pieces (fun vs H Q E h => ?_) (fun cdv A outer s H vs Q E hr h => ?_)
  · obtain ⟨a, r, rfl, _⟩ := h
    rfl
  · obtain ⟨a, r, rfl, h0, q⟩ := h
    refine ⟨_, (pss_cons (ps_expr (pe_call G_check_number (hr.mono (by omega)) rfl T.g_check_number T.F_check_number.kp T.b_check_number .nil pass0 (pa_cons (pv 0) pa_nil)))
      (pss_cons (ps_expr (pe_call G_check_number (hr.mono (by omega)) rfl T.g_check_number T.F_check_number.kp T.b_check_number .nil pass0 (pa_cons (pv 1) pa_nil)))
      (pss_cons (ps_if (pt_cmpR op_gt (pv 0) (pv 1) (nomark _)) pss_never pss_nil)
      (pss_cons (ps_set (i := 2) sc_pieces.nd rfl (.inl rfl) (pe_lst pa_nil))
      (pss_cons (ps_set (i := 3) sc_pieces.nd rfl (.inl rfl) (pv 0))
      (pss_cons (ps_while PassesOwn.never (pt_cmpR op_lt (pv 3) (pv 1) (nomark _)) (pss_cons (ps_set (i := 4) sc_pieces.nd rfl (.inl rfl) (pe_call G_piece_size (hr.mono (by omega)) rfl T.g_piece_size T.F_piece_size.kp T.b_piece_size .nil pass0 (pa_cons (pv 3) (pa_cons (pe_op op_sub (pv 1) (pv 3)) pa_nil))))
        (pss_cons (ps_expr (pe_bm PySem.F.plainAttrs_list PySem.F.slot_list_append PySem.F.type_list_append mt_append (pv 2) (pa_cons (pe_tup (pa_cons (pv 3) (pa_cons (pv 4) pa_nil))) pa_nil)))
        (pss_one (ps_aug (i := 3) sc_pieces.nd rfl (.inl rfl) (pv 4) ip_add)))))
      (pss_one (ps_ret (pv 2))))))))), ?_⟩
    refine ⟨_, rfl, a, rfl, by omega, ?_⟩
    refine ⟨_, rfl, a + r, rfl, h0, ?_⟩
    refine ⟨_, rfl, _, rfl, _, _, rfl, rfl, _, rfl, ifF (dF (by omega)) ?_⟩
    refine ⟨Nat.zero_le _, fun o no => ?_⟩
    refine ⟨_, rfl, ?_⟩
    have hb : a + r ≤ 2 ^ 100 := Nat.le_of_lt (Nat.lt_of_le_of_lt h0 p100)
    refine while_by (fun σ H' => ∃ (x y k : Nat) (acc : List (Nat × Nat)) (z : Option V), σ = [some (.int (a : Int)), some (.int ((a + r : Nat) : Int)), some (.ref o), some (.int (x : Int)), z] ∧ x + y = a + r ∧ enough k x y ∧ acc.length + k ≤ 201 ∧ acc ++ pcF k x y = pcF 201 a r ∧ Same H H' ∧ PL H' o acc)
      (fun σ _ => a + r - intAt σ 3) ⟨a, r, 201, [], none, rfl, rfl, enough_all h0, Nat.le_refl _, rfl, same_new no, PL.nil⟩ ?_ ?_
    · rintro σ H' ⟨x, y, k, acc, z, rfl, hxy, hk, hl, he, hs, ho⟩
      refine ⟨_, rfl, _, rfl, _, _, rfl, rfl, _, rfl, ite2 (fun e => ?_) (fun e => ?_)⟩
      · have e1 := of_decide_eq_true e
        have y0 : y ≠ 0 := by omega
        obtain ⟨k, rfl, hk2, s1, s0, _⟩ := enough_step hk y0 (by omega)
        refine ⟨_, rfl, _, rfl, _, rfl, _, _, rfl, rfl, x, y, by show [V.int (x : Int), V.int (((a + r : Nat) : Int) - (x : Int))] = _; rw [show (((a + r : Nat) : Int) - (x : Int)) = (y : Int) by omega], y0, by omega, ?_⟩
        obtain ⟨ts, t1, t2, t3⟩ := ho
        refine ⟨_, rfl, .inl ⟨rfl, _, .inl (.inl t1)⟩, _, rfl, _, rfl, le2, fun t nt => ?_⟩
        have ntp : o ≠ t := ne_of_none t1 nt
        refine ⟨o, _, _, rfl, rfl, by rw [upd_ne ntp]; exact t1, ?_, ?_⟩
        · rw [List.length_map]
          exact small1000 (by omega)
        · refine ⟨_, rfl, _, rfl, _, _, rfl, rfl, ?_⟩
          refine ⟨⟨x + szP x y, y - szP x y, k, acc ++ [(x, szP x y)], some (.int (szP x y : Int)), rfl, by omega, hk2, ?_, ?_, same_put (same_put hs (hs.free nt)) no, PL.add (x := (x, szP x y)) t1 t2 t3 nt⟩, ?_⟩
          · rw [List.length_append]
            show acc.length + 1 + k ≤ 201
            omega
          · rw [← he, pcF_pos y0, List.append_assoc]
            rfl
          · show a + r - ((x : Int) + (szP x y : Int)).toNat < a + r - ((x : Int)).toNat
            omega
      · have e1 : y = 0 := by
          have : ¬ ((x : Int) < ((a + r : Nat) : Int)) := fun z => e (dT z)
          omega
        subst e1
        rw [pcF_zero, List.append_nil] at he
        subst he
        exact ⟨_, rfl, q o H' no hs ho⟩
    · rintro σ H' Q1 Q2 m ⟨x, hx, y, hy, i, j, e1, e2, c, e3, q⟩
      exact ⟨x, hx, y, hy, i, j, e1, e2, c, e3, m _ _ q⟩
end
end Ob

set_option Elab.async false
set_option linter.all false
set_option maxRecDepth 100000
set_option maxHeartbeats 1000000
namespace Ob
open PySem PySem.Spec PyProof.Rows L2
open LamX (Tabs TabB TabS ExtN)

set_option hygiene false in
local macro_rules
  | `(tactic| kp_flats) => `(tactic| first
    | assumption
    | exact upd_same
    | (apply atNew; assumption; kp_flats)
    | (apply atNe; (next => kbo_bools); kp_flats)
    | (apply atSame; assumption; kp_flats)
    | (apply atKp; assumption; (next => kaf_pre); kp_flats))
set_option hygiene false in
local macro_rules
  | `(tactic| kaf_pre) => `(tactic| first
    | assumption
    | exact not_nil
    | (apply not_cons; (next => kbo_bools); kaf_pre)
    | (apply not_app; (next => kaf_pre); kaf_pre))
set_option hygiene false in
local macro_rules
  | `(tactic| kbo_bools) => `(tactic| first
    | assumption
    | (apply Ne.symm; assumption)
    | (apply neN; assumption; kp_flats)
    | (apply neN'; assumption; kp_flats))
set_option hygiene false in
local macro_rules
  | `(tactic| o_reads) => `(tactic| first
    | with_reducible rfl
    | assumption
    | rfl
    | kp_flats
    | (show SqL _ _ _ _; first | assumption | (apply sqlOf; kp_flats) | (apply sqlSame; assumption; o_reads))
    | (show SqT _ _ _ _; first | assumption | (apply sqtOf; kp_flats) | (apply sqtAll; assumption) | (apply sqtSame; assumption; o_reads))
    | (show Cls _ _; first | exact T.cl_Unions)
    | (show NoAttr _ _ _; first | exact T.n_Unions_groups | exact T.n_Unions_parents | exact T.n_Unions_counts | exact T.n_Unions_moved)
    | (apply Or.inl; o_reads)
    | (apply Or.inr; o_reads)
    | (apply And.intro; (next => o_reads); o_reads)
    | (apply Exists.intro; o_reads)
    | exact Nat.le_of_ble_eq_true rfl
    | exact Nat.succ_ne_zero _
    | (show Fr _ _; kba_ints)
    | (show Same _ _; kd_subs)
    | (show Kp _ _ _; kxs_still)
    | (show (_ : Nat) ≤ _; simp only [List.length_append, List.length_map, List.length_cons, List.length_nil, List.length_take, List.length_drop, List.length_replicate, List.length_range, sizeLine_eq]; omega)
    | (show _ = none; apply Fr.h; kba_ints)
    | (show Bag _ _; first | assumption | (apply bag_putF; assumption; o_reads) | (apply bag_neF; (next => kbo_bools); o_reads) | (apply bag_kpR; assumption; (next => kaf_pre); o_reads))
    | omega
    | decide)
local macro_rules
  | `(tactic| o_readsAll) => `(tactic| repeat (first
    | (refine fun (pNew : Addr) (nNew : _ = none) => ?_; replace nNew := Fr.mk nNew)
    | (refine fun (xNew dNew : Addr) (nNew : _ = none) (mNew : _ = none) (eNew : dNew ≠ xNew) => ?_; replace nNew := Fr.mk nNew; replace mNew := Fr.mk mNew)
    | (apply And.intro; next => o_reads)
    | apply Exists.intro (α := V)
    | apply Exists.intro (α := Addr)
    | apply Exists.intro (α := Int)
    | apply Exists.intro (α := Bool)
    | apply Exists.intro (α := List V)
    | apply Exists.intro (α := List Nat)
    | apply Exists.intro (α := List (Str × V))
    | apply Exists.intro (α := List _)
    | apply Exists.intro (α := Str)
    | apply Exists.intro (α := HO)
    | apply Exists.intro (α := Sp)
    | apply Exists.intro (α := VK)))
set_option hygiene false in
local macro_rules
  | `(tactic| kba_ints) => `(tactic| first
    | assumption
    | (apply frUp; (first | assumption | (apply Ne.symm; assumption)); kba_ints)
    | (apply noneOf; assumption; intro oF eF; apply Exists.intro; kp_flats)
    | (apply frUp; (next => kbo_bools); kba_ints))
set_option hygiene false in
local macro_rules
  | `(tactic| kxs_still) => `(tactic| first
    | assumption
    | exact kp_refl _ _
    | (apply kp_newF; assumption; kxs_still)
    | (apply kp_new; assumption; kxs_still)
    | (apply kp_up; (next => o_fieldsN); kxs_still)
    | (apply kp_new; (next => kba_ints); kxs_still)
    | (apply kp_sameR; assumption; kxs_still)
    | (apply kp_transR; assumption; kxs_still)
    | (apply kp_freshR; assumption; (next => kaf_suf); kxs_still))
set_option hygiene false in
local macro_rules
  | `(tactic| kaf_suf) => `(tactic| first
    | assumption
    | exact subNil
    | (apply subCons; (first | (apply Or.inl; o_fieldsN) | (apply Or.inr; kba_ints)); kaf_suf)
    | (apply subApp; (next => kaf_suf); kaf_suf))
set_option hygiene false in
local macro_rules
  | `(tactic| o_fieldsN) => `(tactic| first
    | assumption
    | exact memA
    | (apply memB; o_fieldsN)
    | (apply memL; o_fieldsN)
    | (apply memR; o_fieldsN))
set_option hygiene false in
local macro_rules
  | `(tactic| kd_subs) => `(tactic| first
    | assumption
    | exact Same.refl _
    | (apply same_putF; assumption; kd_subs)
    | (apply same_putG; assumption; kd_subs)
    | (apply same_putF; (next => kba_ints); kd_subs)
    | (apply same_transR; assumption; kd_subs))

set_option pp.maxSteps 900
/-! ### the members by the nodes -/
def addN (N : Nat → Nat → List Nat) (f s i : Nat) : Nat → Nat → List Nat := fun a b => if a = f ∧ b = s then N a b ++ [i] else N a b
def addP (N : Nat → Nat → List Nat) (i : Nat) (ps : List (Nat × Nat)) : Nat → Nat → List Nat := ps.foldl (fun N p => addN N p.1 p.2 i) N
def nodesOf (es : List (Nat × Nat)) : Nat → Nat → List Nat := es.foldl (fun N ie => addP N ie.1 (pcF 201 ie.1 (ie.2 - ie.1))) (fun _ _ => [])
abbrev kf (f s : Nat) : List Key := [.inl (f : Int), .inl (s : Int)]
theorem kf_inj {f s a b : Nat} (h : kf f s = kf a b) : f = a ∧ s = b := by
  injection h with h1 h2
  injection h2 with h2 _
  injection h1 with h1
  injection h2 with h2
  omega
def NC (R : Addr → Prop) (H : Hp) (kvs : List (List Key × V)) (N : Nat → Nat → List Nat) (c : Nat) : Prop :=
  (∀ f s : Nat, (N f s).length ≤ c ∧ ((valV kvs (kf f s) = none ∧ N f s = []) ∨ ∃ a, valV kvs (kf f s) = some (.ref a) ∧ H a = some (.lst ((N f s).map nV)))) ∧
  (∀ f s a, valV kvs (kf f s) = some (.ref a) → R a) ∧ ∀ f s f' s' a, valV kvs (kf f s) = some (.ref a) → valV kvs (kf f' s') = some (.ref a) → f = f' ∧ s = s'
def NB (R : Addr → Prop) (H : Hp) (nd : Addr) (N : Nat → Nat → List Nat) (c : Nat) : Prop := ∃ kvs, H nd = some (.dT kvs) ∧ kvs.length ≤ c ∧ NC R H kvs N c
theorem NB.same {R : Addr → Prop} {H H1 : Hp} {nd : Addr} {N : Nat → Nat → List Nat} {c : Nat} (h : NB R H nd N c) (s : Same H H1) : NB R H1 nd N c := by
  obtain ⟨kvs, h1, h2, h3, h4, h5⟩ := h
  exact ⟨kvs, s _ _ h1, h2, fun f t => ⟨(h3 f t).1, (h3 f t).2.imp id fun ⟨a, e1, e2⟩ => ⟨a, e1, s _ _ e2⟩⟩, h4, h5⟩
theorem add_same {N : Nat → Nat → List Nat} {f s i : Nat} : addN N f s i f s = N f s ++ [i] := if_pos ⟨rfl, rfl⟩
theorem add_ne {N : Nat → Nat → List Nat} {f s i a b : Nat} (h : ¬ (a = f ∧ b = s)) : addN N f s i a b = N a b := if_neg h
theorem NB.old {R : Addr → Prop} {H : Hp} {nd a : Addr} {N : Nat → Nat → List Nat} {c f s i : Nat} {kvs : List (List Key × V)} (h1 : H nd = some (.dT kvs)) (h2 : kvs.length ≤ c) (h : NC R H kvs N c) (e : valV kvs (kf f s) = some (.ref a)) (ea : H a = some (.lst ((N f s).map nV))) : NB R (upd H a (.lst ((N f s).map nV ++ [nV i]))) nd (addN N f s i) (c + 1) := by
  obtain ⟨h3, h4, h5⟩ := h
  have nna : nd ≠ a := fun z => by
    rw [z, ea] at h1
    cases h1
  refine ⟨kvs, by rw [upd_ne nna]; exact h1, by omega, fun f' s' => ?_, h4, h5⟩
  obtain ⟨l, hc⟩ := h3 f' s'
  by_cases z : f' = f ∧ s' = s
  · obtain ⟨rfl, rfl⟩ := z
    rw [add_same]
    refine ⟨by rw [List.length_append]; show _ + 1 ≤ c + 1; omega, .inr ⟨a, e, ?_⟩⟩
    rw [upd_same, List.map_append]
    rfl
  · rw [add_ne z]
    refine ⟨by omega, hc.imp id fun ⟨b, e1, e2⟩ => ⟨b, e1, ?_⟩⟩
    rw [upd_ne fun y => z (h5 _ _ _ _ a (by rw [← y]; exact e1) e)]
    exact e2
theorem NB.new {R : Addr → Prop} {H : Hp} {nd y : Addr} {N : Nat → Nat → List Nat} {c f s i : Nat} {kvs : List (List Key × V)} (h1 : H nd = some (.dT kvs)) (h2 : kvs.length ≤ c) (h : NC R H kvs N c) (e : valV kvs (kf f s) = none) (ny : y ≠ nd) (fy : R y) (yn : ∀ f s a, valV kvs (kf f s) = some (.ref a) → a ≠ y) (yd : ∀ f s a, valV kvs (kf f s) = some (.ref a) → a ≠ nd) : NB R (upd (upd H nd (.dT (putK kvs (kf f s) (.ref y)))) y (.lst [nV i])) nd (addN N f s i) (c + 1) := by
  obtain ⟨h3, h4, h5⟩ := h
  have l := length_putK kvs (kf f s) (.ref y)
  have e0 : N f s = [] := by
    rcases (h3 f s).2 with ⟨_, z⟩ | ⟨a, z, _⟩
    · exact z
    · rw [z] at e
      cases e
  have val : ∀ f' s' a, valV (putK kvs (kf f s) (.ref y)) (kf f' s') = some (.ref a) → (f' = f ∧ s' = s ∧ a = y) ∨ valV kvs (kf f' s') = some (.ref a) := fun f' s' a z => by
    rw [valV_put] at z
    by_cases w : kf f' s' = kf f s
    · rw [if_pos w] at z
      obtain ⟨w1, w2⟩ := kf_inj w
      cases z
      exact .inl ⟨w1, w2, rfl⟩
    · rw [if_neg w] at z
      exact .inr z
  refine ⟨putK kvs (kf f s) (.ref y), by rw [upd_ne ny.symm, upd_same], by omega, fun f' s' => ?_, fun f' s' a z => ?_, fun f1 s1 f2 s2 a z1 z2 => ?_⟩
  · obtain ⟨l, hc⟩ := h3 f' s'
    by_cases z : f' = f ∧ s' = s
    · obtain ⟨rfl, rfl⟩ := z
      rw [add_same, e0]
      exact ⟨by show 1 ≤ c + 1; omega, .inr ⟨y, by rw [valV_put, if_pos rfl], upd_same⟩⟩
    · rw [add_ne z, valV_put, if_neg fun w => z (kf_inj w)]
      refine ⟨by omega, hc.imp id fun ⟨b, e1, e2⟩ => ⟨b, e1, ?_⟩⟩
      rw [upd_ne (yn _ _ _ e1), upd_ne (yd _ _ _ e1)]
      exact e2
  · rcases val _ _ _ z with ⟨_, _, rfl⟩ | z
    · exact fy
    · exact h4 _ _ _ z
  · rcases val _ _ _ z1 with ⟨w1, w2, w3⟩ | z1
    · rcases val _ _ _ z2 with ⟨w4, w5, _⟩ | z2
      · exact ⟨w1.trans w4.symm, w2.trans w5.symm⟩
      · exact (yn _ _ _ z2 w3).elim
    · rcases val _ _ _ z2 with ⟨_, _, w3⟩ | z2
      · exact (yn _ _ _ z1 w3).elim
      · exact h5 _ _ _ _ a z1 z2
theorem NB.mono {R S : Addr → Prop} {H : Hp} {nd : Addr} {N : Nat → Nat → List Nat} {c : Nat} (h : NB R H nd N c) (m : ∀ a, R a → (∃ o, H a = some o) → S a) : NB S H nd N c := by
  obtain ⟨kvs, h1, h2, h3, h4, h5⟩ := h
  refine ⟨kvs, h1, h2, h3, fun f s a e => m a (h4 f s a e) ?_, h5⟩
  rcases (h3 f s).2 with ⟨z, _⟩ | ⟨b, z, ez⟩
  · rw [z] at e
    cases e
  · rw [z] at e
    cases e
    exact ⟨_, ez⟩
theorem NB.more {R : Addr → Prop} {H : Hp} {nd : Addr} {N : Nat → Nat → List Nat} {c d : Nat} (h : NB R H nd N c) (l : c ≤ d) : NB R H nd N d := by
  obtain ⟨kvs, h1, h2, h3, h4⟩ := h
  exact ⟨kvs, h1, by omega, fun f s => ⟨Nat.le_trans (h3 f s).1 l, (h3 f s).2⟩, h4⟩
section
variable {P : Program} {w : World} {K : PySem.W.Frag} {mg : Str → Option Value} {base : Heap}
def endsK (es : List (Nat × Nat)) : List (Key × V) := es.map fun e => (.inl (e.1 : Int), .int (e.2 : Int))
def spMbn : Sp := fun vs H Q _ => ∃ (ed : Addr) (es : List (Nat × Nat)), vs = [.ref ed] ∧ H ed = some (.dK (endsK es)) ∧ es.length ≤ 2000 ∧ (∀ e ∈ es, e.1 ≤ e.2 ∧ e.2 ≤ 2000) ∧ ∀ nd kvs H', Same H H' → H' nd = some (.dT kvs) → NodesAt H' kvs (nodesOf es) → (∀ f s a, valV kvs [.inl ((f : Nat) : Int), .inl ((s : Nat) : Int)] = some (.ref a) → Fr H a) → Q (.ref nd) H'
theorem ok_mbn (T : Txt K mg) : FnOk P w K mg base CX0 6 T.f_members_by_nodes T.d_members_by_nodes ["ends"] spMbn := by
  have G_pieces := ok_pieces (P := P) (w := w) (base := base) T
  refine T.F_members_by_nodes.ok sc_members_by_nodes (fun vs H Q E h => ?_) (fun cdv A outer s H vs Q E hr h => ?_)
  · obtain ⟨ed, es, rfl, _⟩ := h
    rfl
  · obtain ⟨ed, es, rfl, hed, hl, he, q⟩ := h
    refine ⟨_, (pss_cons (ps_set (i := 1) sc_members_by_nodes.nd rfl (.inl rfl) pe_dnewT)
      (pss_cons (ps_lock (ps_for PassesOwn.never rfl (pi_items (pv 0)) (pg_tup (by rfl) (pgs_cons (pg_name (i := 2) sc_members_by_nodes.nd rfl (.inl rfl)) (pgs_cons (pg_name (i := 3) sc_members_by_nodes.nd rfl (.inl rfl)) pgs_nil))) (pss_one (ps_for PassesOwn.never rfl (pi_list (pe_call G_pieces (hr.mono (by omega)) rfl T.g_pieces T.F_pieces.kp T.b_pieces .nil pass0 (pa_cons (pv 2) (pa_cons (pv 3) pa_nil)))) (pg_name (i := 4) sc_members_by_nodes.nd rfl (.inl rfl)) (pss_one (ps_expr (pe_bm PySem.F.plainAttrs_list PySem.F.slot_list_append PySem.F.type_list_append mt_append (pe_bm PySem.F.plainAttrs_dict PySem.F.slot_dict_setdefault PySem.F.type_dict_setdefault (Inf.mt_setT (hu_of hr)) (pv 1) (pa_cons (pv 4) (pa_cons (pe_lst pa_nil) pa_nil))) (pa_cons (pv 2) pa_nil))))))))
      (pss_one (ps_ret (pv 1))))), ?_⟩
    refine fun nd nnd => ?_
    have nde : ed ≠ nd := ne_of_none hed nnd
    refine ⟨ed, .dK (endsK es), (by rw [upd_ne nde]; exact hed), True.intro, fun od => ?_⟩
    have hz : ∀ b o, upd H ed (.frz od (.dK (endsK es))) b = some o → b ≠ nd := fun b o e z => by
      rw [z, upd_ne (Ne.symm nde), nnd] at e
      cases e
    have fnd : Fr (upd H ed (.frz od (.dK (endsK es)))) nd := Fr.mk (by rw [upd_ne (Ne.symm nde)]; exact nnd)
    have sz : Same (upd H ed (.frz od (.dK (endsK es)))) (upd (upd H nd (.dT [])) ed (.frz od (.dK (endsK es)))) := fun b o e => by
      have nb := hz b o e
      by_cases c : b = ed
      · rw [c, upd_same] at e ⊢
        exact e
      · rw [upd_ne c] at e ⊢
        rw [upd_ne nb]
        exact e
    have ez : upd H ed (.frz od (.dK (endsK es))) ed = some (.frz od (.dK (endsK es))) := upd_same
    refine ⟨_, rfl, ed, od, endsK es, rfl, upd_same, ?_⟩
    refine for_it walk_items (fun i σ H' => ∃ y2 y3 y4, σ = [some (.ref ed), some (.ref nd), y2, y3, y4] ∧ Same (upd H ed (.frz od (.dK (endsK es)))) H' ∧ NB (Fr (upd H ed (.frz od (.dK (endsK es))))) H' nd (nodesOf (es.take i)) (201 * i)) ⟨_, _, _, rfl, sz, [], (by rw [upd_ne (Ne.symm nde), upd_same]), Nat.le_refl _, fun f s => ⟨Nat.le_refl _, .inl ⟨rfl, rfl⟩⟩, (fun f s a e => nomatch e), fun f s f' s' a e => nomatch e⟩ (fun i σ H' _ ⟨_, _, _, _, z, _⟩ => z _ _ ez) ?_ ?_
    · rintro i x σ H1 H2 hi ⟨y2, y3, y4, rfl, s1, nb⟩ ⟨T', vx, vy, rfl, nT, rfl, hx, hy⟩
      obtain ⟨ky, hx2, rfl⟩ := Option.map_eq_some_iff.mp hx
      obtain ⟨ky', hy2, rfl⟩ := Option.map_eq_some_iff.mp hy
      rw [hx2] at hy2
      cases hy2
      have hx' : (es.map fun e => (((.inl (e.1 : Int)), .int (e.2 : Int)) : Key × V))[i]? = some ky := hx2
      rw [List.getElem?_map] at hx'
      obtain ⟨e, hee, rfl⟩ := Option.map_eq_some_iff.mp hx'
      have li : (endsK es).length = es.length := List.length_map ..
      have eb := he e (List.mem_of_getElem? hee)
      have sT : Same H1 (upd H1 T' (.tup [.int (e.1 : Int), .int (e.2 : Int)])) := same_newF (Fr.mk nT)
      have eT : upd H1 T' (.tup [.int (e.1 : Int), .int (e.2 : Int)]) T' = some (.tup [.int (e.1 : Int), .int (e.2 : Int)]) := upd_same
      have nbT := nb.same sT
      have s1T := s1.trans sT
      refine ⟨T', _, rfl, sqtOf eT, rfl, _, _, rfl, _, _, rfl, rfl, ?_⟩
      refine ⟨_, rfl, _, rfl, e.1, e.2 - e.1, ?_, ?_, fun pp H3 npp s3 pl => ?_⟩
      · show [V.int (e.1 : Int), V.int (e.2 : Int)] = _
        rw [show e.1 + (e.2 - e.1) = e.2 by omega]
      · have : (2000 : Nat) ≤ 10 ^ 30 := by decide +kernel
        omega
      obtain ⟨ts, t1, t2, t3⟩ := pl
      have fpp := Fr.mk npp
      have nb3 : NB (fun a => Fr (upd H ed (.frz od (.dK (endsK es)))) a ∧ a ≠ pp) H3 nd (nodesOf (es.take i)) (201 * i) := (nbT.mono (fun a ra ⟨o, ea⟩ => ⟨ra, ne_of_none ea npp⟩)).same s3
      have lps := pcF_len 201 e.1 (e.2 - e.1)
      refine ⟨pp, rfl, ⟨_, sqlOf t1⟩, ?_⟩
      refine for_it (walk_list (K := K) (a := pp) (xs := ts.map V.ref)) (fun j σ H' => ∃ y4, σ = [some (.ref ed), some (.ref nd), some (.int (e.1 : Int)), some (.int (e.2 : Int)), y4] ∧ Same (upd H ed (.frz od (.dK (endsK es)))) H' ∧ H' pp = some (.lst (ts.map V.ref)) ∧ (∀ (q : Nat) (t : Addr) (x : Nat × Nat), ts[q]? = some t → (pcF 201 e.1 (e.2 - e.1))[q]? = some x → H' t = some (.tup [.int (x.1 : Int), .int (x.2 : Int)])) ∧ NB (fun a => Fr (upd H ed (.frz od (.dK (endsK es)))) a ∧ a ≠ pp) H' nd (addP (nodesOf (es.take i)) e.1 ((pcF 201 e.1 (e.2 - e.1)).take j)) (201 * i + j)) ⟨_, rfl, s1T.trans s3, t1, t3, nb3⟩ (fun j σ H' _ ⟨_, _, _, z, _⟩ => sqlOf z) ?_ ?_
      · rintro j x σ H6 H4 hj ⟨y4, rfl, s4, hpp, hts, nb4⟩ ⟨rfl, hx⟩
        have lts : (ts.map V.ref).length = ts.length := List.length_map ..
        rw [List.getElem?_map] at hx
        obtain ⟨t, ht, rfl⟩ := Option.map_eq_some_iff.mp hx
        obtain ⟨pc, hpc⟩ : ∃ pc, (pcF 201 e.1 (e.2 - e.1))[j]? = some pc := ⟨_, List.getElem?_eq_getElem (by omega)⟩
        have et4 := hts j t pc ht hpc
        have hadd : addP (nodesOf (es.take i)) e.1 ((pcF 201 e.1 (e.2 - e.1)).take (j + 1)) = addN (addP (nodesOf (es.take i)) e.1 ((pcF 201 e.1 (e.2 - e.1)).take j)) pc.1 pc.2 e.1 := by
          unfold addP
          rw [List.take_succ, hpc, List.foldl_append]
          rfl
        rw [hadd]
        generalize addP (nodesOf (es.take i)) e.1 ((pcF 201 e.1 (e.2 - e.1)).take j) = N at nb4 ⊢
        obtain ⟨kvs0, g1, _⟩ := id nb4
        refine ⟨_, rfl, .inr (.inr (.inl ⟨rfl, .inr ⟨_, g1⟩⟩)), _, rfl, Nat.zero_le _, fun z nz => ?_⟩
        have fz := Fr.mk nz
        have s5 : Same H4 (upd H4 z (.lst [])) := same_newF fz
        have ez5 : upd H4 z (.lst []) z = some (.lst []) := upd_same
        have zpp : z ≠ pp := (ne_of_none hpp nz).symm
        have fz0 : Fr (upd H ed (.frz od (.dK (endsK es)))) z := Fr.mk (s4.free nz)
        obtain ⟨kvs, k1, k2, k3⟩ := nb4.same s5
        have vz : ∀ f s a, valV kvs (kf f s) = some (.ref a) → a ≠ z ∧ a ≠ nd := fun f s a w => by
          obtain ⟨kvs', w1, _, w3, _⟩ := nb4
          rw [s5 _ _ w1] at k1
          cases k1
          rcases (w3 f s).2 with ⟨u, _⟩ | ⟨b, u, ub⟩
          · rw [u] at w
            cases w
          · rw [u] at w
            cases w
            exact ⟨ne_of_none ub nz, fun y => by rw [y, w1] at ub; cases ub⟩
        refine ⟨nd, kvs, kf pc.1 pc.2, t, .ref z, rfl, rfl, k1, s5 _ _ et4, by rw [sizeLine_eq]; omega, fun v hv => ?_, fun hn => ?_⟩
        · rcases (k3.1 pc.1 pc.2).2 with ⟨u, _⟩ | ⟨a, u, ua⟩
          · rw [u] at hv
            cases hv
          · rw [u] at hv
            cases hv
            obtain ⟨fa, npa⟩ := k3.2.1 _ _ _ u
            have lN := (k3.1 pc.1 pc.2).1
            refine ⟨.inl ⟨rfl, _, sqlOf ua⟩, _, rfl, a, _, _, rfl, rfl, ua, by rw [List.length_map, sizeLine_eq]; omega, ?_⟩
            have mA : Mu (upd H4 z (.lst [])) [a] := mu_lst ua mu_nil
            have kA : Kp [a] (upd H4 z (.lst [])) (upd (upd H4 z (.lst [])) a (.lst ((N pc.1 pc.2).map nV ++ [nV e.1]))) := kp_up memA (kp_refl _ _)
            exact ⟨_, rfl, same_putG fa (s4.trans s5), kA.at_ _ _ (s5 _ _ hpp) (not_cons (Ne.symm npa) not_nil), fun q t' x' w1 w2 => kp_tup kA mA (s5 _ _ (hts q t' x' w1 w2)), NB.old k1 k2 k3 u ua⟩
        · have znd : z ≠ nd := (ne_of_none g1 nz).symm
          have fnd4 : Fr (upd H ed (.frz od (.dK (endsK es)))) nd := fnd
          refine ⟨.inl ⟨rfl, [], sqlOf (by rw [upd_ne znd]; exact ez5)⟩, _, rfl, z, [], _, rfl, rfl, (by rw [upd_ne znd]; exact ez5), by rw [sizeLine_eq]; decide, ?_⟩
          have mA : Mu (upd H4 z (.lst [])) [nd, z] := mu_cons k1 (fun _ z => nomatch z) (fun _ z => nomatch z) (mu_lst ez5 mu_nil)
          have kA : Kp [nd, z] (upd H4 z (.lst [])) (upd (upd (upd H4 z (.lst [])) nd (.dT (putK kvs (kf pc.1 pc.2) (.ref z)))) z (.lst [nV e.1])) := kp_up (memB memA) (kp_up memA (kp_refl _ _))
          have npn : pp ≠ nd := fun w => by
            rw [w, g1] at hpp
            cases hpp
          exact ⟨_, rfl, same_putG fz0 (same_putG fnd4 (s4.trans s5)), kA.at_ _ _ (s5 _ _ hpp) (not_cons npn (not_cons (Ne.symm zpp) not_nil)), fun q t' x' w1 w2 => kp_tup kA mA (s5 _ _ (hts q t' x' w1 w2)), NB.new k1 k2 k3 hn znd ⟨fz0, zpp⟩ (fun f s a w => (vz f s a w).1) (fun f s a w => (vz f s a w).2)⟩
      · rintro σ H4 ⟨y4, rfl, s4, hpp, hts, nb4⟩
        have lts : (ts.map V.ref).length = ts.length := List.length_map ..
        refine ⟨_, _, _, rfl, s4, ?_⟩
        have hno : nodesOf (es.take (i + 1)) = addP (nodesOf (es.take i)) e.1 (pcF 201 e.1 (e.2 - e.1)) := by
          unfold nodesOf
          rw [List.take_succ, hee, List.foldl_append]
          rfl
        rw [hno]
        have htk := List.take_of_length_le (l := pcF 201 e.1 (e.2 - e.1)) (i := (ts.map V.ref).length) (by omega)
        rw [htk] at nb4
        exact (nb4.mono fun a h _ => h.1).more (by omega)
    · rintro σ H1 ⟨y2, y3, y4, rfl, s1, nb⟩
      have li : (endsK es).length = es.length := List.length_map ..
      have htk := List.take_of_length_le (l := es) (i := (endsK es).length) (by omega)
      rw [htk] at nb
      obtain ⟨kvs, k1, k2, k3⟩ := nb
      refine ⟨s1 _ _ ez, ?_⟩
      show ∃ _, _
      have nea : ∀ f s a, valV kvs (kf f s) = some (.ref a) → a ≠ ed := fun f s a w => (ne_of_none ez (k3.2.1 f s a w).h).symm
      refine ⟨_, rfl, q nd kvs _ (fun b o e => ?_) (by rw [upd_ne (Ne.symm nde)]; exact k1) (fun f s => ⟨by have := (k3.1 f s).1; omega, ?_⟩) ?_⟩
      · by_cases c : b = ed
        · rw [c, hed] at e
          rw [c, upd_same]
          exact e
        · rw [upd_ne c]
          exact s1 _ _ (by rw [upd_ne c]; exact e)
      · rcases (k3.1 f s).2 with h | ⟨a, u, ua⟩
        · exact .inl h
        · refine .inr ⟨a, u, ?_⟩
          rw [upd_ne (nea f s a u)]
          exact ua
      · intro f s a u
        have := (k3.2.1 f s a u).h
        rw [upd_ne (nea f s a u)] at this
        exact Fr.mk this
end
end Ob

set_option Elab.async false
set_option linter.all false
set_option maxRecDepth 100000
set_option maxHeartbeats 1000000
namespace Ob
open PySem PySem.Spec PyProof.Rows L2
open LamX (Tabs TabB TabS ExtN)

set_option hygiene false in
local macro_rules
  | `(tactic| kp_flats) => `(tactic| first
    | assumption
    | exact upd_same
    | (apply atNew; assumption; kp_flats)
    | (apply atNe; (next => kbo_bools); kp_flats)
    | (apply atSame; assumption; kp_flats)
    | (apply atKp; assumption; (next => kaf_pre); kp_flats))
set_option hygiene false in
local macro_rules
  | `(tactic| kaf_pre) => `(tactic| first
    | assumption
    | exact not_nil
    | (apply not_cons; (next => kbo_bools); kaf_pre)
    | (apply not_app; (next => kaf_pre); kaf_pre))
set_option hygiene false in
local macro_rules
  | `(tactic| kbo_bools) => `(tactic| first
    | assumption
    | (apply Ne.symm; assumption)
    | (apply neN; assumption; kp_flats)
    | (apply neN'; assumption; kp_flats))
set_option hygiene false in
local macro_rules
  | `(tactic| o_reads) => `(tactic| first
    | with_reducible rfl
    | assumption
    | rfl
    | kp_flats
    | (show SqL _ _ _ _; first | assumption | (apply sqlOf; kp_flats) | (apply sqlSame; assumption; o_reads))
    | (show SqT _ _ _ _; first | assumption | (apply sqtOf; kp_flats) | (apply sqtAll; assumption) | (apply sqtSame; assumption; o_reads))
    | (show Cls _ _; first | exact T.cl_Unions)
    | (show NoAttr _ _ _; first | exact T.n_Unions_groups | exact T.n_Unions_parents | exact T.n_Unions_counts | exact T.n_Unions_moved)
    | (apply Or.inl; o_reads)
    | (apply Or.inr; o_reads)
    | (apply And.intro; (next => o_reads); o_reads)
    | (apply Exists.intro; o_reads)
    | exact Nat.le_of_ble_eq_true rfl
    | exact Nat.succ_ne_zero _
    | (show Fr _ _; kba_ints)
    | (show Same _ _; kd_subs)
    | (show Kp _ _ _; kxs_still)
    | (show (_ : Nat) ≤ _; simp only [List.length_append, List.length_map, List.length_cons, List.length_nil, List.length_take, List.length_drop, List.length_replicate, List.length_range, sizeLine_eq]; omega)
    | (show _ = none; apply Fr.h; kba_ints)
    | (show Bag _ _; first | assumption | (apply bag_putF; assumption; o_reads) | (apply bag_neF; (next => kbo_bools); o_reads) | (apply bag_kpR; assumption; (next => kaf_pre); o_reads))
    | omega
    | decide)
local macro_rules
  | `(tactic| o_readsAll) => `(tactic| repeat (first
    | (refine fun (pNew : Addr) (nNew : _ = none) => ?_; replace nNew := Fr.mk nNew)
    | (refine fun (xNew dNew : Addr) (nNew : _ = none) (mNew : _ = none) (eNew : dNew ≠ xNew) => ?_; replace nNew := Fr.mk nNew; replace mNew := Fr.mk mNew)
    | (apply And.intro; next => o_reads)
    | apply Exists.intro (α := V)
    | apply Exists.intro (α := Addr)
    | apply Exists.intro (α := Int)
    | apply Exists.intro (α := Bool)
    | apply Exists.intro (α := List V)
    | apply Exists.intro (α := List Nat)
    | apply Exists.intro (α := List (Str × V))
    | apply Exists.intro (α := List _)
    | apply Exists.intro (α := Str)
    | apply Exists.intro (α := HO)
    | apply Exists.intro (α := Sp)
    | apply Exists.intro (α := VK)))
set_option hygiene false in
local macro_rules
  | `(tactic| kba_ints) => `(tactic| first
    | assumption
    | (apply frUp; (first | assumption | (apply Ne.symm; assumption)); kba_ints)
    | (apply noneOf; assumption; intro oF eF; apply Exists.intro; kp_flats)
    | (apply frUp; (next => kbo_bools); kba_ints))
set_option hygiene false in
local macro_rules
  | `(tactic| kxs_still) => `(tactic| first
    | assumption
    | exact kp_refl _ _
    | (apply kp_newF; assumption; kxs_still)
    | (apply kp_new; assumption; kxs_still)
    | (apply kp_up; (next => o_fieldsN); kxs_still)
    | (apply kp_new; (next => kba_ints); kxs_still)
    | (apply kp_sameR; assumption; kxs_still)
    | (apply kp_transR; assumption; kxs_still)
    | (apply kp_freshR; assumption; (next => kaf_suf); kxs_still))
set_option hygiene false in
local macro_rules
  | `(tactic| kaf_suf) => `(tactic| first
    | assumption
    | exact subNil
    | (apply subCons; (first | (apply Or.inl; o_fieldsN) | (apply Or.inr; kba_ints)); kaf_suf)
    | (apply subApp; (next => kaf_suf); kaf_suf))
set_option hygiene false in
local macro_rules
  | `(tactic| o_fieldsN) => `(tactic| first
    | assumption
    | exact memA
    | (apply memB; o_fieldsN)
    | (apply memL; o_fieldsN)
    | (apply memR; o_fieldsN))
set_option hygiene false in
local macro_rules
  | `(tactic| kd_subs) => `(tactic| first
    | assumption
    | exact Same.refl _
    | (apply same_putF; assumption; kd_subs)
    | (apply same_putG; assumption; kd_subs)
    | (apply same_putF; (next => kba_ints); kd_subs)
    | (apply same_transR; assumption; kd_subs))

set_option pp.maxSteps 900
/-! ### the entries of a history -/
inductive HEv where
  | add (v : V) | rem (i : Nat) | ask (v : V)
def HEv.w : HEv → Str
  | .add _ => "add"
  | .rem _ => "remove"
  | .ask _ => "ask"
def HEv.v : HEv → V
  | .add v => v
  | .rem i => .int (i : Int)
  | .ask v => v
abbrev wordsV : List V := [V.str "add", V.str "remove", V.str "ask"]
theorem inW1 : (!inV (V.str "add") wordsV) = false := by decide +kernel
theorem inW2 : (!inV (V.str "remove") wordsV) = false := by decide +kernel
theorem inW3 : (!inV (V.str "ask") wordsV) = false := by decide +kernel
theorem neW1 : V.bl (!decide (V.str "add" = V.str "remove")) = V.bl true := by decide +kernel
theorem neW2 : V.bl (!decide (V.str "remove" = V.str "remove")) = V.bl false := by decide +kernel
theorem neW3 : V.bl (!decide (V.str "ask" = V.str "remove")) = V.bl true := by decide +kernel
section
variable {P : Program} {w : World} {K : PySem.W.Frag} {mg : Str → Option Value} {base : Heap}
def spIsE : Sp := fun vs H Q _ => ∃ (t pd : Addr) (e : HEv) (kvs : List (Key × V)), vs = [.ref t, .ref pd] ∧ H t = some (.tup [.str e.w, e.v]) ∧ H pd = some (.dK kvs) ∧ (∀ i, e = .rem i → (valV kvs (.inl (i : Int))).isSome = true) ∧ Q (.bl true) H
theorem ok_ise (T : Txt K mg) : FnOk P w K mg base CX0 2 T.f_is_entry T.d_is_entry ["entry", "present"] spIsE := by
  have G_is_integer := ok_isi (P := P) (w := w) (base := base) T
  refine T.F_is_entry.ok sc_is_entry (fun vs H Q E h => ?_) (fun cdv A outer s H vs Q E hr h => ?_)
  · obtain ⟨t, pd, e, kvs, rfl, _⟩ := h
    rfl
  · obtain ⟨t, pd, e, kvs, rfl, ht, hp, hr', q⟩ := h
    refine ⟨_, (pss_cons (ps_if (PW.pt (pw_or (pt_not (pt_val (pe_callB call_isi (by rfl) T.z_isinstance (by decide +kernel) (pa_cons (pv 0) (pa_cons (pe_bltn (v := .ty "tuple") (by rfl) T.z_tuple (by decide +kernel) rfl) pa_nil))))) (pw_or1 (pt_cmpR op_ne (pe_callB call_len_seq (by rfl) T.z_len (by decide +kernel) (pa_cons (pv 0) pa_nil)) pe_int (nomark _))))) (pss_one (ps_ret pe_bl)) pss_nil)
      (pss_cons (ps_asg (pv 0) (pg_tup (by rfl) (pgs_cons (pg_name (i := 2) sc_is_entry.nd rfl (.inl rfl)) (pgs_cons (pg_name (i := 3) sc_is_entry.nd rfl (.inl rfl)) pgs_nil))))
      (pss_cons (ps_if (PW.pt (pw_or (pt_not (pt_val (pe_callB call_isi (by rfl) T.z_isinstance (by decide +kernel) (pa_cons (pv 2) (pa_cons (pe_bltn (v := .ty "str") (by rfl) T.z_str (by decide +kernel) rfl) pa_nil))))) (pw_or1 (pt_cmpR op_notIn_seq (pv 2) (pe_glob (v := .ref T.c_WORDS) rfl T.g_WORDS rfl) (by rfl))))) (pss_one (ps_ret pe_bl)) pss_nil)
      (pss_one (ps_ret (pe_or (pe_cmpR op_ne (pv 2) pe_str (nomark _)) (pe_one (pe_and (pe_call G_is_integer (hr.mono (by omega)) rfl T.g_is_integer T.F_is_integer.kp T.b_is_integer .nil pass0 (pa_cons (pv 3) pa_nil)) (pe_one (pe_cmp (pc_din (hu_of hr) (pe_callTy call_int1 (by rfl) T.z_int (by decide +kernel) (pa_cons (pv 3) pa_nil)) (pv 1)))))))))))), ?_⟩
    refine ⟨_, rfl, _, _, _, _, true, rfl, .ty _, .base (.tup ht), kit_ty (by decide +kernel), true, rfl, ifF rfl ?_⟩
    refine ⟨_, rfl, t, _, rfl, .inr (sqtOf ht), rfl, _, rfl, ifF rfl ?_⟩
    refine ⟨_, rfl, t, _, rfl, sqtOf ht, rfl, _, _, rfl, _, _, rfl, rfl, ?_⟩
    refine ⟨_, rfl, _, _, _, _, true, rfl, .ty _, .base (.str _), kit_ty (by decide +kernel), true, rfl, ifF rfl ?_⟩
    refine ⟨_, rfl, T.c_WORDS, _, rfl, .inr (T.s_WORDS H), rfl, by decide +kernel, _, rfl, ifF ?_ ?_⟩
    · cases e with
      | add v => exact inW1
      | rem i => exact inW2
      | ask v => exact inW3
    · cases e with
      | add v => exact ⟨_, rfl, rfl, true, neW1, ifT rfl q⟩
      | ask v => exact ⟨_, rfl, rfl, true, neW3, ifT rfl q⟩
      | rem i =>
        refine ⟨_, rfl, rfl, false, neW2, ifF rfl ⟨_, rfl, (i : Int), rfl, true, rfl, ifT rfl ⟨_, rfl, .inl ⟨_, rfl, _, rfl, pd, _, rfl, DGet.k (k := .inl (i : Int)) hp, ?_⟩⟩⟩⟩
        rw [hr' i rfl]
        exact q
end
end Ob

set_option Elab.async false
set_option linter.all false
set_option maxRecDepth 100000
set_option maxHeartbeats 1000000
namespace Ob
open PySem PySem.Spec PyProof.Rows L2
open LamX (Tabs TabB TabS ExtN)

set_option hygiene false in
local macro_rules
  | `(tactic| kp_flats) => `(tactic| first
    | assumption
    | exact upd_same
    | (apply atNew; assumption; kp_flats)
    | (apply atNe; (next => kbo_bools); kp_flats)
    | (apply atSame; assumption; kp_flats)
    | (apply atKp; assumption; (next => kaf_pre); kp_flats))
set_option hygiene false in
local macro_rules
  | `(tactic| kaf_pre) => `(tactic| first
    | assumption
    | exact not_nil
    | (apply not_cons; (next => kbo_bools); kaf_pre)
    | (apply not_app; (next => kaf_pre); kaf_pre))
set_option hygiene false in
local macro_rules
  | `(tactic| kbo_bools) => `(tactic| first
    | assumption
    | (apply Ne.symm; assumption)
    | (apply neN; assumption; kp_flats)
    | (apply neN'; assumption; kp_flats))
set_option hygiene false in
local macro_rules
  | `(tactic| o_reads) => `(tactic| first
    | with_reducible rfl
    | assumption
    | rfl
    | kp_flats
    | (show SqL _ _ _ _; first | assumption | (apply sqlOf; kp_flats) | (apply sqlSame; assumption; o_reads))
    | (show SqT _ _ _ _; first | assumption | (apply sqtOf; kp_flats) | (apply sqtAll; assumption) | (apply sqtSame; assumption; o_reads))
    | (show Cls _ _; first | exact T.cl_Unions)
    | (show NoAttr _ _ _; first | exact T.n_Unions_groups | exact T.n_Unions_parents | exact T.n_Unions_counts | exact T.n_Unions_moved)
    | (apply Or.inl; o_reads)
    | (apply Or.inr; o_reads)
    | (apply And.intro; (next => o_reads); o_reads)
    | (apply Exists.intro; o_reads)
    | exact Nat.le_of_ble_eq_true rfl
    | exact Nat.succ_ne_zero _
    | (show Fr _ _; kba_ints)
    | (show Same _ _; kd_subs)
    | (show Kp _ _ _; kxs_still)
    | (show (_ : Nat) ≤ _; simp only [List.length_append, List.length_map, List.length_cons, List.length_nil, List.length_take, List.length_drop, List.length_replicate, List.length_range, sizeLine_eq]; omega)
    | (show _ = none; apply Fr.h; kba_ints)
    | (show Bag _ _; first | assumption | (apply bag_putF; assumption; o_reads) | (apply bag_neF; (next => kbo_bools); o_reads) | (apply bag_kpR; assumption; (next => kaf_pre); o_reads))
    | omega
    | decide)
local macro_rules
  | `(tactic| o_readsAll) => `(tactic| repeat (first
    | (refine fun (pNew : Addr) (nNew : _ = none) => ?_; replace nNew := Fr.mk nNew)
    | (refine fun (xNew dNew : Addr) (nNew : _ = none) (mNew : _ = none) (eNew : dNew ≠ xNew) => ?_; replace nNew := Fr.mk nNew; replace mNew := Fr.mk mNew)
    | (apply And.intro; next => o_reads)
    | apply Exists.intro (α := V)
    | apply Exists.intro (α := Addr)
    | apply Exists.intro (α := Int)
    | apply Exists.intro (α := Bool)
    | apply Exists.intro (α := List V)
    | apply Exists.intro (α := List Nat)
    | apply Exists.intro (α := List (Str × V))
    | apply Exists.intro (α := List _)
    | apply Exists.intro (α := Str)
    | apply Exists.intro (α := HO)
    | apply Exists.intro (α := Sp)
    | apply Exists.intro (α := VK)))
set_option hygiene false in
local macro_rules
  | `(tactic| kba_ints) => `(tactic| first
    | assumption
    | (apply frUp; (first | assumption | (apply Ne.symm; assumption)); kba_ints)
    | (apply noneOf; assumption; intro oF eF; apply Exists.intro; kp_flats)
    | (apply frUp; (next => kbo_bools); kba_ints))
set_option hygiene false in
local macro_rules
  | `(tactic| kxs_still) => `(tactic| first
    | assumption
    | exact kp_refl _ _
    | (apply kp_newF; assumption; kxs_still)
    | (apply kp_new; assumption; kxs_still)
    | (apply kp_up; (next => o_fieldsN); kxs_still)
    | (apply kp_new; (next => kba_ints); kxs_still)
    | (apply kp_sameR; assumption; kxs_still)
    | (apply kp_transR; assumption; kxs_still)
    | (apply kp_freshR; assumption; (next => kaf_suf); kxs_still))
set_option hygiene false in
local macro_rules
  | `(tactic| kaf_suf) => `(tactic| first
    | assumption
    | exact subNil
    | (apply subCons; (first | (apply Or.inl; o_fieldsN) | (apply Or.inr; kba_ints)); kaf_suf)
    | (apply subApp; (next => kaf_suf); kaf_suf))
set_option hygiene false in
local macro_rules
  | `(tactic| o_fieldsN) => `(tactic| first
    | assumption
    | exact memA
    | (apply memB; o_fieldsN)
    | (apply memL; o_fieldsN)
    | (apply memR; o_fieldsN))
set_option hygiene false in
local macro_rules
  | `(tactic| kd_subs) => `(tactic| first
    | assumption
    | exact Same.refl _
    | (apply same_putF; assumption; kd_subs)
    | (apply same_putG; assumption; kd_subs)
    | (apply same_putF; (next => kba_ints); kd_subs)
    | (apply same_transR; assumption; kd_subs))

set_option pp.maxSteps 900
/-! ### the ends of what is present -/
def stepE (n k : Nat) (es : List (Nat × Nat)) : HEv → List (Nat × Nat)
  | .add _ => es ++ [(k, n)]
  | .rem i => es.map fun e => if e.1 = i then (e.1, k) else e
  | .ask _ => es
def stepP (k : Nat) (ps : List Nat) : HEv → List Nat
  | .add _ => ps ++ [k]
  | .rem i => ps.filter fun j => decide (j ≠ i)
  | .ask _ => ps
def endsU (hs : List HEv) : Nat → List (Nat × Nat)
  | 0 => []
  | k + 1 => match hs[k]? with
    | some e => stepE hs.length k (endsU hs k) e
    | none => endsU hs k
def presU (hs : List HEv) : Nat → List Nat
  | 0 => []
  | k + 1 => match hs[k]? with
    | some e => stepP k (presU hs k) e
    | none => presU hs k
/-- only members that are present are removed -/
def HOk (hs : List HEv) : Prop := ∀ k i, hs[k]? = some (.rem i) → i ∈ presU hs k
theorem ends_lt {hs : List HEv} : ∀ {k : Nat}, k ≤ hs.length → ∀ e ∈ endsU hs k, e.1 < k ∧ e.1 ≤ e.2 ∧ e.2 ≤ hs.length
  | 0, _, e, m => nomatch m
  | k + 1, hk, e, m => by
    have ih := ends_lt (hs := hs) (k := k) (by omega)
    unfold endsU at m
    rw [List.getElem?_eq_getElem (show k < hs.length by omega)] at m
    cases hh : hs[k]'(by omega) with
    | add v =>
      rw [hh] at m
      rcases List.mem_append.mp m with m | m
      · have := ih e m
        omega
      · rw [List.mem_singleton.mp m]
        show k < k + 1 ∧ k ≤ hs.length ∧ hs.length ≤ hs.length
        omega
    | rem i =>
      rw [hh] at m
      obtain ⟨e', m', rfl⟩ := List.mem_map.mp m
      have := ih e' m'
      split
      · show e'.1 < k + 1 ∧ e'.1 ≤ k ∧ k ≤ hs.length
        omega
      · omega
    | ask v =>
      rw [hh] at m
      have := ih e m
      omega
theorem pres_lt {hs : List HEv} : ∀ {k : Nat}, ∀ i ∈ presU hs k, i < k ∧ ∃ e ∈ endsU hs k, e.1 = i
  | 0, i, m => nomatch m
  | k + 1, i, m => by
    unfold presU at m
    unfold endsU
    cases hh : hs[k]? with
    | none =>
      rw [hh] at m
      obtain ⟨a, b⟩ := pres_lt (hs := hs) (k := k) i m
      exact ⟨by omega, b⟩
    | some e =>
      rw [hh] at m
      match e, m with
      | .add v, m =>
        rcases List.mem_append.mp m with m | m
        · obtain ⟨a, e, b, c⟩ := pres_lt (hs := hs) (k := k) i m
          exact ⟨by omega, e, List.mem_append.mpr (.inl b), c⟩
        · rw [List.mem_singleton.mp m]
          exact ⟨by omega, (k, hs.length), List.mem_append.mpr (.inr (List.mem_singleton.mpr rfl)), rfl⟩
      | .rem j, m =>
        obtain ⟨m, _⟩ := List.mem_filter.mp m
        obtain ⟨a, e, b, c⟩ := pres_lt (hs := hs) (k := k) i m
        refine ⟨by omega, _, List.mem_map.mpr ⟨e, b, rfl⟩, ?_⟩
        show (if e.1 = j then (e.1, k) else e).1 = i
        split
        · exact c
        · exact c
      | .ask v, m =>
        obtain ⟨a, b⟩ := pres_lt (hs := hs) (k := k) i m
        exact ⟨by omega, b⟩
def presK (ps : List Nat) : List (Key × V) := ps.map fun i : Nat => (.inl (i : Int), .bl true)
theorem valV_none {ks : List (Key × V)} {k : Key} (h : ∀ p ∈ ks, p.1 ≠ k) : valV ks k = none := by
  induction ks with
  | nil => rfl
  | cons p r ih => rw [valV_neg (h p List.mem_cons_self)]; exact ih fun q m => h q (List.mem_cons_of_mem _ m)
theorem valV_has {ks : List (Key × V)} {k : Key} {p : Key × V} (h : p ∈ ks) (e : p.1 = k) : (valV ks k).isSome = true := by
  rw [← valV_any]
  exact List.any_eq_true.mpr ⟨p, h, decide_eq_true e⟩
theorem put_ends {es : List (Nat × Nat)} {i k : Nat} (h : ∃ e ∈ es, e.1 = i) : putK (endsK es) (.inl (i : Int)) (.int (k : Int)) = endsK (es.map fun e => if e.1 = i then (e.1, k) else e) := by
  obtain ⟨e, m, he⟩ := h
  have ha : (endsK es).any (fun kv => decide (kv.1 = (.inl (i : Int)))) = true := List.any_eq_true.mpr ⟨_, List.mem_map.mpr ⟨e, m, rfl⟩, decide_eq_true (by rw [he])⟩
  unfold putK
  rw [if_pos ha]
  unfold endsK
  rw [List.map_map, List.map_map]
  refine List.map_congr_left fun e _ => ?_
  show (if (Sum.inl (e.1 : Int) : Key) = .inl (i : Int) then ((.inl (e.1 : Int) : Key), V.int (k : Int)) else (.inl (e.1 : Int), V.int (e.2 : Int))) = _
  by_cases c : e.1 = i
  · rw [if_pos (by rw [c])]
    show _ = ((.inl ((if e.1 = i then (e.1, k) else e).1 : Int) : Key), V.int ((if e.1 = i then (e.1, k) else e).2 : Int))
    rw [if_pos c]
  · rw [if_neg fun z => c (by injection z with z; omega)]
    show _ = ((.inl ((if e.1 = i then (e.1, k) else e).1 : Int) : Key), V.int ((if e.1 = i then (e.1, k) else e).2 : Int))
    rw [if_neg c]
theorem drop_pres {ps : List Nat} {i : Nat} : dropK (presK ps) (.inl (i : Int)) = presK (ps.filter fun j => decide (j ≠ i)) := by
  unfold dropK presK
  rw [List.filter_map]
  refine congrArg _ (List.filter_congr fun j _ => ?_)
  show decide ((Sum.inl (j : Int) : Key) ≠ .inl (i : Int)) = decide (j ≠ i)
  by_cases c : j = i
  · rw [c]
    simp
  · have c' : (Sum.inl (j : Int) : Key) ≠ .inl (i : Int) := fun z => c (by injection z with z; omega)
    simp [c, c']
theorem ends_len {hs : List HEv} : ∀ {k : Nat}, (endsU hs k).length ≤ k
  | 0 => Nat.le_refl _
  | k + 1 => by
    have ih := ends_len (hs := hs) (k := k)
    unfold endsU
    cases hs[k]? with
    | none => exact Nat.le_succ_of_le ih
    | some e =>
      match e with
      | .add v =>
        show (endsU hs k ++ _).length ≤ _
        rw [List.length_append]
        exact Nat.succ_le_succ ih
      | .rem i =>
        show (List.map _ (endsU hs k)).length ≤ _
        rw [List.length_map]
        omega
      | .ask v => exact Nat.le_succ_of_le ih
theorem pres_len {hs : List HEv} : ∀ {k : Nat}, (presU hs k).length ≤ k
  | 0 => Nat.le_refl _
  | k + 1 => by
    have ih := pres_len (hs := hs) (k := k)
    unfold presU
    cases hs[k]? with
    | none => exact Nat.le_succ_of_le ih
    | some e =>
      match e with
      | .add v =>
        show (presU hs k ++ _).length ≤ _
        rw [List.length_append]
        exact Nat.succ_le_succ ih
      | .rem i => exact Nat.le_succ_of_le (Nat.le_trans (List.length_filter_le _ _) ih)
      | .ask v => exact Nat.le_succ_of_le ih
section
variable {P : Program} {w : World} {K : PySem.W.Frag} {mg : Str → Option Value} {base : Heap}
structure HisAt (H : Hp) (xs : List V) (hs : List HEv) : Prop where
  len : xs.length = hs.length
  at_ : ∀ (q : Nat) (x : V) (e : HEv), xs[q]? = some x → hs[q]? = some e → ∃ p, x = .ref p ∧ H p = some (.tup [.str e.w, e.v])
def spPre : Sp := fun vs H Q _ => ∃ (ha : Addr) (xs : List V) (hs : List HEv), vs = [.ref ha] ∧ H ha = some (.lst xs) ∧ HisAt H xs hs ∧ HOk hs ∧ hs.length ≤ 2000 ∧ ∀ ed H', Same H H' → Fr H ed → H' ed = some (.dK (endsK (endsU hs hs.length))) → Q (.ref ed) H'
theorem ok_pre (T : Txt K mg) : FnOk P w K mg base CX0 3 T.f_present_ends T.d_present_ends ["history"] spPre := by
  have G_is_entry := ok_ise (P := P) (w := w) (base := base) T
  refine T.F_present_ends.ok sc_present_ends (fun vs H Q E h => ?_) (fun cdv A outer s H vs Q E hr h => ?_)
  · obtain ⟨ha, xs, hs, rfl, _⟩ := h
    rfl
  · obtain ⟨ha, xs, hs, rfl, hha, hh, hok, hl, q⟩ := h
    refine ⟨_, (pss_cons (ps_if (pt_not (pt_val (pe_callB call_isi (by rfl) T.z_isinstance (by decide +kernel) (pa_cons (pv 0) (pa_cons (pe_bltn (v := .ty "list") (by rfl) T.z_list (by decide +kernel) rfl) pa_nil))))) pss_never pss_nil)
      (pss_cons (ps_set (i := 1) sc_present_ends.nd rfl (.inl rfl) pe_dnewK)
      (pss_cons (ps_set (i := 2) sc_present_ends.nd rfl (.inl rfl) pe_dnewK)
      (pss_cons (ps_for PassesOwn.never rfl (pi_enum (by rfl) T.z_enumerate (pa_cons (pv 0) pa_nil)) (pg_tup (by rfl) (pgs_cons (pg_name (i := 3) sc_present_ends.nd rfl (.inl rfl)) (pgs_cons (pg_name (i := 4) sc_present_ends.nd rfl (.inl rfl)) pgs_nil))) (pss_cons (ps_if (pt_not (pt_val (pe_call G_is_entry (hr.mono (by omega)) rfl T.g_is_entry T.F_is_entry.kp T.b_is_entry .nil pass0 (pa_cons (pv 4) (pa_cons (pv 2) pa_nil))))) pss_never pss_nil)
        (pss_one (ps_if (pt_cmpR op_eq (pe_ix (r := rIxT K) ix_tup (pv 4) pe_int (fun _ _ => rfl)) pe_str (nomark _)) (pss_cons (ps_dput (hu_of hr) (pv 1) (pv 3) (pe_callB call_len_seq (by rfl) T.z_len (by decide +kernel) (pa_cons (pv 0) pa_nil)) rfl)
          (pss_one (ps_dput (hu_of hr) (pv 2) (pv 3) pe_bl rfl))) (pss_one (ps_if (pt_cmpR op_eq (pe_ix (r := rIxT K) ix_tup (pv 4) pe_int (fun _ _ => rfl)) pe_str (nomark _)) (pss_cons (ps_set (i := 5) sc_present_ends.nd rfl (.inl rfl) (pe_callTy call_int1 (by rfl) T.z_int (by decide +kernel) (pa_cons (pe_ix (r := rIxT K) ix_tup (pv 4) pe_int (fun _ _ => rfl)) pa_nil)))
            (pss_cons (ps_dput (hu_of hr) (pv 1) (pv 5) (pv 3) rfl)
            (pss_one (ps_ddel (pv 2) (pv 5))))) pss_nil))))))
      (pss_one (ps_ret (pv 1))))))), ?_⟩
    refine ⟨_, rfl, _, _, _, _, true, rfl, .ty _, .base (.lst hha), kit_ty (by decide +kernel), true, rfl, ifF rfl ?_⟩
    refine fun ed ned pd npd => ?_
    have fe := Fr.mk ned
    have fp := Fr.mk npd
    have s1 : Same H (upd H ed (.dK [])) := same_newF fe
    have fp0 : Fr H pd := Fr.mk (s1.free npd)
    have nep : ed ≠ pd := ne_of_none (H := upd H ed (.dK [])) upd_same npd
    have s2 := s1.trans (same_newF (o := .dK []) fp)
    refine ⟨_, rfl, ha, xs, rfl, sqlOf (s2 _ _ hha), ?_⟩
    refine for_it (walk_enum (K := K) (a := ha) (xs := xs)) (fun k σ H' => ∃ y3 y4 y5, σ = [some (.ref ha), some (.ref ed), some (.ref pd), y3, y4, y5] ∧ Same H H' ∧ H' ed = some (.dK (endsK (endsU hs k))) ∧ H' pd = some (.dK (presK (presU hs k)))) ⟨_, _, _, rfl, s2, (by rw [upd_ne nep]; exact upd_same), upd_same⟩ (fun k σ H' _ ⟨_, _, _, _, z, _⟩ => sqlOf (z _ _ hha)) ?_ ?_
    · rintro k x σ H1 H2 hk ⟨y3, y4, y5, rfl, s3, he, hp⟩ ⟨T', vx, vy, rfl, nT, rfl, hx, hy⟩
      obtain rfl : V.int ((k : Nat) : Int) = vx := Option.some.inj hx
      have hkl : k < hs.length := by rw [← hh.len]; exact hk
      obtain ⟨e, hee⟩ : ∃ e, hs[k]? = some e := ⟨_, List.getElem?_eq_getElem hkl⟩
      obtain ⟨p, rfl, hte⟩ := hh.at_ k vy e hy hee
      have eT : upd H1 T' (.tup [.int (k : Int), .ref p]) T' = some (.tup [.int (k : Int), .ref p]) := upd_same
      have sT : Same H1 (upd H1 T' (.tup [.int (k : Int), .ref p])) := same_newF (Fr.mk nT)
      have s4 := s3.trans sT
      have he4 := sT _ _ he
      have hp4 := sT _ _ hp
      generalize upd H1 T' (.tup [.int (k : Int), .ref p]) = H4 at eT sT s4 he4 hp4 ⊢
      have ht4 := s4 _ _ hte
      refine ⟨T', _, rfl, sqtOf eT, rfl, _, _, rfl, _, _, rfl, rfl, ?_⟩
      have pin : ∀ i, i ∈ presU hs k → (valV (presK (presU hs k)) (.inl (i : Int))).isSome = true := fun i m => valV_has (p := (.inl (i : Int), .bl true)) (List.mem_map.mpr ⟨i, m, rfl⟩) rfl
      refine ⟨_, rfl, _, rfl, p, pd, e, _, rfl, ht4, hp4, fun i hi => pin i (hok k i (by rw [hee, hi])), ⟨true, rfl, ifF rfl ?_⟩⟩
      have e1 : endsU hs (k + 1) = stepE hs.length k (endsU hs k) e := by
        show (match hs[k]? with | some e => stepE hs.length k (endsU hs k) e | none => endsU hs k) = _
        rw [hee]
      have p1 : presU hs (k + 1) = stepP k (presU hs k) e := by
        show (match hs[k]? with | some e => stepP k (presU hs k) e | none => presU hs k) = _
        rw [hee]
      rw [e1, p1]
      have le := ends_len (hs := hs) (k := k)
      have lp := pres_len (hs := hs) (k := k)
      have lke : (endsK (endsU hs k)).length = (endsU hs k).length := List.length_map ..
      have lkp : (presK (presU hs k)).length = (presU hs k).length := List.length_map ..
      refine ⟨_, rfl, p, _, 0, _, rfl, rfl, sqtOf ht4, atI_nat (j := 0) rfl, rfl, _, rfl, ?_⟩
      match e, ht4, hee with
      | .add v, ht4, hee =>
        refine ifT (by show decide (V.str "add" = V.str "add") = true; decide +kernel) ?_
        refine ⟨_, rfl, ha, xs, rfl, .inl (sqlOf (s4 _ _ hha)), _, rfl, _, rfl, ed, _, rfl, DPut.k (k := .inl (k : Int)) he4 (by rw [lke, sizeLine_eq]; omega), ?_⟩
        refine ⟨_, rfl, _, rfl, pd, _, rfl, DPut.k (k := .inl (k : Int)) (by rw [upd_ne nep.symm]; exact hp4) (by rw [lkp, sizeLine_eq]; omega), ?_⟩
        refine ⟨_, _, _, rfl, same_putG fp0 (same_putG fe s4), ?_, ?_⟩
        · rw [upd_ne nep, upd_same, putK_new _ (valV_none fun q hq => ?_), hh.len]
          · show _ = some (HO.dK (endsK (endsU hs k ++ [(k, hs.length)])))
            unfold endsK
            rw [List.map_append]
            rfl
          · obtain ⟨e', m', rfl⟩ := List.mem_map.mp hq
            have := ends_lt (hs := hs) (Nat.le_of_lt hkl) e' m'
            intro z
            injection z with z
            omega
        · rw [upd_same, putK_new _ (valV_none fun q hq => ?_)]
          · show _ = some (HO.dK (presK (presU hs k ++ [k])))
            unfold presK
            rw [List.map_append]
            rfl
          · obtain ⟨i', m', rfl⟩ := List.mem_map.mp hq
            have := (pres_lt (hs := hs) i' m').1
            intro z
            injection z with z
            omega
      | .rem i, ht4, hee =>
        refine ifF (by show decide (V.str "remove" = V.str "add") = false; decide +kernel) ?_
        refine ⟨_, rfl, p, _, 0, _, rfl, rfl, sqtOf ht4, atI_nat (j := 0) rfl, rfl, _, rfl, ifT (by show decide (V.str "remove" = V.str "remove") = true; decide +kernel) ?_⟩
        refine ⟨_, rfl, p, _, 1, _, rfl, rfl, sqtOf ht4, atI_nat (j := 1) rfl, .inl ⟨_, rfl, ?_⟩⟩
        have im := hok k i hee
        refine ⟨_, rfl, _, rfl, _, rfl, ed, _, rfl, DPut.k (k := .inl (i : Int)) he4 (by rw [lke, sizeLine_eq]; omega), ?_⟩
        refine ⟨_, rfl, _, rfl, pd, _, .inl (i : Int), rfl, (by rw [upd_ne nep.symm]; exact hp4), rfl, pin i im, ?_⟩
        refine ⟨_, _, _, rfl, same_putG fp0 (same_putG fe s4), ?_, ?_⟩
        · rw [upd_ne nep, upd_same, put_ends (pres_lt (hs := hs) i im).2]
          rfl
        · rw [upd_same, drop_pres]
          rfl
      | .ask v, ht4, hee =>
        refine ifF (by show decide (V.str "ask" = V.str "add") = false; decide +kernel) ?_
        refine ⟨_, rfl, p, _, 0, _, rfl, rfl, sqtOf ht4, atI_nat (j := 0) rfl, rfl, _, rfl, ifF (by show decide (V.str "ask" = V.str "remove") = false; decide +kernel) ?_⟩
        exact ⟨_, _, _, rfl, s4, he4, hp4⟩
    · rintro σ H1 ⟨y3, y4, y5, rfl, s3, he, hp⟩
      rw [hh.len] at he
      exact ⟨_, rfl, q ed _ s3 fe he⟩
end
end Ob

set_option Elab.async false
set_option linter.all false
set_option maxRecDepth 100000
set_option maxHeartbeats 1000000
namespace Ob
open PySem PySem.Spec PyProof.Rows L2
open LamX (Tabs TabB TabS ExtN)

set_option hygiene false in
local macro_rules
  | `(tactic| kp_flats) => `(tactic| first
    | assumption
    | exact upd_same
    | (apply atNew; assumption; kp_flats)
    | (apply atNe; (next => kbo_bools); kp_flats)
    | (apply atSame; assumption; kp_flats)
    | (apply atKp; assumption; (next => kaf_pre); kp_flats))
set_option hygiene false in
local macro_rules
  | `(tactic| kaf_pre) => `(tactic| first
    | assumption
    | exact not_nil
    | (apply not_cons; (next => kbo_bools); kaf_pre)
    | (apply not_app; (next => kaf_pre); kaf_pre))
set_option hygiene false in
local macro_rules
  | `(tactic| kbo_bools) => `(tactic| first
    | assumption
    | (apply Ne.symm; assumption)
    | (apply neN; assumption; kp_flats)
    | (apply neN'; assumption; kp_flats))
set_option hygiene false in
local macro_rules
  | `(tactic| o_reads) => `(tactic| first
    | with_reducible rfl
    | assumption
    | rfl
    | kp_flats
    | (show SqL _ _ _ _; first | assumption | (apply sqlOf; kp_flats) | (apply sqlSame; assumption; o_reads))
    | (show SqT _ _ _ _; first | assumption | (apply sqtOf; kp_flats) | (apply sqtAll; assumption) | (apply sqtSame; assumption; o_reads))
    | (show Cls _ _; first | exact T.cl_Unions)
    | (show NoAttr _ _ _; first | exact T.n_Unions_groups | exact T.n_Unions_parents | exact T.n_Unions_counts | exact T.n_Unions_moved)
    | (apply Or.inl; o_reads)
    | (apply Or.inr; o_reads)
    | (apply And.intro; (next => o_reads); o_reads)
    | (apply Exists.intro; o_reads)
    | exact Nat.le_of_ble_eq_true rfl
    | exact Nat.succ_ne_zero _
    | (show Fr _ _; kba_ints)
    | (show Same _ _; kd_subs)
    | (show Kp _ _ _; kxs_still)
    | (show (_ : Nat) ≤ _; simp only [List.length_append, List.length_map, List.length_cons, List.length_nil, List.length_take, List.length_drop, List.length_replicate, List.length_range, sizeLine_eq]; omega)
    | (show _ = none; apply Fr.h; kba_ints)
    | (show Bag _ _; first | assumption | (apply bag_putF; assumption; o_reads) | (apply bag_neF; (next => kbo_bools); o_reads) | (apply bag_kpR; assumption; (next => kaf_pre); o_reads))
    | omega
    | decide)
local macro_rules
  | `(tactic| o_readsAll) => `(tactic| repeat (first
    | (refine fun (pNew : Addr) (nNew : _ = none) => ?_; replace nNew := Fr.mk nNew)
    | (refine fun (xNew dNew : Addr) (nNew : _ = none) (mNew : _ = none) (eNew : dNew ≠ xNew) => ?_; replace nNew := Fr.mk nNew; replace mNew := Fr.mk mNew)
    | (apply And.intro; next => o_reads)
    | apply Exists.intro (α := V)
    | apply Exists.intro (α := Addr)
    | apply Exists.intro (α := Int)
    | apply Exists.intro (α := Bool)
    | apply Exists.intro (α := List V)
    | apply Exists.intro (α := List Nat)
    | apply Exists.intro (α := List (Str × V))
    | apply Exists.intro (α := List _)
    | apply Exists.intro (α := Str)
    | apply Exists.intro (α := HO)
    | apply Exists.intro (α := Sp)
    | apply Exists.intro (α := VK)))
set_option hygiene false in
local macro_rules
  | `(tactic| kba_ints) => `(tactic| first
    | assumption
    | (apply frUp; (first | assumption | (apply Ne.symm; assumption)); kba_ints)
    | (apply noneOf; assumption; intro oF eF; apply Exists.intro; kp_flats)
    | (apply frUp; (next => kbo_bools); kba_ints))
set_option hygiene false in
local macro_rules
  | `(tactic| kxs_still) => `(tactic| first
    | assumption
    | exact kp_refl _ _
    | (apply kp_newF; assumption; kxs_still)
    | (apply kp_new; assumption; kxs_still)
    | (apply kp_up; (next => o_fieldsN); kxs_still)
    | (apply kp_new; (next => kba_ints); kxs_still)
    | (apply kp_sameR; assumption; kxs_still)
    | (apply kp_transR; assumption; kxs_still)
    | (apply kp_freshR; assumption; (next => kaf_suf); kxs_still))
set_option hygiene false in
local macro_rules
  | `(tactic| kaf_suf) => `(tactic| first
    | assumption
    | exact subNil
    | (apply subCons; (first | (apply Or.inl; o_fieldsN) | (apply Or.inr; kba_ints)); kaf_suf)
    | (apply subApp; (next => kaf_suf); kaf_suf))
set_option hygiene false in
local macro_rules
  | `(tactic| o_fieldsN) => `(tactic| first
    | assumption
    | exact memA
    | (apply memB; o_fieldsN)
    | (apply memL; o_fieldsN)
    | (apply memR; o_fieldsN))
set_option hygiene false in
local macro_rules
  | `(tactic| kd_subs) => `(tactic| first
    | assumption
    | exact Same.refl _
    | (apply same_putF; assumption; kd_subs)
    | (apply same_putG; assumption; kd_subs)
    | (apply same_putF; (next => kba_ints); kd_subs)
    | (apply same_transR; assumption; kd_subs))

set_option pp.maxSteps 900
/-! ### how long a walk is -/
def totW (N : Nat → Nat → List Nat) : Nat → Nat → Nat
  | 0, f => (N f 1).length
  | k + 1, f => (N f (2 ^ (k + 1))).length + (totW N k f + totW N k (f + 2 ^ k))
theorem walk_len {N : Nat → Nat → List Nat} {bs : List Bool} : ∀ {k f : Nat}, (walkW N bs k f).length ≤ 2 * totW N k f + 2 ^ k
  | 0, f => by
    unfold walkW totW
    split
    · rw [List.length_append, List.length_append]
      unfold pushW popW
      rw [List.length_map, List.length_map, List.length_reverse]
      show (N f 1).length + 1 + (N f 1).length ≤ 2 * (N f 1).length + 2 ^ 0
      omega
    · exact Nat.zero_le _
  | k + 1, f => by
    have h1 := walk_len (N := N) (bs := bs) (k := k) (f := f)
    have h2 := walk_len (N := N) (bs := bs) (k := k) (f := f + 2 ^ k)
    have h3 : (2 : Nat) ^ (k + 1) = 2 ^ k + 2 ^ k := by rw [Nat.pow_succ]; omega
    unfold walkW totW
    split
    · rw [List.length_append, List.length_append, List.length_append]
      unfold pushW popW
      rw [List.length_map, List.length_map, List.length_reverse]
      omega
    · exact Nat.zero_le _
theorem tot_addN {N : Nat → Nat → List Nat} {a s i : Nat} : ∀ {k f : Nat}, totW (addN N a s i) k f ≤ totW N k f + (if f ≤ a ∧ a < f + 2 ^ k ∧ s ≤ 2 ^ k then 1 else 0)
  | 0, f => by
    unfold totW
    by_cases c : f = a ∧ 1 = s
    · obtain ⟨rfl, rfl⟩ := c
      rw [add_same, List.length_append, if_pos ⟨Nat.le_refl _, by rw [Nat.pow_zero]; omega, by decide⟩]
      exact Nat.le_refl _
    · rw [add_ne c]
      exact Nat.le_add_right _ _
  | k + 1, f => by
    have h1 := tot_addN (N := N) (a := a) (s := s) (i := i) (k := k) (f := f)
    have h2 := tot_addN (N := N) (a := a) (s := s) (i := i) (k := k) (f := f + 2 ^ k)
    have h3 : (2 : Nat) ^ (k + 1) = 2 ^ k + 2 ^ k := by rw [Nat.pow_succ]; omega
    have hp := Nat.two_pow_pos k
    unfold totW
    by_cases c : f = a ∧ 2 ^ (k + 1) = s
    · obtain ⟨rfl, rfl⟩ := c
      rw [if_neg (by omega)] at h1
      rw [if_neg (by omega)] at h2
      rw [add_same, List.length_append, if_pos ⟨Nat.le_refl _, by omega, Nat.le_refl _⟩]
      show (N f (2 ^ (k + 1))).length + 1 + _ ≤ _
      omega
    · rw [add_ne c]
      by_cases d1 : f ≤ a ∧ a < f + 2 ^ k ∧ s ≤ 2 ^ k
      · rw [if_pos d1] at h1
        rw [if_neg (by omega)] at h2
        rw [if_pos (by omega)]
        omega
      · rw [if_neg d1] at h1
        by_cases d2 : f + 2 ^ k ≤ a ∧ a < f + 2 ^ k + 2 ^ k ∧ s ≤ 2 ^ k
        · rw [if_pos d2] at h2
          rw [if_pos (by omega)]
          omega
        · rw [if_neg d2] at h2
          omega
theorem tot_addP {i k f : Nat} : ∀ {ps : List (Nat × Nat)} {N : Nat → Nat → List Nat}, totW (addP N i ps) k f ≤ totW N k f + ps.length
  | [], N => Nat.le_refl _
  | p :: ps, N => by
    have h1 := tot_addN (N := N) (a := p.1) (s := p.2) (i := i) (k := k) (f := f)
    have h2 := tot_addP (i := i) (k := k) (f := f) (ps := ps) (N := addN N p.1 p.2 i)
    have h3 : addP N i (p :: ps) = addP (addN N p.1 p.2 i) i ps := rfl
    rw [h3, List.length_cons]
    split at h1 <;> omega
theorem tot_fold {k f : Nat} : ∀ {es : List (Nat × Nat)} {N : Nat → Nat → List Nat}, totW (es.foldl (fun N ie => addP N ie.1 (pcF 201 ie.1 (ie.2 - ie.1))) N) k f ≤ totW N k f + 201 * es.length
  | [], N => Nat.le_refl _
  | e :: es, N => by
    have h1 := tot_addP (i := e.1) (k := k) (f := f) (ps := pcF 201 e.1 (e.2 - e.1)) (N := N)
    have h2 := tot_fold (k := k) (f := f) (es := es) (N := addP N e.1 (pcF 201 e.1 (e.2 - e.1)))
    have h3 := pcF_len 201 e.1 (e.2 - e.1)
    rw [List.foldl_cons, List.length_cons]
    omega
theorem tot_nil : ∀ {k f : Nat}, totW (fun _ _ => []) k f = 0
  | 0, f => rfl
  | k + 1, f => by
    unfold totW
    rw [tot_nil (k := k) (f := f), tot_nil (k := k) (f := f + 2 ^ k)]
    rfl
theorem tot_nodes {es : List (Nat × Nat)} {k f : Nat} : totW (nodesOf es) k f ≤ 201 * es.length := by
  have h := tot_fold (k := k) (f := f) (es := es) (N := fun _ _ => [])
  rw [tot_nil, Nat.zero_add] at h
  exact h
/-! ### the plan of a history -/
def HEv.isAsk : HEv → Bool
  | .ask _ => true
  | _ => false
def planW (hs : List HEv) (j : Nat) : List (Str × Nat) := walkW (nodesOf (endsU hs hs.length)) (hs.map HEv.isAsk) j 0
section
variable {P : Program} {w : World} {K : PySem.W.Frag} {mg : Str → Option Value} {base : Heap}
def spPlan : Sp := fun vs H Q _ => ∃ (ha : Addr) (xs : List V) (hs : List HEv), vs = [.ref ha] ∧ H ha = some (.lst xs) ∧ HisAt H xs hs ∧ HOk hs ∧ hs.length ≤ 2000 ∧ ∀ (j : Nat) ys o H', hs.length ≤ 2 ^ j → (j = 0 ∨ 2 ^ (j - 1) < hs.length) → Same H H' → Fr H o → H' o = some (.lst ys) → WLog H' ys (planW hs j) → Q (.ref o) H'
theorem ok_plan (T : Txt K mg) : FnOk P w K mg base CX0 20 T.f_plan_answers T.d_plan_answers ["history"] spPlan := by
  have G_present_ends := ok_pre (P := P) (w := w) (base := base) T
  have G_members_by_nodes := ok_mbn (P := P) (w := w) (base := base) T
  have G_walk_size := ok_ws (P := P) (w := w) (base := base) T
  have G_visit : FnOk P w K mg base CX0 16 T.f_visit T.d_visit ["entries", "nodes", "asked", "first", "size"] (fun vs H Q E => ∃ j : Nat, j ≤ 12 ∧ spVis (j + 1) vs H Q E) := ⟨fun vs H Q E ⟨j, hj, h⟩ => (ok_visit (P := P) (w := w) (base := base) T (j + 1)).1 vs H Q E h, fun A outer s H args us vs Q E hr e0 hb r ⟨j, hj, h⟩ => (ok_visit (P := P) (w := w) (base := base) T (j + 1)).2 A outer s H args us vs Q E (hr.mono (by omega)) e0 hb r h⟩
  refine T.F_plan_answers.ok sc_plan_answers (fun vs H Q E h => ?_) (fun cdv A outer s H vs Q E hr h => ?_)
  · obtain ⟨ha, xs, hs, rfl, _⟩ := h
    rfl
  · obtain ⟨ha, xs, hs, rfl, hha, hh, hok, hl, q⟩ := h
    refine ⟨_, (pss_cons (ps_set (i := 1) sc_plan_answers.nd rfl (.inl rfl) (pe_call G_present_ends (hr.mono (by omega)) rfl T.g_present_ends T.F_present_ends.kp T.b_present_ends .nil pass0 (pa_cons (pv 0) pa_nil)))
      (pss_cons (ps_setLc (i := 2) (own := [("entry", 4)]) (g := gName 4) (tt := tYes) rfl sc_plan_answers.nd rfl rfl (sw_true rfl rfl rfl (by decide +kernel)) (pi_list (pv 0)) (blkOk_by (N := n_plan_answers) (sc := defScope s_plan_answers) (by decide +kernel)) (fun _ _ _ _ _ => (pg_name (i := 4) sc_plan_answers.nd rfl (.inl rfl))) (fun _ _ _ _ _ => pts_nil) (fun _ _ _ _ _ => (pe_cmpR op_eq (pe_ix (r := rIxT K) ix_tup (pv 4) pe_int (fun _ _ => rfl)) pe_str (nomark _))))
      (pss_cons (ps_set (i := 3) sc_plan_answers.nd rfl (.inl rfl) (pe_lst pa_nil))
      (pss_cons (ps_expr (pe_call G_visit (hr.mono (by omega)) rfl T.g_visit T.F_visit.kp T.b_visit .nil pass0 (pa_cons (pv 3) (pa_cons (pe_call G_members_by_nodes (hr.mono (by omega)) rfl T.g_members_by_nodes T.F_members_by_nodes.kp T.b_members_by_nodes .nil pass0 (pa_cons (pv 1) pa_nil)) (pa_cons (pv 2) (pa_cons pe_int (pa_cons (pe_call G_walk_size (hr.mono (by omega)) rfl T.g_walk_size T.F_walk_size.kp T.b_walk_size .nil pass0 (pa_cons (pe_callB call_len_seq (by rfl) T.z_len (by decide +kernel) (pa_cons (pv 0) pa_nil)) pa_nil)) pa_nil)))))))
      (pss_one (ps_ret (pv 3))))))), ?_⟩
    refine ⟨_, rfl, ha, xs, hs, rfl, hha, hh, hok, hl, fun ed H1 s1 fe he => ?_⟩
    refine ⟨_, rfl, ha, rfl, ⟨_, sqlOf (s1 _ _ hha)⟩, fun D nD => ?_⟩
    have fD := Fr.mk nD
    have fD0 : Fr H D := Fr.mk (s1.free nD)
    refine lc_it (walk_list (K := K) (a := ha) (xs := xs)) (fun i H' => Same H1 H' ∧ H' D = some (.lst (((hs.take i).map HEv.isAsk).map V.bl))) ⟨same_newF fD, upd_same⟩ (fun i H' _ z => sqlOf (z.1 _ _ (s1 _ _ hha))) ?_ ?_
    · rintro i x H2' H2 hi ⟨s2, eD⟩ ⟨rfl, hx⟩
      obtain ⟨e, hee⟩ : ∃ e, hs[i]? = some e := ⟨_, List.getElem?_eq_getElem (by rw [← hh.len]; exact hi)⟩
      obtain ⟨p, rfl, hte⟩ := hh.at_ i x e hx hee
      have ht2 := s2 _ _ (s1 _ _ hte)
      refine ⟨rfl, ?_⟩
      unfold tYes
      refine ifT rfl ?_
      refine ⟨_, rfl, p, _, 0, _, rfl, rfl, sqtOf ht2, atI_nat (j := 0) rfl, rfl, _, eD, ?_, same_putG fD s2, ?_⟩
      · rw [List.length_map, List.length_map, sizeLine_eq]
        have := List.length_take_le i hs
        have := hh.len
        omega
      · rw [upd_same, take_map HEv.isAsk hee, List.map_append]
        cases e with
        | add v => rfl
        | rem i => rfl
        | ask v => rfl
    · rintro H2 ⟨s2, eD⟩
      have htk := List.take_of_length_le (l := hs) (i := xs.length) (by rw [hh.len]; exact Nat.le_refl _)
      rw [htk] at eD
      refine ⟨Nat.zero_le _, fun o no => ?_⟩
      have fo := Fr.mk no
      have s3 := same_newF (o := .lst []) fo
      have eo : upd H2 o (.lst []) o = some (.lst []) := upd_same
      have fo0 : Fr H o := Fr.mk (s1.free (s2.free no))
      have npD : D ≠ o := ne_of_none eD no
      have ned : ed ≠ o := ne_of_none (s2 _ _ he) no
      generalize upd H2 o (.lst []) = H3 at s3 eo ⊢
      have s13 := s2.trans s3
      refine ⟨_, rfl, _, rfl, ed, _, rfl, s13 _ _ he, ?_, fun e m => ?_, fun nd kvs H4 s4 en hN hf => ?_⟩
      · have := ends_len (hs := hs) (k := hs.length)
        omega
      · have := ends_lt (hs := hs) (Nat.le_refl _) e m
        omega
      refine ⟨_, rfl, _, rfl, ha, xs, rfl, .inl (sqlOf (s4 _ _ (s13 _ _ (s1 _ _ hha)))), xs.length, rfl, ?_, fun j hj1 hj2 => ?_⟩
      · rw [hh.len]
        omega
      rw [hh.len] at hj1 hj2
      have hj : j ≤ 12 := by
        refine Nat.le_of_not_lt fun z => ?_
        rcases hj2 with h | h
        · omega
        · have h1 : (2 : Nat) ^ 12 ≤ 2 ^ (j - 1) := Nat.pow_le_pow_right (by decide) (by omega)
          have h2 : (2 : Nat) ^ 12 = 4096 := by decide
          omega
      have hp : (2 : Nat) ^ j ≤ 4096 := by
        have h1 : (2 : Nat) ^ j ≤ 2 ^ 12 := Nat.pow_le_pow_right (by decide) hj
        have h2 : (2 : Nat) ^ 12 = 4096 := by decide
        omega
      have hw := walk_len (N := nodesOf (endsU hs hs.length)) (bs := hs.map HEv.isAsk) (k := j) (f := 0)
      have ht := tot_nodes (es := endsU hs hs.length) (k := j) (f := 0)
      have hl2 := ends_len (hs := hs) (k := hs.length)
      have nen : ∀ f s a, valV kvs [.inl ((f : Nat) : Int), .inl ((s : Nat) : Int)] = some (.ref a) → a ≠ o := fun f s a e => (ne_of_none eo (hf f s a e).h).symm
      refine ⟨j, hj, o, nd, D, 0, [], kvs, hs.map HEv.isAsk, nodesOf (endsU hs hs.length), rfl, s4 _ _ eo, en, s4 _ _ (s3 _ _ eD), hN, nen, npD, by omega, by rw [List.length_map]; omega, ?_, fun ys H5 k5 e5 w5 => ?_⟩
      · show 0 + _ < _
        omega
      have s04 : Same H H4 := (s1.trans s13).trans s4
      exact ⟨_, rfl, q j ys o H5 hj1 hj2 (fun b u e => k5.at_ _ _ (s04 _ _ e) (not_cons (ne_of_none e fo0.h) not_nil)) fo0 (by rw [e5]; rfl) w5⟩
end
end Ob

set_option Elab.async false
set_option linter.all false
set_option maxRecDepth 100000
set_option maxHeartbeats 1000000
namespace Ob
open PySem PySem.Spec PyProof.Rows L2
open LamX (Tabs TabB TabS ExtN)

set_option hygiene false in
local macro_rules
  | `(tactic| kp_flats) => `(tactic| first
    | assumption
    | exact upd_same
    | (apply atNew; assumption; kp_flats)
    | (apply atNe; (next => kbo_bools); kp_flats)
    | (apply atSame; assumption; kp_flats)
    | (apply atKp; assumption; (next => kaf_pre); kp_flats))
set_option hygiene false in
local macro_rules
  | `(tactic| kaf_pre) => `(tactic| first
    | assumption
    | exact not_nil
    | (apply not_cons; (next => kbo_bools); kaf_pre)
    | (apply not_app; (next => kaf_pre); kaf_pre))
set_option hygiene false in
local macro_rules
  | `(tactic| kbo_bools) => `(tactic| first
    | assumption
    | (apply Ne.symm; assumption)
    | (apply neN; assumption; kp_flats)
    | (apply neN'; assumption; kp_flats))
set_option hygiene false in
local macro_rules
  | `(tactic| o_reads) => `(tactic| first
    | with_reducible rfl
    | assumption
    | rfl
    | kp_flats
    | (show SqL _ _ _ _; first | assumption | (apply sqlOf; kp_flats) | (apply sqlSame; assumption; o_reads))
    | (show SqT _ _ _ _; first | assumption | (apply sqtOf; kp_flats) | (apply sqtAll; assumption) | (apply sqtSame; assumption; o_reads))
    | (show Cls _ _; first | exact T.cl_Unions)
    | (show NoAttr _ _ _; first | exact T.n_Unions_groups | exact T.n_Unions_parents | exact T.n_Unions_counts | exact T.n_Unions_moved)
    | (apply Or.inl; o_reads)
    | (apply Or.inr; o_reads)
    | (apply And.intro; (next => o_reads); o_reads)
    | (apply Exists.intro; o_reads)
    | exact Nat.le_of_ble_eq_true rfl
    | exact Nat.succ_ne_zero _
    | (show Fr _ _; kba_ints)
    | (show Same _ _; kd_subs)
    | (show Kp _ _ _; kxs_still)
    | (show (_ : Nat) ≤ _; simp only [List.length_append, List.length_map, List.length_cons, List.length_nil, List.length_take, List.length_drop, List.length_replicate, List.length_range, sizeLine_eq]; omega)
    | (show _ = none; apply Fr.h; kba_ints)
    | (show Bag _ _; first | assumption | (apply bag_putF; assumption; o_reads) | (apply bag_neF; (next => kbo_bools); o_reads) | (apply bag_kpR; assumption; (next => kaf_pre); o_reads))
    | omega
    | decide)
local macro_rules
  | `(tactic| o_readsAll) => `(tactic| repeat (first
    | (refine fun (pNew : Addr) (nNew : _ = none) => ?_; replace nNew := Fr.mk nNew)
    | (refine fun (xNew dNew : Addr) (nNew : _ = none) (mNew : _ = none) (eNew : dNew ≠ xNew) => ?_; replace nNew := Fr.mk nNew; replace mNew := Fr.mk mNew)
    | (apply And.intro; next => o_reads)
    | apply Exists.intro (α := V)
    | apply Exists.intro (α := Addr)
    | apply Exists.intro (α := Int)
    | apply Exists.intro (α := Bool)
    | apply Exists.intro (α := List V)
    | apply Exists.intro (α := List Nat)
    | apply Exists.intro (α := List (Str × V))
    | apply Exists.intro (α := List _)
    | apply Exists.intro (α := Str)
    | apply Exists.intro (α := HO)
    | apply Exists.intro (α := Sp)
    | apply Exists.intro (α := VK)))
set_option hygiene false in
local macro_rules
  | `(tactic| kba_ints) => `(tactic| first
    | assumption
    | (apply frUp; (first | assumption | (apply Ne.symm; assumption)); kba_ints)
    | (apply noneOf; assumption; intro oF eF; apply Exists.intro; kp_flats)
    | (apply frUp; (next => kbo_bools); kba_ints))
set_option hygiene false in
local macro_rules
  | `(tactic| kxs_still) => `(tactic| first
    | assumption
    | exact kp_refl _ _
    | (apply kp_newF; assumption; kxs_still)
    | (apply kp_new; assumption; kxs_still)
    | (apply kp_up; (next => o_fieldsN); kxs_still)
    | (apply kp_new; (next => kba_ints); kxs_still)
    | (apply kp_sameR; assumption; kxs_still)
    | (apply kp_transR; assumption; kxs_still)
    | (apply kp_freshR; assumption; (next => kaf_suf); kxs_still))
set_option hygiene false in
local macro_rules
  | `(tactic| kaf_suf) => `(tactic| first
    | assumption
    | exact subNil
    | (apply subCons; (first | (apply Or.inl; o_fieldsN) | (apply Or.inr; kba_ints)); kaf_suf)
    | (apply subApp; (next => kaf_suf); kaf_suf))
set_option hygiene false in
local macro_rules
  | `(tactic| o_fieldsN) => `(tactic| first
    | assumption
    | exact memA
    | (apply memB; o_fieldsN)
    | (apply memL; o_fieldsN)
    | (apply memR; o_fieldsN))
set_option hygiene false in
local macro_rules
  | `(tactic| kd_subs) => `(tactic| first
    | assumption
    | exact Same.refl _
    | (apply same_putF; assumption; kd_subs)
    | (apply same_putG; assumption; kd_subs)
    | (apply same_putF; (next => kba_ints); kd_subs)
    | (apply same_transR; assumption; kd_subs))

set_option pp.maxSteps 900
/-! ### what the entries of a walk name -/
theorem ends_add {hs : List HEv} : ∀ {k : Nat}, ∀ e ∈ endsU hs k, ∃ v, hs[e.1]? = some (.add v)
  | 0, e, m => nomatch m
  | k + 1, e, m => by
    have ih := ends_add (hs := hs) (k := k)
    unfold endsU at m
    cases hh : hs[k]? with
    | none =>
      rw [hh] at m
      exact ih e m
    | some x =>
      rw [hh] at m
      match x, m with
      | .add v, m =>
        rcases List.mem_append.mp m with m | m
        · exact ih e m
        · rw [List.mem_singleton.mp m]
          exact ⟨v, hh⟩
      | .rem i, m =>
        obtain ⟨e', m', rfl⟩ := List.mem_map.mp m
        obtain ⟨v, h⟩ := ih e' m'
        refine ⟨v, ?_⟩
        split
        · exact h
        · exact h
      | .ask v, m => exact ih e m
theorem addP_mem {i x f s : Nat} : ∀ {ps : List (Nat × Nat)} {N : Nat → Nat → List Nat}, x ∈ addP N i ps f s → x ∈ N f s ∨ x = i
  | [], N, h => .inl h
  | p :: ps, N, h => by
    have h : x ∈ addP (addN N p.1 p.2 i) i ps f s := h
    rcases addP_mem h with h | h
    · unfold addN at h
      split at h
      · rcases List.mem_append.mp h with h | h
        · exact .inl h
        · exact .inr (List.mem_singleton.mp h)
      · exact .inl h
    · exact .inr h
theorem fold_mem {x f s : Nat} : ∀ {es : List (Nat × Nat)} {N : Nat → Nat → List Nat}, x ∈ es.foldl (fun N ie => addP N ie.1 (pcF 201 ie.1 (ie.2 - ie.1))) N f s → x ∈ N f s ∨ ∃ e ∈ es, e.1 = x
  | [], N, h => .inl h
  | e :: es, N, h => by
    rw [List.foldl_cons] at h
    rcases fold_mem h with h | ⟨e', m, h⟩
    · rcases addP_mem h with h | h
      · exact .inl h
      · exact .inr ⟨e, List.mem_cons_self, h.symm⟩
    · exact .inr ⟨e', List.mem_cons_of_mem _ m, h⟩
theorem nodes_mem {es : List (Nat × Nat)} {x f s : Nat} (h : x ∈ nodesOf es f s) : ∃ e ∈ es, e.1 = x := (fold_mem h).resolve_left fun z => nomatch z
theorem asked_one {bs : List Bool} {f : Nat} (h : askedIn bs f 1 = true) : bs[f]? = some true := by
  unfold askedIn at h
  obtain ⟨b, m, e⟩ := List.any_eq_true.mp h
  have e : b = true := e
  subst e
  obtain ⟨n, hn⟩ := List.getElem?_of_mem m
  have hl := (List.getElem?_eq_some_iff.mp hn).1
  rw [List.length_take] at hl
  have h0 : n = 0 := by omega
  subst h0
  rw [List.getElem?_take_of_lt (by decide), List.getElem?_drop] at hn
  exact hn
theorem walk_ok {N : Nat → Nat → List Nat} {bs : List Bool} : ∀ {k f : Nat}, ∀ e ∈ walkW N bs k f, ((e.1 = "push" ∨ e.1 = "pop") ∧ ∃ f s, e.2 ∈ N f s) ∨ (e.1 = "ask" ∧ bs[e.2]? = some true)
  | 0, f, e, m => by
    unfold walkW at m
    split at m
    · rename_i c
      rcases List.mem_append.mp m with m | m
      · rcases List.mem_append.mp m with m | m
        · obtain ⟨i, hi, rfl⟩ := List.mem_map.mp m
          exact .inl ⟨.inl rfl, f, 1, hi⟩
        · rw [List.mem_singleton.mp m]
          exact .inr ⟨rfl, asked_one c⟩
      · obtain ⟨i, hi, rfl⟩ := List.mem_map.mp m
        exact .inl ⟨.inr rfl, f, 1, List.mem_reverse.mp hi⟩
    · exact nomatch m
  | k + 1, f, e, m => by
    unfold walkW at m
    split at m
    · rcases List.mem_append.mp m with m | m
      · rcases List.mem_append.mp m with m | m
        · obtain ⟨i, hi, rfl⟩ := List.mem_map.mp m
          exact .inl ⟨.inl rfl, f, _, hi⟩
        · rcases List.mem_append.mp m with m | m
          · exact walk_ok e m
          · exact walk_ok e m
      · obtain ⟨i, hi, rfl⟩ := List.mem_map.mp m
        exact .inl ⟨.inr rfl, f, _, List.mem_reverse.mp hi⟩
    · exact nomatch m
theorem plan_ok {hs : List HEv} {j : Nat} : ∀ e ∈ planW hs j, ((e.1 = "push" ∨ e.1 = "pop") ∧ ∃ v, hs[e.2]? = some (.add v)) ∨ (e.1 = "ask" ∧ ∃ v, hs[e.2]? = some (.ask v)) := fun e m => by
  rcases walk_ok e m with ⟨h, f, s, h2⟩ | ⟨h, h2⟩
  · obtain ⟨x, mx, rfl'⟩ := nodes_mem h2
    obtain ⟨v, hv⟩ := ends_add x mx
    rw [rfl'] at hv
    exact .inl ⟨h, v, hv⟩
  · rw [List.getElem?_map] at h2
    obtain ⟨x, hx, h3⟩ := Option.map_eq_some_iff.mp h2
    match x, hx, h3 with
    | .ask v, hx, _ => exact .inr ⟨h, v, hx⟩
end Ob

set_option Elab.async false
set_option linter.all false
set_option maxRecDepth 100000
set_option maxHeartbeats 1000000
namespace Ob
open PySem PySem.Spec PyProof.Rows L2
open LamX (Tabs TabB TabS ExtN)

set_option hygiene false in
local macro_rules
  | `(tactic| kp_flats) => `(tactic| first
    | assumption
    | exact upd_same
    | (apply atNew; assumption; kp_flats)
    | (apply atNe; (next => kbo_bools); kp_flats)
    | (apply atSame; assumption; kp_flats)
    | (apply atKp; assumption; (next => kaf_pre); kp_flats))
set_option hygiene false in
local macro_rules
  | `(tactic| kaf_pre) => `(tactic| first
    | assumption
    | exact not_nil
    | (apply not_cons; (next => kbo_bools); kaf_pre)
    | (apply not_app; (next => kaf_pre); kaf_pre))
set_option hygiene false in
local macro_rules
  | `(tactic| kbo_bools) => `(tactic| first
    | assumption
    | (apply Ne.symm; assumption)
    | (apply neN; assumption; kp_flats)
    | (apply neN'; assumption; kp_flats))
set_option hygiene false in
local macro_rules
  | `(tactic| o_reads) => `(tactic| first
    | with_reducible rfl
    | assumption
    | rfl
    | kp_flats
    | (show SqL _ _ _ _; first | assumption | (apply sqlOf; kp_flats) | (apply sqlSame; assumption; o_reads))
    | (show SqT _ _ _ _; first | assumption | (apply sqtOf; kp_flats) | (apply sqtAll; assumption) | (apply sqtSame; assumption; o_reads))
    | (show Cls _ _; first | exact T.cl_Unions)
    | (show NoAttr _ _ _; first | exact T.n_Unions_groups | exact T.n_Unions_parents | exact T.n_Unions_counts | exact T.n_Unions_moved)
    | (apply Or.inl; o_reads)
    | (apply Or.inr; o_reads)
    | (apply And.intro; (next => o_reads); o_reads)
    | (apply Exists.intro; o_reads)
    | exact Nat.le_of_ble_eq_true rfl
    | exact Nat.succ_ne_zero _
    | (show Fr _ _; kba_ints)
    | (show Same _ _; kd_subs)
    | (show Kp _ _ _; kxs_still)
    | (show (_ : Nat) ≤ _; simp only [List.length_append, List.length_map, List.length_cons, List.length_nil, List.length_take, List.length_drop, List.length_replicate, List.length_range, sizeLine_eq]; omega)
    | (show _ = none; apply Fr.h; kba_ints)
    | (show Bag _ _; first | assumption | (apply bag_putF; assumption; o_reads) | (apply bag_neF; (next => kbo_bools); o_reads) | (apply bag_kpR; assumption; (next => kaf_pre); o_reads))
    | omega
    | decide)
local macro_rules
  | `(tactic| o_readsAll) => `(tactic| repeat (first
    | (refine fun (pNew : Addr) (nNew : _ = none) => ?_; replace nNew := Fr.mk nNew)
    | (refine fun (xNew dNew : Addr) (nNew : _ = none) (mNew : _ = none) (eNew : dNew ≠ xNew) => ?_; replace nNew := Fr.mk nNew; replace mNew := Fr.mk mNew)
    | (apply And.intro; next => o_reads)
    | apply Exists.intro (α := V)
    | apply Exists.intro (α := Addr)
    | apply Exists.intro (α := Int)
    | apply Exists.intro (α := Bool)
    | apply Exists.intro (α := List V)
    | apply Exists.intro (α := List Nat)
    | apply Exists.intro (α := List (Str × V))
    | apply Exists.intro (α := List _)
    | apply Exists.intro (α := Str)
    | apply Exists.intro (α := HO)
    | apply Exists.intro (α := Sp)
    | apply Exists.intro (α := VK)))
set_option hygiene false in
local macro_rules
  | `(tactic| kba_ints) => `(tactic| first
    | assumption
    | (apply frUp; (first | assumption | (apply Ne.symm; assumption)); kba_ints)
    | (apply noneOf; assumption; intro oF eF; apply Exists.intro; kp_flats)
    | (apply frUp; (next => kbo_bools); kba_ints))
set_option hygiene false in
local macro_rules
  | `(tactic| kxs_still) => `(tactic| first
    | assumption
    | exact kp_refl _ _
    | (apply kp_newF; assumption; kxs_still)
    | (apply kp_new; assumption; kxs_still)
    | (apply kp_up; (next => o_fieldsN); kxs_still)
    | (apply kp_new; (next => kba_ints); kxs_still)
    | (apply kp_sameR; assumption; kxs_still)
    | (apply kp_transR; assumption; kxs_still)
    | (apply kp_freshR; assumption; (next => kaf_suf); kxs_still))
set_option hygiene false in
local macro_rules
  | `(tactic| kaf_suf) => `(tactic| first
    | assumption
    | exact subNil
    | (apply subCons; (first | (apply Or.inl; o_fieldsN) | (apply Or.inr; kba_ints)); kaf_suf)
    | (apply subApp; (next => kaf_suf); kaf_suf))
set_option hygiene false in
local macro_rules
  | `(tactic| o_fieldsN) => `(tactic| first
    | assumption
    | exact memA
    | (apply memB; o_fieldsN)
    | (apply memL; o_fieldsN)
    | (apply memR; o_fieldsN))
set_option hygiene false in
local macro_rules
  | `(tactic| kd_subs) => `(tactic| first
    | assumption
    | exact Same.refl _
    | (apply same_putF; assumption; kd_subs)
    | (apply same_putG; assumption; kd_subs)
    | (apply same_putF; (next => kba_ints); kd_subs)
    | (apply same_transR; assumption; kd_subs))

set_option pp.maxSteps 900
/-! ### answers -/
theorem wPP : decide (V.str "push" = V.str "push") = true := by decide +kernel
theorem wOP : decide (V.str "pop" = V.str "push") = false := by decide +kernel
theorem wOO : decide (V.str "pop" = V.str "pop") = true := by decide +kernel
theorem wAP : decide (V.str "ask" = V.str "push") = false := by decide +kernel
theorem wAO : decide (V.str "ask" = V.str "pop") = false := by decide +kernel
theorem wPA : ("push" : Str) ≠ "ask" := by decide +kernel
theorem wOA : ("pop" : Str) ≠ "ask" := by decide +kernel
section
variable {P : Program} {w : World} {K : PySem.W.Frag} {mg : Str → Option Value} {base : Heap} {n : Nat}
/-- the callable f, called with xs in H: what it does brings Q -/
def Acx (P : Program) (w : World) (K : PySem.W.Frag) (mg : Str → Option Value) (base : Heap) (n : Nat) (f : V) (xs : List V) (H : Hp) (Q : VK) : Prop :=
  ∃ (a : Addr) (o : HO) (sp : Sp), f = .ref a ∧ H a = some o ∧ Inf.FnHO a o ∧ FnR P w K mg base CX0 n a sp ∧ sp xs H Q E0
/-- three callables that are called along a walk: R by what was called before, An what a question brings -/
structure AS (P : Program) (w : World) (K : PySem.W.Frag) (mg : Str → Option Value) (base : Heap) (n : Nat) (hs : List HEv) (full : List (Str × Nat)) (uv : List Addr) (fp fo fa : V) (R : List (Str × Nat) → Hp → Prop) (An : List (Str × Nat) → Nat → V → Hp → Prop) : Prop where
  rk : ∀ {tr : List (Str × Nat)} {cs : List Addr} {H H1 : Hp}, R tr H → Kp cs H H1 → Mu H cs → (∀ a ∈ uv, a ∉ cs) → R tr H1
  ak : ∀ {tr : List (Str × Nat)} {i : Nat} {u : V} {cs : List Addr} {H H1 : Hp}, An tr i u H → Kp cs H H1 → Mu H cs → An tr i u H1
  mu : ∀ {tr : List (Str × Nat)} {H : Hp}, R tr H → Mu H uv
  push : ∀ {tr : List (Str × Nat)} {i : Nat} {v : V} {H : Hp} {Q : VK}, (∃ z, tr ++ (("push" : Str), i) :: z = full) → hs[i]? = some (.add v) → R tr H → (∀ u H', Kp uv H H' → R (tr ++ [(("push" : Str), i)]) H' → Q u H') → Acx P w K mg base n fp [v] H Q
  pop : ∀ {tr : List (Str × Nat)} {i : Nat} {H : Hp} {Q : VK}, (∃ z, tr ++ (("pop" : Str), i) :: z = full) → R tr H → (∀ u H', Kp uv H H' → R (tr ++ [(("pop" : Str), i)]) H' → Q u H') → Acx P w K mg base n fo [] H Q
  ask : ∀ {tr : List (Str × Nat)} {i : Nat} {v : V} {H : Hp} {Q : VK}, (∃ z, tr ++ (("ask" : Str), i) :: z = full) → hs[i]? = some (.ask v) → R tr H → (∀ u H', Kp uv H H' → R (tr ++ [(("ask" : Str), i)]) H' → An tr i u H' → Q u H') → Acx P w K mg base n fa [v] H Q
/-- the answers along a walk -/
inductive AnsAt (An : List (Str × Nat) → Nat → V → Hp → Prop) (H : Hp) : List (Str × Nat) → List V → Prop where
  | nil : AnsAt An H [] []
  | skip {tr : List (Str × Nat)} {us : List V} {e : Str × Nat} : AnsAt An H tr us → e.1 ≠ "ask" → AnsAt An H (tr ++ [e]) us
  | ask {tr : List (Str × Nat)} {us : List V} {i : Nat} {u : V} : AnsAt An H tr us → An tr i u H → AnsAt An H (tr ++ [(("ask" : Str), i)]) (us ++ [u])
theorem AnsAt.kp {An : List (Str × Nat) → Nat → V → Hp → Prop} {H H1 : Hp} (f : ∀ tr i u, An tr i u H → An tr i u H1) {tr : List (Str × Nat)} {us : List V} (h : AnsAt An H tr us) : AnsAt An H1 tr us := by
  induction h with
  | nil => exact .nil
  | skip _ e ih => exact .skip ih e
  | ask _ a ih => exact .ask ih (f _ _ _ a)
theorem AnsAt.len {An : List (Str × Nat) → Nat → V → Hp → Prop} {H : Hp} {tr : List (Str × Nat)} {us : List V} (h : AnsAt An H tr us) : us.length ≤ tr.length := by
  induction h with
  | nil => exact Nat.le_refl _
  | skip _ e ih => rw [List.length_append]; exact Nat.le_succ_of_le ih
  | ask _ a ih => rw [List.length_append, List.length_append]; exact Nat.succ_le_succ ih
theorem actP_of {σ : L2.St} {i : Nat} {t : TA} {fp v : V} {H : Hp} {Q : VK} (hσ : σ[i]? = some (some fp)) (ht : ∀ K : List V → Hp → Prop, K [v] H → t σ H K) (h : Acx P w K mg base n fp [v] H Q) : Inf.tActP P w K mg base CX0 n i (fun _ => E0) t σ H Q := by
  obtain ⟨a, o, sp, rfl, h1, h2, h3, h4⟩ := h
  exact ⟨a, hσ, ht _ ⟨o, sp, h1, h2, h3, h4⟩⟩
theorem actZ_of {σ : L2.St} {i : Nat} {fp : V} {H : Hp} {Q : VK} (hσ : σ[i]? = some (some fp)) (h : Acx P w K mg base n fp [] H Q) : Inf.tActZ P w K mg base CX0 n i (fun _ => E0) σ H Q := by
  obtain ⟨a, o, sp, rfl, h1, h2, h3, h4⟩ := h
  exact ⟨a, o, sp, hσ, h1, h2, h3, h4⟩
def spAns (P : Program) (w : World) (K : PySem.W.Frag) (mg : Str → Option Value) (base : Heap) (n : Nat) : Sp := fun vs H Q _ => ∃ (fp fo fa : V) (ha : Addr) (xs : List V) (hs : List HEv) (uv : List Addr) (R : List (Str × Nat) → Hp → Prop) (An : List (Str × Nat) → Nat → V → Hp → Prop), vs = [fp, fo, fa, .ref ha] ∧ H ha = some (.lst xs) ∧ HisAt H xs hs ∧ HOk hs ∧ hs.length ≤ 2000 ∧ R [] H ∧ (∀ j, hs.length ≤ 2 ^ j → (j = 0 ∨ 2 ^ (j - 1) < hs.length) → AS P w K mg base n hs (planW hs j) uv fp fo fa R An) ∧
  ∀ (j : Nat) us o H', hs.length ≤ 2 ^ j → (j = 0 ∨ 2 ^ (j - 1) < hs.length) → Kp uv H H' → Fr H o → H' o = some (.lst us) → AnsAt An H' (planW hs j) us → R (planW hs j) H' → Q (.ref o) H'
theorem ok_ans (T : Txt K mg) : FnOk P w K mg base CX0 (n + 22) T.f_answers T.d_answers ["push", "pop", "ask", "history"] (spAns P w K mg base n) := by
  have G_plan_answers := ok_plan (P := P) (w := w) (base := base) T
  refine T.F_answers.ok sc_answers (fun vs H Q E h => ?_) (fun cdv A outer s H vs Q E hr h => ?_)
  · obtain ⟨fp, fo, fa, ha, xs, hs, uv, R, An, rfl, _⟩ := h
    rfl
  · obtain ⟨fp, fo', fa, ha, xs, hs, uv, R, An, rfl, hha, hh, hok, hl, hR, hA, q⟩ := h
    refine ⟨_, (pss_cons (ps_set (i := 4) sc_answers.nd rfl (.inl rfl) (pe_call G_plan_answers (hr.mono (by omega)) rfl T.g_plan_answers T.F_plan_answers.kp T.b_plan_answers .nil pass0 (pa_cons (pv 3) pa_nil)))
      (pss_cons (ps_setLc (i := 5) (own := [("entry", 9)]) (g := gName 9) (tt := tYes) rfl sc_answers.nd rfl rfl (sw_true rfl rfl rfl (by decide +kernel)) (pi_list (pv 3)) (blkOk_by (N := n_answers) (sc := defScope s_answers) (by decide +kernel)) (fun _ _ _ _ _ => (pg_name (i := 9) sc_answers.nd rfl (.inl rfl))) (fun _ _ _ _ _ => pts_nil) (fun _ _ _ _ _ => (pe_ix (r := rIxT K) ix_tup (pv 9) pe_int (fun _ _ => rfl))))
      (pss_cons (ps_set (i := 6) sc_answers.nd rfl (.inl rfl) (pe_lst pa_nil))
      (pss_cons (ps_for PassesOwn.never rfl (pi_list (pv 4)) (pg_tup (by rfl) (pgs_cons (pg_name (i := 7) sc_answers.nd rfl (.inl rfl)) (pgs_cons (pg_name (i := 8) sc_answers.nd rfl (.inl rfl)) pgs_nil))) (pss_one (ps_if (pt_cmpR op_eq (pv 7) pe_str (nomark _)) (pss_one (ps_expr (Inf.pe_actP (i := 0) (CX := CX0) (k := n) (E := fun _ => E0) rfl (.inl rfl) (hr.mono (by omega)) (fun _ _ _ _ _ _ _ z => False.elim z) (pa_cons (pe_ix (r := rIxL K) ix_list (pv 5) (pv 8) (fun _ _ => rfl)) pa_nil)))) (pss_one (ps_if (pt_cmpR op_eq (pv 7) pe_str (nomark _)) (pss_one (ps_expr (Inf.pe_actZ (i := 1) (CX := CX0) (k := n) (E := fun _ => E0) rfl (.inl rfl) (hr.mono (by omega)) (fun _ _ _ _ _ _ _ z => False.elim z)))) (pss_one (ps_expr (pe_bm PySem.F.plainAttrs_list PySem.F.slot_list_append PySem.F.type_list_append mt_append (pv 6) (pa_cons (Inf.pe_actP (i := 2) (CX := CX0) (k := n) (E := fun _ => E0) rfl (.inl rfl) (hr.mono (by omega)) (fun _ _ _ _ _ _ _ z => False.elim z) (pa_cons (pe_ix (r := rIxL K) ix_list (pv 5) (pv 8) (fun _ _ => rfl)) pa_nil)) pa_nil)))))))))
      (pss_one (ps_ret (pv 6))))))), ?_⟩
    refine ⟨_, rfl, ha, xs, hs, rfl, hha, hh, hok, hl, fun j ys pl H1 hj1 hj2 s1 fpl hpl wl => ?_⟩
    have A0 := hA j hj1 hj2
    have hbig0 : ys.length < sizeLine := by
      have hw := walk_len (N := nodesOf (endsU hs hs.length)) (bs := hs.map HEv.isAsk) (k := j) (f := 0)
      have ht := tot_nodes (es := endsU hs hs.length) (k := j) (f := 0)
      have hl2 := ends_len (hs := hs) (k := hs.length)
      have hy := wl.len
      have hp : (2 : Nat) ^ j ≤ 4096 := by
        rcases hj2 with h | h
        · rw [h]; decide
        · match j, h with
          | 0, _ => decide
          | j + 1, h =>
            have h : 2 ^ j < hs.length := h
            rw [Nat.pow_succ]
            omega
      have hy : ys.length = (walkW (nodesOf (endsU hs hs.length)) (hs.map HEv.isAsk) j 0).length := hy
      rw [sizeLine_eq]
      omega
    refine ⟨_, rfl, ha, rfl, ⟨_, sqlOf (s1 _ _ hha)⟩, fun D nD => ?_⟩
    have fD := Fr.mk nD
    have fD0 : Fr H D := Fr.mk (s1.free nD)
    refine lc_it (walk_list (K := K) (a := ha) (xs := xs)) (fun i H' => Same H1 H' ∧ H' D = some (.lst ((hs.take i).map HEv.v))) ⟨same_newF fD, upd_same⟩ (fun i H' _ z => sqlOf (z.1 _ _ (s1 _ _ hha))) ?_ ?_
    · rintro i x H2' H2 hi ⟨s2, eD⟩ ⟨rfl, hx⟩
      obtain ⟨e, hee⟩ : ∃ e, hs[i]? = some e := ⟨_, List.getElem?_eq_getElem (by rw [← hh.len]; exact hi)⟩
      obtain ⟨p, rfl, hte⟩ := hh.at_ i x e hx hee
      have ht2 := s2 _ _ (s1 _ _ hte)
      refine ⟨rfl, ?_⟩
      unfold tYes
      refine ifT rfl ?_
      refine ⟨_, rfl, p, _, 1, _, rfl, rfl, sqtOf ht2, atI_nat (j := 1) rfl, _, eD, ?_, same_putG fD s2, ?_⟩
      · rw [List.length_map, sizeLine_eq]
        have := List.length_take_le i hs
        have := hh.len
        omega
      · rw [upd_same, take_map HEv.v hee]
    · rintro H2 ⟨s2, eD⟩
      have htk := List.take_of_length_le (l := hs) (i := xs.length) (by rw [hh.len]; exact Nat.le_refl _)
      rw [htk] at eD
      refine ⟨Nat.zero_le _, fun o no => ?_⟩
      have fo := Fr.mk no
      have s3 := same_newF (o := .lst []) fo
      have eo : upd H2 o (.lst []) o = some (.lst []) := upd_same
      have fo0 : Fr H o := Fr.mk (s1.free (s2.free no))
      have npD : D ≠ o := ne_of_none eD no
      have npl : pl ≠ o := ne_of_none (s2 _ _ hpl) no
      generalize upd H2 o (.lst []) = H3 at s3 eo ⊢
      have s13 := s2.trans s3
      have s03 := s1.trans s13
      have m0 := A0.mu hR
      have R3 := A0.rk hR (kp_same (cs := []) s03) mu_nil (fun _ _ => not_nil)
      have wl3 := wl.kp (kp_same (cs := []) s13) mu_nil
      have m3 : Mu H3 (o :: uv) := mu_lst eo (A0.mu R3)
      have plu : pl ∉ o :: uv := not_cons npl (m0.fr fpl)
      have Du : D ∉ o :: uv := not_cons npD (m0.fr fD0)
      have ou : o ∉ uv := m0.fr fo0
      refine ⟨_, rfl, pl, rfl, ⟨_, sqlOf (s13 _ _ hpl)⟩, ?_⟩
      refine for_it (walk_list (K := K) (a := pl) (xs := ys)) (fun i σ H' => ∃ y7 y8 y9 us, σ = [some fp, some fo', some fa, some (.ref ha), some (.ref pl), some (.ref D), some (.ref o), y7, y8, y9] ∧ Kp (o :: uv) H3 H' ∧ H' o = some (.lst us) ∧ R ((planW hs j).take i) H' ∧ AnsAt An H' ((planW hs j).take i) us) ⟨_, _, _, [], rfl, kp_refl _ _, eo, R3, .nil⟩ (fun i σ H' _ ⟨_, _, _, _, _, z, _⟩ => sqlOf (z.at_ _ _ (s13 _ _ hpl) plu)) ?_ ?_
      · rintro i x σ H4' H4 hi ⟨y7, y8, y9, us, rfl, k4, ho4, R4, an⟩ ⟨rfl, hx⟩
        have hil : i < (planW hs j).length := by rw [← wl.len]; exact hi
        have hee : (planW hs j)[i]? = some ((planW hs j)[i]'hil) := List.getElem?_eq_getElem hil
        have hmem : (planW hs j)[i]'hil ∈ planW hs j := List.getElem_mem hil
        have hsp : (planW hs j).take i ++ (planW hs j)[i]'hil :: (planW hs j).drop (i + 1) = planW hs j := by
          rw [List.getElem_cons_drop, List.take_append_drop]
        have htk1 : (planW hs j).take (i + 1) = (planW hs j).take i ++ [(planW hs j)[i]'hil] := by
          rw [List.take_succ, hee]
          rfl
        rw [htk1]
        generalize (planW hs j)[i]'hil = e at hee hmem hsp ⊢
        obtain ⟨p, rfl, hp⟩ := (wl3.kp k4 m3).at_ _ _ _ hx hee
        have eD4 := k4.at_ _ _ (s3 _ _ eD) Du
        have mu4 := A0.mu R4
        refine ⟨p, _, rfl, sqtOf hp, rfl, _, _, rfl, _, _, rfl, rfl, ?_⟩
        obtain ⟨wd, ix⟩ := e
        have hlo : us.length ≤ (planW hs j).length := Nat.le_trans an.len (List.length_take_le' ..)
        have hbig : (planW hs j).length < sizeLine := by
          rw [← wl.len]
          exact hbig0
        have getv : ∀ {e : HEv}, hs[ix]? = some e → (hs.map HEv.v)[ix]? = some e.v := fun {e} h => by rw [List.getElem?_map, h]; rfl
        have app : ∀ {H5 : Hp}, Kp uv H4 H5 → Kp (o :: uv) H3 H5 := fun k5 => kp_trans k4 (kp_more k5 fun a m => memB m)
        rcases plan_ok _ hmem with ⟨hw | hw, v, hv⟩ | ⟨hw, v, hv⟩
        · obtain rfl : wd = "push" := hw
          refine ⟨_, rfl, rfl, _, rfl, ifT wPP ?_⟩
          refine actP_of (fp := fp) (v := v) rfl (fun K' k' => ⟨_, rfl, _, rfl, D, _, ix, v, rfl, rfl, sqlOf eD4, atI_nat (j := ix) (getv hv), k'⟩) (A0.push ⟨_, hsp⟩ hv R4 fun u H5 k5 R5 => ?_)
          exact ⟨_, _, _, us, rfl, app k5, k5.at_ _ _ ho4 ou, R5, .skip (an.kp fun tr i u h => A0.ak h k5 mu4) wPA⟩
        · obtain rfl : wd = "pop" := hw
          refine ⟨_, rfl, rfl, _, rfl, ifF wOP ⟨_, rfl, rfl, _, rfl, ifT wOO ?_⟩⟩
          refine actZ_of (fp := fo') rfl (A0.pop ⟨_, hsp⟩ R4 fun u H5 k5 R5 => ?_)
          exact ⟨_, _, _, us, rfl, app k5, k5.at_ _ _ ho4 ou, R5, .skip (an.kp fun tr i u h => A0.ak h k5 mu4) wOA⟩
        · obtain rfl : wd = "ask" := hw
          refine ⟨_, rfl, rfl, _, rfl, ifF wAP ⟨_, rfl, rfl, _, rfl, ifF wAO ?_⟩⟩
          refine ⟨_, rfl, .inl ⟨rfl, _, sqlOf ho4⟩, ?_⟩
          refine actP_of (fp := fa) (v := v) rfl (fun K' k' => ⟨_, rfl, _, rfl, D, _, ix, v, rfl, rfl, sqlOf eD4, atI_nat (j := ix) (getv hv), k'⟩) (A0.ask ⟨_, hsp⟩ hv R4 fun u H5 k5 R5 a5 => ?_)
          have ho5 := k5.at_ _ _ ho4 ou
          have an5 := an.kp fun tr i u h => A0.ak h k5 mu4
          refine ⟨o, us, _, rfl, rfl, ho5, by omega, ?_⟩
          have m5 : Mu H5 [o] := mu_lst ho5 mu_nil
          have k6 : Kp [o] H5 (upd H5 o (.lst (us ++ [u]))) := kp_up memA (kp_refl _ _)
          exact ⟨_, _, _, us ++ [u], rfl, kp_trans (app k5) (kp_more k6 (subCons memA subNil)), upd_same, A0.rk R5 k6 m5 (fun a ha => not_cons (fun z => ou (by rw [← z]; exact ha)) not_nil), .ask (an5.kp fun tr i u h => A0.ak h k6 m5) (A0.ak a5 k6 m5)⟩
      · rintro σ H4 ⟨y7, y8, y9, us, rfl, k4, ho4, R4, an⟩
        rw [List.take_of_length_le (by rw [wl.len]; exact Nat.le_refl _)] at R4 an
        refine ⟨_, rfl, q j us o H4 hj1 hj2 ⟨fun b u e nb => k4.at_ _ _ (s03 _ _ e) (not_cons (ne_of_none e fo0.h) nb)⟩ fo0 ho4 an R4⟩
end
end Ob

set_option Elab.async false
set_option linter.all false
set_option maxRecDepth 100000
set_option maxHeartbeats 1000000
namespace Ob
open PySem PySem.Spec PyProof.Rows L2
open LamX (Tabs TabB TabS ExtN)

set_option hygiene false in
local macro_rules
  | `(tactic| kp_flats) => `(tactic| first
    | assumption
    | exact upd_same
    | (apply atNew; assumption; kp_flats)
    | (apply atNe; (next => kbo_bools); kp_flats)
    | (apply atSame; assumption; kp_flats)
    | (apply atKp; assumption; (next => kaf_pre); kp_flats))
set_option hygiene false in
local macro_rules
  | `(tactic| kaf_pre) => `(tactic| first
    | assumption
    | exact not_nil
    | (apply not_cons; (next => kbo_bools); kaf_pre)
    | (apply not_app; (next => kaf_pre); kaf_pre))
set_option hygiene false in
local macro_rules
  | `(tactic| kbo_bools) => `(tactic| first
    | assumption
    | (apply Ne.symm; assumption)
    | (apply neN; assumption; kp_flats)
    | (apply neN'; assumption; kp_flats))
set_option hygiene false in
local macro_rules
  | `(tactic| o_reads) => `(tactic| first
    | with_reducible rfl
    | assumption
    | rfl
    | kp_flats
    | (show SqL _ _ _ _; first | assumption | (apply sqlOf; kp_flats) | (apply sqlSame; assumption; o_reads))
    | (show SqT _ _ _ _; first | assumption | (apply sqtOf; kp_flats) | (apply sqtAll; assumption) | (apply sqtSame; assumption; o_reads))
    | (show Cls _ _; first | exact T.cl_Unions)
    | (show NoAttr _ _ _; first | exact T.n_Unions_groups | exact T.n_Unions_parents | exact T.n_Unions_counts | exact T.n_Unions_moved)
    | (apply Or.inl; o_reads)
    | (apply Or.inr; o_reads)
    | (apply And.intro; (next => o_reads); o_reads)
    | (apply Exists.intro; o_reads)
    | exact Nat.le_of_ble_eq_true rfl
    | exact Nat.succ_ne_zero _
    | (show Fr _ _; kba_ints)
    | (show Same _ _; kd_subs)
    | (show Kp _ _ _; kxs_still)
    | (show (_ : Nat) ≤ _; simp only [List.length_append, List.length_map, List.length_cons, List.length_nil, List.length_take, List.length_drop, List.length_replicate, List.length_range, sizeLine_eq]; omega)
    | (show _ = none; apply Fr.h; kba_ints)
    | (show Bag _ _; first | assumption | (apply bag_putF; assumption; o_reads) | (apply bag_neF; (next => kbo_bools); o_reads) | (apply bag_kpR; assumption; (next => kaf_pre); o_reads))
    | omega
    | decide)
local macro_rules
  | `(tactic| o_readsAll) => `(tactic| repeat (first
    | (refine fun (pNew : Addr) (nNew : _ = none) => ?_; replace nNew := Fr.mk nNew)
    | (refine fun (xNew dNew : Addr) (nNew : _ = none) (mNew : _ = none) (eNew : dNew ≠ xNew) => ?_; replace nNew := Fr.mk nNew; replace mNew := Fr.mk mNew)
    | (apply And.intro; next => o_reads)
    | apply Exists.intro (α := V)
    | apply Exists.intro (α := Addr)
    | apply Exists.intro (α := Int)
    | apply Exists.intro (α := Bool)
    | apply Exists.intro (α := List V)
    | apply Exists.intro (α := List Nat)
    | apply Exists.intro (α := List (Str × V))
    | apply Exists.intro (α := List _)
    | apply Exists.intro (α := Str)
    | apply Exists.intro (α := HO)
    | apply Exists.intro (α := Sp)
    | apply Exists.intro (α := VK)))
set_option hygiene false in
local macro_rules
  | `(tactic| kba_ints) => `(tactic| first
    | assumption
    | (apply frUp; (first | assumption | (apply Ne.symm; assumption)); kba_ints)
    | (apply noneOf; assumption; intro oF eF; apply Exists.intro; kp_flats)
    | (apply frUp; (next => kbo_bools); kba_ints))
set_option hygiene false in
local macro_rules
  | `(tactic| kxs_still) => `(tactic| first
    | assumption
    | exact kp_refl _ _
    | (apply kp_newF; assumption; kxs_still)
    | (apply kp_new; assumption; kxs_still)
    | (apply kp_up; (next => o_fieldsN); kxs_still)
    | (apply kp_new; (next => kba_ints); kxs_still)
    | (apply kp_sameR; assumption; kxs_still)
    | (apply kp_transR; assumption; kxs_still)
    | (apply kp_freshR; assumption; (next => kaf_suf); kxs_still))
set_option hygiene false in
local macro_rules
  | `(tactic| kaf_suf) => `(tactic| first
    | assumption
    | exact subNil
    | (apply subCons; (first | (apply Or.inl; o_fieldsN) | (apply Or.inr; kba_ints)); kaf_suf)
    | (apply subApp; (next => kaf_suf); kaf_suf))
set_option hygiene false in
local macro_rules
  | `(tactic| o_fieldsN) => `(tactic| first
    | assumption
    | exact memA
    | (apply memB; o_fieldsN)
    | (apply memL; o_fieldsN)
    | (apply memR; o_fieldsN))
set_option hygiene false in
local macro_rules
  | `(tactic| kd_subs) => `(tactic| first
    | assumption
    | exact Same.refl _
    | (apply same_putF; assumption; kd_subs)
    | (apply same_putG; assumption; kd_subs)
    | (apply same_putF; (next => kba_ints); kd_subs)
    | (apply same_transR; assumption; kd_subs))

set_option pp.maxSteps 900
/-! ### the stack along a walk -/
def stepS (S : List Nat) (e : Str × Nat) : List Nat := if e.1 = "push" then S ++ [e.2] else if e.1 = "pop" then S.dropLast else S
def runW (S : List Nat) (l : List (Str × Nat)) : List Nat := l.foldl stepS S
theorem wOP2 : ¬ ("pop" : Str) = "push" := by decide +kernel
theorem wAP2 : ¬ ("ask" : Str) = "push" := by decide +kernel
theorem wAO2 : ¬ ("ask" : Str) = "pop" := by decide +kernel
theorem run_app {S : List Nat} {a b : List (Str × Nat)} : runW S (a ++ b) = runW (runW S a) b := List.foldl_append ..
theorem run_push : ∀ {ns S : List Nat}, runW S (pushW ns) = S ++ ns
  | [], S => (List.append_nil S).symm
  | n :: ns, S => by
    show runW (stepS S ("push", n)) (pushW ns) = _
    rw [run_push]
    show (if ("push" : Str) = "push" then S ++ [n] else _) ++ ns = _
    rw [if_pos rfl, List.append_assoc]
    rfl
theorem run_pop : ∀ {ns S : List Nat}, runW (S ++ ns.reverse) (ns.map fun i => (("pop" : Str), i)) = S
  | [], S => List.append_nil S
  | n :: ns, S => by
    show runW (stepS (S ++ (n :: ns).reverse) ("pop", n)) (ns.map fun i => (("pop" : Str), i)) = S
    have : stepS (S ++ (n :: ns).reverse) ("pop", n) = S ++ ns.reverse := by
      show (if ("pop" : Str) = "push" then _ else if ("pop" : Str) = "pop" then _ else _) = _
      rw [if_neg wOP2, if_pos rfl, List.reverse_cons, ← List.append_assoc, List.dropLast_concat]
    rw [this]
    exact run_pop
theorem run_popW {ns S : List Nat} : runW (S ++ ns) (popW ns) = S := by
  have h := run_pop (ns := ns.reverse) (S := S)
  rw [List.reverse_reverse] at h
  exact h
theorem run_walk {N : Nat → Nat → List Nat} {bs : List Bool} : ∀ {k f : Nat} {S : List Nat}, runW S (walkW N bs k f) = S
  | 0, f, S => by
    unfold walkW
    split
    · rw [run_app, run_app, run_push]
      show runW (stepS (S ++ N f 1) ("ask", f)) (popW (N f 1)) = S
      have : stepS (S ++ N f 1) ("ask", f) = S ++ N f 1 := by
        show (if ("ask" : Str) = "push" then _ else if ("ask" : Str) = "pop" then _ else _) = _
        rw [if_neg wAP2, if_neg wAO2]
      rw [this]
      exact run_popW
    · rfl
  | k + 1, f, S => by
    unfold walkW
    split
    · rw [run_app, run_app, run_push, run_app, run_walk, run_walk]
      exact run_popW
    · rfl
theorem split_app {α : Type} {x : α} : ∀ {tr z A B : List α}, tr ++ x :: z = A ++ B → (∃ z', A = tr ++ x :: z') ∨ ∃ tr', tr = A ++ tr' ∧ tr' ++ x :: z = B
  | tr, z, [], B, h => .inr ⟨tr, rfl, h⟩
  | [], z, a :: A, B, h => by
    injection h with h1 h2
    exact .inl ⟨A, by rw [h1]; rfl⟩
  | t :: tr, z, a :: A, B, h => by
    injection h with h1 h2
    rcases split_app h2 with ⟨z', h⟩ | ⟨tr', h, h'⟩
    · exact .inl ⟨z', by rw [h, h1]; rfl⟩
    · exact .inr ⟨tr', by rw [h, h1]; rfl, h'⟩
/-- what is pushed while the walk is at i -/
def pathN (N : Nat → Nat → List Nat) : Nat → Nat → Nat → List Nat
  | 0, f, _ => N f 1
  | k + 1, f, i => N f (2 ^ (k + 1)) ++ (if i < f + 2 ^ k then pathN N k f i else pathN N k (f + 2 ^ k) i)
theorem no_push {ns : List Nat} {i : Nat} {tr z : List (Str × Nat)} (h : pushW ns = tr ++ (("ask" : Str), i) :: z) : False := by
  have m : (("ask" : Str), i) ∈ pushW ns := by rw [h]; exact List.mem_append.mpr (.inr List.mem_cons_self)
  obtain ⟨n, _, e⟩ := List.mem_map.mp m
  injection e with e _
  exact wAP2 e.symm
theorem no_pop {ns : List Nat} {i : Nat} {tr z : List (Str × Nat)} (h : tr ++ (("ask" : Str), i) :: z = popW ns) : False := by
  have m : (("ask" : Str), i) ∈ popW ns := by rw [← h]; exact List.mem_append.mpr (.inr List.mem_cons_self)
  obtain ⟨n, _, e⟩ := List.mem_map.mp m
  injection e with e _
  exact wAO2 e.symm
theorem run_ask {N : Nat → Nat → List Nat} {bs : List Bool} : ∀ {k f i : Nat} {S : List Nat} {tr z : List (Str × Nat)}, tr ++ (("ask" : Str), i) :: z = walkW N bs k f → runW S tr = S ++ pathN N k f i ∧ f ≤ i ∧ i < f + 2 ^ k
  | 0, f, i, S, tr, z, h => by
    unfold walkW at h
    split at h
    · rcases split_app h with ⟨z', ha⟩ | ⟨tr', _, hb⟩
      · rcases split_app ha.symm with ⟨z2, hc⟩ | ⟨tr2, et, hd⟩
        · exact (no_push hc).elim
        · rw [et]
          match tr2, hd with
          | [], hd =>
            injection hd with hd _
            injection hd with _ hd
            rw [List.append_nil, run_push, hd]
            exact ⟨rfl, Nat.le_refl _, by rw [Nat.pow_zero]; omega⟩
          | t :: tr3, hd =>
            injection hd with _ hd
            cases tr3 <;> cases hd
      · exact (no_pop hb).elim
    · cases tr <;> cases h
  | k + 1, f, i, S, tr, z, h => by
    have h3 : (2 : Nat) ^ (k + 1) = 2 ^ k + 2 ^ k := by rw [Nat.pow_succ]; omega
    unfold walkW at h
    split at h
    · rcases split_app h with ⟨z', ha⟩ | ⟨tr', _, hb⟩
      · rcases split_app ha.symm with ⟨z2, hc⟩ | ⟨tr2, et, hd⟩
        · exact (no_push hc).elim
        · rw [et, run_app, run_push]
          rcases split_app hd with ⟨z3, he⟩ | ⟨tr3, et3, he⟩
          · obtain ⟨h1, h4, h5⟩ := run_ask (S := S ++ N f (2 ^ (k + 1))) he.symm
            refine ⟨?_, h4, by omega⟩
            rw [h1, List.append_assoc]
            show _ = S ++ (N f (2 ^ (k + 1)) ++ (if i < f + 2 ^ k then pathN N k f i else pathN N k (f + 2 ^ k) i))
            rw [if_pos h5]
          · obtain ⟨h1, h4, h5⟩ := run_ask (S := S ++ N f (2 ^ (k + 1))) he
            refine ⟨?_, by omega, by omega⟩
            rw [et3, run_app, run_walk, h1, List.append_assoc]
            show _ = S ++ (N f (2 ^ (k + 1)) ++ (if i < f + 2 ^ k then pathN N k f i else pathN N k (f + 2 ^ k) i))
            rw [if_neg (by omega)]
      · exact (no_pop hb).elim
    · cases tr <;> cases h
end Ob

set_option Elab.async false
set_option linter.all false
set_option maxRecDepth 100000
set_option maxHeartbeats 1000000
namespace Ob
open PySem PySem.Spec PyProof.Rows L2
open LamX (Tabs TabB TabS ExtN)

set_option hygiene false in
local macro_rules
  | `(tactic| kp_flats) => `(tactic| first
    | assumption
    | exact upd_same
    | (apply atNew; assumption; kp_flats)
    | (apply atNe; (next => kbo_bools); kp_flats)
    | (apply atSame; assumption; kp_flats)
    | (apply atKp; assumption; (next => kaf_pre); kp_flats))
set_option hygiene false in
local macro_rules
  | `(tactic| kaf_pre) => `(tactic| first
    | assumption
    | exact not_nil
    | (apply not_cons; (next => kbo_bools); kaf_pre)
    | (apply not_app; (next => kaf_pre); kaf_pre))
set_option hygiene false in
local macro_rules
  | `(tactic| kbo_bools) => `(tactic| first
    | assumption
    | (apply Ne.symm; assumption)
    | (apply neN; assumption; kp_flats)
    | (apply neN'; assumption; kp_flats))
set_option hygiene false in
local macro_rules
  | `(tactic| o_reads) => `(tactic| first
    | with_reducible rfl
    | assumption
    | rfl
    | kp_flats
    | (show SqL _ _ _ _; first | assumption | (apply sqlOf; kp_flats) | (apply sqlSame; assumption; o_reads))
    | (show SqT _ _ _ _; first | assumption | (apply sqtOf; kp_flats) | (apply sqtAll; assumption) | (apply sqtSame; assumption; o_reads))
    | (show Cls _ _; first | exact T.cl_Unions)
    | (show NoAttr _ _ _; first | exact T.n_Unions_groups | exact T.n_Unions_parents | exact T.n_Unions_counts | exact T.n_Unions_moved)
    | (apply Or.inl; o_reads)
    | (apply Or.inr; o_reads)
    | (apply And.intro; (next => o_reads); o_reads)
    | (apply Exists.intro; o_reads)
    | exact Nat.le_of_ble_eq_true rfl
    | exact Nat.succ_ne_zero _
    | (show Fr _ _; kba_ints)
    | (show Same _ _; kd_subs)
    | (show Kp _ _ _; kxs_still)
    | (show (_ : Nat) ≤ _; simp only [List.length_append, List.length_map, List.length_cons, List.length_nil, List.length_take, List.length_drop, List.length_replicate, List.length_range, sizeLine_eq]; omega)
    | (show _ = none; apply Fr.h; kba_ints)
    | (show Bag _ _; first | assumption | (apply bag_putF; assumption; o_reads) | (apply bag_neF; (next => kbo_bools); o_reads) | (apply bag_kpR; assumption; (next => kaf_pre); o_reads))
    | omega
    | decide)
local macro_rules
  | `(tactic| o_readsAll) => `(tactic| repeat (first
    | (refine fun (pNew : Addr) (nNew : _ = none) => ?_; replace nNew := Fr.mk nNew)
    | (refine fun (xNew dNew : Addr) (nNew : _ = none) (mNew : _ = none) (eNew : dNew ≠ xNew) => ?_; replace nNew := Fr.mk nNew; replace mNew := Fr.mk mNew)
    | (apply And.intro; next => o_reads)
    | apply Exists.intro (α := V)
    | apply Exists.intro (α := Addr)
    | apply Exists.intro (α := Int)
    | apply Exists.intro (α := Bool)
    | apply Exists.intro (α := List V)
    | apply Exists.intro (α := List Nat)
    | apply Exists.intro (α := List (Str × V))
    | apply Exists.intro (α := List _)
    | apply Exists.intro (α := Str)
    | apply Exists.intro (α := HO)
    | apply Exists.intro (α := Sp)
    | apply Exists.intro (α := VK)))
set_option hygiene false in
local macro_rules
  | `(tactic| kba_ints) => `(tactic| first
    | assumption
    | (apply frUp; (first | assumption | (apply Ne.symm; assumption)); kba_ints)
    | (apply noneOf; assumption; intro oF eF; apply Exists.intro; kp_flats)
    | (apply frUp; (next => kbo_bools); kba_ints))
set_option hygiene false in
local macro_rules
  | `(tactic| kxs_still) => `(tactic| first
    | assumption
    | exact kp_refl _ _
    | (apply kp_newF; assumption; kxs_still)
    | (apply kp_new; assumption; kxs_still)
    | (apply kp_up; (next => o_fieldsN); kxs_still)
    | (apply kp_new; (next => kba_ints); kxs_still)
    | (apply kp_sameR; assumption; kxs_still)
    | (apply kp_transR; assumption; kxs_still)
    | (apply kp_freshR; assumption; (next => kaf_suf); kxs_still))
set_option hygiene false in
local macro_rules
  | `(tactic| kaf_suf) => `(tactic| first
    | assumption
    | exact subNil
    | (apply subCons; (first | (apply Or.inl; o_fieldsN) | (apply Or.inr; kba_ints)); kaf_suf)
    | (apply subApp; (next => kaf_suf); kaf_suf))
set_option hygiene false in
local macro_rules
  | `(tactic| o_fieldsN) => `(tactic| first
    | assumption
    | exact memA
    | (apply memB; o_fieldsN)
    | (apply memL; o_fieldsN)
    | (apply memR; o_fieldsN))
set_option hygiene false in
local macro_rules
  | `(tactic| kd_subs) => `(tactic| first
    | assumption
    | exact Same.refl _
    | (apply same_putF; assumption; kd_subs)
    | (apply same_putG; assumption; kd_subs)
    | (apply same_putF; (next => kba_ints); kd_subs)
    | (apply same_transR; assumption; kd_subs))

set_option pp.maxSteps 900
/-! ### the nodes on the way to i -/
def onP : Nat → Nat → Nat → Nat → Nat → Prop
  | 0, f, _, a, s => a = f ∧ s = 1
  | k + 1, f, i, a, s => (a = f ∧ s = 2 ^ (k + 1)) ∨ (if i < f + 2 ^ k then onP k f i a s else onP k (f + 2 ^ k) i a s)
theorem onP_le : ∀ {k f i a s : Nat}, onP k f i a s → s ≤ 2 ^ k
  | 0, f, i, a, s, h => by rw [h.2]; exact Nat.le_refl _
  | k + 1, f, i, a, s, h => by
    have h3 : (2 : Nat) ^ (k + 1) = 2 ^ k + 2 ^ k := by rw [Nat.pow_succ]; omega
    rcases h with ⟨_, h⟩ | h
    · exact Nat.le_of_eq h
    · split at h
      · have := onP_le h; omega
      · have := onP_le h; omega
theorem same_block {M a f i : Nat} (hM : 0 < M) (ha : a % M = 0) (hf : f % M = 0) (h1 : a ≤ i) (h2 : i < a + M) (h3 : f ≤ i) (h4 : i < f + M) : a = f := by
  obtain ⟨p, rfl⟩ := Nat.dvd_of_mod_eq_zero ha
  obtain ⟨q, rfl⟩ := Nat.dvd_of_mod_eq_zero hf
  have e1 : i / M = p := by
    refine Nat.div_eq_of_lt_le ?_ ?_
    · rw [Nat.mul_comm]; exact h1
    · rw [Nat.mul_comm, Nat.mul_succ]; exact h2
  have e2 : i / M = q := by
    refine Nat.div_eq_of_lt_le ?_ ?_
    · rw [Nat.mul_comm]; exact h3
    · rw [Nat.mul_comm, Nat.mul_succ]; exact h4
  rw [← e1, e2]
theorem on_path : ∀ {k f i a m : Nat}, f % 2 ^ k = 0 → f ≤ i → i < f + 2 ^ k → m ≤ k → a % 2 ^ m = 0 → (onP k f i a (2 ^ m) ↔ a ≤ i ∧ i < a + 2 ^ m)
  | 0, f, i, a, m, hf, h1, h2, hm, ha => by
    obtain rfl : m = 0 := by omega
    unfold onP
    rw [Nat.pow_zero] at h2 ⊢
    omega
  | k + 1, f, i, a, m, hf, h1, h2, hm, ha => by
    have h3 : (2 : Nat) ^ (k + 1) = 2 ^ k + 2 ^ k := by rw [Nat.pow_succ]; omega
    have hp := Nat.two_pow_pos k
    unfold onP
    by_cases c : m = k + 1
    · subst c
      constructor
      · rintro (⟨rfl, _⟩ | h)
        · exact ⟨h1, h2⟩
        · split at h
          · have := onP_le h; omega
          · have := onP_le h; omega
      · rintro ⟨h4, h5⟩
        exact .inl ⟨same_block (Nat.two_pow_pos _) ha hf h4 h5 h1 h2, rfl⟩
    · have hm' : m ≤ k := by omega
      have hne : ¬ (a = f ∧ (2 : Nat) ^ m = 2 ^ (k + 1)) := fun z => by
        have : (2 : Nat) ^ m ≤ 2 ^ k := Nat.pow_le_pow_right (by decide) hm'
        omega
      have hf' : f % 2 ^ k = 0 := mod_le hf (Nat.le_succ k)
      by_cases d : i < f + 2 ^ k
      · rw [if_pos d]
        have ih := on_path (k := k) (f := f) hf' h1 d hm' ha
        exact ⟨fun z => ih.mp (z.resolve_left hne), fun z => .inr (ih.mpr z)⟩
      · rw [if_neg d]
        have ih := on_path (k := k) (f := f + 2 ^ k) (mod_add hf' (Nat.mod_self _)) (by omega) (show i < f + 2 ^ k + 2 ^ k by omega) hm' ha
        exact ⟨fun z => ih.mp (z.resolve_left hne), fun z => .inr (ih.mpr z)⟩
/-! ### one more member at a node -/
theorem path_off {N : Nat → Nat → List Nat} {a s y : Nat} : ∀ {k f i : Nat}, ¬ onP k f i a s → pathN (addN N a s y) k f i = pathN N k f i
  | 0, f, i, h => by
    show addN N a s y f 1 = N f 1
    exact add_ne fun z => h ⟨z.1.symm, z.2.symm⟩
  | k + 1, f, i, h => by
    show addN N a s y f (2 ^ (k + 1)) ++ (if i < f + 2 ^ k then pathN (addN N a s y) k f i else pathN (addN N a s y) k (f + 2 ^ k) i) = N f (2 ^ (k + 1)) ++ (if i < f + 2 ^ k then pathN N k f i else pathN N k (f + 2 ^ k) i)
    rw [add_ne fun z => h (.inl ⟨z.1.symm, z.2.symm⟩)]
    by_cases d : i < f + 2 ^ k
    · rw [if_pos d, if_pos d, path_off fun z => h (.inr (by rw [if_pos d]; exact z))]
    · rw [if_neg d, if_neg d, path_off fun z => h (.inr (by rw [if_neg d]; exact z))]
theorem path_on {N : Nat → Nat → List Nat} {a s y : Nat} : ∀ {k f i : Nat}, onP k f i a s → ∃ l1 l2, pathN N k f i = l1 ++ l2 ∧ pathN (addN N a s y) k f i = l1 ++ y :: l2
  | 0, f, i, h => by
    obtain ⟨rfl, rfl⟩ := h
    refine ⟨N a 1, [], (List.append_nil _).symm, ?_⟩
    show addN N a 1 y a 1 = _
    exact add_same
  | k + 1, f, i, h => by
    show ∃ l1 l2, N f (2 ^ (k + 1)) ++ (if i < f + 2 ^ k then pathN N k f i else pathN N k (f + 2 ^ k) i) = l1 ++ l2 ∧ addN N a s y f (2 ^ (k + 1)) ++ (if i < f + 2 ^ k then pathN (addN N a s y) k f i else pathN (addN N a s y) k (f + 2 ^ k) i) = l1 ++ y :: l2
    have h3 : (2 : Nat) ^ (k + 1) = 2 ^ k + 2 ^ k := by rw [Nat.pow_succ]; omega
    have hp := Nat.two_pow_pos k
    by_cases c : a = f ∧ s = 2 ^ (k + 1)
    · obtain ⟨rfl, rfl⟩ := c
      rw [add_same, path_off fun z => by have := onP_le z; omega, path_off fun z => by have := onP_le z; omega]
      exact ⟨_, _, rfl, by rw [List.append_assoc]; rfl⟩
    · have h := h.resolve_left c
      rw [add_ne fun z => c ⟨z.1.symm, z.2.symm⟩]
      by_cases d : i < f + 2 ^ k
      · rw [if_pos d] at h
        rw [if_pos d, if_pos d]
        obtain ⟨l1, l2, e1, e2⟩ := path_on (N := N) (y := y) h
        exact ⟨N f (2 ^ (k + 1)) ++ l1, l2, by rw [e1, List.append_assoc], by rw [e2, List.append_assoc]⟩
      · rw [if_neg d] at h
        rw [if_neg d, if_neg d]
        obtain ⟨l1, l2, e1, e2⟩ := path_on (N := N) (y := y) h
        exact ⟨N f (2 ^ (k + 1)) ++ l1, l2, by rw [e1, List.append_assoc], by rw [e2, List.append_assoc]⟩
/-- the pieces of a range: just one of them is on the way to what lies in the range -/
theorem path_pcs {k i y : Nat} (hk : k ≤ 100) (hi : i < 2 ^ k) : ∀ {u a r : Nat} {N : Nat → Nat → List Nat}, enough u a r → a + r ≤ 2 ^ k →
    (¬ (a ≤ i ∧ i < a + r) → pathN (addP N y (pcF u a r)) k 0 i = pathN N k 0 i) ∧ (a ≤ i ∧ i < a + r → ∃ l1 l2, pathN N k 0 i = l1 ++ l2 ∧ pathN (addP N y (pcF u a r)) k 0 i = l1 ++ y :: l2)
  | u, a, 0, N, _, _ => by
    rw [pcF_zero]
    exact ⟨fun _ => rfl, fun z => by omega⟩
  | u, a, r + 1, N, he, hr => by
    have hb : a + (r + 1) ≤ 2 ^ 100 := Nat.le_trans hr (Nat.pow_le_pow_right (by decide) hk)
    obtain ⟨u', rfl, he2, hs, hs0, j, hj, haj⟩ := enough_step he (Nat.succ_ne_zero r) hb
    have hjk : j ≤ k := by
      refine Nat.le_of_not_lt fun z => ?_
      have h1 : (2 : Nat) ^ (k + 1) ≤ 2 ^ j := Nat.pow_le_pow_right (by decide) z
      have h2 := Nat.two_pow_pos k
      rw [Nat.pow_succ] at h1
      omega
    have hon := on_path (k := k) (f := 0) (i := i) (a := a) (m := j) (Nat.zero_mod _) (Nat.zero_le _) (by omega) hjk haj
    rw [← hj] at hon
    rw [pcF_pos (Nat.succ_ne_zero r)]
    have hadd : addP N y ((a, szP a (r + 1)) :: pcF u' (a + szP a (r + 1)) (r + 1 - szP a (r + 1))) = addP (addN N a (szP a (r + 1)) y) y (pcF u' (a + szP a (r + 1)) (r + 1 - szP a (r + 1))) := rfl
    rw [hadd]
    have ih := path_pcs (y := y) hk hi (N := addN N a (szP a (r + 1)) y) he2 (by omega)
    by_cases c : a ≤ i ∧ i < a + szP a (r + 1)
    · refine ⟨fun z => by omega, fun _ => ?_⟩
      rw [ih.1 (by omega)]
      exact path_on (hon.mpr c)
    · have hoff := path_off (N := N) (y := y) fun z => c (hon.mp z)
      refine ⟨fun z => ?_, fun z => ?_⟩
      · rw [ih.1 (by omega), hoff]
      · obtain ⟨l1, l2, e1, e2⟩ := ih.2 (by omega)
        rw [hoff] at e1
        exact ⟨l1, l2, e1, e2⟩
termination_by u a r => u
decreasing_by omega
/-- whom the walk holds at i: those who are present from their index on, to their end -/
def heldAt (es : List (Nat × Nat)) (i : Nat) : List Nat := (es.filter fun e => decide (e.1 ≤ i ∧ i < e.2)).map (·.1)
theorem path_fold {k i : Nat} (hk : k ≤ 12) (hi : i < 2 ^ k) : ∀ {es : List (Nat × Nat)} {N : Nat → Nat → List Nat}, (∀ e ∈ es, e.1 ≤ e.2 ∧ e.2 ≤ 2 ^ k) →
    (pathN (es.foldl (fun N ie => addP N ie.1 (pcF 201 ie.1 (ie.2 - ie.1))) N) k 0 i).Perm (pathN N k 0 i ++ heldAt es i)
  | [], N, _ => by
    show (pathN N k 0 i).Perm (pathN N k 0 i ++ [])
    rw [List.append_nil]
  | e :: es, N, h => by
    obtain ⟨h1, h2⟩ := h e List.mem_cons_self
    have hp : (2 : Nat) ^ k ≤ 10 ^ 30 := Nat.le_trans (Nat.pow_le_pow_right (by decide) hk) (by decide +kernel)
    have hpc := path_pcs (y := e.1) (show k ≤ 100 by omega) hi (N := N) (enough_all (a := e.1) (r := e.2 - e.1) (by omega)) (by omega)
    rw [List.foldl_cons]
    refine (path_fold hk hi fun e' m => h e' (List.mem_cons_of_mem _ m)).trans ?_
    by_cases c : e.1 ≤ i ∧ i < e.2
    · obtain ⟨l1, l2, e1, e2⟩ := hpc.2 (by omega)
      have hh : heldAt (e :: es) i = e.1 :: heldAt es i := by
        unfold heldAt
        rw [List.filter_cons_of_pos (p := fun e : Nat × Nat => decide (e.1 ≤ i ∧ i < e.2)) (decide_eq_true c)]
        rfl
      rw [hh, e2, e1]
      refine ((List.perm_middle (a := e.1) (l₁ := l1) (l₂ := l2)).append_right _).trans ?_
      exact (List.perm_middle (a := e.1) (l₁ := l1 ++ l2) (l₂ := heldAt es i)).symm
    · have hh : heldAt (e :: es) i = heldAt es i := by
        unfold heldAt
        rw [List.filter_cons_of_neg (p := fun e : Nat × Nat => decide (e.1 ≤ i ∧ i < e.2)) (fun z => c (of_decide_eq_true z))]
      rw [hh, hpc.1 (by omega)]
theorem path_held {k i : Nat} {es : List (Nat × Nat)} (hk : k ≤ 12) (hi : i < 2 ^ k) (h : ∀ e ∈ es, e.1 ≤ e.2 ∧ e.2 ≤ 2 ^ k) : (pathN (nodesOf es) k 0 i).Perm (heldAt es i) := by
  have h0 : ∀ {k f : Nat}, pathN (fun _ _ => []) k f i = [] := by
    intro k
    induction k with
    | zero => intro f; rfl
    | succ k ih =>
      intro f
      show [] ++ (if i < f + 2 ^ k then pathN (fun _ _ => []) k f i else pathN (fun _ _ => []) k (f + 2 ^ k) i) = []
      split
      · exact ih
      · exact ih
  have p := path_fold hk hi (N := fun _ _ => []) h
  rw [h0, List.nil_append] at p
  exact p
end Ob

set_option Elab.async false
set_option linter.all false
set_option maxRecDepth 100000
set_option maxHeartbeats 1000000
namespace Ob
open PySem PySem.Spec PyProof.Rows L2
open LamX (Tabs TabB TabS ExtN)

set_option hygiene false in
local macro_rules
  | `(tactic| kp_flats) => `(tactic| first
    | assumption
    | exact upd_same
    | (apply atNew; assumption; kp_flats)
    | (apply atNe; (next => kbo_bools); kp_flats)
    | (apply atSame; assumption; kp_flats)
    | (apply atKp; assumption; (next => kaf_pre); kp_flats))
set_option hygiene false in
local macro_rules
  | `(tactic| kaf_pre) => `(tactic| first
    | assumption
    | exact not_nil
    | (apply not_cons; (next => kbo_bools); kaf_pre)
    | (apply not_app; (next => kaf_pre); kaf_pre))
set_option hygiene false in
local macro_rules
  | `(tactic| kbo_bools) => `(tactic| first
    | assumption
    | (apply Ne.symm; assumption)
    | (apply neN; assumption; kp_flats)
    | (apply neN'; assumption; kp_flats))
set_option hygiene false in
local macro_rules
  | `(tactic| o_reads) => `(tactic| first
    | with_reducible rfl
    | assumption
    | rfl
    | kp_flats
    | (show SqL _ _ _ _; first | assumption | (apply sqlOf; kp_flats) | (apply sqlSame; assumption; o_reads))
    | (show SqT _ _ _ _; first | assumption | (apply sqtOf; kp_flats) | (apply sqtAll; assumption) | (apply sqtSame; assumption; o_reads))
    | (show Cls _ _; first | exact T.cl_Unions)
    | (show NoAttr _ _ _; first | exact T.n_Unions_groups | exact T.n_Unions_parents | exact T.n_Unions_counts | exact T.n_Unions_moved)
    | (apply Or.inl; o_reads)
    | (apply Or.inr; o_reads)
    | (apply And.intro; (next => o_reads); o_reads)
    | (apply Exists.intro; o_reads)
    | exact Nat.le_of_ble_eq_true rfl
    | exact Nat.succ_ne_zero _
    | (show Fr _ _; kba_ints)
    | (show Same _ _; kd_subs)
    | (show Kp _ _ _; kxs_still)
    | (show (_ : Nat) ≤ _; simp only [List.length_append, List.length_map, List.length_cons, List.length_nil, List.length_take, List.length_drop, List.length_replicate, List.length_range, sizeLine_eq]; omega)
    | (show _ = none; apply Fr.h; kba_ints)
    | (show Bag _ _; first | assumption | (apply bag_putF; assumption; o_reads) | (apply bag_neF; (next => kbo_bools); o_reads) | (apply bag_kpR; assumption; (next => kaf_pre); o_reads))
    | omega
    | decide)
local macro_rules
  | `(tactic| o_readsAll) => `(tactic| repeat (first
    | (refine fun (pNew : Addr) (nNew : _ = none) => ?_; replace nNew := Fr.mk nNew)
    | (refine fun (xNew dNew : Addr) (nNew : _ = none) (mNew : _ = none) (eNew : dNew ≠ xNew) => ?_; replace nNew := Fr.mk nNew; replace mNew := Fr.mk mNew)
    | (apply And.intro; next => o_reads)
    | apply Exists.intro (α := V)
    | apply Exists.intro (α := Addr)
    | apply Exists.intro (α := Int)
    | apply Exists.intro (α := Bool)
    | apply Exists.intro (α := List V)
    | apply Exists.intro (α := List Nat)
    | apply Exists.intro (α := List (Str × V))
    | apply Exists.intro (α := List _)
    | apply Exists.intro (α := Str)
    | apply Exists.intro (α := HO)
    | apply Exists.intro (α := Sp)
    | apply Exists.intro (α := VK)))
set_option hygiene false in
local macro_rules
  | `(tactic| kba_ints) => `(tactic| first
    | assumption
    | (apply frUp; (first | assumption | (apply Ne.symm; assumption)); kba_ints)
    | (apply noneOf; assumption; intro oF eF; apply Exists.intro; kp_flats)
    | (apply frUp; (next => kbo_bools); kba_ints))
set_option hygiene false in
local macro_rules
  | `(tactic| kxs_still) => `(tactic| first
    | assumption
    | exact kp_refl _ _
    | (apply kp_newF; assumption; kxs_still)
    | (apply kp_new; assumption; kxs_still)
    | (apply kp_up; (next => o_fieldsN); kxs_still)
    | (apply kp_new; (next => kba_ints); kxs_still)
    | (apply kp_sameR; assumption; kxs_still)
    | (apply kp_transR; assumption; kxs_still)
    | (apply kp_freshR; assumption; (next => kaf_suf); kxs_still))
set_option hygiene false in
local macro_rules
  | `(tactic| kaf_suf) => `(tactic| first
    | assumption
    | exact subNil
    | (apply subCons; (first | (apply Or.inl; o_fieldsN) | (apply Or.inr; kba_ints)); kaf_suf)
    | (apply subApp; (next => kaf_suf); kaf_suf))
set_option hygiene false in
local macro_rules
  | `(tactic| o_fieldsN) => `(tactic| first
    | assumption
    | exact memA
    | (apply memB; o_fieldsN)
    | (apply memL; o_fieldsN)
    | (apply memR; o_fieldsN))
set_option hygiene false in
local macro_rules
  | `(tactic| kd_subs) => `(tactic| first
    | assumption
    | exact Same.refl _
    | (apply same_putF; assumption; kd_subs)
    | (apply same_putG; assumption; kd_subs)
    | (apply same_putF; (next => kba_ints); kd_subs)
    | (apply same_transR; assumption; kd_subs))

set_option pp.maxSteps 900
/-! ### the ends of what is present, at a question -/
theorem ends_step {hs : List HEv} {k : Nat} (hk : k < hs.length) : ∃ e, hs[k]? = some e ∧ endsU hs (k + 1) = stepE hs.length k (endsU hs k) e ∧ presU hs (k + 1) = stepP k (presU hs k) e := by
  refine ⟨hs[k], List.getElem?_eq_getElem hk, ?_, ?_⟩
  · show (match hs[k]? with | some e => stepE hs.length k (endsU hs k) e | none => endsU hs k) = _
    rw [List.getElem?_eq_getElem hk]
  · show (match hs[k]? with | some e => stepP k (presU hs k) e | none => presU hs k) = _
    rw [List.getElem?_eq_getElem hk]
theorem ends_keys {hs : List HEv} : ∀ {k : Nat}, k ≤ hs.length → ((endsU hs k).map (·.1)).Nodup ∧ ∀ e ∈ endsU hs k, e.2 = hs.length ∨ e.2 < k
  | 0, _ => ⟨List.nodup_nil, fun e m => nomatch m⟩
  | k + 1, hk => by
    obtain ⟨ih1, ih2⟩ := ends_keys (hs := hs) (k := k) (by omega)
    obtain ⟨e, _, he, _⟩ := ends_step (hs := hs) (k := k) hk
    rw [he]
    match e with
    | .add v =>
      refine ⟨?_, fun e m => ?_⟩
      · show ((endsU hs k ++ [(k, hs.length)]).map (·.1)).Nodup
        rw [List.map_append, List.nodup_append]
        refine ⟨ih1, (List.nodup_cons.mpr ⟨(fun z => nomatch z), List.nodup_nil⟩), fun a ha b hb => ?_⟩
        obtain ⟨x, hx, rfl⟩ := List.mem_map.mp ha
        have := ends_lt (hs := hs) (show k ≤ hs.length by omega) x hx
        have hb : b = k := List.mem_singleton.mp hb
        omega
      · rcases List.mem_append.mp m with m | m
        · have := ih2 e m; omega
        · rw [List.mem_singleton.mp m]; exact .inl rfl
    | .rem i =>
      refine ⟨?_, fun e m => ?_⟩
      · show (((endsU hs k).map fun e => if e.1 = i then (e.1, k) else e).map (·.1)).Nodup
        rw [List.map_map]
        have : ((fun x : Nat × Nat => x.1) ∘ fun e : Nat × Nat => if e.1 = i then (e.1, k) else e) = fun x => x.1 := by
          funext x
          show (if x.1 = i then (x.1, k) else x).1 = x.1
          split <;> rfl
        rw [this]
        exact ih1
      · obtain ⟨x, hx, rfl⟩ := List.mem_map.mp m
        have := ih2 x hx
        split
        · exact .inr (Nat.lt_succ_self k)
        · omega
    | .ask v => exact ⟨ih1, fun e m => by have := ih2 e m; omega⟩
/-- those who are present before k are those whose end is not before k -/
theorem pres_ends {hs : List HEv} : ∀ {k : Nat}, k ≤ hs.length → ((endsU hs k).filter fun e => decide (k ≤ e.2)).map (·.1) = presU hs k
  | 0, _ => rfl
  | k + 1, hk => by
    have ih := pres_ends (hs := hs) (k := k) (by omega)
    obtain ⟨_, ih2⟩ := ends_keys (hs := hs) (k := k) (by omega)
    obtain ⟨e, _, he, hp⟩ := ends_step (hs := hs) (k := k) hk
    rw [he, hp, ← ih]
    have same : (endsU hs k).filter (fun e => decide (k + 1 ≤ e.2)) = (endsU hs k).filter (fun e => decide (k ≤ e.2)) := List.filter_congr fun x hx => by
      have := ih2 x hx
      exact decide_eq_decide.mpr (by omega)
    match e with
    | .add v =>
      show ((endsU hs k ++ [(k, hs.length)]).filter fun e => decide (k + 1 ≤ e.2)).map (·.1) = ((endsU hs k).filter fun e => decide (k ≤ e.2)).map (·.1) ++ [k]
      rw [List.filter_append, List.map_append, same, List.filter_cons_of_pos (p := fun e : Nat × Nat => decide (k + 1 ≤ e.2)) (decide_eq_true hk)]
      rfl
    | .rem i =>
      show (((endsU hs k).map fun e => if e.1 = i then (e.1, k) else e).filter fun e => decide (k + 1 ≤ e.2)).map (·.1) = (((endsU hs k).filter fun e => decide (k ≤ e.2)).map (·.1)).filter fun j => decide (j ≠ i)
      rw [List.filter_map, List.map_map, List.filter_map, List.filter_filter]
      have hf : (endsU hs k).filter ((fun e : Nat × Nat => decide (k + 1 ≤ e.2)) ∘ fun e => if e.1 = i then (e.1, k) else e) = (endsU hs k).filter (fun a => ((fun j => decide (j ≠ i)) ∘ fun x : Nat × Nat => x.1) a && decide (k ≤ a.2)) := List.filter_congr fun x hx => by
        have := ih2 x hx
        show decide (k + 1 ≤ (if x.1 = i then (x.1, k) else x).2) = (decide (x.1 ≠ i) && decide (k ≤ x.2))
        by_cases c : x.1 = i
        · rw [if_pos c, decide_eq_false (show ¬ k + 1 ≤ k by omega)]
          simp [c]
        · rw [if_neg c]
          by_cases d : k ≤ x.2
          · rw [decide_eq_true (show k + 1 ≤ x.2 by omega), decide_eq_true d]
            simp [c]
          · rw [decide_eq_false (show ¬ k + 1 ≤ x.2 by omega), decide_eq_false d]
            simp
      rw [hf]
      refine List.map_congr_left fun x _ => ?_
      show (if x.1 = i then (x.1, k) else x).1 = x.1
      split <;> rfl
    | .ask v =>
      show ((endsU hs k).filter fun e => decide (k + 1 ≤ e.2)).map (·.1) = ((endsU hs k).filter fun e => decide (k ≤ e.2)).map (·.1)
      rw [same]
theorem nodup_inj : ∀ {l : List (Nat × Nat)} {x y : Nat × Nat}, (l.map (·.1)).Nodup → x ∈ l → y ∈ l → x.1 = y.1 → x = y
  | a :: l, x, y, h, hx, hy, e => by
    obtain ⟨h1, h2⟩ := List.nodup_cons.mp h
    rcases List.mem_cons.mp hx with hx2 | hx2
    · rcases List.mem_cons.mp hy with hy2 | hy2
      · rw [hx2, hy2]
      · exact (h1 (List.mem_map.mpr ⟨y, hy2, by rw [← e, hx2]⟩)).elim
    · rcases List.mem_cons.mp hy with hy2 | hy2
      · exact (h1 (List.mem_map.mpr ⟨x, hx2, by rw [e, hy2]⟩)).elim
      · exact nodup_inj h2 hx2 hy2 e
/-- what holds of whom is held at i does not change any more behind i -/
theorem held_later {hs : List HEv} {i : Nat} (hok : HOk hs) (hi : i < hs.length) (ha : ∃ v, hs[i]? = some (.ask v)) : ∀ {k : Nat}, i ≤ k → k ≤ hs.length → heldAt (endsU hs k) i = presU hs i := by
  intro k h1
  induction h1 with
  | refl =>
    intro _
    rw [← pres_ends (hs := hs) (k := i) (by omega)]
    unfold heldAt
    refine congrArg _ (List.filter_congr fun x hx => decide_eq_decide.mpr ?_)
    have h2 := ends_lt (hs := hs) (show i ≤ hs.length by omega) x hx
    have h3 := (ends_keys (hs := hs) (k := i) (by omega)).2 x hx
    omega
  | @step k hk ih =>
    have hk : i ≤ k := hk
    intro hk2
    have ih := ih (by omega)
    obtain ⟨e, hee, he, _⟩ := ends_step (hs := hs) (k := k) hk2
    obtain ⟨kn, ke⟩ := ends_keys (hs := hs) (k := k) (by omega)
    rw [he, ← ih]
    match e, hee with
    | .ask v, _ => rfl
    | .add v, hee =>
      have hne : i ≠ k := fun z => by
        obtain ⟨u, hu⟩ := ha
        rw [z, hee] at hu
        cases hu
      show heldAt (endsU hs k ++ [(k, hs.length)]) i = heldAt (endsU hs k) i
      unfold heldAt
      rw [List.filter_append, List.filter_cons_of_neg (p := fun e : Nat × Nat => decide (e.1 ≤ i ∧ i < e.2)) (fun z => by have := of_decide_eq_true z; omega)]
      show ((endsU hs k).filter _ ++ []).map _ = _
      rw [List.append_nil]
    | .rem j, hee =>
      have hne : i ≠ k := fun z => by
        obtain ⟨u, hu⟩ := ha
        rw [z, hee] at hu
        cases hu
      have hj := hok k j hee
      rw [← pres_ends (hs := hs) (k := k) (by omega)] at hj
      obtain ⟨y, hy, hyj⟩ := List.mem_map.mp hj
      obtain ⟨hy1, hy2⟩ := List.mem_filter.mp hy
      have hy2 := of_decide_eq_true hy2
      have one : ∀ x ∈ endsU hs k, x.1 = j → x = y := fun x hx hxj => by
        exact nodup_inj kn hx hy1 (by rw [hxj, ← hyj])
      show heldAt ((endsU hs k).map fun e => if e.1 = j then (e.1, k) else e) i = heldAt (endsU hs k) i
      unfold heldAt
      rw [List.filter_map, List.map_map]
      have hf : (endsU hs k).filter ((fun e : Nat × Nat => decide (e.1 ≤ i ∧ i < e.2)) ∘ fun e => if e.1 = j then (e.1, k) else e) = (endsU hs k).filter (fun e => decide (e.1 ≤ i ∧ i < e.2)) := List.filter_congr fun x hx => by
        show decide ((if x.1 = j then (x.1, k) else x).1 ≤ i ∧ i < (if x.1 = j then (x.1, k) else x).2) = _
        by_cases c : x.1 = j
        · rw [if_pos c]
          have := one x hx c
          subst this
          exact decide_eq_decide.mpr (by show x.1 ≤ i ∧ i < k ↔ x.1 ≤ i ∧ i < x.2; omega)
        · rw [if_neg c]
      rw [hf]
      refine List.map_congr_left fun x _ => ?_
      show (if x.1 = j then (x.1, k) else x).1 = x.1
      split <;> rfl
end Ob

set_option Elab.async false
set_option linter.all false
set_option maxRecDepth 100000
set_option maxHeartbeats 1000000
namespace Ob
open PySem PySem.Spec PyProof.Rows L2
open LamX (Tabs TabB TabS ExtN)

set_option hygiene false in
local macro_rules
  | `(tactic| kp_flats) => `(tactic| first
    | assumption
    | exact upd_same
    | (apply atNew; assumption; kp_flats)
    | (apply atNe; (next => kbo_bools); kp_flats)
    | (apply atSame; assumption; kp_flats)
    | (apply atKp; assumption; (next => kaf_pre); kp_flats))
set_option hygiene false in
local macro_rules
  | `(tactic| kaf_pre) => `(tactic| first
    | assumption
    | exact not_nil
    | (apply not_cons; (next => kbo_bools); kaf_pre)
    | (apply not_app; (next => kaf_pre); kaf_pre))
set_option hygiene false in
local macro_rules
  | `(tactic| kbo_bools) => `(tactic| first
    | assumption
    | (apply Ne.symm; assumption)
    | (apply neN; assumption; kp_flats)
    | (apply neN'; assumption; kp_flats))
set_option hygiene false in
local macro_rules
  | `(tactic| o_reads) => `(tactic| first
    | with_reducible rfl
    | assumption
    | rfl
    | kp_flats
    | (show SqL _ _ _ _; first | assumption | (apply sqlOf; kp_flats) | (apply sqlSame; assumption; o_reads))
    | (show SqT _ _ _ _; first | assumption | (apply sqtOf; kp_flats) | (apply sqtAll; assumption) | (apply sqtSame; assumption; o_reads))
    | (show Cls _ _; first | exact T.cl_Unions)
    | (show NoAttr _ _ _; first | exact T.n_Unions_groups | exact T.n_Unions_parents | exact T.n_Unions_counts | exact T.n_Unions_moved)
    | (apply Or.inl; o_reads)
    | (apply Or.inr; o_reads)
    | (apply And.intro; (next => o_reads); o_reads)
    | (apply Exists.intro; o_reads)
    | exact Nat.le_of_ble_eq_true rfl
    | exact Nat.succ_ne_zero _
    | (show Fr _ _; kba_ints)
    | (show Same _ _; kd_subs)
    | (show Kp _ _ _; kxs_still)
    | (show (_ : Nat) ≤ _; simp only [List.length_append, List.length_map, List.length_cons, List.length_nil, List.length_take, List.length_drop, List.length_replicate, List.length_range, sizeLine_eq]; omega)
    | (show _ = none; apply Fr.h; kba_ints)
    | (show Bag _ _; first | assumption | (apply bag_putF; assumption; o_reads) | (apply bag_neF; (next => kbo_bools); o_reads) | (apply bag_kpR; assumption; (next => kaf_pre); o_reads))
    | omega
    | decide)
local macro_rules
  | `(tactic| o_readsAll) => `(tactic| repeat (first
    | (refine fun (pNew : Addr) (nNew : _ = none) => ?_; replace nNew := Fr.mk nNew)
    | (refine fun (xNew dNew : Addr) (nNew : _ = none) (mNew : _ = none) (eNew : dNew ≠ xNew) => ?_; replace nNew := Fr.mk nNew; replace mNew := Fr.mk mNew)
    | (apply And.intro; next => o_reads)
    | apply Exists.intro (α := V)
    | apply Exists.intro (α := Addr)
    | apply Exists.intro (α := Int)
    | apply Exists.intro (α := Bool)
    | apply Exists.intro (α := List V)
    | apply Exists.intro (α := List Nat)
    | apply Exists.intro (α := List (Str × V))
    | apply Exists.intro (α := List _)
    | apply Exists.intro (α := Str)
    | apply Exists.intro (α := HO)
    | apply Exists.intro (α := Sp)
    | apply Exists.intro (α := VK)))
set_option hygiene false in
local macro_rules
  | `(tactic| kba_ints) => `(tactic| first
    | assumption
    | (apply frUp; (first | assumption | (apply Ne.symm; assumption)); kba_ints)
    | (apply noneOf; assumption; intro oF eF; apply Exists.intro; kp_flats)
    | (apply frUp; (next => kbo_bools); kba_ints))
set_option hygiene false in
local macro_rules
  | `(tactic| kxs_still) => `(tactic| first
    | assumption
    | exact kp_refl _ _
    | (apply kp_newF; assumption; kxs_still)
    | (apply kp_new; assumption; kxs_still)
    | (apply kp_up; (next => o_fieldsN); kxs_still)
    | (apply kp_new; (next => kba_ints); kxs_still)
    | (apply kp_sameR; assumption; kxs_still)
    | (apply kp_transR; assumption; kxs_still)
    | (apply kp_freshR; assumption; (next => kaf_suf); kxs_still))
set_option hygiene false in
local macro_rules
  | `(tactic| kaf_suf) => `(tactic| first
    | assumption
    | exact subNil
    | (apply subCons; (first | (apply Or.inl; o_fieldsN) | (apply Or.inr; kba_ints)); kaf_suf)
    | (apply subApp; (next => kaf_suf); kaf_suf))
set_option hygiene false in
local macro_rules
  | `(tactic| o_fieldsN) => `(tactic| first
    | assumption
    | exact memA
    | (apply memB; o_fieldsN)
    | (apply memL; o_fieldsN)
    | (apply memR; o_fieldsN))
set_option hygiene false in
local macro_rules
  | `(tactic| kd_subs) => `(tactic| first
    | assumption
    | exact Same.refl _
    | (apply same_putF; assumption; kd_subs)
    | (apply same_putG; assumption; kd_subs)
    | (apply same_putF; (next => kba_ints); kd_subs)
    | (apply same_transR; assumption; kd_subs))

set_option pp.maxSteps 900
/-! ### the questions of a walk -/
def asksOf (bs : List Bool) (f n : Nat) : List Nat := (List.range' f n).filter fun i => decide (bs[i]? = some true)
def isAskE (e : Str × Nat) : Bool := decide (e.1 = "ask")
theorem asks_app (bs : List Bool) (f a b : Nat) : asksOf bs f (a + b) = asksOf bs f a ++ asksOf bs (f + a) b := by
  unfold asksOf
  rw [← List.filter_append, List.range'_append_1]
theorem asked_iff {bs : List Bool} {f s : Nat} : askedIn bs f s = true ↔ ∃ i, f ≤ i ∧ i < f + s ∧ bs[i]? = some true := by
  unfold askedIn
  rw [List.any_eq_true]
  constructor
  · rintro ⟨b, m, e⟩
    have e : b = true := e
    subst e
    obtain ⟨n, hn⟩ := List.getElem?_of_mem m
    have hl := (List.getElem?_eq_some_iff.mp hn).1
    rw [List.length_take] at hl
    rw [List.getElem?_take_of_lt (by omega), List.getElem?_drop] at hn
    exact ⟨f + n, by omega, by omega, hn⟩
  · rintro ⟨i, h1, h2, h3⟩
    refine ⟨true, List.mem_of_getElem? (i := i - f) ?_, rfl⟩
    rw [List.getElem?_take_of_lt (by omega), List.getElem?_drop, show f + (i - f) = i by omega]
    exact h3
theorem asks_none {bs : List Bool} {f s : Nat} (h : ¬ askedIn bs f s = true) : asksOf bs f s = [] := List.filter_eq_nil_iff.mpr fun i m z => by
  rw [List.mem_range'_1] at m
  exact h (asked_iff.mpr ⟨i, m.1, m.2, of_decide_eq_true z⟩)
theorem ask_ps {ns : List Nat} : (pushW ns).filter isAskE = [] := List.filter_eq_nil_iff.mpr fun e m => by
  obtain ⟨i, _, rfl⟩ := List.mem_map.mp m
  exact fun z => wPA (of_decide_eq_true z)
theorem ask_po {ns : List Nat} : (popW ns).filter isAskE = [] := List.filter_eq_nil_iff.mpr fun e m => by
  obtain ⟨i, _, rfl⟩ := List.mem_map.mp m
  exact fun z => wOA (of_decide_eq_true z)
/-- each question once, in order -/
theorem walk_asks {N : Nat → Nat → List Nat} {bs : List Bool} : ∀ {k f : Nat}, (walkW N bs k f).filter isAskE = (asksOf bs f (2 ^ k)).map fun i => (("ask" : Str), i)
  | 0, f => by
    unfold walkW
    split
    · rename_i c
      rw [List.filter_append, List.filter_append, ask_ps, ask_po]
      have h1 : asksOf bs f (2 ^ 0) = [f] := by
        show ([f].filter fun i => decide (bs[i]? = some true)) = [f]
        rw [List.filter_cons_of_pos (p := fun i => decide (bs[i]? = some true)) (decide_eq_true (asked_one c))]
        rfl
      rw [h1]
      show [] ++ ([(("ask" : Str), f)].filter isAskE) ++ [] = _
      rw [List.filter_cons_of_pos (p := isAskE) (decide_eq_true rfl)]
      rfl
    · rename_i c
      rw [show (2 : Nat) ^ 0 = 1 from rfl, asks_none c]
      rfl
  | k + 1, f => by
    have h3 : (2 : Nat) ^ (k + 1) = 2 ^ k + 2 ^ k := by rw [Nat.pow_succ]; omega
    unfold walkW
    split
    · rw [List.filter_append, List.filter_append, ask_ps, ask_po, List.nil_append, List.append_nil, List.filter_append, walk_asks, walk_asks, h3, asks_app, List.map_append]
    · rename_i c
      rw [asks_none c]
      rfl
/-- no member at a node with a question: the questions alone -/
theorem walk_alone {N : Nat → Nat → List Nat} {bs : List Bool} (h : ∀ f s, askedIn bs f s = true → N f s = []) : ∀ {k f : Nat}, walkW N bs k f = (asksOf bs f (2 ^ k)).map fun i => (("ask" : Str), i)
  | 0, f => by
    have hw := walk_asks (N := N) (bs := bs) (k := 0) (f := f)
    unfold walkW at hw ⊢
    split
    · rename_i c
      rw [if_pos c, h f 1 c] at hw
      rw [h f 1 c, ← hw]
      show [(("ask" : Str), f)] = [(("ask" : Str), f)].filter isAskE
      rw [List.filter_cons_of_pos (p := isAskE) (decide_eq_true rfl)]
      rfl
    · rename_i c
      rw [if_neg c] at hw
      exact hw
  | k + 1, f => by
    have h3 : (2 : Nat) ^ (k + 1) = 2 ^ k + 2 ^ k := by rw [Nat.pow_succ]; omega
    unfold walkW
    split
    · rename_i c
      rw [h _ _ c, walk_alone h, walk_alone h, h3, asks_app, List.map_append]
      show [] ++ _ ++ [] = _
      rw [List.nil_append, List.append_nil]
    · rename_i c
      rw [asks_none c]
      rfl
theorem pcF_in : ∀ {u a r : Nat} {x : Nat × Nat}, x ∈ pcF u a r → a ≤ x.1 ∧ x.1 + x.2 ≤ a + r
  | 0, a, r, x, h => nomatch h
  | u + 1, a, r, x, h => by
    by_cases hr : r = 0
    · rw [hr, pcF_zero] at h
      cases h
    · rw [pcF_pos hr] at h
      have hs := szP_le (a := a) hr
      rcases List.mem_cons.mp h with h | h
      · rw [h]
        exact ⟨Nat.le_refl _, by show a + szP a r ≤ a + r; omega⟩
      · have := pcF_in h
        omega
theorem addP_in {i x f s : Nat} : ∀ {ps : List (Nat × Nat)} {N : Nat → Nat → List Nat}, x ∈ addP N i ps f s → x ∈ N f s ∨ (x = i ∧ (f, s) ∈ ps)
  | [], N, h => .inl h
  | p :: ps, N, h => by
    have h : x ∈ addP (addN N p.1 p.2 i) i ps f s := h
    rcases addP_in h with h | ⟨h, h2⟩
    · unfold addN at h
      split at h
      · rename_i c
        rcases List.mem_append.mp h with h | h
        · exact .inl h
        · exact .inr ⟨List.mem_singleton.mp h, by rw [c.1, c.2]; exact List.mem_cons_self⟩
      · exact .inl h
    · exact .inr ⟨h, List.mem_cons_of_mem _ h2⟩
theorem fold_in {x f s : Nat} : ∀ {es : List (Nat × Nat)} {N : Nat → Nat → List Nat}, x ∈ es.foldl (fun N ie => addP N ie.1 (pcF 201 ie.1 (ie.2 - ie.1))) N f s → x ∈ N f s ∨ ∃ e ∈ es, e.1 = x ∧ (f, s) ∈ pcF 201 e.1 (e.2 - e.1)
  | [], N, h => .inl h
  | e :: es, N, h => by
    rw [List.foldl_cons] at h
    rcases fold_in h with h | ⟨e', m, h⟩
    · rcases addP_in h with h | ⟨h, h2⟩
      · exact .inl h
      · exact .inr ⟨e, List.mem_cons_self, h.symm, h2⟩
    · exact .inr ⟨e', List.mem_cons_of_mem _ m, h⟩
/-- a member's nodes lie within its time -/
theorem nodes_in {es : List (Nat × Nat)} {x f s : Nat} (h : x ∈ nodesOf es f s) : ∃ e ∈ es, e.1 = x ∧ e.1 ≤ f ∧ f + s ≤ e.1 + (e.2 - e.1) := by
  obtain ⟨e, m, h1, h2⟩ := (fold_in h).resolve_left fun z => nomatch z
  have := pcF_in h2
  exact ⟨e, m, h1, this.1, this.2⟩
/-- nobody is present at a question: the questions alone -/
theorem plan_alone {hs : List HEv} {j : Nat} (h : ∀ e ∈ endsU hs hs.length, ∀ i, e.1 ≤ i → i < e.2 → (hs.map HEv.isAsk)[i]? ≠ some true) : planW hs j = (asksOf (hs.map HEv.isAsk) 0 (2 ^ j)).map fun i => (("ask" : Str), i) := walk_alone fun f s a => by
  refine List.eq_nil_iff_forall_not_mem.mpr fun x m => ?_
  obtain ⟨e, me, _, h1, h2⟩ := nodes_in m
  obtain ⟨i, i1, i2, i3⟩ := asked_iff.mp a
  exact h e me i (by omega) (by omega) i3
/-! ### pushes less pops -/
def cntE (e : Str × Nat) : Int := (if e.1 = "push" then 1 else 0) - (if e.1 = "pop" then 1 else 0)
def cntW : List (Str × Nat) → Int
  | [] => 0
  | e :: l => cntE e + cntW l
theorem cnt_app : ∀ {a b : List (Str × Nat)}, cntW (a ++ b) = cntW a + cntW b
  | [], b => (Int.zero_add _).symm
  | e :: a, b => by
    show cntE e + cntW (a ++ b) = cntE e + cntW a + cntW b
    rw [cnt_app, Int.add_assoc]
theorem run_cnt : ∀ {l : List (Str × Nat)} {S : List Nat}, l.length ≤ S.length → ((runW S l).length : Int) = S.length + cntW l
  | [], S, _ => (Int.add_zero _).symm
  | e :: l, S, h => by
    have h0 : l.length + 1 ≤ S.length := h
    have e1 : runW S (e :: l) = runW (stepS S e) l := rfl
    have e2 : cntW (e :: l) = ((if e.1 = "push" then 1 else 0) - (if e.1 = "pop" then 1 else 0)) + cntW l := rfl
    rw [e1, e2]
    unfold stepS
    by_cases c1 : e.1 = "push"
    · have n : ¬ e.1 = "pop" := by rw [c1]; decide +kernel
      rw [if_pos c1, if_pos c1, if_neg n, run_cnt (by rw [List.length_append]; omega), List.length_append]
      show ((S.length + 1 : Nat) : Int) + _ = _
      omega
    · rw [if_neg c1, if_neg c1]
      by_cases c2 : e.1 = "pop"
      · rw [if_pos c2, if_pos c2, run_cnt (by rw [List.length_dropLast]; omega), List.length_dropLast]
        omega
      · rw [if_neg c2, if_neg c2, run_cnt (by omega)]
        omega
theorem cnt_walk {N : Nat → Nat → List Nat} {bs : List Bool} {k f : Nat} : cntW (walkW N bs k f) = 0 := by
  have h := run_cnt (l := walkW N bs k f) (S := List.replicate (walkW N bs k f).length 0) (by rw [List.length_replicate]; exact Nat.le_refl _)
  rw [run_walk] at h
  omega
/-- at a question as many are held as are present -/
theorem cnt_plan {hs : List HEv} {j i : Nat} {tr z : List (Str × Nat)} (hok : HOk hs) (hl : hs.length ≤ 2 ^ j) (hj : j ≤ 12) (h : tr ++ (("ask" : Str), i) :: z = planW hs j) : cntW tr = (presU hs i).length := by
  have hr := run_ask (S := List.replicate tr.length 0) h
  have hc := run_cnt (l := tr) (S := List.replicate tr.length 0) (by rw [List.length_replicate]; exact Nat.le_refl _)
  rw [hr.1, List.length_append] at hc
  have hp := path_held (k := j) (i := i) (es := endsU hs hs.length) hj (by omega) fun e m => by
    have := ends_lt (hs := hs) (Nat.le_refl _) e m
    omega
  have ha : ∃ v, hs[i]? = some (.ask v) := by
    rcases plan_ok (hs := hs) (j := j) (("ask" : Str), i) (by rw [← h]; exact List.mem_append.mpr (.inr List.mem_cons_self)) with ⟨w | w, _⟩ | ⟨_, w⟩
    · exact absurd w.symm wPA
    · exact absurd w.symm wOA
    · exact w
  have hi : i < hs.length := by
    obtain ⟨v, hv⟩ := ha
    exact (List.getElem?_eq_some_iff.mp hv).1
  have hl2 := held_later (i := i) hok hi ha (Nat.le_of_lt hi) (Nat.le_refl _)
  have := hp.length_eq
  rw [hl2] at this
  omega
end Ob

set_option Elab.async false
set_option linter.all false
set_option maxRecDepth 100000
set_option maxHeartbeats 1000000
namespace Ob
open PySem PySem.Spec PyProof.Rows L2
open LamX (Tabs TabB TabS ExtN)

set_option hygiene false in
local macro_rules
  | `(tactic| kp_flats) => `(tactic| first
    | assumption
    | exact upd_same
    | (apply atNew; assumption; kp_flats)
    | (apply atNe; (next => kbo_bools); kp_flats)
    | (apply atSame; assumption; kp_flats)
    | (apply atKp; assumption; (next => kaf_pre); kp_flats))
set_option hygiene false in
local macro_rules
  | `(tactic| kaf_pre) => `(tactic| first
    | assumption
    | exact not_nil
    | (apply not_cons; (next => kbo_bools); kaf_pre)
    | (apply not_app; (next => kaf_pre); kaf_pre))
set_option hygiene false in
local macro_rules
  | `(tactic| kbo_bools) => `(tactic| first
    | assumption
    | (apply Ne.symm; assumption)
    | (apply neN; assumption; kp_flats)
    | (apply neN'; assumption; kp_flats))
set_option hygiene false in
local macro_rules
  | `(tactic| o_reads) => `(tactic| first
    | with_reducible rfl
    | assumption
    | rfl
    | kp_flats
    | (show SqL _ _ _ _; first | assumption | (apply sqlOf; kp_flats) | (apply sqlSame; assumption; o_reads))
    | (show SqT _ _ _ _; first | assumption | (apply sqtOf; kp_flats) | (apply sqtAll; assumption) | (apply sqtSame; assumption; o_reads))
    | (show Cls _ _; first | exact T.cl_Unions)
    | (show NoAttr _ _ _; first | exact T.n_Unions_groups | exact T.n_Unions_parents | exact T.n_Unions_counts | exact T.n_Unions_moved)
    | (apply Or.inl; o_reads)
    | (apply Or.inr; o_reads)
    | (apply And.intro; (next => o_reads); o_reads)
    | (apply Exists.intro; o_reads)
    | exact Nat.le_of_ble_eq_true rfl
    | exact Nat.succ_ne_zero _
    | (show Fr _ _; kba_ints)
    | (show Same _ _; kd_subs)
    | (show Kp _ _ _; kxs_still)
    | (show (_ : Nat) ≤ _; simp only [List.length_append, List.length_map, List.length_cons, List.length_nil, List.length_take, List.length_drop, List.length_replicate, List.length_range, sizeLine_eq]; omega)
    | (show _ = none; apply Fr.h; kba_ints)
    | (show Bag _ _; first | assumption | (apply bag_putF; assumption; o_reads) | (apply bag_neF; (next => kbo_bools); o_reads) | (apply bag_kpR; assumption; (next => kaf_pre); o_reads))
    | omega
    | decide)
local macro_rules
  | `(tactic| o_readsAll) => `(tactic| repeat (first
    | (refine fun (pNew : Addr) (nNew : _ = none) => ?_; replace nNew := Fr.mk nNew)
    | (refine fun (xNew dNew : Addr) (nNew : _ = none) (mNew : _ = none) (eNew : dNew ≠ xNew) => ?_; replace nNew := Fr.mk nNew; replace mNew := Fr.mk mNew)
    | (apply And.intro; next => o_reads)
    | apply Exists.intro (α := V)
    | apply Exists.intro (α := Addr)
    | apply Exists.intro (α := Int)
    | apply Exists.intro (α := Bool)
    | apply Exists.intro (α := List V)
    | apply Exists.intro (α := List Nat)
    | apply Exists.intro (α := List (Str × V))
    | apply Exists.intro (α := List _)
    | apply Exists.intro (α := Str)
    | apply Exists.intro (α := HO)
    | apply Exists.intro (α := Sp)
    | apply Exists.intro (α := VK)))
set_option hygiene false in
local macro_rules
  | `(tactic| kba_ints) => `(tactic| first
    | assumption
    | (apply frUp; (first | assumption | (apply Ne.symm; assumption)); kba_ints)
    | (apply noneOf; assumption; intro oF eF; apply Exists.intro; kp_flats)
    | (apply frUp; (next => kbo_bools); kba_ints))
set_option hygiene false in
local macro_rules
  | `(tactic| kxs_still) => `(tactic| first
    | assumption
    | exact kp_refl _ _
    | (apply kp_newF; assumption; kxs_still)
    | (apply kp_new; assumption; kxs_still)
    | (apply kp_up; (next => o_fieldsN); kxs_still)
    | (apply kp_new; (next => kba_ints); kxs_still)
    | (apply kp_sameR; assumption; kxs_still)
    | (apply kp_transR; assumption; kxs_still)
    | (apply kp_freshR; assumption; (next => kaf_suf); kxs_still))
set_option hygiene false in
local macro_rules
  | `(tactic| kaf_suf) => `(tactic| first
    | assumption
    | exact subNil
    | (apply subCons; (first | (apply Or.inl; o_fieldsN) | (apply Or.inr; kba_ints)); kaf_suf)
    | (apply subApp; (next => kaf_suf); kaf_suf))
set_option hygiene false in
local macro_rules
  | `(tactic| o_fieldsN) => `(tactic| first
    | assumption
    | exact memA
    | (apply memB; o_fieldsN)
    | (apply memL; o_fieldsN)
    | (apply memR; o_fieldsN))
set_option hygiene false in
local macro_rules
  | `(tactic| kd_subs) => `(tactic| first
    | assumption
    | exact Same.refl _
    | (apply same_putF; assumption; kd_subs)
    | (apply same_putG; assumption; kd_subs)
    | (apply same_putF; (next => kba_ints); kd_subs)
    | (apply same_transR; assumption; kd_subs))

set_option pp.maxSteps 900
/-! ### histories in parts -/
def presF : Nat → List Nat → List HEv → List Nat
  | _, ps, [] => ps
  | k, ps, e :: l => presF (k + 1) (stepP k ps e) l
def okF : Nat → List Nat → List HEv → Prop
  | _, _, [] => True
  | k, ps, e :: l => (∀ i, e = .rem i → i ∈ ps) ∧ okF (k + 1) (stepP k ps e) l
theorem presF_app : ∀ {a b : List HEv} {k : Nat} {ps : List Nat}, presF k ps (a ++ b) = presF (k + a.length) (presF k ps a) b
  | [], b, k, ps => rfl
  | e :: a, b, k, ps => by
    show presF (k + 1) (stepP k ps e) (a ++ b) = presF (k + (a.length + 1)) (presF (k + 1) (stepP k ps e) a) b
    rw [presF_app, show k + 1 + a.length = k + (a.length + 1) by omega]
theorem okF_app : ∀ {a b : List HEv} {k : Nat} {ps : List Nat}, okF k ps (a ++ b) ↔ okF k ps a ∧ okF (k + a.length) (presF k ps a) b
  | [], b, k, ps => ⟨fun h => ⟨True.intro, h⟩, fun h => h.2⟩
  | e :: a, b, k, ps => by
    show (_ ∧ okF (k + 1) (stepP k ps e) (a ++ b)) ↔ (_ ∧ okF (k + 1) (stepP k ps e) a) ∧ okF (k + (a.length + 1)) (presF (k + 1) (stepP k ps e) a) b
    rw [okF_app, show k + 1 + a.length = k + (a.length + 1) by omega, and_assoc]
theorem pres_take {hs : List HEv} : ∀ {k : Nat}, k ≤ hs.length → presU hs k = presF 0 [] (hs.take k)
  | 0, _ => rfl
  | k + 1, h => by
    obtain ⟨e, hee, _, hp⟩ := ends_step (hs := hs) (k := k) h
    rw [hp, List.take_succ, hee, pres_take (k := k) (by omega)]
    show _ = presF 0 [] (hs.take k ++ [e])
    rw [presF_app, List.length_take, Nat.zero_add, Nat.min_eq_left (by omega)]
    rfl
theorem hok_of {hs : List HEv} (h : okF 0 [] hs) : HOk hs := fun k i e => by
  have hk : k < hs.length := (List.getElem?_eq_some_iff.mp e).1
  rw [pres_take (by omega)]
  have h2 : hs = hs.take k ++ .rem i :: hs.drop (k + 1) := by
    have h3 : hs[k] = .rem i := (List.getElem?_eq_some_iff.mp e).2
    rw [← h3, List.getElem_cons_drop, List.take_append_drop]
  rw [h2] at h
  exact (okF_app.mp h).2.1 i rfl
theorem okF_of {hs : List HEv} (h : HOk hs) : ∀ {k : Nat}, k ≤ hs.length → okF 0 [] (hs.take k)
  | 0, _ => True.intro
  | k + 1, hk => by
    rw [List.take_succ, List.getElem?_eq_getElem (show k < hs.length by omega)]
    refine okF_app.mpr ⟨okF_of h (by omega), fun i e => ?_, True.intro⟩
    rw [← pres_take (by omega)]
    exact h k i (by rw [List.getElem?_eq_getElem (show k < hs.length by omega), e])
/-- one more entry -/
theorem hok_add {hs : List HEv} {e : HEv} (h : HOk hs) (he : ∀ i, e = .rem i → i ∈ presU hs hs.length) : HOk (hs ++ [e]) := hok_of (okF_app.mpr ⟨by
  have := okF_of h (Nat.le_refl hs.length)
  rw [List.take_length] at this
  exact this, fun i z => by
  have := he i z
  rw [pres_take (Nat.le_refl _), List.take_length] at this
  exact this, True.intro⟩)
theorem pres_add {hs : List HEv} {e : HEv} : presU (hs ++ [e]) (hs ++ [e]).length = stepP hs.length (presU hs hs.length) e := by
  rw [pres_take (Nat.le_refl _), List.take_length, presF_app, pres_take (Nat.le_refl _), List.take_length, Nat.zero_add]
  rfl
/-! .. of additions, of questions, of removals -/
theorem addsF : ∀ {l : List HEv} {k : Nat} {ps : List Nat}, (∀ e ∈ l, ∃ v, e = .add v) → presF k ps l = ps ++ List.range' k l.length ∧ okF k ps l
  | [], k, ps, _ => ⟨(List.append_nil _).symm, True.intro⟩
  | e :: l, k, ps, h => by
    obtain ⟨v, rfl⟩ := h e List.mem_cons_self
    obtain ⟨h1, h2⟩ := addsF (l := l) (k := k + 1) (ps := ps ++ [k]) fun e m => h e (List.mem_cons_of_mem _ m)
    refine ⟨?_, ⟨(fun i z => by cases z), h2⟩⟩
    show presF (k + 1) (ps ++ [k]) l = _
    rw [h1, List.append_assoc]
    rfl
theorem asksF : ∀ {l : List HEv} {k : Nat} {ps : List Nat}, (∀ e ∈ l, ∃ v, e = .ask v) → presF k ps l = ps ∧ okF k ps l
  | [], k, ps, _ => ⟨rfl, True.intro⟩
  | e :: l, k, ps, h => by
    obtain ⟨v, rfl⟩ := h e List.mem_cons_self
    obtain ⟨h1, h2⟩ := asksF (l := l) (k := k + 1) (ps := ps) fun e m => h e (List.mem_cons_of_mem _ m)
    exact ⟨h1, ⟨(fun i z => by cases z), h2⟩⟩
theorem remsF : ∀ {m k : Nat}, presF k (List.range m) ((List.range m).reverse.map HEv.rem) = [] ∧ okF k (List.range m) ((List.range m).reverse.map HEv.rem)
  | 0, k => ⟨rfl, True.intro⟩
  | m + 1, k => by
    have e1 : (List.range (m + 1)).reverse.map HEv.rem = .rem m :: (List.range m).reverse.map HEv.rem := by
      rw [List.range_succ, List.reverse_append]
      rfl
    have e2 : stepP k (List.range (m + 1)) (.rem m) = List.range m := by
      show (List.range (m + 1)).filter (fun j => decide (j ≠ m)) = _
      rw [List.range_succ, List.filter_append, List.filter_cons_of_neg (p := fun j => decide (j ≠ m)) (fun z => of_decide_eq_true z rfl), List.filter_nil, List.append_nil]
      exact List.filter_eq_self.mpr fun a ha => decide_eq_true (Nat.ne_of_lt (List.mem_range.mp ha))
    rw [e1]
    show presF (k + 1) (stepP k (List.range (m + 1)) (.rem m)) _ = [] ∧ _ ∧ okF (k + 1) (stepP k (List.range (m + 1)) (.rem m)) _
    rw [e2]
    obtain ⟨h1, h2⟩ := remsF (m := m) (k := k + 1)
    refine ⟨h1, fun i z => ?_, h2⟩
    injection z with z
    rw [← z]
    exact List.mem_range.mpr (Nat.lt_succ_self _)
/-! ### the questions of a history -/
def valH (hs : List HEv) (i : Nat) : V := match hs[i]? with
  | some e => e.v
  | none => .non
theorem asks_more {bs : List Bool} {n : Nat} (h : bs.length ≤ n) : asksOf bs 0 n = asksOf bs 0 bs.length := by
  rw [show n = bs.length + (n - bs.length) by omega, asks_app, asks_none (s := n - bs.length), List.append_nil]
  intro z
  obtain ⟨i, h1, _, h3⟩ := asked_iff.mp z
  have := (List.getElem?_eq_some_iff.mp h3).1
  omega
theorem asks_vals : ∀ {hs pre : List HEv}, (asksOf ((pre ++ hs).map HEv.isAsk) pre.length hs.length).map (valH (pre ++ hs)) = (hs.filter HEv.isAsk).map HEv.v
  | [], pre => rfl
  | e :: hs, pre => by
    have ih := asks_vals (hs := hs) (pre := pre ++ [e])
    rw [List.append_assoc, List.length_append] at ih
    have ih : (asksOf ((pre ++ e :: hs).map HEv.isAsk) (pre.length + 1) hs.length).map (valH (pre ++ e :: hs)) = (hs.filter HEv.isAsk).map HEv.v := ih
    have hat : (pre ++ e :: hs)[pre.length]? = some e := by
      rw [List.getElem?_append_right (Nat.le_refl _), Nat.sub_self]
      rfl
    have h1 : (e :: hs).length = 1 + hs.length := by rw [List.length_cons, Nat.add_comm]
    rw [h1, asks_app, List.map_append, ih]
    have h2 : asksOf ((pre ++ e :: hs).map HEv.isAsk) pre.length 1 = if e.isAsk = true then [pre.length] else [] := by
      show ([pre.length].filter fun i => decide (((pre ++ e :: hs).map HEv.isAsk)[i]? = some true)) = _
      rw [List.filter_cons, List.filter_nil, List.getElem?_map, hat]
      cases e <;> rfl
    rw [h2, List.filter_cons]
    split
    · show valH (pre ++ e :: hs) pre.length :: _ = e.v :: _
      unfold valH
      rw [hat]
      rfl
    · rfl
/-- what a walk asks: the passed objects of the questions, in order -/
theorem plan_asks {hs : List HEv} {j : Nat} (h : hs.length ≤ 2 ^ j) : ((planW hs j).filter isAskE).map (fun e => valH hs e.2) = (hs.filter HEv.isAsk).map HEv.v := by
  have h1 := walk_asks (N := nodesOf (endsU hs hs.length)) (bs := hs.map HEv.isAsk) (k := j) (f := 0)
  have h2 : (planW hs j).filter isAskE = (asksOf (hs.map HEv.isAsk) 0 (2 ^ j)).map fun i => (("ask" : Str), i) := h1
  rw [h2, List.map_map, asks_more (by rw [List.length_map]; exact h), List.length_map]
  exact asks_vals (pre := [])
theorem ask_len {hs : List HEv} {j : Nat} (h : hs.length ≤ 2 ^ j) : ((planW hs j).filter isAskE).length = (hs.filter HEv.isAsk).length := by
  have := congrArg List.length (plan_asks h)
  rw [List.length_map, List.length_map] at this
  exact this
/-- nobody is present at a question -/
theorem plan_free {hs : List HEv} {j : Nat} (hok : HOk hs) (h : ∀ i v, hs[i]? = some (.ask v) → presU hs i = []) : planW hs j = (asksOf (hs.map HEv.isAsk) 0 (2 ^ j)).map fun i => (("ask" : Str), i) := plan_alone fun e me i h1 h2 z => by
  rw [List.getElem?_map] at z
  obtain ⟨x, hx, h3⟩ := Option.map_eq_some_iff.mp z
  match x, hx, h3 with
  | .ask v, hx, _ =>
    have hi : i < hs.length := (List.getElem?_eq_some_iff.mp hx).1
    have hl := held_later (i := i) hok hi ⟨v, hx⟩ (Nat.le_of_lt hi) (Nat.le_refl _)
    rw [h i v hx] at hl
    have : e.1 ∈ heldAt (endsU hs hs.length) i := List.mem_map.mpr ⟨e, List.mem_filter.mpr ⟨me, decide_eq_true ⟨h1, h2⟩⟩, rfl⟩
    rw [hl] at this
    cases this
theorem filter_all {hs : List HEv} {j : Nat} (hok : HOk hs) (h : ∀ i v, hs[i]? = some (.ask v) → presU hs i = []) : (planW hs j).filter isAskE = planW hs j := by
  have h1 := walk_asks (N := nodesOf (endsU hs hs.length)) (bs := hs.map HEv.isAsk) (k := j) (f := 0)
  have h2 : (planW hs j).filter isAskE = (asksOf (hs.map HEv.isAsk) 0 (2 ^ j)).map fun i => (("ask" : Str), i) := h1
  rw [h2, ← plan_free hok h]
end Ob

set_option Elab.async false
set_option linter.all false
set_option maxRecDepth 100000
set_option maxHeartbeats 1000000
namespace Ob
open PySem PySem.Spec PyProof.Rows L2
open LamX (Tabs TabB TabS ExtN)

set_option hygiene false in
local macro_rules
  | `(tactic| kp_flats) => `(tactic| first
    | assumption
    | exact upd_same
    | (apply atNew; assumption; kp_flats)
    | (apply atNe; (next => kbo_bools); kp_flats)
    | (apply atSame; assumption; kp_flats)
    | (apply atKp; assumption; (next => kaf_pre); kp_flats))
set_option hygiene false in
local macro_rules
  | `(tactic| kaf_pre) => `(tactic| first
    | assumption
    | exact not_nil
    | (apply not_cons; (next => kbo_bools); kaf_pre)
    | (apply not_app; (next => kaf_pre); kaf_pre))
set_option hygiene false in
local macro_rules
  | `(tactic| kbo_bools) => `(tactic| first
    | assumption
    | (apply Ne.symm; assumption)
    | (apply neN; assumption; kp_flats)
    | (apply neN'; assumption; kp_flats))
set_option hygiene false in
local macro_rules
  | `(tactic| o_reads) => `(tactic| first
    | with_reducible rfl
    | assumption
    | rfl
    | kp_flats
    | (show SqL _ _ _ _; first | assumption | (apply sqlOf; kp_flats) | (apply sqlSame; assumption; o_reads))
    | (show SqT _ _ _ _; first | assumption | (apply sqtOf; kp_flats) | (apply sqtAll; assumption) | (apply sqtSame; assumption; o_reads))
    | (show Cls _ _; first | exact T.cl_Unions)
    | (show NoAttr _ _ _; first | exact T.n_Unions_groups | exact T.n_Unions_parents | exact T.n_Unions_counts | exact T.n_Unions_moved)
    | (apply Or.inl; o_reads)
    | (apply Or.inr; o_reads)
    | (apply And.intro; (next => o_reads); o_reads)
    | (apply Exists.intro; o_reads)
    | exact Nat.le_of_ble_eq_true rfl
    | exact Nat.succ_ne_zero _
    | (show Fr _ _; kba_ints)
    | (show Same _ _; kd_subs)
    | (show Kp _ _ _; kxs_still)
    | (show (_ : Nat) ≤ _; simp only [List.length_append, List.length_map, List.length_cons, List.length_nil, List.length_take, List.length_drop, List.length_replicate, List.length_range, sizeLine_eq]; omega)
    | (show _ = none; apply Fr.h; kba_ints)
    | (show Bag _ _; first | assumption | (apply bag_putF; assumption; o_reads) | (apply bag_neF; (next => kbo_bools); o_reads) | (apply bag_kpR; assumption; (next => kaf_pre); o_reads))
    | omega
    | decide)
local macro_rules
  | `(tactic| o_readsAll) => `(tactic| repeat (first
    | (refine fun (pNew : Addr) (nNew : _ = none) => ?_; replace nNew := Fr.mk nNew)
    | (refine fun (xNew dNew : Addr) (nNew : _ = none) (mNew : _ = none) (eNew : dNew ≠ xNew) => ?_; replace nNew := Fr.mk nNew; replace mNew := Fr.mk mNew)
    | (apply And.intro; next => o_reads)
    | apply Exists.intro (α := V)
    | apply Exists.intro (α := Addr)
    | apply Exists.intro (α := Int)
    | apply Exists.intro (α := Bool)
    | apply Exists.intro (α := List V)
    | apply Exists.intro (α := List Nat)
    | apply Exists.intro (α := List (Str × V))
    | apply Exists.intro (α := List _)
    | apply Exists.intro (α := Str)
    | apply Exists.intro (α := HO)
    | apply Exists.intro (α := Sp)
    | apply Exists.intro (α := VK)))
set_option hygiene false in
local macro_rules
  | `(tactic| kba_ints) => `(tactic| first
    | assumption
    | (apply frUp; (first | assumption | (apply Ne.symm; assumption)); kba_ints)
    | (apply noneOf; assumption; intro oF eF; apply Exists.intro; kp_flats)
    | (apply frUp; (next => kbo_bools); kba_ints))
set_option hygiene false in
local macro_rules
  | `(tactic| kxs_still) => `(tactic| first
    | assumption
    | exact kp_refl _ _
    | (apply kp_newF; assumption; kxs_still)
    | (apply kp_new; assumption; kxs_still)
    | (apply kp_up; (next => o_fieldsN); kxs_still)
    | (apply kp_new; (next => kba_ints); kxs_still)
    | (apply kp_sameR; assumption; kxs_still)
    | (apply kp_transR; assumption; kxs_still)
    | (apply kp_freshR; assumption; (next => kaf_suf); kxs_still))
set_option hygiene false in
local macro_rules
  | `(tactic| kaf_suf) => `(tactic| first
    | assumption
    | exact subNil
    | (apply subCons; (first | (apply Or.inl; o_fieldsN) | (apply Or.inr; kba_ints)); kaf_suf)
    | (apply subApp; (next => kaf_suf); kaf_suf))
set_option hygiene false in
local macro_rules
  | `(tactic| o_fieldsN) => `(tactic| first
    | assumption
    | exact memA
    | (apply memB; o_fieldsN)
    | (apply memL; o_fieldsN)
    | (apply memR; o_fieldsN))
set_option hygiene false in
local macro_rules
  | `(tactic| kd_subs) => `(tactic| first
    | assumption
    | exact Same.refl _
    | (apply same_putF; assumption; kd_subs)
    | (apply same_putG; assumption; kd_subs)
    | (apply same_putF; (next => kba_ints); kd_subs)
    | (apply same_transR; assumption; kd_subs))

set_option pp.maxSteps 900
/-! ### what is popped -/
theorem no_popA {ns : List Nat} {i : Nat} {tr z : List (Str × Nat)} (h : pushW ns = tr ++ (("pop" : Str), i) :: z) : False := by
  have m : (("pop" : Str), i) ∈ pushW ns := by rw [h]; exact List.mem_append.mpr (.inr List.mem_cons_self)
  obtain ⟨n, _, e⟩ := List.mem_map.mp m
  injection e with e _
  exact wOP2 e.symm
theorem pop_at : ∀ {ns : List Nat} {i : Nat} {S : List Nat} {tr z : List (Str × Nat)}, tr ++ (("pop" : Str), i) :: z = ns.map (fun i => (("pop" : Str), i)) → ∃ S', runW (S ++ ns.reverse) tr = S' ++ [i]
  | [], i, S, tr, z, h => by cases tr <;> cases h
  | n :: ns, i, S, [], z, h => by
    injection h with h _
    injection h with _ h
    exact ⟨S ++ ns.reverse, by rw [List.reverse_cons, ← List.append_assoc, h]; rfl⟩
  | n :: ns, i, S, t :: tr, z, h => by
    injection h with h1 h2
    obtain ⟨S', h3⟩ := pop_at (S := S) h2
    refine ⟨S', ?_⟩
    rw [h1]
    show runW (stepS (S ++ (n :: ns).reverse) ("pop", n)) tr = _
    have : stepS (S ++ (n :: ns).reverse) ("pop", n) = S ++ ns.reverse := by
      show (if ("pop" : Str) = "push" then _ else if ("pop" : Str) = "pop" then _ else _) = _
      rw [if_neg wOP2, if_pos rfl, List.reverse_cons, ← List.append_assoc, List.dropLast_concat]
    rw [this]
    exact h3
theorem pop_atW {ns : List Nat} {i : Nat} {S : List Nat} {tr z : List (Str × Nat)} (h : tr ++ (("pop" : Str), i) :: z = popW ns) : ∃ S', runW (S ++ ns) tr = S' ++ [i] := by
  have h2 := pop_at (S := S) (ns := ns.reverse) h
  rw [List.reverse_reverse] at h2
  exact h2
/-- what is popped is what was pushed last -/
theorem run_popA {N : Nat → Nat → List Nat} {bs : List Bool} : ∀ {k f i : Nat} {S : List Nat} {tr z : List (Str × Nat)}, tr ++ (("pop" : Str), i) :: z = walkW N bs k f → ∃ S', runW S tr = S' ++ [i]
  | 0, f, i, S, tr, z, h => by
    unfold walkW at h
    split at h
    · rcases split_app h with ⟨z', ha⟩ | ⟨tr', et, hb⟩
      · rcases split_app ha.symm with ⟨z2, hc⟩ | ⟨tr2, _, hd⟩
        · exact (no_popA hc).elim
        · match tr2, hd with
          | [], hd =>
            injection hd with hd _
            injection hd with hd _
            exact absurd hd (by decide +kernel)
          | t :: tr3, hd =>
            injection hd with _ hd
            cases tr3 <;> cases hd
      · rw [et, run_app, run_app, run_push]
        show ∃ S', runW (stepS (S ++ N f 1) ("ask", f)) tr' = _
        have : stepS (S ++ N f 1) ("ask", f) = S ++ N f 1 := by
          show (if ("ask" : Str) = "push" then _ else if ("ask" : Str) = "pop" then _ else _) = _
          rw [if_neg wAP2, if_neg wAO2]
        rw [this]
        exact pop_atW hb
    · cases tr <;> cases h
  | k + 1, f, i, S, tr, z, h => by
    unfold walkW at h
    split at h
    · rcases split_app h with ⟨z', ha⟩ | ⟨tr', et, hb⟩
      · rcases split_app ha.symm with ⟨z2, hc⟩ | ⟨tr2, et, hd⟩
        · exact (no_popA hc).elim
        · rw [et, run_app, run_push]
          rcases split_app hd with ⟨z3, he⟩ | ⟨tr3, et3, he⟩
          · exact run_popA he.symm
          · rw [et3, run_app, run_walk]
            exact run_popA he
      · rw [et, run_app, run_app, run_push, run_app, run_walk, run_walk]
        exact pop_atW hb
    · cases tr <;> cases h
/-! ### how many pushes -/
def cntK (w : Str) (l : List (Str × Nat)) : Nat := (l.filter fun e => decide (e.1 = w)).length
theorem cntK_app {w : Str} {a b : List (Str × Nat)} : cntK w (a ++ b) = cntK w a + cntK w b := by
  unfold cntK
  rw [List.filter_append, List.length_append]
theorem cntK_cons {w : Str} {e : Str × Nat} {l : List (Str × Nat)} : cntK w (e :: l) = (if e.1 = w then 1 else 0) + cntK w l := by
  unfold cntK
  rw [List.filter_cons]
  by_cases c : e.1 = w
  · rw [if_pos c, if_pos (decide_eq_true c), List.length_cons, Nat.add_comm]
  · rw [if_neg c, if_neg (fun z => c (of_decide_eq_true z)), Nat.zero_add]
theorem cntK_one {w : Str} {e : Str × Nat} : cntK w [e] = if e.1 = w then 1 else 0 := cntK_cons
theorem cntK_push {ns : List Nat} : cntK "push" (pushW ns) = ns.length := by
  unfold cntK
  rw [List.filter_eq_self.mpr fun e m => by
    obtain ⟨i, _, rfl⟩ := List.mem_map.mp m
    exact decide_eq_true rfl]
  exact List.length_map ..
theorem cntK_popP {ns : List Nat} : cntK "push" (popW ns) = 0 := by
  unfold cntK
  rw [List.filter_eq_nil_iff.mpr fun e m => by
    obtain ⟨i, _, rfl⟩ := List.mem_map.mp m
    exact fun z => wOP2 (of_decide_eq_true z)]
  rfl
theorem cnt_diff : ∀ {l : List (Str × Nat)}, cntW l = (cntK "push" l : Int) - (cntK "pop" l : Int)
  | [] => rfl
  | e :: l => by
    have ih := cnt_diff (l := l)
    show cntE e + cntW l = _
    rw [ih, cntK_cons, cntK_cons]
    show ((if e.1 = "push" then 1 else 0) - (if e.1 = "pop" then 1 else 0) : Int) + _ = _
    by_cases c1 : e.1 = "push"
    · have c2 : ¬ e.1 = "pop" := by rw [c1]; decide +kernel
      rw [if_pos c1, if_pos c1, if_neg c2, if_neg c2]
      omega
    · rw [if_neg c1, if_neg c1]
      by_cases c2 : e.1 = "pop"
      · rw [if_pos c2, if_pos c2]
        omega
      · rw [if_neg c2, if_neg c2]
        omega
theorem walk_pushes {N : Nat → Nat → List Nat} {bs : List Bool} : ∀ {k f : Nat}, cntK "push" (walkW N bs k f) ≤ totW N k f
  | 0, f => by
    unfold walkW totW
    split
    · rw [cntK_app, cntK_app, cntK_push, cntK_popP, cntK_one, if_neg wAP2]
      exact Nat.le_refl _
    · exact Nat.zero_le _
  | k + 1, f => by
    have h1 := walk_pushes (N := N) (bs := bs) (k := k) (f := f)
    have h2 := walk_pushes (N := N) (bs := bs) (k := k) (f := f + 2 ^ k)
    unfold walkW totW
    split
    · rw [cntK_app, cntK_app, cntK_push, cntK_popP, cntK_app]
      omega
    · exact Nat.zero_le _
/-! ### how many pieces -/
def enoughH (h k a r : Nat) : Prop := ∃ m, r < 2 ^ m ∧ (((a = 0 ∨ a % 2 ^ m = 0) ∧ m ≤ k) ∨ ∃ j, a ≠ 0 ∧ a % 2 ^ j = 0 ∧ j ≤ h ∧ (h - j) + m + 1 ≤ k)
theorem enoughH_step {h k a r : Nat} (he : enoughH h k a r) (hr : r ≠ 0) (hb : a + r ≤ 2 ^ h) : ∃ k', k = k' + 1 ∧ enoughH h k' (a + szP a r) (r - szP a r) := by
  obtain ⟨m, hm, hc⟩ := he
  have lo := log_lo hr
  have rl := rest_lt hr
  have ll := log_lt hr hm
  have hp := Nat.two_pow_pos r.log2
  rcases hc with ⟨hz, hk⟩ | ⟨j, ha, hj, hj1, hk⟩
  · have es : szP a r = 2 ^ r.log2 := by
      unfold szP
      by_cases z : a = 0
      · rw [if_pos z]
      · rw [if_neg z]
        obtain ⟨e, e1, e2, e3⟩ := low_spec a z
        rw [e1]
        rcases hz with hz | hz
        · exact absurd hz z
        · have : m ≤ e := by
            refine Nat.le_of_not_lt fun q => e3 (mod_le hz (by omega))
          exact Nat.min_eq_left (Nat.pow_le_pow_right (by decide) (by omega))
    have ad : a % 2 ^ r.log2 = 0 := by
      rcases hz with hz | hz
      · rw [hz]
        exact Nat.zero_mod _
      · exact mod_le hz (by omega)
    rw [es]
    exact ⟨k - 1, by omega, ⟨r.log2, rl, .inl ⟨.inr (mod_add ad (Nat.mod_self _)), by omega⟩⟩⟩
  · obtain ⟨e, e1, e2, e3⟩ := low_spec a ha
    have hje : j ≤ e := Nat.le_of_not_lt fun q => e3 (mod_le hj (by omega))
    by_cases c : 2 ^ e ≤ 2 ^ r.log2
    · have es : szP a r = 2 ^ e := by
        unfold szP
        rw [if_neg ha, e1]
        exact Nat.min_eq_right c
      rw [es]
      have he : e < h := by
        have h1 : 2 ^ e < 2 ^ h := by omega
        exact (Nat.pow_lt_pow_iff_right (by decide)).mp h1
      have hpe := Nat.two_pow_pos e
      exact ⟨k - 1, by omega, ⟨m, by omega, .inr ⟨e + 1, by omega, odd_up e2 e3, by omega, by omega⟩⟩⟩
    · have es : szP a r = 2 ^ r.log2 := by
        unfold szP
        rw [if_neg ha, e1]
        exact Nat.min_eq_left (by omega)
      have hle : r.log2 ≤ e := by
        refine Nat.le_of_not_lt fun q => c (Nat.pow_le_pow_right (by decide) (by omega))
      rw [es]
      exact ⟨k - 1, by omega, ⟨r.log2, rl, .inl ⟨.inr (mod_add (mod_le e2 hle) (Nat.mod_self _)), by omega⟩⟩⟩
theorem pcF_lenH {h : Nat} : ∀ {u a r k : Nat}, enoughH h k a r → a + r ≤ 2 ^ h → (pcF u a r).length ≤ k
  | 0, a, r, k, _, _ => Nat.zero_le _
  | u + 1, a, r, k, he, hb => by
    by_cases hr : r = 0
    · rw [hr, pcF_zero]
      exact Nat.zero_le _
    · obtain ⟨k', rfl, he'⟩ := enoughH_step he hr hb
      have hs := szP_le (a := a) hr
      have := pcF_lenH (u := u) he' (by omega)
      rw [pcF_pos hr, List.length_cons]
      omega
theorem pcF_most {h u a r : Nat} (hb : a + r ≤ 2 ^ h) : (pcF u a r).length ≤ 2 * (h + 1) := by
  have hp := Nat.two_pow_pos h
  refine pcF_lenH (h := h) ?_ hb
  by_cases z : a = 0
  · exact ⟨h + 1, by rw [Nat.pow_succ]; omega, .inl ⟨.inl z, by omega⟩⟩
  · exact ⟨h + 1, by rw [Nat.pow_succ]; omega, .inr ⟨0, z, Nat.mod_one _, Nat.zero_le _, by omega⟩⟩
theorem tot_foldH {k f h : Nat} : ∀ {es : List (Nat × Nat)} {N : Nat → Nat → List Nat}, (∀ e ∈ es, e.1 ≤ e.2 ∧ e.2 ≤ 2 ^ h) → totW (es.foldl (fun N ie => addP N ie.1 (pcF 201 ie.1 (ie.2 - ie.1))) N) k f ≤ totW N k f + 2 * (h + 1) * es.length
  | [], N, _ => Nat.le_refl _
  | e :: es, N, he => by
    have h1 := tot_addP (i := e.1) (k := k) (f := f) (ps := pcF 201 e.1 (e.2 - e.1)) (N := N)
    have h2 := tot_foldH (k := k) (f := f) (h := h) (es := es) (N := addP N e.1 (pcF 201 e.1 (e.2 - e.1))) fun e m => he e (List.mem_cons_of_mem _ m)
    obtain ⟨h4, h5⟩ := he e List.mem_cons_self
    have h3 := pcF_most (h := h) (u := 201) (a := e.1) (r := e.2 - e.1) (by omega)
    rw [List.foldl_cons, List.length_cons, Nat.mul_succ]
    omega
/-- the bound of the pushes -/
theorem plan_pushed {hs : List HEv} {j : Nat} (hj : hs.length ≤ 2 ^ j) : cntK "push" (planW hs j) ≤ 2 * (j + 1) * (endsU hs hs.length).length := by
  have h1 : cntK "push" (planW hs j) ≤ totW (nodesOf (endsU hs hs.length)) j 0 := walk_pushes
  have h2 := tot_foldH (k := j) (f := 0) (h := j) (es := endsU hs hs.length) (N := fun _ _ => []) fun e m => by
    have := ends_lt (hs := hs) (Nat.le_refl _) e m
    omega
  rw [tot_nil, Nat.zero_add] at h2
  exact Nat.le_trans h1 h2
theorem plan_bal {hs : List HEv} {j : Nat} : cntK "push" (planW hs j) = cntK "pop" (planW hs j) := by
  have h1 : cntW (planW hs j) = 0 := cnt_walk
  rw [cnt_diff] at h1
  omega
def HEv.isAdd : HEv → Bool
  | .add _ => true
  | _ => false
theorem ends_adds {hs : List HEv} : ∀ {k : Nat}, k ≤ hs.length → (endsU hs k).length = ((hs.take k).filter HEv.isAdd).length
  | 0, _ => rfl
  | k + 1, h => by
    obtain ⟨e, hee, he, _⟩ := ends_step (hs := hs) (k := k) h
    rw [he, List.take_succ, hee, List.filter_append, List.length_append, ← ends_adds (k := k) (by omega)]
    match e with
    | .add v =>
      show (endsU hs k ++ [_]).length = _
      rw [List.length_append]
      rfl
    | .rem i => exact List.length_map ..
    | .ask v => rfl
/-! ### who is present, in order -/
theorem pres_inc {hs : List HEv} : ∀ {k : Nat}, k ≤ hs.length → (presU hs k).Pairwise (· < ·) ∧ ∀ i ∈ presU hs k, i < k
  | 0, _ => ⟨List.Pairwise.nil, fun i m => nomatch m⟩
  | k + 1, h => by
    obtain ⟨e, _, _, hp⟩ := ends_step (hs := hs) (k := k) h
    obtain ⟨h1, h2⟩ := pres_inc (hs := hs) (k := k) (by omega)
    rw [hp]
    match e with
    | .add v =>
      refine ⟨List.pairwise_append.mpr ⟨h1, List.pairwise_singleton _ _, fun a ha b hb => ?_⟩, fun i m => ?_⟩
      · rw [List.mem_singleton.mp hb]
        exact h2 a ha
      · rcases List.mem_append.mp m with m | m
        · have := h2 i m; omega
        · rw [List.mem_singleton.mp m]; exact Nat.lt_succ_self k
    | .rem j => exact ⟨h1.filter _, fun i m => by have := h2 i (List.mem_filter.mp m).1; omega⟩
    | .ask v => exact ⟨h1, fun i m => by have := h2 i m; omega⟩
theorem flt_erase : ∀ {l : List Nat} {q x : Nat}, l.Pairwise (· < ·) → l[q]? = some x → (l.filter fun j => decide (j ≠ x)) = l.eraseIdx q
  | [], q, x, _, h => by cases q <;> cases h
  | y :: l, 0, x, hp, h => by
    have h : y = x := Option.some.inj h
    rw [List.filter_cons_of_neg (p := fun j => decide (j ≠ x)) (fun z => of_decide_eq_true z h), List.eraseIdx_cons_zero]
    refine List.filter_eq_self.mpr fun a ha => decide_eq_true ?_
    have := (List.pairwise_cons.mp hp).1 a ha
    omega
  | y :: l, q + 1, x, hp, h => by
    have hl : l[q]? = some x := h
    have hx := List.mem_of_getElem? hl
    have := (List.pairwise_cons.mp hp).1 x hx
    rw [List.filter_cons_of_pos (p := fun j => decide (j ≠ x)) (decide_eq_true (by omega)), List.eraseIdx_cons_succ, flt_erase (List.pairwise_cons.mp hp).2 hl]
theorem map_erase {α β : Type} {f : α → β} : ∀ {l : List α} {q : Nat}, (l.map f).eraseIdx q = (l.eraseIdx q).map f
  | [], q => rfl
  | x :: l, 0 => rfl
  | x :: l, q + 1 => by
    rw [List.map_cons, List.eraseIdx_cons_succ, List.eraseIdx_cons_succ, List.map_cons, map_erase]
/-- the removal of the q-th of those who are present -/
theorem pres_erase {hs : List HEv} {q x : Nat} (h : (presU hs hs.length)[q]? = some x) : stepP hs.length (presU hs hs.length) (.rem x) = (presU hs hs.length).eraseIdx q := flt_erase (pres_inc (Nat.le_refl _)).1 h
end Ob

set_option Elab.async false
set_option linter.all false
set_option maxRecDepth 100000
set_option maxHeartbeats 1000000
namespace Ob
open PySem PySem.Spec PyProof.Rows L2
open LamX (Tabs TabB TabS ExtN)

set_option hygiene false in
local macro_rules
  | `(tactic| kp_flats) => `(tactic| first
    | assumption
    | exact upd_same
    | (apply atNew; assumption; kp_flats)
    | (apply atNe; (next => kbo_bools); kp_flats)
    | (apply atSame; assumption; kp_flats)
    | (apply atKp; assumption; (next => kaf_pre); kp_flats))
set_option hygiene false in
local macro_rules
  | `(tactic| kaf_pre) => `(tactic| first
    | assumption
    | exact not_nil
    | (apply not_cons; (next => kbo_bools); kaf_pre)
    | (apply not_app; (next => kaf_pre); kaf_pre))
set_option hygiene false in
local macro_rules
  | `(tactic| kbo_bools) => `(tactic| first
    | assumption
    | (apply Ne.symm; assumption)
    | (apply neN; assumption; kp_flats)
    | (apply neN'; assumption; kp_flats))
set_option hygiene false in
local macro_rules
  | `(tactic| o_reads) => `(tactic| first
    | with_reducible rfl
    | assumption
    | rfl
    | kp_flats
    | (show SqL _ _ _ _; first | assumption | (apply sqlOf; kp_flats) | (apply sqlSame; assumption; o_reads))
    | (show SqT _ _ _ _; first | assumption | (apply sqtOf; kp_flats) | (apply sqtAll; assumption) | (apply sqtSame; assumption; o_reads))
    | (show Cls _ _; first | exact T.cl_Unions)
    | (show NoAttr _ _ _; first | exact T.n_Unions_groups | exact T.n_Unions_parents | exact T.n_Unions_counts | exact T.n_Unions_moved)
    | (apply Or.inl; o_reads)
    | (apply Or.inr; o_reads)
    | (apply And.intro; (next => o_reads); o_reads)
    | (apply Exists.intro; o_reads)
    | exact Nat.le_of_ble_eq_true rfl
    | exact Nat.succ_ne_zero _
    | (show Fr _ _; kba_ints)
    | (show Same _ _; kd_subs)
    | (show Kp _ _ _; kxs_still)
    | (show (_ : Nat) ≤ _; simp only [List.length_append, List.length_map, List.length_cons, List.length_nil, List.length_take, List.length_drop, List.length_replicate, List.length_range, sizeLine_eq]; omega)
    | (show _ = none; apply Fr.h; kba_ints)
    | (show Bag _ _; first | assumption | (apply bag_putF; assumption; o_reads) | (apply bag_neF; (next => kbo_bools); o_reads) | (apply bag_kpR; assumption; (next => kaf_pre); o_reads))
    | omega
    | decide)
local macro_rules
  | `(tactic| o_readsAll) => `(tactic| repeat (first
    | (refine fun (pNew : Addr) (nNew : _ = none) => ?_; replace nNew := Fr.mk nNew)
    | (refine fun (xNew dNew : Addr) (nNew : _ = none) (mNew : _ = none) (eNew : dNew ≠ xNew) => ?_; replace nNew := Fr.mk nNew; replace mNew := Fr.mk mNew)
    | (apply And.intro; next => o_reads)
    | apply Exists.intro (α := V)
    | apply Exists.intro (α := Addr)
    | apply Exists.intro (α := Int)
    | apply Exists.intro (α := Bool)
    | apply Exists.intro (α := List V)
    | apply Exists.intro (α := List Nat)
    | apply Exists.intro (α := List (Str × V))
    | apply Exists.intro (α := List _)
    | apply Exists.intro (α := Str)
    | apply Exists.intro (α := HO)
    | apply Exists.intro (α := Sp)
    | apply Exists.intro (α := VK)))
set_option hygiene false in
local macro_rules
  | `(tactic| kba_ints) => `(tactic| first
    | assumption
    | (apply frUp; (first | assumption | (apply Ne.symm; assumption)); kba_ints)
    | (apply noneOf; assumption; intro oF eF; apply Exists.intro; kp_flats)
    | (apply frUp; (next => kbo_bools); kba_ints))
set_option hygiene false in
local macro_rules
  | `(tactic| kxs_still) => `(tactic| first
    | assumption
    | exact kp_refl _ _
    | (apply kp_newF; assumption; kxs_still)
    | (apply kp_new; assumption; kxs_still)
    | (apply kp_up; (next => o_fieldsN); kxs_still)
    | (apply kp_new; (next => kba_ints); kxs_still)
    | (apply kp_sameR; assumption; kxs_still)
    | (apply kp_transR; assumption; kxs_still)
    | (apply kp_freshR; assumption; (next => kaf_suf); kxs_still))
set_option hygiene false in
local macro_rules
  | `(tactic| kaf_suf) => `(tactic| first
    | assumption
    | exact subNil
    | (apply subCons; (first | (apply Or.inl; o_fieldsN) | (apply Or.inr; kba_ints)); kaf_suf)
    | (apply subApp; (next => kaf_suf); kaf_suf))
set_option hygiene false in
local macro_rules
  | `(tactic| o_fieldsN) => `(tactic| first
    | assumption
    | exact memA
    | (apply memB; o_fieldsN)
    | (apply memL; o_fieldsN)
    | (apply memR; o_fieldsN))
set_option hygiene false in
local macro_rules
  | `(tactic| kd_subs) => `(tactic| first
    | assumption
    | exact Same.refl _
    | (apply same_putF; assumption; kd_subs)
    | (apply same_putG; assumption; kd_subs)
    | (apply same_putF; (next => kba_ints); kd_subs)
    | (apply same_transR; assumption; kd_subs))

theorem kp_but {p : Addr} {H H1 : Hp} (b : But p H H1) : Kp [p] H H1 := ⟨fun c o e n => b c o e fun z => n (List.mem_singleton.mpr z)⟩
def spTakeK : Sp := fun vs H Q _ => ∃ (p : Addr) (m : Int), vs = [.ref p, .int m] ∧ Bag H p ∧ 0 < m ∧ m.natAbs < 2 ^ 200 ∧ ∀ r H', 0 ≤ r → r < m → Bag H' p → Kp [p] H H' → Q (.int r) H'
theorem ok_takeK {P : Program} {w : World} {K : PySem.W.Frag} {mg : Str → Option Value} {base : Heap} (T : Txt K mg) : FnOk P w K mg base CX0 1 T.f_l_take T.d_l_take ["_law_bag_here", "_law_many"] spTakeK := by
  have F := ok_take (P := P) (w := w) (base := base) T
  refine ⟨fun vs H Q E h => ?_, fun A outer s H args us vs Q E hr e0 hb r h => F.run A outer s H args us vs Q E hr e0 hb r ?_⟩
  · obtain ⟨p, m, rfl, _⟩ := h
    rfl
  · obtain ⟨p, m, e, h1, h2, h3, q⟩ := h
    exact ⟨p, m, e, h1, h2, h3, fun r H' a b c d => q r H' a b c (kp_but d)⟩
theorem bag_neF {p q : Addr} {H : Hp} {o : HO} (n : p ≠ q) (b : Bag H p) : Bag (upd H q o) p := by
  obtain ⟨g, m, c, e, z⟩ := b
  exact ⟨g, m, c, (upd_ne n).trans e, z⟩
theorem tabsN_kp {T : List NdefX.NTab} {cs : List Addr} {H H1 : Hp} (t : NdefX.TabsN T H) (k : Kp cs H H1) (n : ∀ a ∈ cs, ∃ o, H a = some o ∧ (∀ ps, o ≠ .tbl ps) ∧ ∀ φ, o ≠ .ext φ) : NdefX.TabsN T H1 := fun p hp => by
  obtain ⟨ps, h1, h2, h3⟩ := t p hp
  refine ⟨ps, k.at_ _ _ h1 (fun m => ?_), h2, fun pos cv hc => ?_⟩
  · obtain ⟨o, e, n1, _⟩ := n _ m
    rw [h1] at e
    exact n1 ps (Option.some.inj e).symm
  · obtain ⟨c, e1, e2⟩ := h3 pos cv hc
    refine ⟨c, e1, k.at_ _ _ e2 fun m => ?_⟩
    obtain ⟨o, e, _, n2⟩ := n _ m
    rw [e2] at e
    exact n2 _ (Option.some.inj e).symm

set_option pp.maxSteps 900
open NdefX (TabsN)
open Inf (LClo cut mend cellsOf)
theorem bag_lst {H : Hp} {p : Addr} (b : Bag H p) : ∃ xs, H p = some (.lst xs) := by
  obtain ⟨g, m, c, e, _⟩ := b
  exact ⟨_, e⟩
theorem bag_mu {H : Hp} {p : Addr} (b : Bag H p) : Mu H [p] := by
  obtain ⟨xs, e⟩ := bag_lst b
  exact mu_lst e mu_nil
/-! ### steps of a run -/
theorem pSeq {t u : TS} {D : Ends} {σ : L2.St} {H : Hp} (h : t { D with nx := u D } σ H) : tSeq t u D σ H := h
theorem pAsg {te : TE} {g : TG} {D : Ends} {σ : L2.St} {H : Hp} (h : te σ H fun x H1 => g x σ H1 D.nx) : tAsg te g D σ H := h
theorem pOp {r : R2} {ta tb : TE} {σ : L2.St} {H : Hp} {Q : VK} (h : ta σ H fun x H1 => tb σ H1 fun y H2 => r x y H2 Q) : tOp r ta tb σ H Q := h
theorem pIf {c : L2.TT} {t u : TS} {D : Ends} {σ : L2.St} {H : Hp} (h : c σ H fun b H1 => if b = true then t D σ H1 else u D σ H1) : tIfS c t u D σ H := h
theorem pOr {t u : L2.TT} {σ : L2.St} {H : Hp} {Q : Bool → Hp → Prop} (h : t σ H fun c H1 => if c = true then Q true H1 else u σ H1 Q) : tOr t u σ H Q := h
theorem pAnd {t u : L2.TT} {σ : L2.St} {H : Hp} {Q : Bool → Hp → Prop} (h : t σ H fun c H1 => if c = true then u σ H1 Q else Q false H1) : tAnd t u σ H Q := h
theorem pTest {t : TE} {σ : L2.St} {H : Hp} {Q : Bool → Hp → Prop} (h : t σ H fun x H' => ∃ k, x = .bl k ∧ Q k H') : tTest t σ H Q := h
theorem pGN {i : Nat} {x : V} {σ : L2.St} {H : Hp} {N : L2.St → Hp → Prop} (h : N (σ.set i (some x)) H) : gName i x σ H N := h
theorem pNx {D : Ends} {σ : L2.St} {H : Hp} (h : D.nx σ H) : tNext D σ H := h
theorem pRev {K : PySem.W.Frag} {te : TE} {σ : L2.St} {H : Hp} {Q : VK} (h : te σ H fun x H1 => ∃ a xs, x = .ref a ∧ SqL K H1 a xs ∧ ∀ p, H1 p = none → Q (.ref p) (upd H1 p (.lst xs.reverse))) : tRevL K te σ H Q := h
/-- an if whose test says I -/
theorem if_by2 {c : L2.TT} {t u : TS} {D : Ends} {σ : L2.St} {H : Hp} (I : Bool → Hp → Prop) (h : ∀ Q : Bool → Hp → Prop, (∀ b H', I b H' → Q b H') → c σ H Q) (hT : ∀ H', I true H' → t D σ H') (hF : ∀ H', I false H' → u D σ H') : tIfS c t u D σ H :=
  h (fun b H' => if b = true then t D σ H' else u D σ H') fun b H' i => by
    cases b with
    | true => exact (if_pos rfl).mpr (hT H' i)
    | false => exact (if_neg (fun z => nomatch z)).mpr (hF H' i)
/-- a test that answers b where J b holds -/
def Ans (t : L2.TT) (σ : L2.St) (H : Hp) (J : Bool → Hp → Prop) : Prop := ∀ Q : Bool → Hp → Prop, (∀ b H', J b H' → Q b H') → t σ H Q
section
variable {t u : L2.TT} {σ : L2.St} {H : Hp} {J J1 : Bool → Hp → Prop}
theorem ans_or (a : Ans t σ H J1) (hT : ∀ H', J1 true H' → J true H') (hF : ∀ H', J1 false H' → Ans u σ H' J) : Ans (tOr t u) σ H J := fun Q q => a _ fun b H' j => by
  cases b with
  | true => exact (if_pos rfl).mpr (q _ _ (hT H' j))
  | false => exact (if_neg (fun z => nomatch z)).mpr (hF H' j Q q)
theorem ans_and (a : Ans t σ H J1) (hF : ∀ H', J1 false H' → J false H') (hT : ∀ H', J1 true H' → Ans u σ H' J) : Ans (tAnd t u) σ H J := fun Q q => a _ fun b H' j => by
  cases b with
  | true => exact (if_pos rfl).mpr (hT H' j Q q)
  | false => exact (if_neg (fun z => nomatch z)).mpr (q _ _ (hF H' j))
/-- a test that leaves the heap as it is, with the answer b -/
theorem ans_of {b : Bool} (h : ∀ Q : Bool → Hp → Prop, Q b H → t σ H Q) : Ans t σ H (fun c H' => c = b ∧ H' = H) := fun Q q => h Q (q _ _ ⟨rfl, rfl⟩)
end
/-! ### lambdas, tables, what is told -/
def lamOf : Stmt → Nat → Expr
  | .Assign _ (.Call _ es _ _) _, i => es.getD i (.Constant .none 0 ⟨0, 0, 0, 0⟩)
  | .Assign _ (.Tuple es _ _) _, i => es.getD i (.Constant .none 0 ⟨0, 0, 0, 0⟩)
  | _, _ => .Constant .none 0 ⟨0, 0, 0, 0⟩
def lamF (q : Str) (cl : List (Str × Addr)) (c : Addr) : Expr → Inf.LF
  | .Lambda ps b sc _ => ⟨q, ps, b, sc, cl, c⟩
  | _ => ⟨q, { posonlyargs := [], args := [], vararg := none, kwonlyargs := [], kw_defaults := [], kwarg := none, defaults := [] }, .Constant .none 0 ⟨0, 0, 0, 0⟩, defScope s_law, cl, c⟩
theorem kp_ext {cs : List Addr} {H H1 : Hp} (k : Kp cs H H1) (n : Mu H cs) {t : Addr} {φ : Heap → Prop} (h : H t = some (.ext φ)) : H1 t = some (.ext φ) := k.at_ _ _ h (n.ext h)
theorem cellAt_kp {cs : List Addr} {H H1 : Hp} {c : Addr} {v : V} (h : Inf.CellAt H c v) (k : Kp cs H H1) (m : Mu H cs) : Inf.CellAt H1 c v := by
  obtain ⟨φ, e1, e2⟩ := h
  exact ⟨φ, kp_ext k m e1, e2⟩
theorem lclo_kp {cs : List Addr} {H H1 : Hp} {f : Addr} {F : Inf.LF} {fr : List Str} {ws : List V} (h : LClo H f F fr ws) (k : Kp cs H H1) (m : Mu H cs) : LClo H1 f F fr ws :=
  ⟨kp_ext k m h.fn, kp_ext k m h.code, h.len, h.dom, h.inj, fun i y e => by
    obtain ⟨c, v, a, b, d⟩ := h.at_ i y e
    exact ⟨c, v, a, b, cellAt_kp d k m⟩⟩
theorem mend_kp {cs ds : List Addr} {H H1 : Hp} (e : ∀ b ∈ cs, ∃ φ, H b = some (.ext φ)) (s : Kp ds (cut cs H) H1) (no : ∀ b ∈ cs, H1 b = none) : Kp ds H (mend cs H H1) := ⟨fun b o h n => by
  by_cases hb : b ∈ cs
  · rw [Inf.mend_in hb]
    exact h
  · rw [Inf.mend_out hb]
    exact s.at_ _ _ ((Inf.cut_out hb).trans h) n⟩
theorem tab_ne {T : List NdefX.NTab} {P : Addr} {nm : Nat → Nat → Str} {H : Hp} {a : Addr} {o : HO} (t : TabsN T H) (m : (P, nm) ∈ T) (e : H a = some o) (n : ∀ ps, o ≠ .tbl ps) : a ≠ P := fun z => by
  obtain ⟨ps, h, _⟩ := t _ m
  have h : H P = some (.tbl ps) := h
  rw [← z, e] at h
  exact n ps (Option.some.inj h)
theorem cv_tel {cells : List (Str × Addr)} {names : List (Str × NameKind)} {N : List Str} {σ : L2.St} {H HT H3 : Hp} {cT : List Addr} (t : Inf.Tel cells names N σ H cT HT) (k : ∀ b, b ∈ cT → H3 b = HT b) : ∀ b o, H3 b = some o → (∀ φ, o ≠ .ext φ) → Inf.cut cT H3 b = some o := fun b o e nx => by
  rw [Inf.cut_out fun m => ?_]
  · exact e
  · obtain ⟨φ, y⟩ := t.ext b m
    rw [k b m, y] at e
    exact nx φ (Option.some.inj e).symm
theorem tel_kp {cells : List (Str × Addr)} {names : List (Str × NameKind)} {N : List Str} {σ : L2.St} {H HT H3 : Hp} {cT ds : List Addr} (t : Inf.Tel cells names N σ H cT HT) (k : Kp ds HT H3) (m : Mu HT ds) : (∀ b, b ∈ cT → H3 b = HT b) ∧ Kp ds H (Inf.cut cT H3) :=
  ⟨fun b hb => by
    obtain ⟨φ, y⟩ := t.ext b hb
    rw [y]
    exact k.at_ _ _ y (m.ext y), ⟨fun b o e n => by
    rw [Inf.cut_out (fun z => by rw [t.no b z] at e; cases e)]
    exact k.at_ _ _ (t.same _ _ e) n⟩⟩
theorem plan_lt {hs : List HEv} {j : Nat} (hl : hs.length ≤ 2000) (hj : j = 0 ∨ 2 ^ (j - 1) < hs.length) : j ≤ 12 ∧ (planW hs j).length < 1000000 := by
  have hj1 : j ≤ 12 := by
    refine Nat.le_of_not_lt fun z => ?_
    rcases hj with h | h
    · omega
    · have h1 : (2 : Nat) ^ 12 ≤ 2 ^ (j - 1) := Nat.pow_le_pow_right (by decide) (by omega)
      have h2 : (2 : Nat) ^ 12 = 4096 := by decide
      omega
  have hp : (2 : Nat) ^ j ≤ 4096 := Nat.le_trans (Nat.pow_le_pow_right (by decide) hj1) (by decide)
  have hw := walk_len (N := nodesOf (endsU hs hs.length)) (bs := hs.map HEv.isAsk) (k := j) (f := 0)
  have ht := tot_nodes (es := endsU hs hs.length) (k := j) (f := 0)
  have hl2 := ends_len (hs := hs) (k := hs.length)
  have hy : (planW hs j).length = (walkW (nodesOf (endsU hs hs.length)) (hs.map HEv.isAsk) j 0).length := rfl
  exact ⟨hj1, by omega⟩
/-! ### histories in the heap -/
theorem at_split {hs : List HEv} {i : Nat} {x : HEv} (h : hs[i]? = some x) : hs.take i ++ x :: hs.drop (i + 1) = hs ∧ presU hs i = presF 0 [] (hs.take i) ∧ (hs.take i).length = i := by
  have hi : i < hs.length := (List.getElem?_eq_some_iff.mp h).1
  have h3 : hs[i] = x := (List.getElem?_eq_some_iff.mp h).2
  refine ⟨?_, pres_take (by omega), by rw [List.length_take]; omega⟩
  rw [← h3, List.getElem_cons_drop, List.take_append_drop]
theorem mem_mid {α : Type} {A tr z : List α} {x : α} (h : A = tr ++ x :: z) : x ∈ A ∧ ∀ y ∈ tr, y ∈ A := by
  rw [h]
  exact ⟨List.mem_append.mpr (.inr List.mem_cons_self), fun y m => List.mem_append.mpr (.inl m)⟩
theorem HisAt.nil {H : Hp} : HisAt H [] [] := ⟨rfl, fun q x e z => by cases q <;> cases z⟩
theorem HisAt.kp {H H1 : Hp} {xs : List V} {hs : List HEv} {cs : List Addr} (h : HisAt H xs hs) (k : Kp cs H H1) (m : Mu H cs) : HisAt H1 xs hs := ⟨h.len, fun q x e a b => by
  obtain ⟨p, h1, h2⟩ := h.at_ q x e a b
  exact ⟨p, h1, kp_tup k m h2⟩⟩
theorem HisAt.app {H : Hp} {xs ys : List V} {a b : List HEv} (h : HisAt H xs a) (g : HisAt H ys b) : HisAt H (xs ++ ys) (a ++ b) := by
  refine ⟨by rw [List.length_append, List.length_append, h.len, g.len], fun q x e a1 b1 => ?_⟩
  by_cases c : q < xs.length
  · rw [List.getElem?_append_left c] at a1
    rw [List.getElem?_append_left (by rw [← h.len]; exact c)] at b1
    exact h.at_ q x e a1 b1
  · rw [List.getElem?_append_right (by omega)] at a1
    rw [List.getElem?_append_right (by rw [← h.len]; omega), ← h.len] at b1
    exact g.at_ _ x e a1 b1
theorem HisAt.one {H : Hp} {p : Addr} {e : HEv} (h : H p = some (.tup [.str e.w, e.v])) : HisAt H [.ref p] [e] := ⟨rfl, fun q y d a b => by
  match q, a, b with
  | 0, a, b =>
    cases a
    cases b
    exact ⟨p, rfl, h⟩
  | q + 1, a, _ => cases q <;> cases a⟩
theorem HisAt.rep {H : Hp} {p : Addr} {e : HEv} (h : H p = some (.tup [.str e.w, e.v])) : ∀ n : Nat, HisAt H (List.replicate n [V.ref p]).flatten (List.replicate n e)
  | 0 => HisAt.nil
  | n + 1 => by
    rw [List.replicate_succ, List.replicate_succ, List.flatten_cons]
    exact (HisAt.one h).app (HisAt.rep h n)
theorem HisAt.rev {H : Hp} {xs : List V} {a : List HEv} (h : HisAt H xs a) : HisAt H xs.reverse a.reverse := ⟨by rw [List.length_reverse, List.length_reverse, h.len], fun q x e a1 b1 => by
  have hq : q < xs.length := by
    have := (List.getElem?_eq_some_iff.mp a1).1
    rw [List.length_reverse] at this
    exact this
  rw [List.getElem?_reverse hq] at a1
  rw [List.getElem?_reverse (by rw [← h.len]; exact hq), ← h.len] at b1
  exact h.at_ _ x e a1 b1⟩
/-- a history in a list at c -/
def LH (H : Hp) (c : Addr) (hs : List HEv) : Prop := ∃ xs, H c = some (.lst xs) ∧ HisAt H xs hs
theorem LH.same {H H1 : Hp} {c : Addr} {hs : List HEv} (h : LH H c hs) (s : Same H H1) : LH H1 c hs := by
  obtain ⟨xs, h1, h2⟩ := h
  exact ⟨xs, s _ _ h1, h2.kp (kp_same (cs := []) s) mu_nil⟩
theorem LH.kpn {H H1 : Hp} {c : Addr} {hs : List HEv} {cs : List Addr} (h : LH H c hs) (k : Kp cs H H1) (m : Mu H cs) (n : c ∉ cs) : LH H1 c hs := by
  obtain ⟨xs, h1, h2⟩ := h
  exact ⟨xs, k.at_ _ _ h1 n, h2.kp k m⟩
theorem HisAt.add {H : Hp} {xs : List V} {hs : List HEv} {t : Addr} {e : HEv} (h : HisAt H xs hs) (ht : H t = some (.tup [.str e.w, e.v])) : HisAt H (xs ++ [.ref t]) (hs ++ [e]) := h.app (HisAt.one ht)
theorem flat_rep (x : V) : ∀ n : Nat, (List.replicate n [x]).flatten = List.replicate n x
  | 0 => rfl
  | n + 1 => by
    rw [List.replicate_succ, List.replicate_succ, List.flatten_cons, flat_rep x n]
    rfl
theorem seq_at {k n : Nat} (h : k < n) : seqIndex? (k : Int) n = some k := by
  unfold seqIndex?
  simp only [if_neg (show ¬ (k : Int) < 0 by omega)]
  rw [if_pos (by rw [Bool.and_eq_true]; exact ⟨decide_eq_true (by omega), decide_eq_true (by omega)⟩)]
  rfl
theorem fr_kp {cs : List Addr} {H H1 : Hp} {a : Addr} (k : Kp cs H H1) (m : Mu H1 cs) (f : Fr H1 a) : Fr H a := noneOf f fun o e => by
  by_cases c : a ∈ cs
  · obtain ⟨o, h, _⟩ := m a c
    exact ⟨o, h⟩
  · exact ⟨o, k.at_ _ _ e c⟩
theorem tabs_same {T : List NdefX.NTab} {H H1 : Hp} (t : TabsN T H) (s : Same H H1) : TabsN T H1 := tabsN_kp t (kp_same (cs := []) s) fun _ z => nomatch z
end Ob

set_option Elab.async false
set_option linter.all false
set_option maxRecDepth 100000
set_option maxHeartbeats 1000000
namespace Ob
open PySem PySem.Spec PyProof.Rows L2
open LamX (Tabs TabB TabS ExtN)

set_option hygiene false in
local macro_rules
  | `(tactic| kp_flats) => `(tactic| first
    | assumption
    | exact upd_same
    | (apply atNew; assumption; kp_flats)
    | (apply atNe; (next => kbo_bools); kp_flats)
    | (apply atSame; assumption; kp_flats)
    | (apply atKp; assumption; (next => kaf_pre); kp_flats))
set_option hygiene false in
local macro_rules
  | `(tactic| kaf_pre) => `(tactic| first
    | assumption
    | exact not_nil
    | (apply not_cons; (next => kbo_bools); kaf_pre)
    | (apply not_app; (next => kaf_pre); kaf_pre))
set_option hygiene false in
local macro_rules
  | `(tactic| kbo_bools) => `(tactic| first
    | assumption
    | (apply Ne.symm; assumption)
    | (apply neN; assumption; kp_flats)
    | (apply neN'; assumption; kp_flats))
set_option hygiene false in
local macro_rules
  | `(tactic| o_reads) => `(tactic| first
    | with_reducible rfl
    | assumption
    | rfl
    | kp_flats
    | (show SqL _ _ _ _; first | assumption | (apply sqlOf; kp_flats) | (apply sqlSame; assumption; o_reads))
    | (show SqT _ _ _ _; first | assumption | (apply sqtOf; kp_flats) | (apply sqtAll; assumption) | (apply sqtSame; assumption; o_reads))
    | (show Cls _ _; first | exact T.cl_Unions)
    | (show NoAttr _ _ _; first | exact T.n_Unions_groups | exact T.n_Unions_parents | exact T.n_Unions_counts | exact T.n_Unions_moved)
    | (apply Or.inl; o_reads)
    | (apply Or.inr; o_reads)
    | (apply And.intro; (next => o_reads); o_reads)
    | (apply Exists.intro; o_reads)
    | exact Nat.le_of_ble_eq_true rfl
    | exact Nat.succ_ne_zero _
    | (show Fr _ _; kba_ints)
    | (show Same _ _; kd_subs)
    | (show Kp _ _ _; kxs_still)
    | (show (_ : Nat) ≤ _; simp only [List.length_append, List.length_map, List.length_cons, List.length_nil, List.length_take, List.length_drop, List.length_replicate, List.length_range, sizeLine_eq]; omega)
    | (show _ = none; apply Fr.h; kba_ints)
    | (show Bag _ _; first | assumption | (apply bag_putF; assumption; o_reads) | (apply bag_neF; (next => kbo_bools); o_reads) | (apply bag_kpR; assumption; (next => kaf_pre); o_reads))
    | omega
    | decide)
local macro_rules
  | `(tactic| o_readsAll) => `(tactic| repeat (first
    | (refine fun (pNew : Addr) (nNew : _ = none) => ?_; replace nNew := Fr.mk nNew)
    | (refine fun (xNew dNew : Addr) (nNew : _ = none) (mNew : _ = none) (eNew : dNew ≠ xNew) => ?_; replace nNew := Fr.mk nNew; replace mNew := Fr.mk mNew)
    | (apply And.intro; next => o_reads)
    | apply Exists.intro (α := V)
    | apply Exists.intro (α := Addr)
    | apply Exists.intro (α := Int)
    | apply Exists.intro (α := Bool)
    | apply Exists.intro (α := List V)
    | apply Exists.intro (α := List Nat)
    | apply Exists.intro (α := List (Str × V))
    | apply Exists.intro (α := List _)
    | apply Exists.intro (α := Str)
    | apply Exists.intro (α := HO)
    | apply Exists.intro (α := Sp)
    | apply Exists.intro (α := VK)))
set_option hygiene false in
local macro_rules
  | `(tactic| kba_ints) => `(tactic| first
    | assumption
    | (apply frUp; (first | assumption | (apply Ne.symm; assumption)); kba_ints)
    | (apply noneOf; assumption; intro oF eF; apply Exists.intro; kp_flats)
    | (apply frUp; (next => kbo_bools); kba_ints))
set_option hygiene false in
local macro_rules
  | `(tactic| kxs_still) => `(tactic| first
    | assumption
    | exact kp_refl _ _
    | (apply kp_newF; assumption; kxs_still)
    | (apply kp_new; assumption; kxs_still)
    | (apply kp_up; (next => o_fieldsN); kxs_still)
    | (apply kp_new; (next => kba_ints); kxs_still)
    | (apply kp_sameR; assumption; kxs_still)
    | (apply kp_transR; assumption; kxs_still)
    | (apply kp_freshR; assumption; (next => kaf_suf); kxs_still))
set_option hygiene false in
local macro_rules
  | `(tactic| kaf_suf) => `(tactic| first
    | assumption
    | exact subNil
    | (apply subCons; (first | (apply Or.inl; o_fieldsN) | (apply Or.inr; kba_ints)); kaf_suf)
    | (apply subApp; (next => kaf_suf); kaf_suf))
set_option hygiene false in
local macro_rules
  | `(tactic| o_fieldsN) => `(tactic| first
    | assumption
    | exact memA
    | (apply memB; o_fieldsN)
    | (apply memL; o_fieldsN)
    | (apply memR; o_fieldsN))
set_option hygiene false in
local macro_rules
  | `(tactic| kd_subs) => `(tactic| first
    | assumption
    | exact Same.refl _
    | (apply same_putF; assumption; kd_subs)
    | (apply same_putG; assumption; kd_subs)
    | (apply same_putF; (next => kba_ints); kd_subs)
    | (apply same_transR; assumption; kd_subs))

/-! ### data that is shown -/
theorem u16 {k : Nat} {A : Around} (r : Room k A) : A.units + 64 + 16 < cLine := by
  have := r.un
  omega
theorem u65 {k : Nat} {A : Around} (r : Room k A) : A.units + 65 < cLine := by
  have := r.un
  omega
/-- no dict, small numbers, at most w much, at most p deep -/
structure Shw (w p : Nat) (d : PyData) : Prop where
  sh : d.showable = true
  nd : d.hasDict = false
  lv : d.leavesShort 13 = true
  wt : d.weight ≤ w
  dp : d.depth ≤ p
theorem Shw.mono {w p w' p' : Nat} {d : PyData} (h : Shw w p d) (a : w ≤ w') (b : p ≤ p') : Shw w' p' d := ⟨h.sh, h.nd, h.lv, Nat.le_trans h.wt a, Nat.le_trans h.dp b⟩
theorem Shw.int {i : Int} (h : i.natAbs < 10 ^ 12) : Shw 41 0 (.int i) := by
  have h1 : i.natAbs.log2 < 40 := by
    by_cases z : i.natAbs = 0
    · rw [z]
      decide
    · exact (Nat.log2_lt z).mpr (by omega)
  refine ⟨decide_eq_true (by omega), rfl, decide_eq_true (PyData.shown_int_le h), ?_, Nat.le_refl _⟩
  show (if i == 0 then 0 else i.natAbs.log2 + 1) ≤ 41
  split <;> omega
theorem Shw.non : Shw 0 0 .none := ⟨rfl, rfl, by decide +kernel, Nat.le_refl _, Nat.le_refl _⟩
theorem Shw.bl (b : Bool) : Shw 0 0 (.bool b) := ⟨rfl, rfl, by cases b <;> decide +kernel, Nat.le_refl _, Nat.le_refl _⟩
theorem Shw.str {x : Str} (h : (x.cps.toList.all fun c => decide (c < 16 ^ 8)) = true) : Shw x.length 0 (.str x) := ⟨rfl, rfl, h, Nat.le_refl _, Nat.le_refl _⟩
theorem shw_all {w p : Nat} : ∀ {ds : List PyData}, (∀ d ∈ ds, Shw w p d) → PyData.showableAll ds = true ∧ PyData.hasDictAll ds = false ∧ PyData.leavesShortAll 13 ds = true ∧ PyData.weightAll ds ≤ ds.length * (w + 1) ∧ PyData.depthAll ds ≤ p
  | [], _ => ⟨rfl, rfl, rfl, Nat.zero_le _, Nat.zero_le _⟩
  | d :: ds, h => by
    obtain ⟨a1, a2, a3, a4, a5⟩ := h d (List.mem_cons_self ..)
    obtain ⟨b1, b2, b3, b4, b5⟩ := shw_all fun x m => h x (List.mem_cons_of_mem _ m)
    refine ⟨?_, ?_, ?_, ?_, ?_⟩
    · show (d.showable && PyData.showableAll ds) = true
      rw [a1, b1]
      rfl
    · show (d.hasDict || PyData.hasDictAll ds) = false
      rw [a2, b2]
      rfl
    · show (d.leavesShort 13 && PyData.leavesShortAll 13 ds) = true
      rw [a3, b3]
      rfl
    · show d.weight + 1 + PyData.weightAll ds ≤ (ds.length + 1) * (w + 1)
      rw [Nat.add_mul]
      omega
    · exact Nat.max_le.mpr ⟨a5, b5⟩
theorem Shw.tup {w p : Nat} {ds : List PyData} (h : ∀ d ∈ ds, Shw w p d) : Shw (ds.length * (w + 1)) (p + 1) (.tuple ds) := by
  obtain ⟨b1, b2, b3, b4, b5⟩ := shw_all h
  exact ⟨b1, b2, b3, b4, Nat.succ_le_succ b5⟩
theorem Shw.lst {w p : Nat} {ds : List PyData} (h : ∀ d ∈ ds, Shw w p d) : Shw (ds.length * (w + 1)) (p + 1) (.list ds) := by
  obtain ⟨b1, b2, b3, b4, b5⟩ := shw_all h
  exact ⟨b1, b2, b3, b4, Nat.succ_le_succ b5⟩
theorem Shw.fits {w p : Nat} {d : PyData} (h : Shw w p d) (a : w ≤ 2 ^ 20) : d.shown.length ≤ sizeLine := PyData.shown_fits (B := 13) (by decide) (by decide) h.lv (Nat.le_trans h.wt a)
section
variable {K : PySem.W.Frag}
theorem dp_int {H : Hp} {v : V} {d : PyData} (h : Dp K H v d) (s : d.showable = true) : ∀ i, v = .int i → i.natAbs.log2 < 1920 := fun i e => by
  subst e
  cases h
  exact of_decide_eq_true s
end
theorem dpAll_of {K : PySem.W.Frag} {H : Hp} : ∀ {xs : List V} {ds : List PyData}, xs.length = ds.length → (∀ (q : Nat) x d, xs[q]? = some x → ds[q]? = some d → Dp K H x d) → DpAll K H xs ds
  | [], [], _, _ => .nil
  | x :: xs, d :: ds, l, h => .cons (h 0 x d rfl rfl) (dpAll_of (Nat.succ.inj l) fun q y e a b => h (q + 1) y e a b)
  | [], _ :: _, l, _ => nomatch l
  | _ :: _, [], l, _ => nomatch l
/-- a walk's entries as plain data -/
def entW (e : Str × Nat) : PyData := .tuple [.str e.1, .int (e.2 : Int)]
theorem dp_wl {K : PySem.W.Frag} {H : Hp} {o : Addr} {ys : List V} {es : List (Str × Nat)} (ho : H o = some (.lst ys)) (w : WLog H ys es) : Dp K H (.ref o) (.list (es.map entW)) := by
  refine .lst (sqlOf ho) (dpAll_of (by rw [List.length_map, w.len]) fun q x d a1 a2 => ?_)
  rw [List.getElem?_map] at a2
  cases he : es[q]? with
  | none =>
    rw [he] at a2
    cases a2
  | some e =>
    rw [he] at a2
    cases a2
    obtain ⟨p, rfl, g⟩ := w.at_ q x e a1 he
    exact .tup (sqtOf g) (.cons (.str _) (.cons (.int _) .nil))
end Ob

set_option Elab.async false
set_option linter.all false
set_option maxRecDepth 100000
set_option maxHeartbeats 1000000
namespace Ob
open PySem PySem.Spec PyProof.Rows L2
open LamX (Tabs TabB TabS ExtN)

set_option hygiene false in
local macro_rules
  | `(tactic| kp_flats) => `(tactic| first
    | assumption
    | exact upd_same
    | (apply atNew; assumption; kp_flats)
    | (apply atNe; (next => kbo_bools); kp_flats)
    | (apply atSame; assumption; kp_flats)
    | (apply atKp; assumption; (next => kaf_pre); kp_flats))
set_option hygiene false in
local macro_rules
  | `(tactic| kaf_pre) => `(tactic| first
    | assumption
    | exact not_nil
    | (apply not_cons; (next => kbo_bools); kaf_pre)
    | (apply not_app; (next => kaf_pre); kaf_pre))
set_option hygiene false in
local macro_rules
  | `(tactic| kbo_bools) => `(tactic| first
    | assumption
    | (apply Ne.symm; assumption)
    | (apply neN; assumption; kp_flats)
    | (apply neN'; assumption; kp_flats))
set_option hygiene false in
local macro_rules
  | `(tactic| o_reads) => `(tactic| first
    | with_reducible rfl
    | assumption
    | rfl
    | kp_flats
    | (show SqL _ _ _ _; first | assumption | (apply sqlOf; kp_flats) | (apply sqlSame; assumption; o_reads))
    | (show SqT _ _ _ _; first | assumption | (apply sqtOf; kp_flats) | (apply sqtAll; assumption) | (apply sqtSame; assumption; o_reads))
    | (show Cls _ _; first | exact T.cl_Unions)
    | (show NoAttr _ _ _; first | exact T.n_Unions_groups | exact T.n_Unions_parents | exact T.n_Unions_counts | exact T.n_Unions_moved)
    | (apply Or.inl; o_reads)
    | (apply Or.inr; o_reads)
    | (apply And.intro; (next => o_reads); o_reads)
    | (apply Exists.intro; o_reads)
    | exact Nat.le_of_ble_eq_true rfl
    | exact Nat.succ_ne_zero _
    | (show Fr _ _; kba_ints)
    | (show Same _ _; kd_subs)
    | (show Kp _ _ _; kxs_still)
    | (show (_ : Nat) ≤ _; simp only [List.length_append, List.length_map, List.length_cons, List.length_nil, List.length_take, List.length_drop, List.length_replicate, List.length_range, sizeLine_eq]; omega)
    | (show _ = none; apply Fr.h; kba_ints)
    | (show Bag _ _; first | assumption | (apply bag_putF; assumption; o_reads) | (apply bag_neF; (next => kbo_bools); o_reads) | (apply bag_kpR; assumption; (next => kaf_pre); o_reads))
    | omega
    | decide)
local macro_rules
  | `(tactic| o_readsAll) => `(tactic| repeat (first
    | (refine fun (pNew : Addr) (nNew : _ = none) => ?_; replace nNew := Fr.mk nNew)
    | (refine fun (xNew dNew : Addr) (nNew : _ = none) (mNew : _ = none) (eNew : dNew ≠ xNew) => ?_; replace nNew := Fr.mk nNew; replace mNew := Fr.mk mNew)
    | (apply And.intro; next => o_reads)
    | apply Exists.intro (α := V)
    | apply Exists.intro (α := Addr)
    | apply Exists.intro (α := Int)
    | apply Exists.intro (α := Bool)
    | apply Exists.intro (α := List V)
    | apply Exists.intro (α := List Nat)
    | apply Exists.intro (α := List (Str × V))
    | apply Exists.intro (α := List _)
    | apply Exists.intro (α := Str)
    | apply Exists.intro (α := HO)
    | apply Exists.intro (α := Sp)
    | apply Exists.intro (α := VK)))
set_option hygiene false in
local macro_rules
  | `(tactic| kba_ints) => `(tactic| first
    | assumption
    | (apply frUp; (first | assumption | (apply Ne.symm; assumption)); kba_ints)
    | (apply noneOf; assumption; intro oF eF; apply Exists.intro; kp_flats)
    | (apply frUp; (next => kbo_bools); kba_ints))
set_option hygiene false in
local macro_rules
  | `(tactic| kxs_still) => `(tactic| first
    | assumption
    | exact kp_refl _ _
    | (apply kp_newF; assumption; kxs_still)
    | (apply kp_new; assumption; kxs_still)
    | (apply kp_up; (next => o_fieldsN); kxs_still)
    | (apply kp_new; (next => kba_ints); kxs_still)
    | (apply kp_sameR; assumption; kxs_still)
    | (apply kp_transR; assumption; kxs_still)
    | (apply kp_freshR; assumption; (next => kaf_suf); kxs_still))
set_option hygiene false in
local macro_rules
  | `(tactic| kaf_suf) => `(tactic| first
    | assumption
    | exact subNil
    | (apply subCons; (first | (apply Or.inl; o_fieldsN) | (apply Or.inr; kba_ints)); kaf_suf)
    | (apply subApp; (next => kaf_suf); kaf_suf))
set_option hygiene false in
local macro_rules
  | `(tactic| o_fieldsN) => `(tactic| first
    | assumption
    | exact memA
    | (apply memB; o_fieldsN)
    | (apply memL; o_fieldsN)
    | (apply memR; o_fieldsN))
set_option hygiene false in
local macro_rules
  | `(tactic| kd_subs) => `(tactic| first
    | assumption
    | exact Same.refl _
    | (apply same_putF; assumption; kd_subs)
    | (apply same_putG; assumption; kd_subs)
    | (apply same_putF; (next => kba_ints); kd_subs)
    | (apply same_transR; assumption; kd_subs))

namespace Un
/-! ### connected components -/
theorem app_ind {α : Type} {P : List α → Prop} (h0 : P []) (hs : ∀ l x, P l → P (l ++ [x])) (l : List α) : P l := by
  have : ∀ r : List α, P r.reverse := by
    intro r
    induction r with
    | nil => exact h0
    | cons x r ih =>
      rw [List.reverse_cons]
      exact hs _ _ ih
  have h := this l.reverse
  rwa [List.reverse_reverse] at h
theorem nd_le {α : Type} [DecidableEq α] : ∀ {a b : List α}, a.Nodup → (∀ x ∈ a, x ∈ b) → a.length ≤ b.length
  | [], _, _, _ => Nat.zero_le _
  | x :: a, b, h, s => by
    obtain ⟨h1, h2⟩ := List.nodup_cons.mp h
    have hx := s x (List.mem_cons_self ..)
    have i := nd_le (b := b.erase x) h2 fun y hy => (List.mem_erase_of_ne (fun e => h1 (by rw [← e]; exact hy))).mpr (s y (List.mem_cons_of_mem _ hy))
    rw [List.length_erase_of_mem hx] at i
    have := List.length_pos_of_mem hx
    rw [List.length_cons]
    omega
/-- connected by pairs -/
inductive Cn (ps : List (Nat × Nat)) (x : Nat) : Nat → Prop where
  | refl : Cn ps x x
  | fwd {a b : Nat} (h : Cn ps x a) (m : (a, b) ∈ ps) : Cn ps x b
  | bwd {a b : Nat} (h : Cn ps x b) (m : (a, b) ∈ ps) : Cn ps x a
theorem Cn.trans {ps : List (Nat × Nat)} {x y z : Nat} (h : Cn ps x y) (k : Cn ps y z) : Cn ps x z := by
  induction k with
  | refl => exact h
  | fwd _ m ih => exact .fwd ih m
  | bwd _ m ih => exact .bwd ih m
theorem Cn.symm {ps : List (Nat × Nat)} {x y : Nat} (h : Cn ps x y) : Cn ps y x := by
  induction h with
  | refl => exact .refl
  | fwd _ m ih => exact Cn.trans (.bwd .refl m) ih
  | bwd _ m ih => exact Cn.trans (.fwd .refl m) ih
theorem Cn.more {ps qs : List (Nat × Nat)} {x y : Nat} (s : ∀ p ∈ ps, p ∈ qs) (h : Cn ps x y) : Cn qs x y := by
  induction h with
  | refl => exact .refl
  | fwd _ m ih => exact .fwd ih (s _ m)
  | bwd _ m ih => exact .bwd ih (s _ m)
/-- the root of a point after the links (lower, upper) -/
def rootF (x : Nat) (L : List (Nat × Nat)) : Nat := L.foldl (fun r p => if r = p.1 then p.2 else r) x
theorem root_app (x : Nat) (L : List (Nat × Nat)) (p : Nat × Nat) : rootF x (L ++ [p]) = if rootF x L = p.1 then p.2 else rootF x L := by
  unfold rootF
  rw [List.foldl_append]
  rfl
/-- how many points stand below -/
def subF (L : List (Nat × Nat)) : Nat → Nat := L.foldl (fun s p => fun x => if x = p.2 then s p.2 + s p.1 else s x) (fun _ => 1)
theorem sub_app (L : List (Nat × Nat)) (p : Nat × Nat) (x : Nat) : subF (L ++ [p]) x = if x = p.2 then subF L p.2 + subF L p.1 else subF L x := by
  unfold subF
  rw [List.foldl_append]
  rfl
def depF (x : Nat) (L : List (Nat × Nat)) : Nat := (L.foldl (fun (q : Nat × Nat) p => if q.1 = p.1 then (p.2, q.2 + 1) else q) (x, 0)).2
theorem dep_fst (x : Nat) (L : List (Nat × Nat)) : (L.foldl (fun (q : Nat × Nat) p => if q.1 = p.1 then (p.2, q.2 + 1) else q) (x, 0)).1 = rootF x L := by
  refine app_ind (P := fun L => (L.foldl (fun (q : Nat × Nat) p => if q.1 = p.1 then (p.2, q.2 + 1) else q) (x, 0)).1 = rootF x L) rfl (fun l p ih => ?_) L
  rw [root_app, List.foldl_append, ← ih]
  show (if _ = p.1 then _ else _ : Nat × Nat).1 = _
  split
  · rfl
  · rfl
theorem dep_app (x : Nat) (L : List (Nat × Nat)) (p : Nat × Nat) : depF x (L ++ [p]) = if rootF x L = p.1 then depF x L + 1 else depF x L := by
  rw [← dep_fst]
  unfold depF
  rw [List.foldl_append]
  show (if _ = p.1 then _ else _ : Nat × Nat).2 = _
  split
  · rfl
  · rfl
/-- links of roots -/
inductive OkL (W : Nat) : List (Nat × Nat) → Prop where
  | nil : OkL W []
  | add {L : List (Nat × Nat)} {lo up : Nat} (h : OkL W L) (h1 : rootF lo L = lo) (h2 : rootF up L = up) (ne : lo ≠ up) (l1 : lo < W) (l2 : up < W) : OkL W (L ++ [(lo, up)])
theorem root_lt {W : Nat} {L : List (Nat × Nat)} (h : OkL W L) {x : Nat} (hx : x < W) : rootF x L < W := by
  induction h with
  | nil => exact hx
  | add _ _ _ _ _ l2 ih =>
    rw [root_app]
    split
    · exact l2
    · exact ih
theorem root_root {W : Nat} {L : List (Nat × Nat)} (h : OkL W L) (x : Nat) : rootF (rootF x L) L = rootF x L := by
  induction h with
  | nil => rfl
  | add h h1 h2 ne l1 l2 ih =>
    rename_i L lo up
    rw [root_app x]
    by_cases e : rootF x L = lo
    · rw [if_pos e, root_app, h2, if_neg fun z => ne z.symm]
    · rw [if_neg e, root_app, ih, if_neg e]
/-- the parent, as it is written down -/
def parL (L : List (Nat × Nat)) (x : Nat) : Option Nat := (L.find? fun p => p.1 == x).map (·.2)
theorem par_app (L : List (Nat × Nat)) (p : Nat × Nat) (x : Nat) : parL (L ++ [p]) x = match parL L x with
  | some u => some u
  | none => if p.1 = x then some p.2 else none := by
  unfold parL
  rw [List.find?_append]
  cases L.find? fun p => p.1 == x with
  | some q => rfl
  | none =>
    show ([p].find? fun p => p.1 == x).map (·.2) = if p.1 = x then some p.2 else none
    by_cases e : p.1 = x
    · rw [List.find?_cons_of_pos (p := fun q : Nat × Nat => q.1 == x) (beq_iff_eq.mpr e), if_pos e]
      rfl
    · rw [List.find?_cons_of_neg (p := fun q : Nat × Nat => q.1 == x) (by simpa using e), if_neg e]
      rfl
theorem par_none {W : Nat} {L : List (Nat × Nat)} (h : OkL W L) : ∀ x, parL L x = none ↔ rootF x L = x := by
  induction h with
  | nil => exact fun x => ⟨fun _ => rfl, fun _ => rfl⟩
  | add h h1 h2 ne l1 l2 ih =>
    rename_i L lo up
    intro x
    rw [par_app, root_app]
    cases hp : parL L x with
    | some u =>
      have hx : rootF x L ≠ x := fun z => by
        rw [(ih x).mpr z] at hp
        cases hp
      constructor
      · intro z
        cases z
      · intro z
        by_cases e : rootF x L = lo
        · rw [if_pos e] at z
          rw [← z, h2] at e
          exact absurd e.symm ne
        · rw [if_neg e] at z
          exact absurd z hx
    | none =>
      have hx := (ih x).mp hp
      show (if lo = x then some up else none) = none ↔ _
      by_cases e : lo = x
      · rw [if_pos e, hx, if_pos e.symm]
        constructor
        · intro z
          cases z
        · intro z
          exact absurd (e.trans z.symm) ne
      · rw [if_neg e, hx, if_neg fun z => e z.symm]
        exact ⟨fun _ => rfl, fun _ => rfl⟩
theorem par_some {W : Nat} {L : List (Nat × Nat)} (h : OkL W L) : ∀ {x u}, parL L x = some u → rootF x L = rootF u L ∧ depF x L = depF u L + 1 := by
  induction h with
  | nil => exact fun h => nomatch h
  | add h h1 h2 ne l1 l2 ih =>
    rename_i L lo up
    intro x u hp
    rw [par_app] at hp
    rw [root_app, root_app, dep_app, dep_app]
    cases hq : parL L x with
    | some v =>
      rw [hq] at hp
      cases hp
      obtain ⟨a, b⟩ := ih hq
      rw [a, b]
      refine ⟨rfl, ?_⟩
      split <;> rfl
    | none =>
      rw [hq] at hp
      replace hp : (if lo = x then some up else none) = some u := hp
      by_cases e : lo = x
      · rw [if_pos e] at hp
        cases hp
        subst e
        have hl := (par_none h lo).mp hq
        have d0 : ∀ {x}, rootF x L = x → depF x L = 0 → True := fun _ _ => trivial
        rw [h1, if_pos rfl, h2, if_neg (fun z => ne z.symm), if_pos rfl, if_neg (fun z => ne z.symm)]
        refine ⟨rfl, ?_⟩
        have dz : ∀ {L : List (Nat × Nat)}, OkL W L → ∀ {x}, rootF x L = x → depF x L = 0 := by
          intro L h
          induction h with
          | nil => exact fun _ => rfl
          | add h h1 h2 ne l1 l2 ih =>
            rename_i L lo up
            intro x hx
            rw [root_app] at hx
            rw [dep_app]
            by_cases e : rootF x L = lo
            · rw [if_pos e] at hx
              rw [← hx, h2] at e
              exact absurd e.symm ne
            · rw [if_neg e] at hx ⊢
              exact ih hx
        rw [dz h h1, dz h h2]
      · rw [if_neg e] at hp
        cases hp
/-- how many points have this root -/
def cntF (W : Nat) (L : List (Nat × Nat)) (r : Nat) : Nat := ((List.range W).filter fun y => rootF y L == r).length
theorem fil_or {α : Type} (p q : α → Bool) : ∀ (l : List α), (∀ x ∈ l, p x = true → q x = false) → (l.filter fun x => p x || q x).length = (l.filter p).length + (l.filter q).length
  | [], _ => rfl
  | x :: l, h => by
    have i := fil_or p q l fun y m => h y (List.mem_cons_of_mem _ m)
    have hx := h x (List.mem_cons_self ..)
    cases hp : p x with
    | true =>
      rw [List.filter_cons_of_pos (by simp [hp]), List.filter_cons_of_pos hp, List.filter_cons_of_neg (by simp [hx hp]), List.length_cons, List.length_cons, i]
      omega
    | false =>
      cases hq : q x with
      | true =>
        rw [List.filter_cons_of_pos (by simp [hp, hq]), List.filter_cons_of_neg (by simp [hp]), List.filter_cons_of_pos hq, List.length_cons, List.length_cons, i]
        omega
      | false => rw [List.filter_cons_of_neg (by simp [hp, hq]), List.filter_cons_of_neg (by simp [hp]), List.filter_cons_of_neg (by simp [hq]), i]
theorem fil_eq {α : Type} {p q : α → Bool} {l : List α} (h : ∀ x ∈ l, p x = q x) : l.filter p = l.filter q := List.filter_congr h
theorem sub_cnt {W : Nat} {L : List (Nat × Nat)} (h : OkL W L) : ∀ {r}, r < W → rootF r L = r → subF L r = cntF W L r := by
  induction h with
  | nil =>
    intro r hr _
    show 1 = ((List.range W).filter fun y => y == r).length
    have key : ∀ (n : Nat), r < n → ((List.range n).filter fun y => y == r).length = 1 := by
      intro n
      induction n with
      | zero => exact fun z => absurd z (Nat.not_lt_zero _)
      | succ n ih =>
        intro z
        rw [List.range_succ, List.filter_append, List.length_append]
        by_cases e : r < n
        · rw [ih e, List.filter_cons_of_neg (by simp; omega)]
          rfl
        · have : n = r := by omega
          subst this
          rw [List.filter_cons_of_pos (by simp)]
          have : (List.range n).filter (fun y => y == n) = [] := List.filter_eq_nil_iff.mpr fun y hy => by
            have := List.mem_range.mp hy
            simp
            omega
          rw [this]
          rfl
    exact (key W hr).symm
  | add h h1 h2 ne l1 l2 ih =>
    rename_i L lo up
    intro r hr hroot
    rw [sub_app]
    have hne : r ≠ lo := fun z => by
      rw [root_app, z, h1, if_pos rfl] at hroot
      exact ne hroot.symm
    have hrL : rootF r L = r := by
      rw [root_app] at hroot
      by_cases e : rootF r L = lo
      · rw [if_pos e] at hroot
        rw [← hroot, h2] at e
        exact absurd e.symm ne
      · rwa [if_neg e] at hroot
    by_cases e : r = up
    · subst e
      rw [if_pos rfl, ih l2 h2, ih l1 h1]
      show _ = ((List.range W).filter fun y => rootF y (L ++ [(lo, r)]) == r).length
      rw [show ((List.range W).filter fun y => rootF y (L ++ [(lo, r)]) == r) = (List.range W).filter fun y => (rootF y L == r) || (rootF y L == lo) from fil_eq fun y _ => by
        rw [root_app]
        by_cases z : rootF y L = lo
        · rw [if_pos z, z]
          simp
        · rw [if_neg z]
          simp [z]]
      exact (fil_or _ _ _ fun y _ z => by
        have := beq_iff_eq.mp z
        rw [this]
        simpa using fun w => ne w.symm).symm
    · rw [if_neg e, ih hr hrL]
      unfold cntF
      rw [fil_eq (q := fun y => rootF y (L ++ [(lo, up)]) == r) fun y _ => by
        rw [root_app]
        by_cases z : rootF y L = lo
        · rw [if_pos z, z]
          have a : (lo == r) = false := by simpa using fun w => hne w.symm
          have b : (up == r) = false := by simpa using fun w => e w.symm
          rw [a]
          exact b.symm
        · rw [if_neg z]]
/-- how many roots there are -/
theorem roots_len {W : Nat} {L : List (Nat × Nat)} (h : OkL W L) : ((List.range W).filter fun y => rootF y L == y).length + L.length = W := by
  induction h with
  | nil =>
    have e : ((List.range W).filter fun y => rootF y [] == y) = List.range W := List.filter_eq_self.mpr fun y _ => beq_iff_eq.mpr rfl
    rw [e, List.length_range]
    rfl
  | add h h1 h2 ne l1 l2 ih =>
    rename_i L lo up
    have e : ((List.range W).filter fun y => rootF y L == y) = (List.range W).filter fun y => (rootF y (L ++ [(lo, up)]) == y) || (y == lo) := fil_eq fun y _ => by
      rw [root_app]
      by_cases z : y = lo
      · subst z
        rw [h1]
        simp
      · by_cases w : rootF y L = lo
        · rw [if_pos w, w]
          have a : (lo == y) = false := by simpa using fun q => z q.symm
          have b : (up == y) = false := by
            simp
            intro q
            rw [← q, h2] at w
            exact ne w.symm
          have c : (y == lo) = false := by simpa using z
          rw [a, b, c]
          rfl
        · rw [if_neg w]
          have c : (y == lo) = false := by simpa using z
          rw [c, Bool.or_false]
    have e2 := fil_or (fun y => rootF y (L ++ [(lo, up)]) == y) (fun y => y == lo) (List.range W) fun y _ z => by
      have := beq_iff_eq.mp z
      simp
      intro w
      rw [w, root_app, h1, if_pos rfl] at this
      exact ne this.symm
    have e3 : ((List.range W).filter fun y => y == lo).length = 1 := by
      have := sub_cnt (OkL.nil (W := W)) l1 rfl
      exact this.symm
    rw [e, e2, e3] at ih
    rw [List.length_append]
    show _ + (L.length + 1) = W
    omega
/-! the links of pushed pairs -/
def linkOf (L : List (Nat × Nat)) (p : Nat × Nat) : Option (Nat × Nat) :=
  if rootF p.1 L = rootF p.2 L then none else if subF L (rootF p.1 L) < subF L (rootF p.2 L) then some (rootF p.1 L, rootF p.2 L) else some (rootF p.2 L, rootF p.1 L)
def stepL (L : List (Nat × Nat)) (p : Nat × Nat) : List (Nat × Nat) := match linkOf L p with
  | none => L
  | some q => L ++ [q]
def linksOf (ps : List (Nat × Nat)) : List (Nat × Nat) := ps.foldl stepL []
theorem links_app (ps : List (Nat × Nat)) (p : Nat × Nat) : linksOf (ps ++ [p]) = stepL (linksOf ps) p := by
  unfold linksOf
  rw [List.foldl_append]
  rfl
def movesF : List (Nat × Nat) → List (Nat × Nat) → List (Option Nat)
  | _, [] => []
  | L, p :: ps => (linkOf L p).map (·.1) :: movesF (stepL L p) ps
def movesOf (ps : List (Nat × Nat)) : List (Option Nat) := movesF [] ps
theorem moves_app (ps : List (Nat × Nat)) (p : Nat × Nat) : movesOf (ps ++ [p]) = movesOf ps ++ [(linkOf (linksOf ps) p).map (·.1)] := by
  have key : ∀ (ps L : List (Nat × Nat)), movesF L (ps ++ [p]) = movesF L ps ++ [(linkOf (ps.foldl stepL L) p).map (·.1)] := by
    intro ps
    induction ps with
    | nil => exact fun _ => rfl
    | cons q ps ih => exact fun L => congrArg _ (ih (stepL L q))
  exact key ps []
theorem moves_len (ps : List (Nat × Nat)) : (movesOf ps).length = ps.length := by
  refine app_ind (P := fun ps => (movesOf ps).length = ps.length) rfl (fun l x ih => ?_) ps
  rw [moves_app, List.length_append, List.length_append, ih]
  rfl
theorem links_len (ps : List (Nat × Nat)) : (linksOf ps).length ≤ ps.length := by
  refine app_ind (P := fun ps => (linksOf ps).length ≤ ps.length) (Nat.le_refl _) (fun l x ih => ?_) ps
  rw [links_app, List.length_append]
  unfold stepL
  cases linkOf (linksOf l) x with
  | none => exact Nat.le_succ_of_le ih
  | some q =>
    show (linksOf l ++ [q]).length ≤ _
    rw [List.length_append]
    exact Nat.succ_le_succ ih
def InW (W : Nat) (ps : List (Nat × Nat)) : Prop := ∀ p ∈ ps, p.1 < W ∧ p.2 < W
theorem InW.init {W : Nat} {ps : List (Nat × Nat)} {p : Nat × Nat} (h : InW W (ps ++ [p])) : InW W ps ∧ p.1 < W ∧ p.2 < W := ⟨fun q m => h q (List.mem_append.mpr (.inl m)), h p (List.mem_append.mpr (.inr (List.mem_singleton.mpr rfl)))⟩
theorem InW.add {W : Nat} {ps : List (Nat × Nat)} {p : Nat × Nat} (h : InW W ps) (h1 : p.1 < W) (h2 : p.2 < W) : InW W (ps ++ [p]) := fun q m => (List.mem_append.mp m).elim (h q) fun m => by rw [List.mem_singleton.mp m]; exact ⟨h1, h2⟩
theorem link_ok {W : Nat} {L : List (Nat × Nat)} (h : OkL W L) {p : Nat × Nat} (h1 : p.1 < W) (h2 : p.2 < W) {q : Nat × Nat} (e : linkOf L p = some q) : rootF q.1 L = q.1 ∧ rootF q.2 L = q.2 ∧ q.1 ≠ q.2 ∧ q.1 < W ∧ q.2 < W ∧ ((q.1 = rootF p.1 L ∧ q.2 = rootF p.2 L) ∨ (q.1 = rootF p.2 L ∧ q.2 = rootF p.1 L)) := by
  unfold linkOf at e
  by_cases c : rootF p.1 L = rootF p.2 L
  · rw [if_pos c] at e
    cases e
  · rw [if_neg c] at e
    split at e
    · cases e
      exact ⟨root_root h _, root_root h _, c, root_lt h h1, root_lt h h2, .inl ⟨rfl, rfl⟩⟩
    · cases e
      exact ⟨root_root h _, root_root h _, fun z => c z.symm, root_lt h h2, root_lt h h1, .inr ⟨rfl, rfl⟩⟩
theorem ok_links {W : Nat} (ps : List (Nat × Nat)) : InW W ps → OkL W (linksOf ps) := by
  refine app_ind (P := fun ps => InW W ps → OkL W (linksOf ps)) (fun _ => .nil) (fun l p ih h => ?_) ps
  obtain ⟨hl, h1, h2⟩ := h.init
  rw [links_app]
  unfold stepL
  cases e : linkOf (linksOf l) p with
  | none => exact ih hl
  | some q =>
    obtain ⟨a, b, c, d, f, _⟩ := link_ok (ih hl) h1 h2 e
    exact .add (ih hl) a b c d f
theorem link_none {L : List (Nat × Nat)} {p : Nat × Nat} : linkOf L p = none ↔ rootF p.1 L = rootF p.2 L := by
  unfold linkOf
  by_cases c : rootF p.1 L = rootF p.2 L
  · rw [if_pos c]
    exact ⟨fun _ => c, fun _ => rfl⟩
  · rw [if_neg c]
    constructor
    · intro z
      split at z <;> cases z
    · intro z
      exact absurd z c
theorem root_cn {W : Nat} (ps : List (Nat × Nat)) : InW W ps → ∀ x, Cn ps x (rootF x (linksOf ps)) := by
  refine app_ind (P := fun ps => InW W ps → ∀ x, Cn ps x (rootF x (linksOf ps))) (fun _ x => .refl) (fun l p ih h x => ?_) ps
  obtain ⟨hl, h1, h2⟩ := h.init
  have i : ∀ x, Cn (l ++ [p]) x (rootF x (linksOf l)) := fun x => (ih hl x).more fun q m => List.mem_append.mpr (.inl m)
  have hp : (p.1, p.2) ∈ l ++ [p] := List.mem_append.mpr (.inr (List.mem_singleton.mpr rfl))
  have hok := ok_links l hl
  rw [links_app]
  unfold stepL
  cases e : linkOf (linksOf l) p with
  | none => exact i x
  | some q =>
    obtain ⟨_, _, _, _, _, f⟩ := link_ok hok h1 h2 e
    show Cn (l ++ [p]) x (rootF x (linksOf l ++ [q]))
    rw [root_app]
    by_cases z : rootF x (linksOf l) = q.1
    · rw [if_pos z]
      have hx := i x
      rw [z] at hx
      rcases f with ⟨f1, f2⟩ | ⟨f1, f2⟩
      · rw [f2]
        rw [f1] at hx
        exact ((hx.trans (i p.1).symm).fwd hp).trans (i p.2)
      · rw [f2]
        rw [f1] at hx
        exact ((hx.trans (i p.2).symm).bwd hp).trans (i p.1)
    · rw [if_neg z]
      exact i x
theorem root_more {L : List (Nat × Nat)} {p : Nat × Nat} {x y : Nat} (h : rootF x L = rootF y L) : rootF x (stepL L p) = rootF y (stepL L p) := by
  unfold stepL
  cases linkOf L p with
  | none => exact h
  | some q =>
    show rootF x (L ++ [q]) = rootF y (L ++ [q])
    rw [root_app, root_app, h]
theorem root_edge {W : Nat} (ps : List (Nat × Nat)) : InW W ps → ∀ p ∈ ps, rootF p.1 (linksOf ps) = rootF p.2 (linksOf ps) := by
  refine app_ind (P := fun ps => InW W ps → ∀ p ∈ ps, rootF p.1 (linksOf ps) = rootF p.2 (linksOf ps)) (fun _ _ m => nomatch m) (fun l p ih h q m => ?_) ps
  obtain ⟨hl, h1, h2⟩ := h.init
  rw [links_app]
  rcases List.mem_append.mp m with m | m
  · exact root_more (ih hl q m)
  · rw [List.mem_singleton.mp m]
    have hok := ok_links l hl
    unfold stepL
    cases e : linkOf (linksOf l) p with
    | none => exact link_none.mp e
    | some r =>
      obtain ⟨a, b, c, _, _, f⟩ := link_ok hok h1 h2 e
      show rootF p.1 (linksOf l ++ [r]) = rootF p.2 (linksOf l ++ [r])
      rw [root_app, root_app]
      rcases f with ⟨f1, f2⟩ | ⟨f1, f2⟩
      · rw [← f1, ← f2, if_pos rfl, if_neg fun z => c z.symm]
      · rw [← f1, ← f2, if_pos rfl, if_neg fun z => c z.symm]
theorem root_iff {W : Nat} {ps : List (Nat × Nat)} (h : InW W ps) {x y : Nat} : rootF x (linksOf ps) = rootF y (linksOf ps) ↔ Cn ps x y := by
  constructor
  · intro e
    have := root_cn ps h x
    rw [e] at this
    exact this.trans (root_cn ps h y).symm
  · intro c
    induction c with
    | refl => rfl
    | fwd _ m ih => exact ih.trans (root_edge ps h _ m)
    | bwd _ m ih => exact ih.trans (root_edge ps h _ m).symm
theorem range_nd (n : Nat) : (List.range n).Nodup := List.nodup_range
theorem fil_nd {l : List Nat} {p : Nat → Bool} (h : l.Nodup) : (l.filter p).Nodup := h.filter p
theorem cn_lt {W : Nat} {ps : List (Nat × Nat)} (h : InW W ps) {x y : Nat} (hx : x < W) (c : Cn ps x y) : y < W := by
  induction c with
  | refl => exact hx
  | fwd _ m _ => exact (h _ m).2
  | bwd _ m _ => exact (h _ m).1
/-- a list of just the points that are connected with x -/
theorem size_of {W : Nat} {ps : List (Nat × Nat)} (h : InW W ps) {x : Nat} (hx : x < W) {F : List Nat} (nd : F.Nodup) (m : ∀ y, y ∈ F ↔ Cn ps x y) : subF (linksOf ps) (rootF x (linksOf ps)) = F.length := by
  have hok := ok_links ps h
  rw [sub_cnt hok (root_lt hok hx) (root_root hok x)]
  refine Nat.le_antisymm (nd_le (fil_nd (range_nd W)) fun y hy => ?_) (nd_le nd fun y hy => ?_)
  · obtain ⟨_, e⟩ := List.mem_filter.mp hy
    exact (m y).mpr ((root_iff h).mp (beq_iff_eq.mp e).symm)
  · have c := (m y).mp hy
    exact List.mem_filter.mpr ⟨List.mem_range.mpr (cn_lt h hx c), beq_iff_eq.mpr ((root_iff h).mpr c).symm⟩
/-- the least ones of the components are as many as the roots -/
theorem groups_of {W : Nat} {ps : List (Nat × Nat)} (h : InW W ps) {M : List Nat} (nd : M.Nodup) (m : ∀ y, y ∈ M ↔ y < W ∧ ∀ z, Cn ps y z → y ≤ z) : M.length + (linksOf ps).length = W := by
  have hok := ok_links ps h
  rw [← roots_len hok]
  congr 1
  have inj : ∀ {l : List Nat} {f : Nat → Nat}, (∀ a ∈ l, ∀ b ∈ l, f a = f b → a = b) → l.Nodup → (l.map f).Nodup := by
    intro l
    induction l with
    | nil => exact fun _ _ => List.nodup_nil
    | cons x l ih =>
      intro f hf h
      obtain ⟨h1, h2⟩ := List.nodup_cons.mp h
      refine List.nodup_cons.mpr ⟨fun q => ?_, ih (fun a ha b hb => hf a (List.mem_cons_of_mem _ ha) b (List.mem_cons_of_mem _ hb)) h2⟩
      obtain ⟨y, hy, e⟩ := List.mem_map.mp q
      rw [hf y (List.mem_cons_of_mem _ hy) x (List.mem_cons_self ..) e] at hy
      exact h1 hy
  refine Nat.le_antisymm ?_ ?_
  · have := nd_le (a := M.map fun y => rootF y (linksOf ps)) (b := (List.range W).filter fun y => rootF y (linksOf ps) == y) (inj (fun a ha b hb e => ?_) nd) (fun y hy => ?_)
    · rwa [List.length_map] at this
    · have c := (root_iff h).mp e
      have := ((m a).mp ha).2 b c
      have := ((m b).mp hb).2 a c.symm
      omega
    · obtain ⟨z, hz, rfl⟩ := List.mem_map.mp hy
      exact List.mem_filter.mpr ⟨List.mem_range.mpr (root_lt hok ((m z).mp hz).1), beq_iff_eq.mpr (root_root hok z)⟩
  · -- the least one of a component
    have least : ∀ r, r < W → ∃ y, y < W ∧ rootF y (linksOf ps) = rootF r (linksOf ps) ∧ ∀ z, rootF z (linksOf ps) = rootF r (linksOf ps) → y ≤ z := by
      intro r
      induction r using Nat.strongRecOn with
      | _ r ih =>
        intro hr
        by_cases c : ∃ z, z < r ∧ rootF z (linksOf ps) = rootF r (linksOf ps)
        · obtain ⟨z, hz, e⟩ := c
          obtain ⟨y, y1, y2, y3⟩ := ih z hz (by omega)
          exact ⟨y, y1, y2.trans e, fun w hw => y3 w (hw.trans e.symm)⟩
        · refine ⟨r, hr, rfl, fun z hz => ?_⟩
          refine Nat.le_of_not_lt fun lt => c ⟨z, lt, hz⟩
    have pick : ∀ r, ∃ y, r < W → y < W ∧ rootF y (linksOf ps) = rootF r (linksOf ps) ∧ ∀ z, rootF z (linksOf ps) = rootF r (linksOf ps) → y ≤ z := fun r => by
      by_cases hr : r < W
      · obtain ⟨y, hy⟩ := least r hr
        exact ⟨y, fun _ => hy⟩
      · exact ⟨0, fun z => absurd z hr⟩
    have := nd_le (a := ((List.range W).filter fun y => rootF y (linksOf ps) == y).map fun r => Classical.choose (pick r)) (b := M) (inj (fun a ha b hb e => ?_) (fil_nd (range_nd W))) (fun y hy => ?_)
    · rwa [List.length_map] at this
    · obtain ⟨a1, a2⟩ := List.mem_filter.mp ha
      obtain ⟨b1, b2⟩ := List.mem_filter.mp hb
      have sa := Classical.choose_spec (pick a) (List.mem_range.mp a1)
      have sb := Classical.choose_spec (pick b) (List.mem_range.mp b1)
      have e : Classical.choose (pick a) = Classical.choose (pick b) := e
      rw [e] at sa
      have := sa.2.1.symm.trans sb.2.1
      rw [beq_iff_eq.mp a2, beq_iff_eq.mp b2] at this
      exact this
    · obtain ⟨r, hr, rfl⟩ := List.mem_map.mp hy
      obtain ⟨a1, a2⟩ := List.mem_filter.mp hr
      have sa := Classical.choose_spec (pick r) (List.mem_range.mp a1)
      exact (m _).mpr ⟨sa.1, fun z c => sa.2.2 z (((root_iff h).mpr c).symm.trans sa.2.1)⟩

/-! ### the search -/
def Closed (ps : List (Nat × Nat)) (F : List Nat) : Prop := ∀ p ∈ ps, p.1 ∈ F ↔ p.2 ∈ F
def inB (F : List Nat) (p : Nat × Nat) : Bool := decide (p.1 ∈ F) && decide (p.2 ∈ F)
def openN (ps : List (Nat × Nat)) (F : List Nat) : Nat := (ps.filter fun p => !inB F p).length
theorem fil_le {α : Type} {p q : α → Bool} : ∀ {l : List α}, (∀ x ∈ l, p x = true → q x = true) → (l.filter p).length ≤ (l.filter q).length
  | [], _ => Nat.le_refl _
  | x :: l, h => by
    have i := fil_le (l := l) fun y m => h y (List.mem_cons_of_mem _ m)
    cases hp : p x with
    | true =>
      rw [List.filter_cons_of_pos hp, List.filter_cons_of_pos (h x (List.mem_cons_self ..) hp)]
      exact Nat.succ_le_succ i
    | false =>
      rw [List.filter_cons_of_neg (by simp [hp])]
      cases hq : q x with
      | true =>
        rw [List.filter_cons_of_pos hq]
        exact Nat.le_succ_of_le i
      | false =>
        rw [List.filter_cons_of_neg (by simp [hq])]
        exact i
theorem fil_lt {α : Type} {p q : α → Bool} : ∀ {l : List α}, (∀ x ∈ l, p x = true → q x = true) → (∃ x ∈ l, q x = true ∧ p x = false) → (l.filter p).length < (l.filter q).length
  | [], _, ⟨_, m, _⟩ => nomatch m
  | x :: l, h, ⟨y, m, e1, e2⟩ => by
    rcases List.mem_cons.mp m with rfl | m
    · rw [List.filter_cons_of_neg (by simp [e2]), List.filter_cons_of_pos e1]
      exact Nat.lt_succ_of_le (fil_le fun z m => h z (List.mem_cons_of_mem _ m))
    · have i := fil_lt (l := l) (fun z m => h z (List.mem_cons_of_mem _ m)) ⟨y, m, e1, e2⟩
      cases hp : p x with
      | true =>
        rw [List.filter_cons_of_pos hp, List.filter_cons_of_pos (h x (List.mem_cons_self ..) hp)]
        exact Nat.succ_lt_succ i
      | false =>
        rw [List.filter_cons_of_neg (by simp [hp])]
        cases hq : q x with
        | true =>
          rw [List.filter_cons_of_pos hq]
          exact Nat.lt_succ_of_lt i
        | false =>
          rw [List.filter_cons_of_neg (by simp [hq])]
          exact i
theorem inB_more {F : List Nat} {y : Nat} {p : Nat × Nat} (h : inB F p = true) : inB (F ++ [y]) p = true := by
  unfold inB at h ⊢
  rw [Bool.and_eq_true] at h ⊢
  exact ⟨decide_eq_true (List.mem_append.mpr (.inl (of_decide_eq_true h.1))), decide_eq_true (List.mem_append.mpr (.inl (of_decide_eq_true h.2)))⟩
theorem open_le (ps : List (Nat × Nat)) (F : List Nat) (y : Nat) : openN ps (F ++ [y]) ≤ openN ps F := fil_le fun p _ h => by
  cases e : inB F p with
  | false => rfl
  | true =>
    rw [inB_more e] at h
    cases h
theorem open_lt {ps : List (Nat × Nat)} {F : List Nat} {p : Nat × Nat} (hp : p ∈ ps) (h : ¬ (p.1 ∈ F ↔ p.2 ∈ F)) : openN ps (F ++ [if p.1 ∈ F then p.2 else p.1]) < openN ps F := fil_lt (fun q _ h => by
  cases e : inB F q with
  | false => rfl
  | true =>
    rw [inB_more e] at h
    cases h) ⟨p, hp, by
    have : inB F p = false := by
      cases e : inB F p with
      | false => rfl
      | true =>
        unfold inB at e
        rw [Bool.and_eq_true] at e
        exact absurd ⟨fun _ => of_decide_eq_true e.2, fun _ => of_decide_eq_true e.1⟩ h
    rw [this]
    refine ⟨rfl, ?_⟩
    have : inB (F ++ [if p.1 ∈ F then p.2 else p.1]) p = true := by
      unfold inB
      rw [Bool.and_eq_true]
      by_cases c : p.1 ∈ F
      · rw [if_pos c]
        exact ⟨decide_eq_true (List.mem_append.mpr (.inl c)), decide_eq_true (List.mem_append.mpr (.inr (List.mem_singleton.mpr rfl)))⟩
      · rw [if_neg c]
        refine ⟨decide_eq_true (List.mem_append.mpr (.inr (List.mem_singleton.mpr rfl))), decide_eq_true (List.mem_append.mpr (.inl ?_))⟩
        exact Decidable.byContradiction fun d => h ⟨fun z => absurd z c, fun z => absurd z d⟩
    rw [this]
    rfl⟩
theorem open_zero {ps : List (Nat × Nat)} {F : List Nat} (h : openN ps F = 0) : Closed ps F := fun p hp => by
  have e := List.length_eq_zero_iff.mp h
  have := List.filter_eq_nil_iff.mp e p hp
  have i : inB F p = true := by
    cases z : inB F p with
    | true => rfl
    | false =>
      rw [z] at this
      exact absurd rfl this
  unfold inB at i
  rw [Bool.and_eq_true] at i
  exact ⟨fun _ => of_decide_eq_true i.2, fun _ => of_decide_eq_true i.1⟩
theorem closed_all {ps : List (Nat × Nat)} {F : List Nat} {x y : Nat} (h : Closed ps F) (hx : x ∈ F) (c : Cn ps x y) : y ∈ F := by
  induction c with
  | refl => exact hx
  | fwd _ m ih => exact (h _ m).mp ih
  | bwd _ m ih => exact (h _ m).mpr ih
/-- what is found so far: each once, all connected -/
structure Fnd (ps : List (Nat × Nat)) (x : Nat) (F : List Nat) : Prop where
  nd : F.Nodup
  me : x ∈ F
  c : ∀ y ∈ F, Cn ps x y
theorem Fnd.one (ps : List (Nat × Nat)) (x : Nat) : Fnd ps x [x] := ⟨List.nodup_cons.mpr ⟨(fun z => nomatch z), List.nodup_nil⟩, List.mem_cons_self .., fun y m => by rw [List.mem_singleton.mp m]; exact .refl⟩
theorem Fnd.add {ps : List (Nat × Nat)} {x : Nat} {F : List Nat} (h : Fnd ps x F) {p : Nat × Nat} (hp : p ∈ ps) (n : ¬ (p.1 ∈ F ↔ p.2 ∈ F)) : Fnd ps x (F ++ [if p.1 ∈ F then p.2 else p.1]) := by
  have hp' : (p.1, p.2) ∈ ps := hp
  refine ⟨nd_snoc h.nd ?_, List.mem_append.mpr (.inl h.me), fun y m => (List.mem_append.mp m).elim (h.c y) fun m => ?_⟩
  · by_cases c : p.1 ∈ F
    · rw [if_pos c]
      exact fun z => n ⟨fun _ => z, fun _ => c⟩
    · rw [if_neg c]
      exact c
  · rw [List.mem_singleton.mp m]
    by_cases c : p.1 ∈ F
    · rw [if_pos c]
      exact .fwd (h.c _ c) hp'
    · rw [if_neg c]
      exact .bwd (h.c _ (Decidable.byContradiction fun d => n ⟨fun z => absurd z c, fun z => absurd z d⟩)) hp'
theorem Fnd.iff {ps : List (Nat × Nat)} {x : Nat} {F : List Nat} (h : Fnd ps x F) (k : Closed ps F) (y : Nat) : y ∈ F ↔ Cn ps x y := ⟨h.c y, closed_all k h.me⟩
theorem in_nat (x : Nat) : ∀ F : List Nat, inV (.int (x : Int)) (F.map fun k : Nat => V.int (k : Int)) = decide (x ∈ F)
  | [] => rfl
  | y :: F => by
    have i := in_nat x F
    unfold inV at i ⊢
    rw [List.map_cons, List.any_cons, i]
    have e : eqV (V.int (y : Int)) (V.int (x : Int)) = decide (y = x) := by
      show decide ((y : Int) = (x : Int)) = decide (y = x)
      by_cases z : y = x
      · rw [dT z, z, dT rfl]
      · rw [dF z, dF fun w => z (by omega)]
    rw [e]
    by_cases z : y = x
    · rw [dT z, dT (show x ∈ y :: F by rw [z]; exact List.mem_cons_self ..)]
      rfl
    · rw [dF z, Bool.false_or]
      by_cases m : x ∈ F
      · rw [dT m, dT (List.mem_cons_of_mem _ m)]
      · rw [dF m, dF fun w => (List.mem_cons.mp w).elim (fun q => z q.symm) m]
theorem flat_nats (F : List Nat) : (F.map fun k : Nat => V.int (k : Int)).all flatV = true := by
  rw [List.all_map]
  exact List.all_eq_true.mpr fun _ _ => rfl

end Un
end Ob

set_option Elab.async false
set_option linter.all false
set_option maxRecDepth 100000
set_option maxHeartbeats 1000000
namespace Ob
open PySem PySem.Spec PyProof.Rows L2
open LamX (Tabs TabB TabS ExtN)

set_option hygiene false in
local macro_rules
  | `(tactic| kp_flats) => `(tactic| first
    | assumption
    | exact upd_same
    | (apply atNew; assumption; kp_flats)
    | (apply atNe; (next => kbo_bools); kp_flats)
    | (apply atSame; assumption; kp_flats)
    | (apply atKp; assumption; (next => kaf_pre); kp_flats))
set_option hygiene false in
local macro_rules
  | `(tactic| kaf_pre) => `(tactic| first
    | assumption
    | exact not_nil
    | (apply not_cons; (next => kbo_bools); kaf_pre)
    | (apply not_app; (next => kaf_pre); kaf_pre))
set_option hygiene false in
local macro_rules
  | `(tactic| kbo_bools) => `(tactic| first
    | assumption
    | (apply Ne.symm; assumption)
    | (apply neN; assumption; kp_flats)
    | (apply neN'; assumption; kp_flats))
set_option hygiene false in
local macro_rules
  | `(tactic| o_reads) => `(tactic| first
    | with_reducible rfl
    | assumption
    | rfl
    | kp_flats
    | (show SqL _ _ _ _; first | assumption | (apply sqlOf; kp_flats) | (apply sqlSame; assumption; o_reads))
    | (show SqT _ _ _ _; first | assumption | (apply sqtOf; kp_flats) | (apply sqtAll; assumption) | (apply sqtSame; assumption; o_reads))
    | (show Cls _ _; first | exact T.cl_Unions)
    | (show NoAttr _ _ _; first | exact T.n_Unions_groups | exact T.n_Unions_parents | exact T.n_Unions_counts | exact T.n_Unions_moved)
    | (apply Or.inl; o_reads)
    | (apply Or.inr; o_reads)
    | (apply And.intro; (next => o_reads); o_reads)
    | (apply Exists.intro; o_reads)
    | exact Nat.le_of_ble_eq_true rfl
    | exact Nat.succ_ne_zero _
    | (show Fr _ _; kba_ints)
    | (show Same _ _; kd_subs)
    | (show Kp _ _ _; kxs_still)
    | (show (_ : Nat) ≤ _; simp only [List.length_append, List.length_map, List.length_cons, List.length_nil, List.length_take, List.length_drop, List.length_replicate, List.length_range, sizeLine_eq]; omega)
    | (show _ = none; apply Fr.h; kba_ints)
    | (show Bag _ _; first | assumption | (apply bag_putF; assumption; o_reads) | (apply bag_neF; (next => kbo_bools); o_reads) | (apply bag_kpR; assumption; (next => kaf_pre); o_reads))
    | omega
    | decide)
local macro_rules
  | `(tactic| o_readsAll) => `(tactic| repeat (first
    | (refine fun (pNew : Addr) (nNew : _ = none) => ?_; replace nNew := Fr.mk nNew)
    | (refine fun (xNew dNew : Addr) (nNew : _ = none) (mNew : _ = none) (eNew : dNew ≠ xNew) => ?_; replace nNew := Fr.mk nNew; replace mNew := Fr.mk mNew)
    | (apply And.intro; next => o_reads)
    | apply Exists.intro (α := V)
    | apply Exists.intro (α := Addr)
    | apply Exists.intro (α := Int)
    | apply Exists.intro (α := Bool)
    | apply Exists.intro (α := List V)
    | apply Exists.intro (α := List Nat)
    | apply Exists.intro (α := List (Str × V))
    | apply Exists.intro (α := List _)
    | apply Exists.intro (α := Str)
    | apply Exists.intro (α := HO)
    | apply Exists.intro (α := Sp)
    | apply Exists.intro (α := VK)))
set_option hygiene false in
local macro_rules
  | `(tactic| kba_ints) => `(tactic| first
    | assumption
    | (apply frUp; (first | assumption | (apply Ne.symm; assumption)); kba_ints)
    | (apply noneOf; assumption; intro oF eF; apply Exists.intro; kp_flats)
    | (apply frUp; (next => kbo_bools); kba_ints))
set_option hygiene false in
local macro_rules
  | `(tactic| kxs_still) => `(tactic| first
    | assumption
    | exact kp_refl _ _
    | (apply kp_newF; assumption; kxs_still)
    | (apply kp_new; assumption; kxs_still)
    | (apply kp_up; (next => o_fieldsN); kxs_still)
    | (apply kp_new; (next => kba_ints); kxs_still)
    | (apply kp_sameR; assumption; kxs_still)
    | (apply kp_transR; assumption; kxs_still)
    | (apply kp_freshR; assumption; (next => kaf_suf); kxs_still))
set_option hygiene false in
local macro_rules
  | `(tactic| kaf_suf) => `(tactic| first
    | assumption
    | exact subNil
    | (apply subCons; (first | (apply Or.inl; o_fieldsN) | (apply Or.inr; kba_ints)); kaf_suf)
    | (apply subApp; (next => kaf_suf); kaf_suf))
set_option hygiene false in
local macro_rules
  | `(tactic| o_fieldsN) => `(tactic| first
    | assumption
    | exact memA
    | (apply memB; o_fieldsN)
    | (apply memL; o_fieldsN)
    | (apply memR; o_fieldsN))
set_option hygiene false in
local macro_rules
  | `(tactic| kd_subs) => `(tactic| first
    | assumption
    | exact Same.refl _
    | (apply same_putF; assumption; kd_subs)
    | (apply same_putG; assumption; kd_subs)
    | (apply same_putF; (next => kba_ints); kd_subs)
    | (apply same_transR; assumption; kd_subs))

namespace Un
def nV (k : Nat) : V := .int (k : Int)
def kvL (L : List (Nat × Nat)) : List (Key × V) := L.map fun p : Nat × Nat => (Sum.inl (p.1 : Int), V.int (p.2 : Int))
theorem kvL_app (a b : List (Nat × Nat)) : kvL (a ++ b) = kvL a ++ kvL b := List.map_append ..
theorem kvL_val (x : Nat) : ∀ L : List (Nat × Nat), valV (kvL L) (Sum.inl (x : Int)) = (parL L x).map fun u : Nat => V.int (u : Int)
  | [] => rfl
  | p :: L => by
    show valV ((Sum.inl (p.1 : Int), V.int (p.2 : Int)) :: kvL L) _ = _
    unfold parL
    by_cases e : p.1 = x
    · rw [valV_pos (by rw [e]), List.find?_cons_of_pos (p := fun q : Nat × Nat => q.1 == x) (beq_iff_eq.mpr e)]
      rfl
    · rw [valV_neg (fun z => e (by injection z with z; omega)), List.find?_cons_of_neg (p := fun q : Nat × Nat => q.1 == x) (by simpa using e)]
      exact kvL_val x L
theorem kvL_key {x : Nat} : ∀ {L : List (Nat × Nat)}, parL L x = none → ¬ (Sum.inl (x : Int) : Key) ∈ (kvL L).map (·.1) := fun {L} h m => by
  obtain ⟨q, hq, e⟩ := List.mem_map.mp m
  obtain ⟨p, hp, rfl⟩ := List.mem_map.mp hq
  unfold parL at h
  rw [Option.map_eq_none_iff] at h
  have := List.find?_eq_none.mp h p hp
  injection e with e
  exact this (beq_iff_eq.mpr (by omega))
def mV : Option Nat → V
  | none => .non
  | some x => .int (x : Int)
structure CntOk (W : Nat) (L : List (Nat × Nat)) (cs : List (Key × V)) : Prop where
  v : ∀ x : Nat, (valV cs (Sum.inl (x : Int))).getD (.int 1) = .int (subF L x : Nat)
  nd : (cs.map (·.1)).Nodup
  k : ∀ k ∈ cs.map (·.1), ∃ x, x < W ∧ k = Sum.inl ((x : Nat) : Int)
theorem CntOk.len {W : Nat} {L : List (Nat × Nat)} {cs : List (Key × V)} (h : CntOk W L cs) : cs.length ≤ W := by
  have := nd_le (a := cs.map (·.1)) (b := (List.range W).map fun x : Nat => (Sum.inl (x : Int) : Key)) h.nd fun k m => by
    obtain ⟨x, hx, e⟩ := h.k k m
    exact List.mem_map.mpr ⟨x, List.mem_range.mpr hx, e.symm⟩
  rw [List.length_map, List.length_map, List.length_range] at this
  exact this
theorem keys_map (cs : List (Key × V)) (k : Key) (y : V) : (cs.map fun kv => if kv.1 = k then (kv.1, y) else kv).map (·.1) = cs.map (·.1) := by
  rw [List.map_map]
  refine List.map_congr_left fun p _ => ?_
  show (if p.1 = k then (p.1, y) else p).1 = p.1
  split <;> rfl
theorem CntOk.put {W : Nat} {L L' : List (Nat × Nat)} {cs : List (Key × V)} (h : CntOk W L cs) {x n : Nat} (hx : x < W) (hn : subF L' x = n) (ho : ∀ y, y ≠ x → subF L' y = subF L y) : CntOk W L' (putK cs (Sum.inl (x : Int)) (.int (n : Int))) := by
  refine ⟨fun y => ?_, ?_, ?_⟩
  · rw [valV_put]
    by_cases e : y = x
    · subst e
      rw [if_pos rfl, hn]
      rfl
    · rw [if_neg (fun z => e (by injection z with z; omega)), h.v, ho y e]
  · cases q : valV cs (Sum.inl (x : Int)) with
    | none => exact nd_putK _ h.nd q
    | some v =>
      unfold putK
      rw [valV_any, q, if_pos (show (some v).isSome = true from rfl), keys_map]
      exact h.nd
  · intro k m
    cases q : valV cs (Sum.inl (x : Int)) with
    | none =>
      rw [putK_new _ q, List.map_append] at m
      rcases List.mem_append.mp m with m | m
      · exact h.k k m
      · exact ⟨x, hx, List.mem_singleton.mp m⟩
    | some v =>
      unfold putK at m
      rw [valV_any, q, if_pos (show (some v).isSome = true from rfl), keys_map] at m
      exact h.k k m
structure UnAt (C : Addr) (H : Hp) (s dp dc m : Addr) (W : Nat) (ps : List (Nat × Nat)) : Prop where
  s : ∃ dx, H s = some (.ins C dx [("groups", .int ((W : Int) - ((linksOf ps).length : Nat))), ("parents", .ref dp), ("counts", .ref dc), ("moved", .ref m)])
  p : H dp = some (.dK (kvL (linksOf ps)))
  c : ∃ cs, H dc = some (.dK cs) ∧ CntOk W (linksOf ps) cs
  m : H m = some (.lst ((movesOf ps).map mV))
  w : InW W ps
  n : dp ≠ dc
theorem UnAt.kp {C s dp dc m : Addr} {H H1 : Hp} {W : Nat} {ps : List (Nat × Nat)} {cs : List Addr} (h : UnAt C H s dp dc m W ps) (k : Kp cs H H1) (n1 : s ∉ cs) (n2 : dp ∉ cs) (n3 : dc ∉ cs) (n4 : m ∉ cs) : UnAt C H1 s dp dc m W ps := by
  obtain ⟨⟨dx, e⟩, e2, ⟨c, e3, e4⟩, e5, e6, e7⟩ := h
  exact ⟨⟨dx, k.at_ _ _ e n1⟩, k.at_ _ _ e2 n2, ⟨c, k.at_ _ _ e3 n3, e4⟩, k.at_ _ _ e5 n4, e6, e7⟩
theorem UnAt.same {C s dp dc m : Addr} {H H1 : Hp} {W : Nat} {ps : List (Nat × Nat)} (h : UnAt C H s dp dc m W ps) (k : Same H H1) : UnAt C H1 s dp dc m W ps := h.kp (cs := []) (kp_same k) not_nil not_nil not_nil not_nil
theorem UnAt.ne {C s dp dc m : Addr} {H : Hp} {W : Nat} {ps : List (Nat × Nat)} (h : UnAt C H s dp dc m W ps) : s ≠ dp ∧ s ≠ dc ∧ s ≠ m ∧ dp ≠ dc ∧ dp ≠ m ∧ dc ≠ m := by
  obtain ⟨⟨dx, e⟩, e2, ⟨c, e3, e4⟩, e5, e6, e7⟩ := h
  exact ⟨neO e e2 (fun z => nomatch z), neO e e3 (fun z => nomatch z), neO e e5 (fun z => nomatch z), e7, neO e2 e5 (fun z => nomatch z), neO e3 e5 (fun z => nomatch z)⟩
section
variable {P : Program} {w : World} {K : PySem.W.Frag} {mg : Str → Option Value} {base : Heap}
def spRoot (C : Addr) : Sp := fun vs H Q _ => ∃ (s dp dc m : Addr) (W : Nat) (ps : List (Nat × Nat)) (x : Nat), vs = [.ref s, .int (x : Int)] ∧ UnAt C H s dp dc m W ps ∧ Q (.int (rootF x (linksOf ps) : Nat)) H
theorem ok_root (T : Txt K mg) : FnOk P w K mg base CX0 1 T.f_Unions_root_of T.d_Unions_root_of ["self", "point"] (spRoot T.C_Unions) := by
  refine T.F_Unions_root_of.ok sc_Unions_root_of (fun vs H Q E h => ?_) (fun cdv A outer s H vs Q E hr h => ?_)
  · obtain ⟨s, dp, dc, m, W, ps, x, rfl, _⟩ := h
    rfl
  · obtain ⟨s, dp, dc, m, W, ps, x, rfl, ⟨⟨dx, hs⟩, hp, ⟨cs, hc, hcs⟩, hm, hw, hn⟩, q⟩ := h
    refine ⟨_, (pss_cons (ps_set (i := 2) sc_Unions_root_of.nd rfl (.inl rfl) (pv 1))
      (pss_cons (ps_while PassesOwn.never (pt_cmp (pc_din (hu_of hr) (pv 2) (pe_fld (pv 0) rfl))) (pss_one (ps_set (i := 2) sc_Unions_root_of.nd rfl (.inl rfl) (pe_dget (hu_of hr) (pe_fld (pv 0) rfl) (pv 2) (fun _ _ => rfl)))))
      (pss_one (ps_ret (pv 2))))), ?_⟩
    have hok := ok_links ps hw
    refine ⟨_, rfl, ?_⟩
    refine while_by (fun σ H' => H' = H ∧ ∃ r : Nat, σ = [some (.ref s), some (.int (x : Int)), some (.int (r : Int))] ∧ rootF r (linksOf ps) = rootF x (linksOf ps)) (fun σ _ => match σ[2]? with
      | some (some (V.int r)) => depF r.toNat (linksOf ps)
      | _ => 0) ⟨rfl, x, rfl, rfl⟩ ?_ ?_
    · rintro σ H' ⟨rfl, r, rfl, he⟩
      have hg : DGet H' dp (.int (r : Int)) (valV (kvL (linksOf ps)) (Sum.inl (r : Int))) := DGet.k (k := Sum.inl (r : Int)) hp
      rw [kvL_val] at hg
      refine ⟨_, rfl, _, rfl, s, _, dx, _, _, rfl, hs, T.cl_Unions, T.n_Unions_parents, rfl, dp, _, rfl, hg, _, rfl, ?_⟩
      cases hf : parL (linksOf ps) r with
      | none =>
        refine ifF rfl ?_
        o_readsAll
        rw [(par_none hok r).mp hf] at he
        rw [← he] at q
        exact q
      | some u =>
        refine ifT rfl ?_
        rw [hf] at hg
        obtain ⟨e1, e2⟩ := par_some hok hf
        have e3 : rootF u (linksOf ps) = rootF x (linksOf ps) := e1.symm.trans he
        o_readsAll
        show depF ((u : Int)).toNat _ < depF ((r : Int)).toNat _
        rw [Int.toNat_natCast, Int.toNat_natCast, e2]
        exact Nat.lt_succ_self _
    · rintro σ H' Q1 Q2 m h
      dsimp only [tB, tDIn, tVar, tFld] at h ⊢
      obtain ⟨v, a1, v', a3, a, C, dx', fs, v1, a4, a5, a6, a7, a8, a', o, a9, a10, c', a11, h⟩ := h
      exact ⟨v, a1, v', a3, a, C, dx', fs, v1, a4, a5, a6, a7, a8, a', o, a9, a10, c', a11, m _ _ h⟩
def spCount (C : Addr) : Sp := fun vs H Q _ => ∃ (s dc : Addr) (dx : Addr) (fs : List (Str × V)) (x : Nat) (cs : List (Key × V)) (n : Nat), vs = [.ref s, .int (x : Int)] ∧ H s = some (.ins C dx fs) ∧ fs.lookup ("counts" : Str) = some (V.ref dc) ∧ H dc = some (.dK cs) ∧ (valV cs (Sum.inl (x : Int))).getD (.int 1) = .int (n : Int) ∧ Q (.int (n : Int)) H
theorem ok_count (T : Txt K mg) : FnOk P w K mg base CX0 1 T.f_Unions_count_of T.d_Unions_count_of ["self", "root"] (spCount T.C_Unions) := by
  refine T.F_Unions_count_of.ok sc_Unions_count_of (fun vs H Q E h => ?_) (fun cdv A outer s H vs Q E hr h => ?_)
  · obtain ⟨s, dc, dx, fs, x, cs, n, rfl, _⟩ := h
    rfl
  · obtain ⟨s, dc, dx, fs, x, cs, n, rfl, hs, hl, hc, hv, q⟩ := h
    refine ⟨_, (pss_one (ps_ret (pe_dget2 (hu_of hr) (pe_fld (pv 0) rfl) (pv 1) pe_int ⟨rfl, rfl, rfl, rfl⟩))), ?_⟩
    refine ⟨_, rfl, s, _, dx, fs, _, rfl, hs, T.cl_Unions, T.n_Unions_counts, hl, dc, rfl, .inl ⟨cs, .inl hc⟩, _, rfl, _, DGet.k (k := Sum.inl (x : Int)) hc, ?_⟩
    show Q ((valV cs (Sum.inl (x : Int))).getD (.int 1)) H
    rw [hv]
    exact q
def spUI (C : Addr) : Sp := fun vs H Q _ => ∃ (s dx : Addr) (W : Nat), vs = [.ref s, .int (W : Int)] ∧ H s = some (.ins C dx []) ∧ ∀ dp dc m H', Fr H dp → Fr H dc → Fr H m → Kp [s] H H' → UnAt C H' s dp dc m W [] → Q .non H'
theorem ok_ui (T : Txt K mg) : FnOk P w K mg base CX0 1 T.f_Unions_init T.d_Unions_init ["self", "many"] (spUI T.C_Unions) := by
  refine T.F_Unions_init.ok sc_Unions_init (fun vs H Q E h => ?_) (fun cdv A outer s H vs Q E hr h => ?_)
  · obtain ⟨s, dx, W, rfl, _⟩ := h
    rfl
  · obtain ⟨s, dx, W, rfl, hs, q⟩ := h
    refine ⟨_, (pss_cons (ps_fld (pv 0) (pv 1) rfl)
      (pss_cons (ps_fld (pv 0) pe_dnewK rfl)
      (pss_cons (ps_fld (pv 0) pe_dnewK rfl)
      (pss_one (ps_fld (pv 0) (pe_lst pa_nil) rfl))))), ?_⟩
    have e0 : ((W : Int) - ((linksOf []).length : Nat)) = (W : Int) := by
      show (W : Int) - ((0 : Nat) : Int) = W
      omega
    o_readsAll
    rename_i dp ndp dc ndc m ndm
    have nds : dp ≠ s := by kbo_bools
    have n1 : dp ≠ dc := neN (o := .dK []) ndc (by rw [upd_ne nds]; exact upd_same)
    have fdp : Fr H dp := by kba_ints
    have fdc : Fr H dc := by kba_ints
    have fm : Fr H m := by kba_ints
    refine q dp dc m _ fdp fdc fm (by kxs_still) ⟨⟨dx, ?_⟩, by kp_flats, ⟨[], by kp_flats, fun _ => rfl, List.nodup_nil, fun _ z => nomatch z⟩, by kp_flats, (fun _ z => nomatch z), n1⟩
    rw [e0]
    exact upd_same
end
end Un
end Ob

set_option Elab.async false
set_option linter.all false
set_option maxRecDepth 100000
set_option maxHeartbeats 1000000
namespace Ob
open PySem PySem.Spec PyProof.Rows L2
open LamX (Tabs TabB TabS ExtN)

set_option hygiene false in
local macro_rules
  | `(tactic| kp_flats) => `(tactic| first
    | assumption
    | exact upd_same
    | (apply atNew; assumption; kp_flats)
    | (apply atNe; (next => kbo_bools); kp_flats)
    | (apply atSame; assumption; kp_flats)
    | (apply atKp; assumption; (next => kaf_pre); kp_flats))
set_option hygiene false in
local macro_rules
  | `(tactic| kaf_pre) => `(tactic| first
    | assumption
    | exact not_nil
    | (apply not_cons; (next => kbo_bools); kaf_pre)
    | (apply not_app; (next => kaf_pre); kaf_pre))
set_option hygiene false in
local macro_rules
  | `(tactic| kbo_bools) => `(tactic| first
    | assumption
    | (apply Ne.symm; assumption)
    | (apply neN; assumption; kp_flats)
    | (apply neN'; assumption; kp_flats))
set_option hygiene false in
local macro_rules
  | `(tactic| o_reads) => `(tactic| first
    | with_reducible rfl
    | assumption
    | rfl
    | kp_flats
    | (show SqL _ _ _ _; first | assumption | (apply sqlOf; kp_flats) | (apply sqlSame; assumption; o_reads))
    | (show SqT _ _ _ _; first | assumption | (apply sqtOf; kp_flats) | (apply sqtAll; assumption) | (apply sqtSame; assumption; o_reads))
    | (show Cls _ _; first | exact T.cl_Unions)
    | (show NoAttr _ _ _; first | exact T.n_Unions_groups | exact T.n_Unions_parents | exact T.n_Unions_counts | exact T.n_Unions_moved)
    | (apply Or.inl; o_reads)
    | (apply Or.inr; o_reads)
    | (apply And.intro; (next => o_reads); o_reads)
    | (apply Exists.intro; o_reads)
    | exact Nat.le_of_ble_eq_true rfl
    | exact Nat.succ_ne_zero _
    | (show Fr _ _; kba_ints)
    | (show Same _ _; kd_subs)
    | (show Kp _ _ _; kxs_still)
    | (show (_ : Nat) ≤ _; simp only [List.length_append, List.length_map, List.length_cons, List.length_nil, List.length_take, List.length_drop, List.length_replicate, List.length_range, sizeLine_eq]; omega)
    | (show _ = none; apply Fr.h; kba_ints)
    | (show Bag _ _; first | assumption | (apply bag_putF; assumption; o_reads) | (apply bag_neF; (next => kbo_bools); o_reads) | (apply bag_kpR; assumption; (next => kaf_pre); o_reads))
    | omega
    | decide)
local macro_rules
  | `(tactic| o_readsAll) => `(tactic| repeat (first
    | (refine fun (pNew : Addr) (nNew : _ = none) => ?_; replace nNew := Fr.mk nNew)
    | (refine fun (xNew dNew : Addr) (nNew : _ = none) (mNew : _ = none) (eNew : dNew ≠ xNew) => ?_; replace nNew := Fr.mk nNew; replace mNew := Fr.mk mNew)
    | (apply And.intro; next => o_reads)
    | apply Exists.intro (α := V)
    | apply Exists.intro (α := Addr)
    | apply Exists.intro (α := Int)
    | apply Exists.intro (α := Bool)
    | apply Exists.intro (α := List V)
    | apply Exists.intro (α := List Nat)
    | apply Exists.intro (α := List (Str × V))
    | apply Exists.intro (α := List _)
    | apply Exists.intro (α := Str)
    | apply Exists.intro (α := HO)
    | apply Exists.intro (α := Sp)
    | apply Exists.intro (α := VK)))
set_option hygiene false in
local macro_rules
  | `(tactic| kba_ints) => `(tactic| first
    | assumption
    | (apply frUp; (first | assumption | (apply Ne.symm; assumption)); kba_ints)
    | (apply noneOf; assumption; intro oF eF; apply Exists.intro; kp_flats)
    | (apply frUp; (next => kbo_bools); kba_ints))
set_option hygiene false in
local macro_rules
  | `(tactic| kxs_still) => `(tactic| first
    | assumption
    | exact kp_refl _ _
    | (apply kp_newF; assumption; kxs_still)
    | (apply kp_new; assumption; kxs_still)
    | (apply kp_up; (next => o_fieldsN); kxs_still)
    | (apply kp_new; (next => kba_ints); kxs_still)
    | (apply kp_sameR; assumption; kxs_still)
    | (apply kp_transR; assumption; kxs_still)
    | (apply kp_freshR; assumption; (next => kaf_suf); kxs_still))
set_option hygiene false in
local macro_rules
  | `(tactic| kaf_suf) => `(tactic| first
    | assumption
    | exact subNil
    | (apply subCons; (first | (apply Or.inl; o_fieldsN) | (apply Or.inr; kba_ints)); kaf_suf)
    | (apply subApp; (next => kaf_suf); kaf_suf))
set_option hygiene false in
local macro_rules
  | `(tactic| o_fieldsN) => `(tactic| first
    | assumption
    | exact memA
    | (apply memB; o_fieldsN)
    | (apply memL; o_fieldsN)
    | (apply memR; o_fieldsN))
set_option hygiene false in
local macro_rules
  | `(tactic| kd_subs) => `(tactic| first
    | assumption
    | exact Same.refl _
    | (apply same_putF; assumption; kd_subs)
    | (apply same_putG; assumption; kd_subs)
    | (apply same_putF; (next => kba_ints); kd_subs)
    | (apply same_transR; assumption; kd_subs))

/-- an if, when its test is answered: I holds behind it, F where it was false -/
theorem if_by {c : TT} {t u : TS} {D : Ends} {σ : L2.St} {H : Hp} (I : Hp → Prop) (F : Prop) (hT : ∀ H', I H' → t D σ H') (hF : ∀ H', I H' → F → u D σ H') (h : ∀ Q : Bool → Hp → Prop, (∀ b H', I H' → (b = false → F) → Q b H') → c σ H Q) : tIfS c t u D σ H :=
  h (fun b H' => if b = true then t D σ H' else u D σ H') fun b H' i f => by
    cases b with
    | true => exact (if_pos rfl).mpr (hT H' i)
    | false => exact (if_neg (fun z => nomatch z)).mpr (hF H' i (f rfl))

set_option pp.maxSteps 900
namespace Un
theorem last_at {α : Type} (xs : List α) (v : α) : (xs ++ [v])[(xs ++ [v]).length - 1]? = some v := by
  rw [List.length_append]
  exact List.getElem?_concat_length ..
theorem dropK_last {kvs : List (Key × V)} {k : Key} {v : V} (h : ¬ k ∈ kvs.map (·.1)) : dropK (kvs ++ [(k, v)]) k = kvs := by
  have e : dropK (kvs ++ [(k, v)]) k = dropK kvs k ++ dropK [(k, v)] k := by
    unfold dropK
    exact List.filter_append ..
  rw [e, dropK_no h, dropK_pos rfl]
  exact List.append_nil _
theorem dec_nat (a b : Nat) : decide (V.int (a : Int) = V.int (b : Int)) = decide (a = b) := by
  by_cases e : a = b
  · rw [dT e, e, dT rfl]
  · rw [dF e, dF fun z => e (by injection z with z; omega)]
theorem sub_pos (L : List (Nat × Nat)) : ∀ x, 1 ≤ subF L x := by
  refine app_ind (P := fun L => ∀ x, 1 ≤ subF L x) (fun _ => Nat.le_refl _) (fun l p ih x => ?_) L
  rw [sub_app]
  have := ih p.2
  have := ih x
  split <;> omega
section
variable {P : Program} {w : World} {K : PySem.W.Frag} {mg : Str → Option Value} {base : Heap}
def spPush (C : Addr) : Sp := fun vs H Q _ => ∃ (s dp dc m q : Addr) (W : Nat) (ps : List (Nat × Nat)) (a b : Nat), vs = [.ref s, .ref q] ∧ UnAt C H s dp dc m W ps ∧ H q = some (.tup [.int (a : Int), .int (b : Int)]) ∧ a < W ∧ b < W ∧ W ≤ 10000 ∧ ps.length ≤ 10000 ∧ ∀ H', Kp [s, dp, dc, m] H H' → UnAt C H' s dp dc m W (ps ++ [(a, b)]) → Q .non H'
theorem ok_push (T : Txt K mg) : FnOk P w K mg base CX0 2 T.f_Unions_push T.d_Unions_push ["self", "pair"] (spPush T.C_Unions) := by
  have G_Unions_root_of := ok_root (P := P) (w := w) (base := base) T
  have G_Unions_count_of := ok_count (P := P) (w := w) (base := base) T
  refine T.F_Unions_push.ok sc_Unions_push (fun vs H Q E h => ?_) (fun cdv A outer s H vs Q E hr h => ?_)
  · obtain ⟨s, dp, dc, m, q, W, ps, a, b, rfl, _⟩ := h
    rfl
  · obtain ⟨s, dp, dc, m, q, W, ps, a, b, rfl, hU, hq, la, lb, lW, ll, k⟩ := h
    refine ⟨_, (pss_cons (ps_set (i := 2) sc_Unions_push.nd rfl (.inl rfl) (pe_meth (pv 0) T.cl_Unions ⟨T.m_Unions_root_of, T.t_Unions_root_of, T.k_Unions_root_of⟩ G_Unions_root_of (hr.mono (by omega)) T.b_Unions_root_of .nil pass0 (pa_cons (pe_ix (r := rIxT K) ix_tup (pv 1) pe_int (fun _ _ => rfl)) pa_nil)))
      (pss_cons (ps_set (i := 3) sc_Unions_push.nd rfl (.inl rfl) (pe_meth (pv 0) T.cl_Unions ⟨T.m_Unions_root_of, T.t_Unions_root_of, T.k_Unions_root_of⟩ G_Unions_root_of (hr.mono (by omega)) T.b_Unions_root_of .nil pass0 (pa_cons (pe_ix (r := rIxT K) ix_tup (pv 1) pe_int (fun _ _ => rfl)) pa_nil)))
      (pss_cons (ps_if (pt_cmpR op_eq (pv 2) (pv 3) (nomark _)) (pss_cons (ps_expr (pe_bm PySem.F.plainAttrs_list PySem.F.slot_list_append PySem.F.type_list_append mt_append (pe_fld (pv 0) rfl) (pa_cons pe_non pa_nil)))
        (pss_one ps_retN)) pss_nil)
      (C8.pss_cut (ps_if (pt_cmpR op_lt (pe_meth (pv 0) T.cl_Unions ⟨T.m_Unions_count_of, T.t_Unions_count_of, T.k_Unions_count_of⟩ G_Unions_count_of (hr.mono (by omega)) T.b_Unions_count_of .nil pass0 (pa_cons (pv 2) pa_nil)) (pe_meth (pv 0) T.cl_Unions ⟨T.m_Unions_count_of, T.t_Unions_count_of, T.k_Unions_count_of⟩ G_Unions_count_of (hr.mono (by omega)) T.b_Unions_count_of .nil pass0 (pa_cons (pv 3) pa_nil)) (nomark _)) (pss_one (ps_par (i := 2) (j := 3) (by rfl) sc_Unions_push.nd rfl rfl (by decide) rfl rfl (pa_cons (pv 3) (pa_cons (pv 2) pa_nil)) (by rfl))) pss_nil)
      (pss_cons (ps_dput (hu_of hr) (pe_fld (pv 0) rfl) (pv 2) (pe_op op_add (pe_meth (pv 0) T.cl_Unions ⟨T.m_Unions_count_of, T.t_Unions_count_of, T.k_Unions_count_of⟩ G_Unions_count_of (hr.mono (by omega)) T.b_Unions_count_of .nil pass0 (pa_cons (pv 2) pa_nil)) (pe_meth (pv 0) T.cl_Unions ⟨T.m_Unions_count_of, T.t_Unions_count_of, T.k_Unions_count_of⟩ G_Unions_count_of (hr.mono (by omega)) T.b_Unions_count_of .nil pass0 (pa_cons (pv 3) pa_nil))) rfl)
      (pss_cons (ps_dput (hu_of hr) (pe_fld (pv 0) rfl) (pv 3) (pv 2) rfl)
      (pss_cons (ps_fldaug (pv 0) pe_int in_sub)
      (pss_one (ps_expr (pe_bm PySem.F.plainAttrs_list PySem.F.slot_list_append PySem.F.type_list_append mt_append (pe_fld (pv 0) rfl) (pa_cons (pv 3) pa_nil))))))))))), ?_⟩
    obtain ⟨n1, n2, n3, n4, n5, n6⟩ := hU.ne
    have hU' := hU
    obtain ⟨⟨dx, hs⟩, hp, ⟨cs, hc, hcs⟩, hm, hw, hn⟩ := hU'
    have hok := ok_links ps hw
    have lk := links_len ps
    have lm := moves_len ps
    have ha : atI [V.int (a : Int), V.int (b : Int)] 0 = some (.int (a : Int)) := atI_nat (j := 0) rfl
    have hb : atI [V.int (a : Int), V.int (b : Int)] 1 = some (.int (b : Int)) := atI_nat (j := 1) rfl
    have ea : links_app ps (a, b) = links_app ps (a, b) := rfl
    have lmv : ((movesOf ps).map mV).length = ps.length := by rw [List.length_map, lm]
    refine ⟨_, rfl, s, dx, _, rfl, hs, rfl, _, rfl, q, _, 0, _, rfl, rfl, sqtOf hq, ha, s, dp, dc, m, W, ps, a, rfl, hU, ?_⟩
    refine ⟨_, rfl, s, dx, _, rfl, hs, rfl, _, rfl, q, _, 1, _, rfl, rfl, sqtOf hq, hb, s, dp, dc, m, W, ps, b, rfl, hU, ?_⟩
    refine ⟨_, rfl, _, rfl, rfl, _, rfl, ?_⟩
    have hw' : InW W (ps ++ [(a, b)]) := hw.add la lb
    refine ite2 (fun e => ?_) (fun e => ?_)
    · have er : rootF a (linksOf ps) = rootF b (linksOf ps) := by
        rw [dec_nat] at e
        exact of_decide_eq_true e
      have el : linkOf (linksOf ps) (a, b) = none := link_none.mpr er
      have e1 : linksOf (ps ++ [(a, b)]) = linksOf ps := by
        rw [links_app]
        unfold stepL
        rw [el]
      have e2 : (movesOf (ps ++ [(a, b)])).map mV = (movesOf ps).map mV ++ [V.non] := by
        rw [moves_app, el, List.map_append]
        rfl
      o_readsAll
      exact k _ (by kxs_still) ⟨⟨dx, by rw [e1]; kp_flats⟩, by rw [e1]; kp_flats, ⟨cs, by kp_flats, by rw [e1]; exact hcs⟩, by rw [e2]; exact upd_same, hw', hn⟩
    · have er : rootF a (linksOf ps) ≠ rootF b (linksOf ps) := fun z => e (by rw [dec_nat]; exact dT z)
      refine ⟨fun σ H' => H' = H ∧ ∃ lo up : Nat, σ = [some (.ref s), some (.ref q), some (.int (up : Int)), some (.int (lo : Int))] ∧ linkOf (linksOf ps) (a, b) = some (lo, up), ?_, ?_⟩
      · refine ⟨_, rfl, s, dx, _, rfl, hs, rfl, _, rfl, s, dc, dx, _, _, cs, _, rfl, hs, rfl, hc, hcs.v _, ?_⟩
        refine ⟨_, rfl, s, dx, _, rfl, hs, rfl, _, rfl, s, dc, dx, _, _, cs, _, rfl, hs, rfl, hc, hcs.v _, ?_⟩
        refine ⟨_, _, rfl, rfl, _, rfl, ?_⟩
        refine ite2 (fun f => ?_) (fun f => ?_)
        · refine ⟨_, rfl, _, rfl, _, _, rfl, rfl, _, _, rfl, ?_⟩
          unfold linkOf
          have f1 := of_decide_eq_true f
          rw [if_neg er, if_pos (show subF (linksOf ps) (rootF a (linksOf ps)) < subF (linksOf ps) (rootF b (linksOf ps)) by omega)]
        · refine ⟨rfl, _, _, rfl, ?_⟩
          unfold linkOf
          rw [if_neg er, if_neg (fun (z : subF (linksOf ps) (rootF a (linksOf ps)) < subF (linksOf ps) (rootF b (linksOf ps))) => f (dT (by omega)))]
      · rintro σ H' ⟨rfl, lo, up, rfl, el⟩
        obtain ⟨r1, r2, r3, r4, r5, _⟩ := link_ok hok (p := (a, b)) la lb el
        replace r1 : rootF lo (linksOf ps) = lo := r1
        replace r2 : rootF up (linksOf ps) = up := r2
        replace r3 : lo ≠ up := r3
        replace r4 : lo < W := r4
        replace r5 : up < W := r5
        have e1 : linksOf (ps ++ [(a, b)]) = linksOf ps ++ [(lo, up)] := by
          rw [links_app]
          unfold stepL
          rw [el]
        have e2 : (movesOf (ps ++ [(a, b)])).map mV = (movesOf ps).map mV ++ [V.int (lo : Int)] := by
          rw [moves_app, el, List.map_append]
          rfl
        have lc := hcs.len
        have hcs' : CntOk W (linksOf ps ++ [(lo, up)]) (putK cs (Sum.inl (up : Int)) (.int ((subF (linksOf ps) up + subF (linksOf ps) lo : Nat) : Int))) := hcs.put r5 (by rw [sub_app, if_pos rfl]) fun y hy => by rw [sub_app, if_neg hy]
        have ev : (((subF (linksOf ps) up : Nat) : Int) + ((subF (linksOf ps) lo : Nat) : Int)) = ((subF (linksOf ps) up + subF (linksOf ps) lo : Nat) : Int) := by omega
        have pn : parL (linksOf ps) lo = none := (par_none hok lo).mpr r1
        have hP1 : DPut H' dc (.int (up : Int)) (.int (((subF (linksOf ps) up : Nat) : Int) + ((subF (linksOf ps) lo : Nat) : Int))) (upd H' dc (.dK (putK cs (Sum.inl (up : Int)) (.int ((subF (linksOf ps) up + subF (linksOf ps) lo : Nat) : Int))))) := by
          rw [ev]
          exact DPut.k (k := Sum.inl (up : Int)) hc (by rw [sizeLine_eq]; omega)
        have hp1 : upd H' dc (.dK (putK cs (Sum.inl (up : Int)) (.int ((subF (linksOf ps) up + subF (linksOf ps) lo : Nat) : Int)))) dp = some (.dK (kvL (linksOf ps))) := by kp_flats
        have hs1 : upd H' dc (.dK (putK cs (Sum.inl (up : Int)) (.int ((subF (linksOf ps) up + subF (linksOf ps) lo : Nat) : Int)))) s = _ := atNe n2 hs
        have hP2 : DPut (upd H' dc (.dK (putK cs (Sum.inl (up : Int)) (.int ((subF (linksOf ps) up + subF (linksOf ps) lo : Nat) : Int))))) dp (.int (lo : Int)) (.int (up : Int)) (upd (upd H' dc (.dK (putK cs (Sum.inl (up : Int)) (.int ((subF (linksOf ps) up + subF (linksOf ps) lo : Nat) : Int))))) dp (.dK (kvL (linksOf ps ++ [(lo, up)])))) := by
          have := DPut.k (k := Sum.inl (lo : Int)) (v := .int (up : Int)) hp1 (by
            show ((linksOf ps).map _).length < sizeLine
            rw [List.length_map, sizeLine_eq]
            omega)
          rw [putK_new (kvs := kvL (linksOf ps)) _ (by rw [kvL_val, pn]; rfl)] at this
          rw [kvL_app]
          exact this
        refine ⟨_, rfl, s, dx, _, rfl, hs, rfl, _, rfl, s, dc, dx, _, _, cs, _, rfl, hs, rfl, hc, hcs.v _, ?_⟩
        refine ⟨_, rfl, s, dx, _, rfl, hs, rfl, _, rfl, s, dc, dx, _, _, cs, _, rfl, hs, rfl, hc, hcs.v _, ?_⟩
        refine ⟨_, _, rfl, rfl, ?_⟩
        refine ⟨_, rfl, s, _, dx, _, _, rfl, hs, T.cl_Unions, T.n_Unions_counts, rfl, _, rfl, dc, _, rfl, hP1, ?_⟩
        refine ⟨_, rfl, _, rfl, s, _, dx, _, _, rfl, hs1, T.cl_Unions, T.n_Unions_parents, rfl, _, rfl, dp, _, rfl, hP2, ?_⟩
        o_readsAll
        have eg : ((W : Int) - ((linksOf (ps ++ [(a, b)])).length : Nat)) = (W : Int) - ((linksOf ps).length : Nat) - 1 := by
          rw [e1, List.length_append]
          show (W : Int) - (((linksOf ps).length + 1 : Nat) : Int) = _
          omega
        refine k _ (by kxs_still) ⟨⟨dx, ?_⟩, by rw [e1]; kp_flats, ⟨_, by kp_flats, by rw [e1]; exact hcs'⟩, by rw [e2]; exact upd_same, hw', hn⟩
        rw [eg]
        kp_flats
def spPop (C : Addr) : Sp := fun vs H Q _ => ∃ (s dp dc m : Addr) (W : Nat) (ps : List (Nat × Nat)) (p : Nat × Nat), vs = [.ref s] ∧ UnAt C H s dp dc m W (ps ++ [p]) ∧ W ≤ 10000 ∧ ps.length ≤ 10000 ∧ ∀ H', Kp [s, dp, dc, m] H H' → UnAt C H' s dp dc m W ps → Q .non H'
theorem ok_pop (T : Txt K mg) : FnOk P w K mg base CX0 2 T.f_Unions_pop T.d_Unions_pop ["self"] (spPop T.C_Unions) := by
  have G_Unions_count_of := ok_count (P := P) (w := w) (base := base) T
  refine T.F_Unions_pop.ok sc_Unions_pop (fun vs H Q E h => ?_) (fun cdv A outer s H vs Q E hr h => ?_)
  · obtain ⟨s, dp, dc, m, W, ps, p, rfl, _⟩ := h
    rfl
  · obtain ⟨s, dp, dc, m, W, ps, p, rfl, hU, lW, ll, k⟩ := h
    refine ⟨_, (pss_cons (ps_set (i := 1) sc_Unions_pop.nd rfl (.inl rfl) (pe_bm0 PySem.F.plainAttrs_list PySem.F.slot_list_pop PySem.F.type_list_pop mt_pop (pe_fld (pv 0) rfl)))
      (pss_cons (ps_if (pt_cmpR op_isN (pv 1) pe_non (nomark _)) (pss_one ps_retN) pss_nil)
      (pss_cons (ps_set (i := 2) sc_Unions_pop.nd rfl (.inl rfl) (pe_dget (hu_of hr) (pe_fld (pv 0) rfl) (pv 1) (fun _ _ => rfl)))
      (pss_cons (ps_ddel (pe_fld (pv 0) rfl) (pv 1))
      (pss_cons (ps_daug (hu_of hr) (pe_fld (pv 0) rfl) (pv 2) (pe_meth (pv 0) T.cl_Unions ⟨T.m_Unions_count_of, T.t_Unions_count_of, T.k_Unions_count_of⟩ G_Unions_count_of (hr.mono (by omega)) T.b_Unions_count_of .nil pass0 (pa_cons (pv 1) pa_nil)) in_sub (fun _ _ _ => rfl))
      (pss_one (ps_fldaug (pv 0) pe_int in_add))))))), ?_⟩
    obtain ⟨n1, n2, n3, n4, n5, n6⟩ := hU.ne
    obtain ⟨⟨dx, hs⟩, hp, ⟨cs, hc, hcs⟩, hm, hw, hn⟩ := hU
    obtain ⟨hw0, lp1, lp2⟩ := hw.init
    have hok := ok_links ps hw0
    have lk := links_len ps
    have lm := moves_len ps
    have hm2 : H m = some (.lst ((movesOf ps).map mV ++ [mV ((linkOf (linksOf ps) p).map (·.1))])) := by
      rw [hm, moves_app, List.map_append]
      rfl
    o_readsAll
    refine ⟨last_at _ _, ?_⟩
    rw [List.dropLast_concat]
    have hm1 : upd H m (.lst ((movesOf ps).map mV)) m = some (.lst ((movesOf ps).map mV)) := upd_same
    have e1 : linksOf (ps ++ [p]) = stepL (linksOf ps) p := links_app ps p
    cases el : linkOf (linksOf ps) p with
    | none =>
      have e2 : linksOf (ps ++ [p]) = linksOf ps := by
        rw [e1]
        unfold stepL
        rw [el]
      rw [e2] at hs hp hcs
      refine ⟨_, rfl, rfl, _, rfl, ?_⟩
      refine ifT rfl ?_
      exact k _ (by kxs_still) ⟨⟨dx, by kp_flats⟩, by kp_flats, ⟨cs, by kp_flats, hcs⟩, upd_same, hw0, hn⟩
    | some q =>
      obtain ⟨lo, up⟩ := q
      obtain ⟨r1, r2, r3, r4, r5, _⟩ := link_ok hok lp1 lp2 el
      replace r1 : rootF lo (linksOf ps) = lo := r1
      replace r3 : lo ≠ up := r3
      replace r5 : up < W := r5
      have e2 : linksOf (ps ++ [p]) = linksOf ps ++ [(lo, up)] := by
        rw [e1]
        unfold stepL
        rw [el]
      rw [e2] at hs hp hcs
      have pn : parL (linksOf ps) lo = none := (par_none hok lo).mpr r1
      have hv : valV (kvL (linksOf ps ++ [(lo, up)])) (Sum.inl (lo : Int)) = some (.int (up : Int)) := by
        rw [kvL_val, par_app, pn]
        show ((if lo = lo then some up else none : Option Nat)).map _ = _
        rw [if_pos rfl]
        rfl
      have hp0 : upd H m (.lst ((movesOf ps).map mV)) dp = some (.dK (kvL (linksOf ps ++ [(lo, up)]))) := by kp_flats
      have hs0 : upd H m (.lst ((movesOf ps).map mV)) s = some (.ins T.C_Unions dx [("groups", .int ((W : Int) - ((linksOf ps ++ [(lo, up)]).length : Nat))), ("parents", .ref dp), ("counts", .ref dc), ("moved", .ref m)]) := by kp_flats
      have hg : DGet (upd H m (.lst ((movesOf ps).map mV))) dp (.int (lo : Int)) (some (.int (up : Int))) := by
        rw [← hv]
        exact DGet.k (k := Sum.inl (lo : Int)) hp0
      refine ⟨_, rfl, rfl, _, rfl, ?_⟩
      refine ifF rfl ?_
      refine ⟨_, rfl, s, _, dx, _, _, rfl, hs0, T.cl_Unions, T.n_Unions_parents, rfl, _, rfl, dp, _, rfl, hg, ?_⟩
      refine ⟨_, rfl, s, _, dx, _, _, rfl, hs0, T.cl_Unions, T.n_Unions_parents, rfl, _, rfl, dp, _, (Sum.inl (lo : Int) : Key), rfl, hp0, rfl, by rw [hv]; rfl, ?_⟩
      have ek : dropK (kvL (linksOf ps ++ [(lo, up)])) (Sum.inl (lo : Int)) = kvL (linksOf ps) := by
        rw [kvL_app]
        exact dropK_last (kvL_key pn)
      rw [ek]
      have su : subF (linksOf ps ++ [(lo, up)]) up = subF (linksOf ps) up + subF (linksOf ps) lo := by rw [sub_app, if_pos rfl]
      have sl : subF (linksOf ps ++ [(lo, up)]) lo = subF (linksOf ps) lo := by rw [sub_app, if_neg r3]
      have p1 := sub_pos (linksOf ps) up
      have p2 := sub_pos (linksOf ps) lo
      have hvu : valV cs (Sum.inl (up : Int)) = some (.int (subF (linksOf ps) up + subF (linksOf ps) lo : Nat)) := by
        have := hcs.v up
        rw [su] at this
        cases z : valV cs (Sum.inl (up : Int)) with
        | none =>
          rw [z] at this
          replace this : V.int 1 = V.int (subF (linksOf ps) up + subF (linksOf ps) lo : Nat) := this
          injection this with this
          omega
        | some v =>
          rw [z] at this
          exact congrArg some this
      have hs1 : upd (upd H m (.lst ((movesOf ps).map mV))) dp (.dK (kvL (linksOf ps))) s = some (.ins T.C_Unions dx [("groups", .int ((W : Int) - ((linksOf ps ++ [(lo, up)]).length : Nat))), ("parents", .ref dp), ("counts", .ref dc), ("moved", .ref m)]) := by kp_flats
      have hc1 : upd (upd H m (.lst ((movesOf ps).map mV))) dp (.dK (kvL (linksOf ps))) dc = some (.dK cs) := atNe hn.symm (atNe n6 hc)
      have hg1 : DGet (upd (upd H m (.lst ((movesOf ps).map mV))) dp (.dK (kvL (linksOf ps)))) dc (.int (up : Int)) (some (.int (subF (linksOf ps) up + subF (linksOf ps) lo : Nat))) := by
        rw [← hvu]
        exact DGet.k (k := Sum.inl (up : Int)) hc1
      have hcs' : CntOk W (linksOf ps) (putK cs (Sum.inl (up : Int)) (.int (subF (linksOf ps) up : Nat))) := hcs.put r5 rfl fun y hy => by rw [sub_app, if_neg hy]
      have ev : (((subF (linksOf ps) up + subF (linksOf ps) lo : Nat) : Int) - ((subF (linksOf ps ++ [(lo, up)]) lo : Nat) : Int)) = ((subF (linksOf ps) up : Nat) : Int) := by
        rw [sl]
        omega
      have lc := hcs.len
      have hP : DPut (upd (upd H m (.lst ((movesOf ps).map mV))) dp (.dK (kvL (linksOf ps)))) dc (.int (up : Int)) (.int (((subF (linksOf ps) up + subF (linksOf ps) lo : Nat) : Int) - ((subF (linksOf ps ++ [(lo, up)]) lo : Nat) : Int))) (upd (upd (upd H m (.lst ((movesOf ps).map mV))) dp (.dK (kvL (linksOf ps)))) dc (.dK (putK cs (Sum.inl (up : Int)) (.int (subF (linksOf ps) up : Nat))))) := by
        rw [ev]
        exact DPut.k (k := Sum.inl (up : Int)) hc1 (by rw [sizeLine_eq]; omega)
      refine ⟨_, rfl, s, _, dx, _, _, rfl, hs1, T.cl_Unions, T.n_Unions_counts, rfl, _, rfl, dc, _, rfl, hg1, ?_⟩
      refine ⟨_, rfl, s, dx, _, rfl, hs1, rfl, _, rfl, s, dc, dx, _, _, cs, _, rfl, hs1, rfl, hc1, hcs.v _, ?_⟩
      refine ⟨_, _, rfl, rfl, _, hP, ?_⟩
      o_readsAll
      have eg : ((W : Int) - ((linksOf ps ++ [(lo, up)]).length : Nat)) + 1 = (W : Int) - ((linksOf ps).length : Nat) := by
        rw [List.length_append]
        show (W : Int) - (((linksOf ps).length + 1 : Nat) : Int) + 1 = _
        omega
      refine k _ (by kxs_still) ⟨⟨dx, ?_⟩, by kp_flats, ⟨_, by kp_flats, hcs'⟩, by kp_flats, hw0, hn⟩
      rw [← eg]
      exact upd_same
inductive Qn where
  | same (a b : Nat) | size (a : Nat) | groups
def Qn.tup : Qn → List V
  | .same a b => [.str "same", .int (a : Int), .int (b : Int)]
  | .size a => [.str "size", .int (a : Int)]
  | .groups => [.str "groups"]
def Qn.ans (W : Nat) (ps : List (Nat × Nat)) : Qn → V
  | .same a b => .bl (decide (rootF a (linksOf ps) = rootF b (linksOf ps)))
  | .size a => .int (subF (linksOf ps) (rootF a (linksOf ps)) : Nat)
  | .groups => .int ((W : Int) - ((linksOf ps).length : Nat))
def spAsk (C : Addr) : Sp := fun vs H Q _ => ∃ (s dp dc m q : Addr) (W : Nat) (ps : List (Nat × Nat)) (qn : Qn), vs = [.ref s, .ref q] ∧ UnAt C H s dp dc m W ps ∧ H q = some (.tup qn.tup) ∧ Q (qn.ans W ps) H
theorem ok_ask (T : Txt K mg) : FnOk P w K mg base CX0 2 T.f_Unions_ask T.d_Unions_ask ["self", "question"] (spAsk T.C_Unions) := by
  have G_Unions_root_of := ok_root (P := P) (w := w) (base := base) T
  have G_Unions_count_of := ok_count (P := P) (w := w) (base := base) T
  refine T.F_Unions_ask.ok sc_Unions_ask (fun vs H Q E h => ?_) (fun cdv A outer s H vs Q E hr h => ?_)
  · obtain ⟨s, dp, dc, m, q, W, ps, qn, rfl, _⟩ := h
    rfl
  · obtain ⟨s, dp, dc, m, q, W, ps, qn, rfl, hU, hq, k⟩ := h
    refine ⟨_, (pss_cons (ps_if (pt_cmpR op_eq (pe_ix (r := rIxT K) ix_tup (pv 1) pe_int (fun _ _ => rfl)) pe_str (nomark _)) (pss_one (ps_ret (pe_cmpR op_eq (pe_meth (pv 0) T.cl_Unions ⟨T.m_Unions_root_of, T.t_Unions_root_of, T.k_Unions_root_of⟩ G_Unions_root_of (hr.mono (by omega)) T.b_Unions_root_of .nil pass0 (pa_cons (pe_ix (r := rIxT K) ix_tup (pv 1) pe_int (fun _ _ => rfl)) pa_nil)) (pe_meth (pv 0) T.cl_Unions ⟨T.m_Unions_root_of, T.t_Unions_root_of, T.k_Unions_root_of⟩ G_Unions_root_of (hr.mono (by omega)) T.b_Unions_root_of .nil pass0 (pa_cons (pe_ix (r := rIxT K) ix_tup (pv 1) pe_int (fun _ _ => rfl)) pa_nil)) (nomark _)))) pss_nil)
      (pss_cons (ps_if (pt_cmpR op_eq (pe_ix (r := rIxT K) ix_tup (pv 1) pe_int (fun _ _ => rfl)) pe_str (nomark _)) (pss_one (ps_ret (pe_meth (pv 0) T.cl_Unions ⟨T.m_Unions_count_of, T.t_Unions_count_of, T.k_Unions_count_of⟩ G_Unions_count_of (hr.mono (by omega)) T.b_Unions_count_of .nil pass0 (pa_cons (pe_meth (pv 0) T.cl_Unions ⟨T.m_Unions_root_of, T.t_Unions_root_of, T.k_Unions_root_of⟩ G_Unions_root_of (hr.mono (by omega)) T.b_Unions_root_of .nil pass0 (pa_cons (pe_ix (r := rIxT K) ix_tup (pv 1) pe_int (fun _ _ => rfl)) pa_nil)) pa_nil)))) pss_nil)
      (pss_one (ps_ret (pe_fld (pv 0) rfl))))), ?_⟩
    have hU' := hU
    obtain ⟨⟨dx, hs⟩, hp, ⟨cs, hc, hcs⟩, hm, hw, hn⟩ := hU'
    cases qn with
    | same a b =>
      have q0 : atI (Qn.tup (.same a b)) 0 = some (.str "same") := atI_nat (j := 0) rfl
      have q1 : atI (Qn.tup (.same a b)) 1 = some (.int (a : Int)) := atI_nat (j := 1) rfl
      have q2 : atI (Qn.tup (.same a b)) 2 = some (.int (b : Int)) := atI_nat (j := 2) rfl
      refine ⟨_, rfl, q, _, 0, _, rfl, rfl, sqtOf hq, q0, rfl, _, rfl, ?_⟩
      refine ifT rfl ?_
      refine ⟨_, rfl, s, dx, _, rfl, hs, rfl, _, rfl, q, _, 1, _, rfl, rfl, sqtOf hq, q1, s, dp, dc, m, W, ps, a, rfl, hU, ?_⟩
      refine ⟨_, rfl, s, dx, _, rfl, hs, rfl, _, rfl, q, _, 2, _, rfl, rfl, sqtOf hq, q2, s, dp, dc, m, W, ps, b, rfl, hU, ?_⟩
      refine ⟨rfl, ?_⟩
      rw [dec_nat]
      exact k
    | size a =>
      have q0 : atI (Qn.tup (.size a)) 0 = some (.str "size") := atI_nat (j := 0) rfl
      have q1 : atI (Qn.tup (.size a)) 1 = some (.int (a : Int)) := atI_nat (j := 1) rfl
      refine ⟨_, rfl, q, _, 0, _, rfl, rfl, sqtOf hq, q0, rfl, _, rfl, ?_⟩
      refine ifF (by decide +kernel) ?_
      refine ⟨_, rfl, q, _, 0, _, rfl, rfl, sqtOf hq, q0, rfl, _, rfl, ?_⟩
      refine ifT rfl ?_
      refine ⟨_, rfl, s, dx, _, rfl, hs, rfl, _, rfl, s, dx, _, rfl, hs, rfl, _, rfl, q, _, 1, _, rfl, rfl, sqtOf hq, q1, s, dp, dc, m, W, ps, a, rfl, hU, ?_⟩
      exact ⟨s, dc, dx, _, _, cs, _, rfl, hs, rfl, hc, hcs.v _, k⟩
    | groups =>
      have q0 : atI (Qn.tup .groups) 0 = some (.str "groups") := atI_nat (j := 0) rfl
      refine ⟨_, rfl, q, _, 0, _, rfl, rfl, sqtOf hq, q0, rfl, _, rfl, ?_⟩
      refine ifF (by decide +kernel) ?_
      refine ⟨_, rfl, q, _, 0, _, rfl, rfl, sqtOf hq, q0, rfl, _, rfl, ?_⟩
      refine ifF (by decide +kernel) ?_
      exact ⟨_, rfl, s, _, dx, _, _, rfl, hs, T.cl_Unions, T.n_Unions_groups, rfl, k⟩
end
end Un
end Ob

set_option Elab.async false
set_option linter.all false
set_option maxRecDepth 100000
set_option maxHeartbeats 1000000
namespace Ob
open PySem PySem.Spec PyProof.Rows L2
open LamX (Tabs TabB TabS ExtN)

set_option hygiene false in
local macro_rules
  | `(tactic| kp_flats) => `(tactic| first
    | assumption
    | exact upd_same
    | (apply atNew; assumption; kp_flats)
    | (apply atNe; (next => kbo_bools); kp_flats)
    | (apply atSame; assumption; kp_flats)
    | (apply atKp; assumption; (next => kaf_pre); kp_flats))
set_option hygiene false in
local macro_rules
  | `(tactic| kaf_pre) => `(tactic| first
    | assumption
    | exact not_nil
    | (apply not_cons; (next => kbo_bools); kaf_pre)
    | (apply not_app; (next => kaf_pre); kaf_pre))
set_option hygiene false in
local macro_rules
  | `(tactic| kbo_bools) => `(tactic| first
    | assumption
    | (apply Ne.symm; assumption)
    | (apply neN; assumption; kp_flats)
    | (apply neN'; assumption; kp_flats))
set_option hygiene false in
local macro_rules
  | `(tactic| o_reads) => `(tactic| first
    | with_reducible rfl
    | assumption
    | rfl
    | kp_flats
    | (show SqL _ _ _ _; first | assumption | (apply sqlOf; kp_flats) | (apply sqlSame; assumption; o_reads))
    | (show SqT _ _ _ _; first | assumption | (apply sqtOf; kp_flats) | (apply sqtAll; assumption) | (apply sqtSame; assumption; o_reads))
    | (show Cls _ _; first | exact T.cl_Unions)
    | (show NoAttr _ _ _; first | exact T.n_Unions_groups | exact T.n_Unions_parents | exact T.n_Unions_counts | exact T.n_Unions_moved)
    | (apply Or.inl; o_reads)
    | (apply Or.inr; o_reads)
    | (apply And.intro; (next => o_reads); o_reads)
    | (apply Exists.intro; o_reads)
    | exact Nat.le_of_ble_eq_true rfl
    | exact Nat.succ_ne_zero _
    | (show Fr _ _; kba_ints)
    | (show Same _ _; kd_subs)
    | (show Kp _ _ _; kxs_still)
    | (show (_ : Nat) ≤ _; simp only [List.length_append, List.length_map, List.length_cons, List.length_nil, List.length_take, List.length_drop, List.length_replicate, List.length_range, sizeLine_eq]; omega)
    | (show _ = none; apply Fr.h; kba_ints)
    | (show Bag _ _; first | assumption | (apply bag_putF; assumption; o_reads) | (apply bag_neF; (next => kbo_bools); o_reads) | (apply bag_kpR; assumption; (next => kaf_pre); o_reads))
    | omega
    | decide)
local macro_rules
  | `(tactic| o_readsAll) => `(tactic| repeat (first
    | (refine fun (pNew : Addr) (nNew : _ = none) => ?_; replace nNew := Fr.mk nNew)
    | (refine fun (xNew dNew : Addr) (nNew : _ = none) (mNew : _ = none) (eNew : dNew ≠ xNew) => ?_; replace nNew := Fr.mk nNew; replace mNew := Fr.mk mNew)
    | (apply And.intro; next => o_reads)
    | apply Exists.intro (α := V)
    | apply Exists.intro (α := Addr)
    | apply Exists.intro (α := Int)
    | apply Exists.intro (α := Bool)
    | apply Exists.intro (α := List V)
    | apply Exists.intro (α := List Nat)
    | apply Exists.intro (α := List (Str × V))
    | apply Exists.intro (α := List _)
    | apply Exists.intro (α := Str)
    | apply Exists.intro (α := HO)
    | apply Exists.intro (α := Sp)
    | apply Exists.intro (α := VK)))
set_option hygiene false in
local macro_rules
  | `(tactic| kba_ints) => `(tactic| first
    | assumption
    | (apply frUp; (first | assumption | (apply Ne.symm; assumption)); kba_ints)
    | (apply noneOf; assumption; intro oF eF; apply Exists.intro; kp_flats)
    | (apply frUp; (next => kbo_bools); kba_ints))
set_option hygiene false in
local macro_rules
  | `(tactic| kxs_still) => `(tactic| first
    | assumption
    | exact kp_refl _ _
    | (apply kp_newF; assumption; kxs_still)
    | (apply kp_new; assumption; kxs_still)
    | (apply kp_up; (next => o_fieldsN); kxs_still)
    | (apply kp_new; (next => kba_ints); kxs_still)
    | (apply kp_sameR; assumption; kxs_still)
    | (apply kp_transR; assumption; kxs_still)
    | (apply kp_freshR; assumption; (next => kaf_suf); kxs_still))
set_option hygiene false in
local macro_rules
  | `(tactic| kaf_suf) => `(tactic| first
    | assumption
    | exact subNil
    | (apply subCons; (first | (apply Or.inl; o_fieldsN) | (apply Or.inr; kba_ints)); kaf_suf)
    | (apply subApp; (next => kaf_suf); kaf_suf))
set_option hygiene false in
local macro_rules
  | `(tactic| o_fieldsN) => `(tactic| first
    | assumption
    | exact memA
    | (apply memB; o_fieldsN)
    | (apply memL; o_fieldsN)
    | (apply memR; o_fieldsN))
set_option hygiene false in
local macro_rules
  | `(tactic| kd_subs) => `(tactic| first
    | assumption
    | exact Same.refl _
    | (apply same_putF; assumption; kd_subs)
    | (apply same_putG; assumption; kd_subs)
    | (apply same_putF; (next => kba_ints); kd_subs)
    | (apply same_transR; assumption; kd_subs))

/-! ### == and != of lists that hold the very same objects -/
def NoTok (v : V) : Prop := v = .non ∨ ∃ a, v = .ref a
theorem noTok_val {v : V} {u u' : Value} (h : NoTok v) (r : RelV v u) (r' : RelV v u') : u = u' := by
  rcases h with rfl | ⟨a, rfl⟩
  · exact (show u = Value.none from r).trans (show u' = Value.none from r').symm
  · exact (show u = Value.ref a from r).trans (show u' = Value.ref a from r').symm
theorem noTok_all : ∀ {xs : List V} {us us' : List Value}, (∀ x ∈ xs, NoTok x) → Vals xs us → Vals xs us' → us = us'
  | [], _, _, _, r, r' => by
    cases r
    cases r'
    rfl
  | x :: xs, _, _, h, r, r' => by
    cases r with
    | cons r1 r2 =>
      cases r' with
      | cons q1 q2 => rw [noTok_val (h x (List.mem_cons_self ..)) r1 q1, noTok_all (fun y hy => h y (List.mem_cons_of_mem _ hy)) r2 q2]
/-- both lists hold the objects xs -/
def rSame (K : PySem.W.Frag) (b : Bool) : R2 := fun x y H Q => ∃ (p q : Addr) (xs : List V), x = .ref p ∧ y = .ref q ∧ SqL K H p xs ∧ SqL K H q xs ∧ (∀ v ∈ xs, NoTok v) ∧ Q (.bl b) H
theorem all_yes (n : Nat) : (List.range n).all (fun _ => true) = true := List.all_eq_true.mpr fun _ _ => rfl
section
variable {X : Cx} {pins : List (Addr × Obj)} {σ : L2.St} {H : Hp} {s : Shared} {p q : Addr} {xs : List V}
theorem same_lists (I : Inv X pins σ H s) (hp : SqL X.K H p xs) (hq : SqL X.K H q xs) (hn : ∀ v ∈ xs, NoTok v) : ∃ its : Array Value, s.heap.IsList p its ∧ s.heap.IsList q its := by
  obtain ⟨its, rv, ⟨o, n, h1, h2, _, h3⟩, _⟩ := I.list hp
  obtain ⟨its', rv', ⟨o', n', h1', h2', _, h3'⟩, _⟩ := I.list hq
  obtain rfl := noTok_all hn rv rv'
  exact ⟨its.toArray, ⟨o, h1, h2, n, h3⟩, ⟨o', h1', h2', n', h3'⟩⟩
end
theorem op_eqS {X : Cx} (hu : X.A.units + 64 < cLine) : OpR X (compareOp .Eq) (rSame X.K true) := by
  intro pins s σ H x y v u Q I rx ry h
  obtain ⟨p, q, xs, rfl, rfl, hp, hq, hn, k⟩ := h
  obtain rfl : v = Value.ref p := rx
  obtain rfl : u = Value.ref q := ry
  obtain ⟨its, h1, h2⟩ := same_lists I hp hq hn
  have z := SeqAt.RcAt.lists (A := X.A) (e := fun _ => true) h1 h2 rfl (by omega) (fun j j1 j2 => SeqAt.EqAt.same _)
  rw [all_yes] at z
  exact z _ _ _ _ ⟨.bl true, H, I, rfl, k⟩
theorem op_neS {X : Cx} (hu : X.A.units + 64 < cLine) : OpR X (compareOp .NotEq) (rSame X.K false) := by
  intro pins s σ H x y v u Q I rx ry h
  obtain ⟨p, q, xs, rfl, rfl, hp, hq, hn, k⟩ := h
  obtain rfl : v = Value.ref p := rx
  obtain rfl : u = Value.ref q := ry
  obtain ⟨its, h1, h2⟩ := same_lists I hp hq hn
  have z := SeqAt.RcNeAt.lists (A := X.A) (e := fun _ => true) h1 h2 rfl (by omega) (fun j j1 j2 => SeqAt.EqAt.same _)
  rw [all_yes] at z
  exact z _ _ _ _ ⟨.bl false, H, I, rfl, k⟩
/-- a list against the empty one -/
def rNeNil (K : PySem.W.Frag) : R2 := fun x y H Q => ∃ (p q : Addr) (xs : List V), x = .ref p ∧ y = .ref q ∧ SqL K H p xs ∧ SqL K H q [] ∧ Q (.bl (!xs.isEmpty)) H
theorem is_list {X : Cx} {pins : List (Addr × Obj)} {σ : L2.St} {H : Hp} {s : Shared} {p : Addr} {xs : List V} (I : Inv X pins σ H s) (hp : SqL X.K H p xs) : ∃ its : Array Value, its.size = xs.length ∧ s.heap.IsList p its := by
  obtain ⟨its, rv, ⟨o, n, h1, h2, _, h3⟩, _⟩ := I.list hp
  exact ⟨its.toArray, by rw [List.size_toArray, rv.length], ⟨o, h1, h2, n, h3⟩⟩
theorem op_neNil {X : Cx} (hu : X.A.units + 64 < cLine) : OpR X (compareOp .NotEq) (rNeNil X.K) := by
  intro pins s σ H x y v u Q I rx ry h
  obtain ⟨p, q, xs, rfl, rfl, hp, hq, k⟩ := h
  cases xs with
  | nil => exact op_neS hu pins s σ H _ _ v u Q I rx ry ⟨p, q, [], rfl, rfl, hp, hq, (fun _ z => nomatch z), k⟩
  | cons a l =>
    obtain rfl : v = Value.ref p := rx
    obtain rfl : u = Value.ref q := ry
    obtain ⟨i1, e1, h1⟩ := is_list I hp
    obtain ⟨i2, e2, h2⟩ := is_list I hq
    have z := SeqAt.RcNeAt.lists_lengths (A := X.A) h1 h2 (by rw [e1, e2]; rfl) (by omega)
    exact z _ _ _ _ ⟨.bl true, H, I, rfl, k⟩

def rEqNil (K : PySem.W.Frag) : R2 := fun x y H Q => ∃ (p q : Addr) (xs : List V), x = .ref p ∧ y = .ref q ∧ SqL K H p xs ∧ SqL K H q [] ∧ Q (.bl xs.isEmpty) H
theorem op_eqNil {X : Cx} (hu : X.A.units + 64 < cLine) : OpR X (compareOp .Eq) (rEqNil X.K) := by
  intro pins s σ H x y v u Q I rx ry h
  obtain ⟨p, q, xs, rfl, rfl, hp, hq, k⟩ := h
  cases xs with
  | nil => exact op_eqS hu pins s σ H _ _ v u Q I rx ry ⟨p, q, [], rfl, rfl, hp, hq, (fun _ z => nomatch z), k⟩
  | cons a l =>
    obtain rfl : v = Value.ref p := rx
    obtain rfl : u = Value.ref q := ry
    obtain ⟨i1, e1, h1⟩ := is_list I hp
    obtain ⟨i2, e2, h2⟩ := is_list I hq
    have z := SeqAt.RcAt.lists_lengths (A := X.A) h1 h2 (by rw [e1, e2]; rfl) (by omega)
    exact z _ _ _ _ ⟨.bl false, H, I, rfl, k⟩

theorem kb_of {K : PySem.W.Frag} {x qual : Str} {st : Stmt} {f : Addr} {fd : FuncData} {ps ks : List Str} {n : Nat} {g : List Value → List Value → List Value} {gV : List V → List V → List V} (F : Fun K x qual st f fd)
    (h : ∀ (kV doc pm : Value) (an : Option Addr) (cdv ct : Value) (us ws : List Value), us.length = n → ws.length = ks.length → bindArgs (PySem.W.fnOf x qual (defArgs st) (defBody st) (defScope st) .none kV doc pm an cdv ct) ⟨us, ks.zip ws⟩ = pure (ps.zip (g us ws)))
    (r : ∀ {vs : List V} {us : List Value} {zs : List V} {ws : List Value}, Vals vs us → Vals zs ws → Vals (gV vs zs) (g us ws)) : KBn K fd ps n ks g gV := by
  obtain ⟨oc, od, kV, doc, pm, an, cdv, ct, osl, rfl, lk, hcd⟩ := F.ex
  exact ⟨fun s us ws X l1 l2 => .of_eq (h kV doc pm an cdv ct us ws l1 l2), r⟩

set_option pp.maxSteps 900
namespace Un
theorem u16 {k : Nat} {A : Around} (r : Room k A) : A.units + 64 + 16 < cLine := by
  have := r.un
  omega
/-- a list of pairs -/
structure PsAt (H : Hp) (a : Addr) (ts : List Addr) (ps : List (Nat × Nat)) : Prop where
  l : H a = some (.lst (ts.map V.ref))
  n : ts.length = ps.length
  t : ∀ (i : Nat) (t : Addr) (p : Nat × Nat), ts[i]? = some t → ps[i]? = some p → H t = some (.tup [.int (p.1 : Int), .int (p.2 : Int)])
theorem PsAt.same {H H1 : Hp} {a : Addr} {ts : List Addr} {ps : List (Nat × Nat)} (h : PsAt H a ts ps) (s : Same H H1) : PsAt H1 a ts ps := ⟨s _ _ h.l, h.n, fun i t p e1 e2 => s _ _ (h.t i t p e1 e2)⟩
section
variable {P : Program} {w : World} {K : PySem.W.Frag} {mg : Str → Option Value} {base : Heap}
def spComp : Sp := fun vs H Q _ => ∃ (a : Addr) (ts : List Addr) (ps : List (Nat × Nat)) (x W : Nat), vs = [.ref a, .int (x : Int)] ∧ PsAt H a ts ps ∧ ps.length ≤ 10000 ∧ InW W ps ∧ x < W ∧ W ≤ 10000 ∧ ∀ (o : Addr) (F : List Nat) (H' : Hp), Fr H o → Same H H' → H' o = some (.lst (F.map nV)) → F.Nodup → (∀ y, y ∈ F ↔ Cn ps x y) → Q (.ref o) H'
theorem ok_comp (T : Txt K mg) : FnOk P w K mg base CX0 1 T.f_l_component T.d_l_component ["_law_pairs", "_law_point"] spComp := by
  refine T.F_l_component.ok sc_l_component (fun vs H Q E h => ?_) (fun cdv A outer s H vs Q E hr h => ?_)
  · obtain ⟨a, ts, ps, x, W, rfl, _⟩ := h
    rfl
  · obtain ⟨a, ts, ps, x, W, rfl, hP, hle, hw, hx, hW, q⟩ := h
    refine ⟨_, (pss_cons (ps_set (i := 2) sc_l_component.nd rfl (.inl rfl) (pe_lst (pa_cons (pv 1) pa_nil)))
      (pss_cons (ps_for PassesOwn.never rfl (pi_range1 (by rfl) T.z_range (pa_cons (pe_callB call_len_seq (by rfl) T.z_len (by decide +kernel) (pa_cons (pv 0) pa_nil)) pa_nil)) (pg_name (i := 3) sc_l_component.nd rfl (.inl rfl)) (pss_one (ps_for PassesOwn.never rfl (pi_list (pv 0)) (pg_tup (by rfl) (pgs_cons (pg_name (i := 4) sc_l_component.nd rfl (.inl rfl)) (pgs_cons (pg_name (i := 5) sc_l_component.nd rfl (.inl rfl)) pgs_nil))) (pss_one (ps_if (pt_cmpR op_ne (pe_cmpR op_in_seq (pv 4) (pv 2) (by rfl)) (pe_cmpR op_in_seq (pv 5) (pv 2) (by rfl)) (nomark _)) (pss_one (ps_expr (pe_bm PySem.F.plainAttrs_list PySem.F.slot_list_append PySem.F.type_list_append mt_append (pv 2) (pa_cons (pe_ifExp (pt_cmpR op_in_seq (pv 4) (pv 2) (by rfl)) (pv 5) (pv 4)) pa_nil)))) pss_nil)))))
      (pss_one (ps_ret (pv 2))))), ?_⟩
    have hPl := hP.l
    have hts : (ts.map V.ref).length = ps.length := by rw [List.length_map, hP.n]
    o_readsAll
    rename_i o no
    have e0 : ([V.int (x : Int)] : List V) = [x].map nV := rfl
    have hao : a ≠ o := neN no hPl
    refine for_range (n := ((((ts.map V.ref).length : Nat) : Int)).toNat) (fun i σ H' => ∃ y3 y4 y5 F, σ = [some (.ref a), some (.int (x : Int)), some (.ref o), y3, y4, y5] ∧ Same H H' ∧ H' o = some (.lst (F.map nV)) ∧ Fnd ps x F ∧ (Closed ps F ∨ openN ps F + i ≤ ps.length)) ⟨_, _, _, [x], rfl, by kd_subs, upd_same, Fnd.one ps x, .inr (List.length_filter_le _ _)⟩ ?_ ?_
    · rintro i σ H1 hi ⟨y3, y4, y5, F, rfl, s1, e1, hF, hc⟩
      have hP1 := hP.same s1
      have hP1l := hP1.l
      have hi' : i < ps.length := by
        rw [hts] at hi
        exact hi
      o_readsAll
      refine for_list (xs := ts.map V.ref) (fun j σ H' => ∃ y4 y5 F', σ = [some (.ref a), some (.int (x : Int)), some (.ref o), some (.int (0 + (i : Int))), y4, y5] ∧ Same H H' ∧ H' o = some (.lst (F'.map nV)) ∧ Fnd ps x F' ∧ (Closed ps F' ∨ (openN ps F' + i ≤ ps.length ∧ ∀ p ∈ ps.take j, p.1 ∈ F' ↔ p.2 ∈ F') ∨ openN ps F' + (i + 1) ≤ ps.length)) ⟨_, _, F, rfl, s1, e1, hF, hc.imp id fun z => .inl ⟨z, fun _ m => nomatch m⟩⟩ ?_ ?_ ?_
      · rintro j σ H2 _ ⟨y4, y5, F', rfl, s2, e2, hF', hc'⟩
        exact sqlOf (hP.same s2).l
      · rintro j y σ H2 hy ⟨y4, y5, F', rfl, s2, e2, hF', hc'⟩
        rw [List.getElem?_map] at hy
        obtain ⟨t, ht, rfl⟩ := Option.map_eq_some_iff.mp hy
        have hj : j < ps.length := by
          have := (List.getElem?_eq_some_iff.mp ht).1
          rw [hP.n] at this
          exact this
        obtain ⟨p, hp⟩ : ∃ p, ps[j]? = some p := ⟨_, List.getElem?_eq_getElem hj⟩
        have hpm : p ∈ ps := List.mem_of_getElem? hp
        have htp := (hP.same s2).t j t p ht hp
        have ltk : ∀ q ∈ ps.take (j + 1), q ∈ ps.take j ∨ q = p := fun q m => by
          rw [List.take_succ, hp] at m
          exact (List.mem_append.mp m).imp id fun z => List.mem_singleton.mp z
        refine ⟨t, _, rfl, sqtOf htp, rfl, ?_⟩
        have v1 := in_nat p.1 F'
        have v2 := in_nat p.2 F'
        have fl := flat_nats F'
        o_readsAll
        by_cases c : p.1 ∈ F' ↔ p.2 ∈ F'
        · have hq : (!decide (V.bl (inV (.int (p.1 : Int)) (F'.map nV)) = V.bl (inV (.int (p.2 : Int)) (F'.map nV)))) = false := by
            rw [show inV (.int (p.1 : Int)) (F'.map nV) = _ from v1, show inV (.int (p.2 : Int)) (F'.map nV) = _ from v2]
            by_cases d : p.1 ∈ F'
            · rw [dT d, dT (c.mp d)]
              decide
            · rw [dF d, dF fun z => d (c.mpr z)]
              decide
          refine ifF hq ?_
          refine ⟨_, _, F', rfl, s2, e2, hF', hc'.imp id fun z => z.imp (fun z => ⟨z.1, fun q m => (ltk q m).elim (z.2 q) fun e => by rw [e]; exact c⟩) id⟩
        · have hq : (!decide (V.bl (inV (.int (p.1 : Int)) (F'.map nV)) = V.bl (inV (.int (p.2 : Int)) (F'.map nV)))) = true := by
            rw [show inV (.int (p.1 : Int)) (F'.map nV) = _ from v1, show inV (.int (p.2 : Int)) (F'.map nV) = _ from v2]
            by_cases d : p.1 ∈ F'
            · rw [dT d, dF fun z => c ⟨fun _ => z, fun _ => d⟩]
              decide
            · rw [dF d, dT (Decidable.byContradiction fun z => c ⟨fun q => absurd q d, fun q => absurd q z⟩)]
              decide
          refine ifT hq ?_
          have lF : F'.length ≤ 10000 := by
            have := nd_le (b := List.range W) hF'.nd fun y hy => List.mem_range.mpr (cn_lt hw hx (hF'.c y hy))
            rw [List.length_range] at this
            omega
          have hnew := hF'.add hpm c
          have hop : Closed ps (F' ++ [if p.1 ∈ F' then p.2 else p.1]) ∨ (openN ps (F' ++ [if p.1 ∈ F' then p.2 else p.1]) + i ≤ ps.length ∧ ∀ q ∈ ps.take (j + 1), q.1 ∈ (F' ++ [if p.1 ∈ F' then p.2 else p.1]) ↔ q.2 ∈ (F' ++ [if p.1 ∈ F' then p.2 else p.1])) ∨ openN ps (F' ++ [if p.1 ∈ F' then p.2 else p.1]) + (i + 1) ≤ ps.length := by
            have lt := open_lt hpm c
            rcases hc' with z | z | z
            · exact absurd (z p hpm) c
            · exact .inr (.inr (by have := z.1; omega))
            · exact .inr (.inr (by omega))
          o_readsAll
          by_cases d : p.1 ∈ F'
          · rw [if_pos d] at hnew hop
            refine ifT (show inV (.int (p.1 : Int)) (F'.map nV) = true from v1.trans (dT d)) ?_
            o_readsAll
            refine ⟨_, _, F' ++ [p.2], rfl, by kd_subs, ?_, hnew, hop⟩
            rw [List.map_append]
            exact upd_same
          · rw [if_neg d] at hnew hop
            refine ifF (show inV (.int (p.1 : Int)) (F'.map nV) = false from v1.trans (dF d)) ?_
            o_readsAll
            refine ⟨_, _, F' ++ [p.1], rfl, by kd_subs, ?_, hnew, hop⟩
            rw [List.map_append]
            exact upd_same
      · rintro σ H2 ⟨y4, y5, F', rfl, s2, e2, hF', hc'⟩
        refine ⟨_, _, _, F', rfl, s2, e2, hF', ?_⟩
        rcases hc' with z | z | z
        · exact .inl z
        · refine .inl fun p hp => z.2 p ?_
          rw [List.take_of_length_le (by rw [hts]; exact Nat.le_refl _)]
          exact hp
        · exact .inr z
    · rintro σ H1 ⟨y3, y4, y5, F, rfl, s1, e1, hF, hc⟩
      o_readsAll
      refine q o F H1 no s1 e1 hF.nd (hF.iff (hc.elim id fun z => open_zero ?_))
      rw [hts] at z
      omega
end
end Un
end Ob

set_option Elab.async false
set_option linter.all false
set_option maxRecDepth 100000
set_option maxHeartbeats 1000000
namespace Ob
open PySem PySem.Spec PyProof.Rows L2
open LamX (Tabs TabB TabS ExtN)

set_option hygiene false in
local macro_rules
  | `(tactic| kp_flats) => `(tactic| first
    | assumption
    | exact upd_same
    | (apply atNew; assumption; kp_flats)
    | (apply atNe; (next => kbo_bools); kp_flats)
    | (apply atSame; assumption; kp_flats)
    | (apply atKp; assumption; (next => kaf_pre); kp_flats))
set_option hygiene false in
local macro_rules
  | `(tactic| kaf_pre) => `(tactic| first
    | assumption
    | exact not_nil
    | (apply not_cons; (next => kbo_bools); kaf_pre)
    | (apply not_app; (next => kaf_pre); kaf_pre))
set_option hygiene false in
local macro_rules
  | `(tactic| kbo_bools) => `(tactic| first
    | assumption
    | (apply Ne.symm; assumption)
    | (apply neN; assumption; kp_flats)
    | (apply neN'; assumption; kp_flats))
set_option hygiene false in
local macro_rules
  | `(tactic| o_reads) => `(tactic| first
    | with_reducible rfl
    | assumption
    | rfl
    | kp_flats
    | (show SqL _ _ _ _; first | assumption | (apply sqlOf; kp_flats) | (apply sqlSame; assumption; o_reads))
    | (show SqT _ _ _ _; first | assumption | (apply sqtOf; kp_flats) | (apply sqtAll; assumption) | (apply sqtSame; assumption; o_reads))
    | (show Cls _ _; first | exact T.cl_Unions)
    | (show NoAttr _ _ _; first | exact T.n_Unions_groups | exact T.n_Unions_parents | exact T.n_Unions_counts | exact T.n_Unions_moved)
    | (apply Or.inl; o_reads)
    | (apply Or.inr; o_reads)
    | (apply And.intro; (next => o_reads); o_reads)
    | (apply Exists.intro; o_reads)
    | exact Nat.le_of_ble_eq_true rfl
    | exact Nat.succ_ne_zero _
    | (show Fr _ _; kba_ints)
    | (show Same _ _; kd_subs)
    | (show Kp _ _ _; kxs_still)
    | (show (_ : Nat) ≤ _; simp only [List.length_append, List.length_map, List.length_cons, List.length_nil, List.length_take, List.length_drop, List.length_replicate, List.length_range, sizeLine_eq]; omega)
    | (show _ = none; apply Fr.h; kba_ints)
    | (show Bag _ _; first | assumption | (apply bag_putF; assumption; o_reads) | (apply bag_neF; (next => kbo_bools); o_reads) | (apply bag_kpR; assumption; (next => kaf_pre); o_reads))
    | omega
    | decide)
local macro_rules
  | `(tactic| o_readsAll) => `(tactic| repeat (first
    | (refine fun (pNew : Addr) (nNew : _ = none) => ?_; replace nNew := Fr.mk nNew)
    | (refine fun (xNew dNew : Addr) (nNew : _ = none) (mNew : _ = none) (eNew : dNew ≠ xNew) => ?_; replace nNew := Fr.mk nNew; replace mNew := Fr.mk mNew)
    | (apply And.intro; next => o_reads)
    | apply Exists.intro (α := V)
    | apply Exists.intro (α := Addr)
    | apply Exists.intro (α := Int)
    | apply Exists.intro (α := Bool)
    | apply Exists.intro (α := List V)
    | apply Exists.intro (α := List Nat)
    | apply Exists.intro (α := List (Str × V))
    | apply Exists.intro (α := List _)
    | apply Exists.intro (α := Str)
    | apply Exists.intro (α := HO)
    | apply Exists.intro (α := Sp)
    | apply Exists.intro (α := VK)))
set_option hygiene false in
local macro_rules
  | `(tactic| kba_ints) => `(tactic| first
    | assumption
    | (apply frUp; (first | assumption | (apply Ne.symm; assumption)); kba_ints)
    | (apply noneOf; assumption; intro oF eF; apply Exists.intro; kp_flats)
    | (apply frUp; (next => kbo_bools); kba_ints))
set_option hygiene false in
local macro_rules
  | `(tactic| kxs_still) => `(tactic| first
    | assumption
    | exact kp_refl _ _
    | (apply kp_newF; assumption; kxs_still)
    | (apply kp_new; assumption; kxs_still)
    | (apply kp_up; (next => o_fieldsN); kxs_still)
    | (apply kp_new; (next => kba_ints); kxs_still)
    | (apply kp_sameR; assumption; kxs_still)
    | (apply kp_transR; assumption; kxs_still)
    | (apply kp_freshR; assumption; (next => kaf_suf); kxs_still))
set_option hygiene false in
local macro_rules
  | `(tactic| kaf_suf) => `(tactic| first
    | assumption
    | exact subNil
    | (apply subCons; (first | (apply Or.inl; o_fieldsN) | (apply Or.inr; kba_ints)); kaf_suf)
    | (apply subApp; (next => kaf_suf); kaf_suf))
set_option hygiene false in
local macro_rules
  | `(tactic| o_fieldsN) => `(tactic| first
    | assumption
    | exact memA
    | (apply memB; o_fieldsN)
    | (apply memL; o_fieldsN)
    | (apply memR; o_fieldsN))
set_option hygiene false in
local macro_rules
  | `(tactic| kd_subs) => `(tactic| first
    | assumption
    | exact Same.refl _
    | (apply same_putF; assumption; kd_subs)
    | (apply same_putG; assumption; kd_subs)
    | (apply same_putF; (next => kba_ints); kd_subs)
    | (apply same_transR; assumption; kd_subs))

/-- len within a comprehension: the fragment is named -/
theorem call_lenK {X : Cx} (K : PySem.W.Frag) (e : X.K = K) : CallR X (.builtin "len") (fun xs H Q => ∃ p ys, xs = [.ref p] ∧ (SqL K H p ys ∨ SqT K H p ys) ∧ Q (.int ys.length) H) := by
  subst e
  exact call_len_seq
theorem cr_minKK {X : Cx} (K : PySem.W.Frag) (e : X.K = K) (hc : X.calm = true) : CallR X (.builtin "min") (rMin K) := by
  subst e
  exact cr_min hc

set_option pp.maxSteps 900
namespace Un
/-! ### answers go by who is there, not by the order -/
def Qn.inW (W : Nat) : Qn → Prop
  | .same a b => a < W ∧ b < W
  | .size a => a < W
  | .groups => True
theorem ans_same {W : Nat} {ps : List (Nat × Nat)} (h : InW W ps) {a b : Nat} {F : List Nat} (m : ∀ y, y ∈ F ↔ Cn ps a y) : Qn.ans W ps (.same a b) = .bl (decide (b ∈ F)) := by
  show V.bl (decide (rootF a (linksOf ps) = rootF b (linksOf ps))) = _
  congr 1
  exact decide_eq_decide.mpr ((root_iff h).trans (m b).symm)
theorem ans_size {W : Nat} {ps : List (Nat × Nat)} (h : InW W ps) {a : Nat} (ha : a < W) {F : List Nat} (nd : F.Nodup) (m : ∀ y, y ∈ F ↔ Cn ps a y) : Qn.ans W ps (.size a) = .int (F.length : Nat) := by
  show V.int (subF (linksOf ps) (rootF a (linksOf ps)) : Nat) = _
  rw [size_of h ha nd m]
theorem ans_groups {W : Nat} {ps : List (Nat × Nat)} (h : InW W ps) {M : List Nat} (nd : M.Nodup) (m : ∀ y, y ∈ M ↔ y < W ∧ ∀ z, Cn ps y z → y ≤ z) : Qn.ans W ps .groups = .int (M.length : Nat) := by
  have e := groups_of h nd m
  show V.int ((W : Int) - ((linksOf ps).length : Nat)) = _
  congr 1
  omega
/-- y is the least of its part -/
def minB (ps : List (Nat × Nat)) (W y : Nat) : Bool := (List.range W).all fun z => !decide (rootF y (linksOf ps) = rootF z (linksOf ps)) || decide (y ≤ z)
theorem minB_iff {W : Nat} {ps : List (Nat × Nat)} (h : InW W ps) {y : Nat} (hy : y < W) : minB ps W y = true ↔ ∀ z, Cn ps y z → y ≤ z := by
  unfold minB
  rw [List.all_eq_true]
  constructor
  · intro g z c
    have hz := cn_lt h hy c
    have := g z (List.mem_range.mpr hz)
    rw [Bool.or_eq_true] at this
    rcases this with e | e
    · rw [dT ((root_iff h).mpr c)] at e
      cases e
    · exact of_decide_eq_true e
  · intro g z _
    rw [Bool.or_eq_true]
    by_cases c : rootF y (linksOf ps) = rootF z (linksOf ps)
    · exact .inr (decide_eq_true (g z ((root_iff h).mp c)))
    · exact .inl (by rw [dF c]; rfl)
def minsOf (ps : List (Nat × Nat)) (W i : Nat) : List Nat := (List.range i).filter (minB ps W)
theorem mins_iff {W : Nat} {ps : List (Nat × Nat)} (h : InW W ps) (y : Nat) : y ∈ minsOf ps W W ↔ y < W ∧ ∀ z, Cn ps y z → y ≤ z := by
  unfold minsOf
  rw [List.mem_filter, List.mem_range]
  exact ⟨fun g => ⟨g.1, (minB_iff h g.1).mp g.2⟩, fun g => ⟨g.1, (minB_iff h g.1).mpr g.2⟩⟩
theorem ans_mem {W : Nat} {ps qs : List (Nat × Nat)} (h1 : InW W ps) (h2 : InW W qs) (e : ∀ p, p ∈ ps ↔ p ∈ qs) {q : Qn} (hq : q.inW W) : q.ans W ps = q.ans W qs := by
  have cn : ∀ x y, Cn ps x y ↔ Cn qs x y := fun x y => ⟨fun c => c.more fun p => (e p).mp, fun c => c.more fun p => (e p).mpr⟩
  have hF : ∀ (a : Nat), a < W → ∀ y, y ∈ (List.range W).filter (fun y => decide (rootF a (linksOf ps) = rootF y (linksOf ps))) ↔ Cn ps a y := fun a ha y => by
    rw [List.mem_filter, List.mem_range]
    exact ⟨fun g => (root_iff h1).mp (of_decide_eq_true g.2), fun c => ⟨cn_lt h1 ha c, decide_eq_true ((root_iff h1).mpr c)⟩⟩
  match q, hq with
  | .same a b, hq => rw [ans_same h1 (hF a hq.1), ans_same h2 fun y => (hF a hq.1 y).trans (cn a y)]
  | .size a, hq =>
    have hq : a < W := hq
    rw [ans_size h1 hq (fil_nd (range_nd W)) (hF a hq), ans_size h2 hq (fil_nd (range_nd W)) fun y => (hF a hq y).trans (cn a y)]
  | .groups, _ =>
    rw [ans_groups h1 (M := minsOf ps W W) (fil_nd (range_nd W)) (mins_iff h1), ans_groups h2 (M := minsOf ps W W) (fil_nd (range_nd W)) fun y => (mins_iff h1 y).trans ⟨fun g => ⟨g.1, fun z c => g.2 z ((cn y z).mpr c)⟩, fun g => ⟨g.1, fun z c => g.2 z ((cn y z).mp c)⟩⟩]
section
variable {P : Program} {w : World} {K : PySem.W.Frag} {mg : Str → Option Value} {base : Heap}
def spAnswer : Sp := fun vs H Q _ => ∃ (a q : Addr) (ts : List Addr) (ps : List (Nat × Nat)) (W : Nat) (qn : Qn), vs = [.ref a, .int (W : Int), .ref q] ∧ PsAt H a ts ps ∧ ps.length ≤ 10000 ∧ InW W ps ∧ 0 < W ∧ W ≤ 100 ∧ H q = some (.tup qn.tup) ∧ qn.inW W ∧ ∀ H', Same H H' → Q (qn.ans W ps) H'
theorem ok_answer (T : Txt K mg) : FnOk P w K mg base CX0 2 T.f_l_answer T.d_l_answer ["_law_pairs", "_law_wide", "_law_question"] spAnswer := by
  have G_l_component := ok_comp (P := P) (w := w) (base := base) T
  refine T.F_l_answer.ok sc_l_answer (fun vs H Q E h => ?_) (fun cdv A outer s H vs Q E hr h => ?_)
  · obtain ⟨a, q, ts, ps, W, qn, rfl, _⟩ := h
    rfl
  · obtain ⟨a, q, ts, ps, W, qn, rfl, hP, hle, hw, hW0, hW, hq, hqw, k⟩ := h
    refine ⟨_, (pss_cons (ps_if (pt_cmpR op_eq (pe_ix (r := rIxT K) ix_tup (pv 2) pe_int (fun _ _ => rfl)) pe_str (nomark _)) (pss_one (ps_ret (pe_callB call_len_seq (by rfl) T.z_len (by decide +kernel) (pa_cons (pe_lc (own := [("_law_point", 4)]) (g := gName 4)  rfl sc_l_answer.nd (pi_range1 (by rfl) T.z_range (pa_cons (pv 1) pa_nil)) (blkOk_by (N := n_l_answer) (sc := defScope s_l_answer) (by decide +kernel)) (fun _ _ _ _ _ => (pg_name (i := 4) sc_l_answer.nd rfl (.inl rfl))) (fun _ _ _ _ _ => (pts_one (pt_cmpR op_eq (pe_callB (cr_minKK K rfl rfl) (by rfl) T.z_min (by decide +kernel) (pa_cons (pe_call G_l_component (hr.mono (by omega)) rfl T.g_l_component T.F_l_component.kp T.b_l_component .nil pass0 (pa_cons (pv 0) (pa_cons (pv 4) pa_nil))) pa_nil)) (pv 4) (nomark _)))) (fun _ _ _ _ _ => (pv 4))) pa_nil)))) pss_nil)
      (pss_cons (ps_set (i := 3) sc_l_answer.nd rfl (.inl rfl) (pe_call G_l_component (hr.mono (by omega)) rfl T.g_l_component T.F_l_component.kp T.b_l_component .nil pass0 (pa_cons (pv 0) (pa_cons (pe_ix (r := rIxT K) ix_tup (pv 2) pe_int (fun _ _ => rfl)) pa_nil))))
      (pss_one (ps_ret (pe_ifExp (pt_cmpR op_eq (pe_ix (r := rIxT K) ix_tup (pv 2) pe_int (fun _ _ => rfl)) pe_str (nomark _)) (pe_cmpR op_in_seq (pe_ix (r := rIxT K) ix_tup (pv 2) pe_int (fun _ _ => rfl)) (pv 3) (by rfl)) (pe_callB call_len_seq (by rfl) T.z_len (by decide +kernel) (pa_cons (pv 3) pa_nil))))))), ?_⟩
    cases qn with
    | same x b =>
      have q0 : atI (Qn.tup (.same x b)) 0 = some (.str "same") := atI_nat (j := 0) rfl
      have q1 : atI (Qn.tup (.same x b)) 1 = some (.int (x : Int)) := atI_nat (j := 1) rfl
      have q2 : atI (Qn.tup (.same x b)) 2 = some (.int (b : Int)) := atI_nat (j := 2) rfl
      refine ⟨_, rfl, q, _, 0, _, rfl, rfl, sqtOf hq, q0, rfl, _, rfl, ?_⟩
      refine ifF (by decide +kernel) ?_
      refine ⟨_, rfl, _, rfl, q, _, 1, _, rfl, rfl, sqtOf hq, q1, a, ts, ps, x, W, rfl, hP, hle, hw, hqw.1, by omega, fun o F H' fo s' ho nd m => ?_⟩
      refine ⟨_, rfl, q, _, 0, _, rfl, rfl, sqtOf (s' _ _ hq), q0, rfl, _, rfl, ?_⟩
      refine ifT rfl ?_
      have hin := in_nat b F
      have h3 := k _ s'
      rw [ans_same hw m, ← hin] at h3
      refine ⟨_, rfl, q, _, 2, _, rfl, rfl, sqtOf (s' _ _ hq), q2, _, rfl, ?_⟩
      exact ⟨o, _, rfl, .inl (sqlOf ho), rfl, flat_nats F, h3⟩
    | size x =>
      have q0 : atI (Qn.tup (.size x)) 0 = some (.str "size") := atI_nat (j := 0) rfl
      have q1 : atI (Qn.tup (.size x)) 1 = some (.int (x : Int)) := atI_nat (j := 1) rfl
      refine ⟨_, rfl, q, _, 0, _, rfl, rfl, sqtOf hq, q0, rfl, _, rfl, ?_⟩
      refine ifF (by decide +kernel) ?_
      have hqw : x < W := hqw
      refine ⟨_, rfl, _, rfl, q, _, 1, _, rfl, rfl, sqtOf hq, q1, a, ts, ps, x, W, rfl, hP, hle, hw, hqw, by omega, fun o F H' fo s' ho nd m => ?_⟩
      refine ⟨_, rfl, q, _, 0, _, rfl, rfl, sqtOf (s' _ _ hq), q0, rfl, _, rfl, ?_⟩
      refine ifF (by decide +kernel) ?_
      have h3 := k _ s'
      rw [ans_size hw hqw nd m] at h3
      refine ⟨_, rfl, o, _, rfl, .inl (sqlOf ho), ?_⟩
      rw [List.length_map]
      exact h3
    | groups =>
      have q0 : atI (Qn.tup .groups) 0 = some (.str "groups") := atI_nat (j := 0) rfl
      refine ⟨_, rfl, q, _, 0, _, rfl, rfl, sqtOf hq, q0, rfl, _, rfl, ?_⟩
      refine ifT rfl ?_
      refine ⟨_, rfl, _, rfl, by omega, by omega, fun D nD => ?_⟩
      have fD := Fr.mk nD
      refine lc_range (lo := 0) (n := W) (fun i H' => Same H H' ∧ H' D = some (.lst ((minsOf ps W i).map nV))) ⟨same_newF fD, upd_same⟩ ?_ ?_
      · rintro i H1 hi ⟨s1, eD⟩
        refine ⟨rfl, ?_⟩
        have hi0 : (0 : Int) + (i : Int) = (i : Int) := Int.zero_add _
        rw [hi0]
        refine ⟨_, rfl, _, rfl, a, ts, ps, i, W, rfl, hP.same s1, hle, hw, hi, by omega, fun o F H' fo s' ho nd m => ?_⟩
        have hoI : SqL K H' o ((F.map fun k : Nat => (k : Int)).map V.int) := by
          have := sqlOf (K := K) ho
          rw [show F.map nV = (F.map fun k : Nat => (k : Int)).map V.int by rw [List.map_map]; rfl] at this
          exact this
        have hiF : i ∈ F := (m i).mpr .refl
        refine ⟨o, _, rfl, hoI, by rw [List.length_map]; exact List.length_pos_of_mem hiF, fun mn h1 h2 => ?_⟩
        obtain ⟨k0, hk0, rfl⟩ := List.mem_map.mp h1
        have hb : decide (V.int (k0 : Int) = V.int (i : Int)) = minB ps W i := by
          rw [dec_nat]
          refine Bool.eq_iff_iff.mpr (Iff.trans ⟨of_decide_eq_true, decide_eq_true⟩ (Iff.trans ?_ (minB_iff hw hi).symm))
          constructor
          · rintro rfl z c
            have := h2 (z : Int) (List.mem_map.mpr ⟨z, (m z).mpr c, rfl⟩)
            exact Int.ofNat_le.mp this
          · intro g
            have e1 := g k0 ((m k0).mp hk0)
            have e2 := Int.ofNat_le.mp (h2 (i : Int) (List.mem_map.mpr ⟨i, hiF, rfl⟩))
            omega
        have hst : minsOf ps W (i + 1) = minsOf ps W i ++ if minB ps W i = true then [i] else [] := by
          unfold minsOf
          rw [List.range_succ, List.filter_append, List.filter_cons, List.filter_nil]
        have hlen : (minsOf ps W i).length ≤ i := by
          have := List.length_filter_le (minB ps W) (List.range i)
          rwa [List.length_range] at this
        refine ⟨_, rfl, rfl, _, rfl, ?_⟩
        have eD' := s' _ _ eD
        rw [hb, hst]
        by_cases c : minB ps W i = true
        · rw [if_pos c]
          refine ifT c ⟨_, rfl, _, eD', by rw [List.length_map, sizeLine_eq]; omega, same_putG fD (s1.trans s'), ?_⟩
          rw [upd_same, List.map_append]
          rfl
        · rw [if_neg c, List.append_nil]
          exact ifF (by cases h : minB ps W i; rfl; exact absurd h c) ⟨s1.trans s', eD'⟩
      · rintro H1 ⟨s1, eD⟩
        refine ⟨D, _, rfl, .inl (sqlOf eD), ?_⟩
        rw [List.length_map]
        have h3 := k _ s1
        rw [ans_groups hw (M := minsOf ps W W) (fil_nd (range_nd W)) (mins_iff hw)] at h3
        exact h3
end
end Un
end Ob

set_option Elab.async false
set_option linter.all false
set_option maxRecDepth 100000
set_option maxHeartbeats 1000000
namespace Ob
open PySem PySem.Spec PyProof.Rows L2
open LamX (Tabs TabB TabS ExtN)

set_option hygiene false in
local macro_rules
  | `(tactic| kp_flats) => `(tactic| first
    | assumption
    | exact upd_same
    | (apply atNew; assumption; kp_flats)
    | (apply atNe; (next => kbo_bools); kp_flats)
    | (apply atSame; assumption; kp_flats)
    | (apply atKp; assumption; (next => kaf_pre); kp_flats))
set_option hygiene false in
local macro_rules
  | `(tactic| kaf_pre) => `(tactic| first
    | assumption
    | exact not_nil
    | (apply not_cons; (next => kbo_bools); kaf_pre)
    | (apply not_app; (next => kaf_pre); kaf_pre))
set_option hygiene false in
local macro_rules
  | `(tactic| kbo_bools) => `(tactic| first
    | assumption
    | (apply Ne.symm; assumption)
    | (apply neN; assumption; kp_flats)
    | (apply neN'; assumption; kp_flats))
set_option hygiene false in
local macro_rules
  | `(tactic| o_reads) => `(tactic| first
    | with_reducible rfl
    | assumption
    | rfl
    | kp_flats
    | (show SqL _ _ _ _; first | assumption | (apply sqlOf; kp_flats) | (apply sqlSame; assumption; o_reads))
    | (show SqT _ _ _ _; first | assumption | (apply sqtOf; kp_flats) | (apply sqtAll; assumption) | (apply sqtSame; assumption; o_reads))
    | (show Cls _ _; first | exact T.cl_Unions)
    | (show NoAttr _ _ _; first | exact T.n_Unions_groups | exact T.n_Unions_parents | exact T.n_Unions_counts | exact T.n_Unions_moved)
    | (apply Or.inl; o_reads)
    | (apply Or.inr; o_reads)
    | (apply And.intro; (next => o_reads); o_reads)
    | (apply Exists.intro; o_reads)
    | exact Nat.le_of_ble_eq_true rfl
    | exact Nat.succ_ne_zero _
    | (show Fr _ _; kba_ints)
    | (show Same _ _; kd_subs)
    | (show Kp _ _ _; kxs_still)
    | (show (_ : Nat) ≤ _; simp only [List.length_append, List.length_map, List.length_cons, List.length_nil, List.length_take, List.length_drop, List.length_replicate, List.length_range, sizeLine_eq]; omega)
    | (show _ = none; apply Fr.h; kba_ints)
    | (show Bag _ _; first | assumption | (apply bag_putF; assumption; o_reads) | (apply bag_neF; (next => kbo_bools); o_reads) | (apply bag_kpR; assumption; (next => kaf_pre); o_reads))
    | omega
    | decide)
local macro_rules
  | `(tactic| o_readsAll) => `(tactic| repeat (first
    | (refine fun (pNew : Addr) (nNew : _ = none) => ?_; replace nNew := Fr.mk nNew)
    | (refine fun (xNew dNew : Addr) (nNew : _ = none) (mNew : _ = none) (eNew : dNew ≠ xNew) => ?_; replace nNew := Fr.mk nNew; replace mNew := Fr.mk mNew)
    | (apply And.intro; next => o_reads)
    | apply Exists.intro (α := V)
    | apply Exists.intro (α := Addr)
    | apply Exists.intro (α := Int)
    | apply Exists.intro (α := Bool)
    | apply Exists.intro (α := List V)
    | apply Exists.intro (α := List Nat)
    | apply Exists.intro (α := List (Str × V))
    | apply Exists.intro (α := List _)
    | apply Exists.intro (α := Str)
    | apply Exists.intro (α := HO)
    | apply Exists.intro (α := Sp)
    | apply Exists.intro (α := VK)))
set_option hygiene false in
local macro_rules
  | `(tactic| kba_ints) => `(tactic| first
    | assumption
    | (apply frUp; (first | assumption | (apply Ne.symm; assumption)); kba_ints)
    | (apply noneOf; assumption; intro oF eF; apply Exists.intro; kp_flats)
    | (apply frUp; (next => kbo_bools); kba_ints))
set_option hygiene false in
local macro_rules
  | `(tactic| kxs_still) => `(tactic| first
    | assumption
    | exact kp_refl _ _
    | (apply kp_newF; assumption; kxs_still)
    | (apply kp_new; assumption; kxs_still)
    | (apply kp_up; (next => o_fieldsN); kxs_still)
    | (apply kp_new; (next => kba_ints); kxs_still)
    | (apply kp_sameR; assumption; kxs_still)
    | (apply kp_transR; assumption; kxs_still)
    | (apply kp_freshR; assumption; (next => kaf_suf); kxs_still))
set_option hygiene false in
local macro_rules
  | `(tactic| kaf_suf) => `(tactic| first
    | assumption
    | exact subNil
    | (apply subCons; (first | (apply Or.inl; o_fieldsN) | (apply Or.inr; kba_ints)); kaf_suf)
    | (apply subApp; (next => kaf_suf); kaf_suf))
set_option hygiene false in
local macro_rules
  | `(tactic| o_fieldsN) => `(tactic| first
    | assumption
    | exact memA
    | (apply memB; o_fieldsN)
    | (apply memL; o_fieldsN)
    | (apply memR; o_fieldsN))
set_option hygiene false in
local macro_rules
  | `(tactic| kd_subs) => `(tactic| first
    | assumption
    | exact Same.refl _
    | (apply same_putF; assumption; kd_subs)
    | (apply same_putG; assumption; kd_subs)
    | (apply same_putF; (next => kba_ints); kd_subs)
    | (apply same_transR; assumption; kd_subs))

set_option pp.maxSteps 900
/-! ### histories of pairs, and of questions about components -/
inductive PEv where
  | add (p : Nat × Nat) | rem (i : Nat) | ask (q : Un.Qn)
def EvR (H : Hp) : HEv → PEv → Prop
  | .add v, .add p => ∃ t, v = .ref t ∧ H t = some (.tup [.int (p.1 : Int), .int (p.2 : Int)])
  | .rem i, .rem j => i = j
  | .ask v, .ask q => ∃ t, v = .ref t ∧ H t = some (.tup q.tup)
  | _, _ => False
def PEv.inW (W : Nat) : PEv → Prop
  | .add p => p.1 < W ∧ p.2 < W
  | .rem _ => True
  | .ask q => q.inW W
theorem EvR.kp {cs : List Addr} {H H1 : Hp} : ∀ {e : HEv} {p : PEv}, EvR H e p → Kp cs H H1 → Mu H cs → EvR H1 e p
  | .add _, .add _, ⟨t, a, b⟩, k, m => ⟨t, a, kp_tup k m b⟩
  | .rem _, .rem _, h, _, _ => h
  | .ask _, .ask _, ⟨t, a, b⟩, k, m => ⟨t, a, kp_tup k m b⟩
  | .add _, .rem _, h, _, _ => h.elim
  | .add _, .ask _, h, _, _ => h.elim
  | .rem _, .add _, h, _, _ => h.elim
  | .rem _, .ask _, h, _, _ => h.elim
  | .ask _, .add _, h, _, _ => h.elim
  | .ask _, .rem _, h, _, _ => h.elim
structure PH (W : Nat) (H : Hp) (hs : List HEv) (es : List PEv) : Prop where
  len : es.length = hs.length
  at_ : ∀ (i : Nat) (e : HEv) (p : PEv), hs[i]? = some e → es[i]? = some p → EvR H e p ∧ p.inW W
theorem PH.kp {W : Nat} {cs : List Addr} {H H1 : Hp} {hs : List HEv} {es : List PEv} (h : PH W H hs es) (k : Kp cs H H1) (m : Mu H cs) : PH W H1 hs es := ⟨h.len, fun i e p a b => ⟨(h.at_ i e p a b).1.kp k m, (h.at_ i e p a b).2⟩⟩
theorem PH.same {W : Nat} {H H1 : Hp} {hs : List HEv} {es : List PEv} (h : PH W H hs es) (s : Same H H1) : PH W H1 hs es := h.kp (cs := []) (kp_same s) mu_nil
theorem PH.nil {W : Nat} {H : Hp} : PH W H [] [] := ⟨rfl, fun i e p a => by cases i <;> cases a⟩
theorem PH.add {W : Nat} {H : Hp} {hs : List HEv} {es : List PEv} {e : HEv} {p : PEv} (h : PH W H hs es) (g : EvR H e p) (w : p.inW W) : PH W H (hs ++ [e]) (es ++ [p]) := by
  refine ⟨by rw [List.length_append, List.length_append, h.len]; rfl, fun i x y a b => ?_⟩
  have hl := h.len
  by_cases c : i < hs.length
  · rw [List.getElem?_append_left c] at a
    rw [List.getElem?_append_left (by omega)] at b
    exact h.at_ i x y a b
  · rw [List.getElem?_append_right (by omega)] at a
    rw [List.getElem?_append_right (by omega), hl] at b
    match i - hs.length, a, b with
    | 0, a, b =>
      cases a
      cases b
      exact ⟨g, w⟩
    | r + 1, a, _ => cases r <;> cases a
theorem PH.get {W : Nat} {H : Hp} {hs : List HEv} {es : List PEv} (h : PH W H hs es) {i : Nat} {e : HEv} (hi : hs[i]? = some e) : ∃ p, es[i]? = some p ∧ EvR H e p ∧ p.inW W := by
  have hl := (List.getElem?_eq_some_iff.mp hi).1
  have : es[i]? = some (es[i]'(by rw [h.len]; exact hl)) := List.getElem?_eq_getElem _
  exact ⟨_, this, h.at_ i e _ hi this⟩
/-- the pair that was added at i; the question at i -/
def prF (es : List PEv) (i : Nat) : Nat × Nat := match es[i]? with
  | some (.add p) => p
  | _ => (0, 0)
def qnF (es : List PEv) (i : Nat) : Un.Qn := match es[i]? with
  | some (.ask q) => q
  | _ => .groups
theorem PH.pair {W : Nat} {H : Hp} {hs : List HEv} {es : List PEv} (h : PH W H hs es) {i : Nat} {v : V} (hi : hs[i]? = some (.add v)) : ∃ t, v = .ref t ∧ H t = some (.tup [.int ((prF es i).1 : Int), .int ((prF es i).2 : Int)]) ∧ (prF es i).1 < W ∧ (prF es i).2 < W := by
  obtain ⟨p, hp, g, w⟩ := h.get hi
  unfold prF
  rw [hp]
  match p, g, w with
  | .add p, ⟨t, a, b⟩, w => exact ⟨t, a, b, w⟩
theorem PH.qn {W : Nat} {H : Hp} {hs : List HEv} {es : List PEv} (h : PH W H hs es) {i : Nat} {v : V} (hi : hs[i]? = some (.ask v)) : ∃ t, v = .ref t ∧ H t = some (.tup (qnF es i).tup) ∧ (qnF es i).inW W := by
  obtain ⟨p, hp, g, w⟩ := h.get hi
  unfold qnF
  rw [hp]
  match p, g, w with
  | .ask p, ⟨t, a, b⟩, w => exact ⟨t, a, b, w⟩
def pairsF (es : List PEv) (l : List Nat) : List (Nat × Nat) := l.map (prF es)
/-- what the question at i is answered with -/
def ansF (W : Nat) (hs : List HEv) (es : List PEv) (i : Nat) : V := (qnF es i).ans W (pairsF es (presU hs i))
theorem PH.wide {W : Nat} {H : Hp} {hs : List HEv} {es : List PEv} (h : PH W H hs es) {l : List Nat} (hl : ∀ i ∈ l, ∃ v, hs[i]? = some (.add v)) : Un.InW W (pairsF es l) := fun p m => by
  obtain ⟨i, hi, rfl⟩ := List.mem_map.mp m
  obtain ⟨v, hv⟩ := hl i hi
  obtain ⟨_, _, _, a⟩ := h.pair hv
  exact a
/-! as plain data -/
def qnD : Un.Qn → PyData
  | .same a b => .tuple [.str "same", .int (a : Int), .int (b : Int)]
  | .size a => .tuple [.str "size", .int (a : Int)]
  | .groups => .tuple [.str "groups"]
def evD : PEv → PyData
  | .add p => .tuple [.str "add", .tuple [.int (p.1 : Int), .int (p.2 : Int)]]
  | .rem i => .tuple [.str "remove", .int (i : Int)]
  | .ask q => .tuple [.str "ask", qnD q]
def ansD (W : Nat) (ps : List (Nat × Nat)) : Un.Qn → PyData
  | .same a b => .bool (decide (Un.rootF a (Un.linksOf ps) = Un.rootF b (Un.linksOf ps)))
  | .size a => .int (Un.subF (Un.linksOf ps) (Un.rootF a (Un.linksOf ps)) : Nat)
  | .groups => .int ((W : Int) - ((Un.linksOf ps).length : Nat))
theorem dp_ans {K : PySem.W.Frag} {H : Hp} {W : Nat} {ps : List (Nat × Nat)} (q : Un.Qn) : Dp K H (q.ans W ps) (ansD W ps q) := by
  cases q with
  | same a b => exact .bl _
  | size a => exact .int _
  | groups => exact .int _
theorem small12 {n : Nat} (h : n ≤ 100000) : ((n : Int)).natAbs < 10 ^ 12 := by
  have : (10 : Nat) ^ 12 = 1000000000000 := by decide
  omega
theorem shw_ans {W : Nat} {ps : List (Nat × Nat)} {q : Un.Qn} (hW : W ≤ 1000) (hw : Un.InW W ps) (hq : q.inW W) (hl : ps.length ≤ 1000) : Shw 41 0 (ansD W ps q) := by
  match q, hq with
  | .same a b, _ => exact (Shw.bl _).mono (by decide) (Nat.le_refl _)
  | .size a, hq =>
    have hq : a < W := hq
    refine Shw.int (small12 ?_)
    have e := Un.size_of hw hq (F := (List.range W).filter fun y => decide (Un.rootF a (Un.linksOf ps) = Un.rootF y (Un.linksOf ps))) (Un.fil_nd (Un.range_nd W)) fun y => by
      rw [List.mem_filter, List.mem_range]
      exact ⟨fun g => (Un.root_iff hw).mp (of_decide_eq_true g.2), fun c => ⟨Un.cn_lt hw hq c, decide_eq_true ((Un.root_iff hw).mpr c)⟩⟩
    rw [e]
    have := List.length_filter_le (fun y => decide (Un.rootF a (Un.linksOf ps) = Un.rootF y (Un.linksOf ps))) (List.range W)
    rw [List.length_range] at this
    omega
  | .groups, _ =>
    refine Shw.int ?_
    have := Un.links_len ps
    have : (10 : Nat) ^ 12 = 1000000000000 := by decide
    omega
theorem shw_qn {W : Nat} {q : Un.Qn} (hW : W ≤ 1000) (hq : q.inW W) : Shw 200 1 (qnD q) := by
  have s1 : Shw 41 0 (.str "same") := (Shw.str (x := "same") (by decide +kernel)).mono (by decide +kernel) (by decide)
  have s2 : Shw 41 0 (.str "size") := (Shw.str (x := "size") (by decide +kernel)).mono (by decide +kernel) (by decide)
  have s3 : Shw 41 0 (.str "groups") := (Shw.str (x := "groups") (by decide +kernel)).mono (by decide +kernel) (by decide)
  match q, hq with
  | .same a b, hq =>
    refine (Shw.tup (w := 41) (p := 0) (ds := [.str "same", .int (a : Int), .int (b : Int)]) fun d m => ?_).mono (by show 3 * 42 ≤ 200; decide) (by decide)
    have h1 := hq.1
    have h2 := hq.2
    rcases List.mem_cons.mp m with rfl | m
    · exact s1
    rcases List.mem_cons.mp m with rfl | m
    · exact Shw.int (small12 (by omega))
    · rw [List.mem_singleton.mp m]
      exact Shw.int (small12 (by omega))
  | .size a, hq =>
    have hq : a < W := hq
    refine (Shw.tup (w := 41) (p := 0) (ds := [.str "size", .int (a : Int)]) fun d m => ?_).mono (by show 2 * 42 ≤ 200; decide) (by decide)
    rcases List.mem_cons.mp m with rfl | m
    · exact s2
    · rw [List.mem_singleton.mp m]
      exact Shw.int (small12 (by omega))
  | .groups, _ =>
    refine (Shw.tup (w := 41) (p := 0) (ds := [.str "groups"]) fun d m => ?_).mono (by decide) (by decide)
    rw [List.mem_singleton.mp m]
    exact s3
theorem dp_qn {K : PySem.W.Frag} {H : Hp} {t : Addr} {q : Un.Qn} (h : H t = some (.tup q.tup)) : Dp K H (.ref t) (qnD q) := by
  cases q with
  | same a b => exact .tup (sqtOf h) (.cons (.str _) (.cons (.int _) (.cons (.int _) .nil)))
  | size a => exact .tup (sqtOf h) (.cons (.str _) (.cons (.int _) .nil))
  | groups => exact .tup (sqtOf h) (.cons (.str _) .nil)
theorem dp_ev {K : PySem.W.Frag} {H : Hp} {W t : Nat} {e : HEv} {p : PEv} (h : H t = some (.tup [.str e.w, e.v])) (g : EvR H e p) (w : p.inW W) (hW : W ≤ 1000) (hr : ∀ i, e = .rem i → i ≤ 1000) : Dp K H (.ref t) (evD p) ∧ Shw 804 3 (evD p) := by
  have s1 : Shw 400 2 (.str "add") := (Shw.str (x := "add") (by decide +kernel)).mono (by decide +kernel) (by decide)
  have s2 : Shw 400 2 (.str "remove") := (Shw.str (x := "remove") (by decide +kernel)).mono (by decide +kernel) (by decide)
  have s3 : Shw 400 2 (.str "ask") := (Shw.str (x := "ask") (by decide +kernel)).mono (by decide +kernel) (by decide)
  match e, p, h, g, w, hr with
  | .add v, .add p, h, ⟨u, hv, hu⟩, w, _ =>
    have hv : v = .ref u := hv
    subst hv
    refine ⟨.tup (sqtOf h) (.cons (.str _) (.cons (.tup (sqtOf hu) (.cons (.int _) (.cons (.int _) .nil))) .nil)), (Shw.tup (w := 400) (p := 2) fun d m => ?_).mono (by show 2 * 401 ≤ 804; decide) (by decide)⟩
    have w1 := w.1
    have w2 := w.2
    rcases List.mem_cons.mp m with rfl | m
    · exact s1
    · rw [List.mem_singleton.mp m]
      refine (Shw.tup (w := 41) (p := 0) (ds := [.int (p.1 : Int), .int (p.2 : Int)]) fun d m => ?_).mono (by show 2 * 42 ≤ 400; decide) (by decide)
      rcases List.mem_cons.mp m with rfl | m
      · exact Shw.int (small12 (by omega))
      · rw [List.mem_singleton.mp m]
        exact Shw.int (small12 (by omega))
  | .rem i, .rem j, h, g, _, hr =>
    have g : i = j := g
    subst g
    refine ⟨.tup (sqtOf h) (.cons (.str _) (.cons (.int _) .nil)), (Shw.tup (w := 400) (p := 2) fun d m => ?_).mono (by show 2 * 401 ≤ 804; decide) (by decide)⟩
    rcases List.mem_cons.mp m with rfl | m
    · exact s2
    · rw [List.mem_singleton.mp m]
      exact (Shw.int (small12 (by have := hr i rfl; omega))).mono (by decide) (by decide)
  | .ask v, .ask q, h, ⟨u, hv, hu⟩, w, _ =>
    have hv : v = .ref u := hv
    subst hv
    refine ⟨.tup (sqtOf h) (.cons (.str _) (.cons (dp_qn hu) .nil)), (Shw.tup (w := 400) (p := 2) fun d m => ?_).mono (by show 2 * 401 ≤ 804; decide) (by decide)⟩
    rcases List.mem_cons.mp m with rfl | m
    · exact s3
    · rw [List.mem_singleton.mp m]
      exact (shw_qn hW w).mono (by decide) (by decide)
theorem dp_hs {K : PySem.W.Frag} {H : Hp} {W : Nat} {c : Addr} {hs : List HEv} {es : List PEv} (h : LH H c hs) (g : PH W H hs es) (ok : HOk hs) (hW : W ≤ 1000) (hl : hs.length ≤ 100) : Dp K H (.ref c) (.list (es.map evD)) ∧ Shw (2 ^ 20) 64 (.list (es.map evD)) := by
  obtain ⟨xs, h1, h2⟩ := h
  have get : ∀ (q : Nat) (d : PyData), (es.map evD)[q]? = some d → ∃ x p t e, d = evD p ∧ xs[q]? = some x ∧ x = .ref t ∧ H t = some (.tup [.str e.w, e.v]) ∧ EvR H e p ∧ p.inW W ∧ ∀ i, e = .rem i → i ≤ 1000 := fun q d a => by
    rw [List.getElem?_map] at a
    obtain ⟨p, hp, rfl⟩ := Option.map_eq_some_iff.mp a
    have hq : q < hs.length := by rw [← g.len]; exact (List.getElem?_eq_some_iff.mp hp).1
    have he : hs[q]? = some (hs[q]) := List.getElem?_eq_getElem hq
    have hx : xs[q]? = some (xs[q]'(by rw [h2.len]; exact hq)) := List.getElem?_eq_getElem _
    obtain ⟨t, e1, e2⟩ := h2.at_ q _ _ hx he
    obtain ⟨r1, r2⟩ := g.at_ q _ p he hp
    refine ⟨_, p, t, _, rfl, hx, e1, e2, r1, r2, fun i z => ?_⟩
    have := (pres_lt (hs := hs) i (ok q i (by rw [he, z]))).1
    omega
  refine ⟨.lst (sqlOf h1) (dpAll_of (by rw [List.length_map, g.len, h2.len]) fun q x d a b => ?_), (Shw.lst (w := 804) (p := 3) fun d m => ?_).mono ?_ (by decide)⟩
  · obtain ⟨x', p, t, e, rfl, hx, rfl, ht, r1, r2, r3⟩ := get q d b
    rw [hx] at a
    cases a
    exact (dp_ev ht r1 r2 hW r3).1
  · obtain ⟨q, hq⟩ := List.mem_iff_getElem?.mp m
    obtain ⟨x', p, t, e, rfl, hx, rfl, ht, r1, r2, r3⟩ := get q d hq
    exact (dp_ev (K := K) ht r1 r2 hW r3).2
  · rw [List.length_map, g.len]
    have : (2 : Nat) ^ 20 = 1048576 := by decide
    have := Nat.mul_le_mul_right (804 + 1) hl
    omega
theorem dp_anss {K : PySem.W.Frag} {H : Hp} {W : Nat} {hs : List HEv} {es : List PEv} {o : Addr} {l : List Nat} (ho : H o = some (.lst (l.map (ansF W hs es)))) (hW : W ≤ 1000) (hl : l.length ≤ 100) (hw : ∀ i ∈ l, Un.InW W (pairsF es (presU hs i)) ∧ (qnF es i).inW W ∧ (presU hs i).length ≤ 1000) : Dp K H (.ref o) (.list (l.map fun i => ansD W (pairsF es (presU hs i)) (qnF es i))) ∧ Shw (2 ^ 20) 64 (.list (l.map fun i => ansD W (pairsF es (presU hs i)) (qnF es i))) := by
  refine ⟨.lst (sqlOf ho) (dpAll_of (by rw [List.length_map, List.length_map]) fun q x d a b => ?_), (Shw.lst (w := 41) (p := 0) fun d m => ?_).mono ?_ (by decide)⟩
  · rw [List.getElem?_map] at a b
    obtain ⟨i, hi, rfl⟩ := Option.map_eq_some_iff.mp a
    rw [hi] at b
    cases b
    exact dp_ans _
  · obtain ⟨i, hi, rfl⟩ := List.mem_map.mp m
    obtain ⟨w1, w2, w3⟩ := hw i hi
    exact shw_ans hW w1 w2 (by unfold pairsF; rw [List.length_map]; exact w3)
  · rw [List.length_map]
    have : (2 : Nat) ^ 20 = 1048576 := by decide
    have := Nat.mul_le_mul_right (41 + 1) hl
    omega
end Ob

set_option Elab.async false
set_option linter.all false
set_option maxRecDepth 100000
set_option maxHeartbeats 1000000
namespace Ob
open PySem PySem.Spec PyProof.Rows L2
open LamX (Tabs TabB TabS ExtN)

set_option hygiene false in
local macro_rules
  | `(tactic| kp_flats) => `(tactic| first
    | assumption
    | exact upd_same
    | (apply atNew; assumption; kp_flats)
    | (apply atNe; (next => kbo_bools); kp_flats)
    | (apply atSame; assumption; kp_flats)
    | (apply atKp; assumption; (next => kaf_pre); kp_flats))
set_option hygiene false in
local macro_rules
  | `(tactic| kaf_pre) => `(tactic| first
    | assumption
    | exact not_nil
    | (apply not_cons; (next => kbo_bools); kaf_pre)
    | (apply not_app; (next => kaf_pre); kaf_pre))
set_option hygiene false in
local macro_rules
  | `(tactic| kbo_bools) => `(tactic| first
    | assumption
    | (apply Ne.symm; assumption)
    | (apply neN; assumption; kp_flats)
    | (apply neN'; assumption; kp_flats))
set_option hygiene false in
local macro_rules
  | `(tactic| o_reads) => `(tactic| first
    | with_reducible rfl
    | assumption
    | rfl
    | kp_flats
    | (show SqL _ _ _ _; first | assumption | (apply sqlOf; kp_flats) | (apply sqlSame; assumption; o_reads))
    | (show SqT _ _ _ _; first | assumption | (apply sqtOf; kp_flats) | (apply sqtAll; assumption) | (apply sqtSame; assumption; o_reads))
    | (show Cls _ _; first | exact T.cl_Unions)
    | (show NoAttr _ _ _; first | exact T.n_Unions_groups | exact T.n_Unions_parents | exact T.n_Unions_counts | exact T.n_Unions_moved)
    | (apply Or.inl; o_reads)
    | (apply Or.inr; o_reads)
    | (apply And.intro; (next => o_reads); o_reads)
    | (apply Exists.intro; o_reads)
    | exact Nat.le_of_ble_eq_true rfl
    | exact Nat.succ_ne_zero _
    | (show Fr _ _; kba_ints)
    | (show Same _ _; kd_subs)
    | (show Kp _ _ _; kxs_still)
    | (show (_ : Nat) ≤ _; simp only [List.length_append, List.length_map, List.length_cons, List.length_nil, List.length_take, List.length_drop, List.length_replicate, List.length_range, sizeLine_eq]; omega)
    | (show _ = none; apply Fr.h; kba_ints)
    | (show Bag _ _; first | assumption | (apply bag_putF; assumption; o_reads) | (apply bag_neF; (next => kbo_bools); o_reads) | (apply bag_kpR; assumption; (next => kaf_pre); o_reads))
    | omega
    | decide)
local macro_rules
  | `(tactic| o_readsAll) => `(tactic| repeat (first
    | (refine fun (pNew : Addr) (nNew : _ = none) => ?_; replace nNew := Fr.mk nNew)
    | (refine fun (xNew dNew : Addr) (nNew : _ = none) (mNew : _ = none) (eNew : dNew ≠ xNew) => ?_; replace nNew := Fr.mk nNew; replace mNew := Fr.mk mNew)
    | (apply And.intro; next => o_reads)
    | apply Exists.intro (α := V)
    | apply Exists.intro (α := Addr)
    | apply Exists.intro (α := Int)
    | apply Exists.intro (α := Bool)
    | apply Exists.intro (α := List V)
    | apply Exists.intro (α := List Nat)
    | apply Exists.intro (α := List (Str × V))
    | apply Exists.intro (α := List _)
    | apply Exists.intro (α := Str)
    | apply Exists.intro (α := HO)
    | apply Exists.intro (α := Sp)
    | apply Exists.intro (α := VK)))
set_option hygiene false in
local macro_rules
  | `(tactic| kba_ints) => `(tactic| first
    | assumption
    | (apply frUp; (first | assumption | (apply Ne.symm; assumption)); kba_ints)
    | (apply noneOf; assumption; intro oF eF; apply Exists.intro; kp_flats)
    | (apply frUp; (next => kbo_bools); kba_ints))
set_option hygiene false in
local macro_rules
  | `(tactic| kxs_still) => `(tactic| first
    | assumption
    | exact kp_refl _ _
    | (apply kp_newF; assumption; kxs_still)
    | (apply kp_new; assumption; kxs_still)
    | (apply kp_up; (next => o_fieldsN); kxs_still)
    | (apply kp_new; (next => kba_ints); kxs_still)
    | (apply kp_sameR; assumption; kxs_still)
    | (apply kp_transR; assumption; kxs_still)
    | (apply kp_freshR; assumption; (next => kaf_suf); kxs_still))
set_option hygiene false in
local macro_rules
  | `(tactic| kaf_suf) => `(tactic| first
    | assumption
    | exact subNil
    | (apply subCons; (first | (apply Or.inl; o_fieldsN) | (apply Or.inr; kba_ints)); kaf_suf)
    | (apply subApp; (next => kaf_suf); kaf_suf))
set_option hygiene false in
local macro_rules
  | `(tactic| o_fieldsN) => `(tactic| first
    | assumption
    | exact memA
    | (apply memB; o_fieldsN)
    | (apply memL; o_fieldsN)
    | (apply memR; o_fieldsN))
set_option hygiene false in
local macro_rules
  | `(tactic| kd_subs) => `(tactic| first
    | assumption
    | exact Same.refl _
    | (apply same_putF; assumption; kd_subs)
    | (apply same_putG; assumption; kd_subs)
    | (apply same_putF; (next => kba_ints); kd_subs)
    | (apply same_transR; assumption; kd_subs))

set_option pp.maxSteps 900
structure JW (H0 : Hp) (bag hc pc : Addr) (W : Nat) (hs : List HEv) (es : List PEv) (H : Hp) : Prop where
  lh : LH H hc hs
  pr : H pc = some (.lst ((presU hs hs.length).map nV))
  ok : HOk hs
  ph : PH W H hs es
  bg : Bag H bag
  kp : Kp [bag] H0 H
  n1 : hc ≠ pc
  n2 : hc ≠ bag
  n3 : pc ≠ bag
  f1 : Fr H0 hc
  f2 : Fr H0 pc
theorem JW.same {H0 H H1 : Hp} {bag hc pc : Addr} {W : Nat} {hs : List HEv} {es : List PEv} (h : JW H0 bag hc pc W hs es H) (s : Same H H1) : JW H0 bag hc pc W hs es H1 := ⟨h.lh.same s, s _ _ h.pr, h.ok, h.ph.same s, bag_kpR (kp_same (cs := []) s) not_nil h.bg, kp_trans h.kp (kp_same s), h.n1, h.n2, h.n3, h.f1, h.f2⟩
theorem JW.take {H0 H H1 : Hp} {bag hc pc : Addr} {W : Nat} {hs : List HEv} {es : List PEv} (h : JW H0 bag hc pc W hs es H) (k : Kp [bag] H H1) (b : Bag H1 bag) : JW H0 bag hc pc W hs es H1 := ⟨h.lh.kpn k (bag_mu h.bg) (not_cons h.n2 not_nil), k.at_ _ _ h.pr (not_cons h.n3 not_nil), h.ok, h.ph.kp k (bag_mu h.bg), b, kp_trans h.kp k, h.n1, h.n2, h.n3, h.f1, h.f2⟩
theorem JW.more1 {H0 H H1 : Hp} {bag hc pc : Addr} {W : Nat} {hs : List HEv} {es : List PEv} {xs : List V} {t : Addr} {e : HEv} {p : PEv} {l : List Nat} (h : JW H0 bag hc pc W hs es H) (hx : H hc = some (.lst xs)) (ht : H1 t = some (.tup [.str e.w, e.v])) (g : EvR H1 e p) (w : p.inW W) (he : ∀ i, e = .rem i → i ∈ presU hs hs.length) (hl : stepP hs.length (presU hs hs.length) e = l) (k : Kp [hc, pc] H H1) (e1 : H1 hc = some (.lst (xs ++ [.ref t]))) (e2 : H1 pc = some (.lst (l.map nV))) : JW H0 bag hc pc W (hs ++ [e]) (es ++ [p]) H1 := by
  obtain ⟨xs', hx', hh⟩ := h.lh
  rw [hx] at hx'
  cases hx'
  have m : Mu H [hc, pc] := mu_lst hx (mu_lst h.pr mu_nil)
  refine ⟨⟨_, e1, (hh.kp k m).add ht⟩, ?_, hok_add h.ok he, (h.ph.kp k m).add g w, bag_kpR k (not_cons h.n2.symm (not_cons h.n3.symm not_nil)) h.bg, kp_fresh h.kp k (subCons (.inr h.f1) (subCons (.inr h.f2) subNil)), h.n1, h.n2, h.n3, h.f1, h.f2⟩
  rw [e2, pres_add, hl]
theorem word_of {r : Int} (r0 : 0 ≤ r) (r1 : r < 3) : ∃ (wd : Str) (j : Nat), j < 3 ∧ atI [V.str "same", .str "size", .str "groups"] r = some (.str wd) ∧ [V.str "same", .str "size", .str "groups"][j]? = some (.str wd) ∧ eqV (.str wd) (.str wd) = true ∧ (∀ (m : Nat) (z' : V), m < j → [V.str "same", .str "size", .str "groups"][m]? = some z' → eqV z' (.str wd) = false) ∧
    atI [V.int 2, .int 1, .int 0] (j : Int) = some (.int ((2 - j : Nat) : Int)) ∧ ∀ (W : Nat) (ks : List Nat), ks.length = 2 - j → (∀ x ∈ ks, x < W) → ∃ q : Un.Qn, q.tup = [V.str wd] ++ ks.map nV ∧ q.inW W := by
  obtain ⟨k, rfl⟩ := Int.eq_ofNat_of_zero_le r0
  match k, r1 with
  | 0, _ =>
    refine ⟨"same", 0, by decide, atI_nat (j := 0) rfl, rfl, by decide +kernel, fun m z' h => absurd h (by omega), atI_nat (j := 0) rfl, fun W ks h1 h2 => ?_⟩
    match ks, h1, h2 with
    | [a, b], _, h2 => exact ⟨.same a b, rfl, h2 a List.mem_cons_self, h2 b (List.mem_cons_of_mem _ List.mem_cons_self)⟩
  | 1, _ =>
    refine ⟨"size", 1, by decide, atI_nat (j := 1) rfl, rfl, by decide +kernel, fun m z' h e => ?_, atI_nat (j := 1) rfl, fun W ks h1 h2 => ?_⟩
    · match m, h, e with
      | 0, _, e =>
        cases e
        decide +kernel
    · match ks, h1, h2 with
      | [a], _, h2 => exact ⟨.size a, rfl, h2 a List.mem_cons_self⟩
  | 2, _ =>
    refine ⟨"groups", 2, by decide, atI_nat (j := 2) rfl, rfl, by decide +kernel, fun m z' h e => ?_, atI_nat (j := 2) rfl, fun W ks h1 h2 => ?_⟩
    · match m, h, e with
      | 0, _, e =>
        cases e
        decide +kernel
      | 1, _, e =>
        cases e
        decide +kernel
    · match ks, h1, h2 with
      | [], _, h2 => exact ⟨.groups, rfl, True.intro⟩
  | k + 3, h => exact absurd h (by omega)
theorem rcat_by {K : PySem.W.Frag} {a b : Addr} {xs ys : List V} {H : Hp} {Q : VK} (ha : H a = some (.tup xs)) (hb : H b = some (.tup ys)) (ne : xs ≠ []) (hl : xs.length + ys.length ≤ sizeLine) (h : ∀ p H', Same H H' → H' p = some (.tup (xs ++ ys)) → Q (.ref p) H') : rCatT K (.ref a) (.ref b) H Q :=
  ⟨a, b, xs, ys, rfl, rfl, sqtOf ha, sqtOf hb, ne, hl, fun e => h a H (Same.refl _) (by rw [e, List.append_nil]; exact ha), fun _ p np => h p _ (same_newF (Fr.mk np)) upd_same⟩
theorem nat_of {r : Int} {W : Nat} (r0 : 0 ≤ r) (r1 : r < (W : Int)) : ∃ k : Nat, r = (k : Int) ∧ k < W := by
  obtain ⟨k, rfl⟩ := Int.eq_ofNat_of_zero_le r0
  exact ⟨k, rfl, by omega⟩
section
variable {P : Program} {w : World} {K : PySem.W.Frag} {mg : Str → Option Value} {base : Heap}
def spHist : Sp := fun vs H Q _ => ∃ (bag : Addr) (most W : Nat), vs = [.ref bag, .int (most : Int), .int (W : Int)] ∧ most ≤ 100 ∧ 0 < W ∧ W ≤ 100 ∧ Bag H bag ∧ ∀ c hs es H', Kp [bag] H H' → Bag H' bag → Fr H c → LH H' c hs → PH W H' hs es → HOk hs → hs.length ≤ most → Q (.ref c) H'
theorem ok_hist (T : Txt K mg) : FnOk P w K mg base CX0 3 T.f_l_history T.d_l_history ["_law_bag_here", "_law_most", "_law_wide"] spHist := by
  have G_l_take := ok_takeK (P := P) (w := w) (base := base) T
  refine T.F_l_history.ok sc_l_history (fun vs H Q E h => ?_) (fun cdv A outer s H vs Q E hr h => ?_)
  · obtain ⟨bag, most, W, rfl, _⟩ := h
    rfl
  · obtain ⟨bag, most, W, rfl, hm, hW0, hW, hb, q⟩ := h
    refine ⟨_, (pss_cons (ps_par (i := 3) (j := 4) (by rfl) sc_l_history.nd rfl rfl (by decide) rfl rfl (pa_cons (pe_lst pa_nil) (pa_cons (pe_lst pa_nil) pa_nil)) (by rfl))
      (pss_cons (ps_for PassesOwn.never rfl (pi_range1 (by rfl) T.z_range (pa_cons (pe_call G_l_take (hr.mono (by omega)) rfl T.g_l_take T.F_l_take.kp T.b_l_take .nil pass0 (pa_cons (pv 0) (pa_cons (pe_op op_add (pv 1) pe_int) pa_nil))) pa_nil)) (pg_name (i := 5) sc_l_history.nd rfl (.inl rfl)) (pss_cons (ps_set (i := 6) sc_l_history.nd rfl (.inl rfl) (pe_call G_l_take (hr.mono (by omega)) rfl T.g_l_take T.F_l_take.kp T.b_l_take .nil pass0 (pa_cons (pv 0) (pa_cons pe_int pa_nil))))
        (pss_one (ps_if (PW.pt (pw_or (pt_cmpR op_lt (pv 6) pe_int (nomark _)) (pw_or1 (PW.pt (pw_and (pt_cmpR op_eq (pv 6) pe_int (nomark _)) (pw_and1 (pt_cmpR (op_eqNil hr.units) (pv 4) (pe_lst pa_nil) (nomark _)))))))) (pss_cons (ps_expr (pe_bm PySem.F.plainAttrs_list PySem.F.slot_list_append PySem.F.type_list_append mt_append (pv 3) (pa_cons (pe_tup (pa_cons pe_str (pa_cons (pe_tup (pa_cons (pe_call G_l_take (hr.mono (by omega)) rfl T.g_l_take T.F_l_take.kp T.b_l_take .nil pass0 (pa_cons (pv 0) (pa_cons (pv 2) pa_nil))) (pa_cons (pe_call G_l_take (hr.mono (by omega)) rfl T.g_l_take T.F_l_take.kp T.b_l_take .nil pass0 (pa_cons (pv 0) (pa_cons (pv 2) pa_nil))) pa_nil))) pa_nil))) pa_nil)))
          (pss_one (ps_expr (pe_bm PySem.F.plainAttrs_list PySem.F.slot_list_append PySem.F.type_list_append mt_append (pv 4) (pa_cons (pv 5) pa_nil))))) (pss_one (ps_if (PW.pt (pw_and (pt_cmpR op_lt (pv 6) pe_int (nomark _)) (pw_and1 (pt_cmpR (op_neNil hr.units) (pv 4) (pe_lst pa_nil) (nomark _))))) (pss_one (ps_expr (pe_bm PySem.F.plainAttrs_list PySem.F.slot_list_append PySem.F.type_list_append mt_append (pv 3) (pa_cons (pe_tup (pa_cons pe_str (pa_cons (pe_bm PySem.F.plainAttrs_list PySem.F.slot_list_pop PySem.F.type_list_pop mt_popAt (pv 4) (pa_cons (pe_call G_l_take (hr.mono (by omega)) rfl T.g_l_take T.F_l_take.kp T.b_l_take .nil pass0 (pa_cons (pv 0) (pa_cons (pe_callB call_len_seq (by rfl) T.z_len (by decide +kernel) (pa_cons (pv 4) pa_nil)) pa_nil))) pa_nil)) pa_nil))) pa_nil)))) (pss_cons (ps_set (i := 7) sc_l_history.nd rfl (.inl rfl) (pe_ix (r := rIxL K) ix_list (pe_lst (pa_cons pe_str (pa_cons pe_str (pa_cons pe_str pa_nil)))) (pe_call G_l_take (hr.mono (by omega)) rfl T.g_l_take T.F_l_take.kp T.b_l_take .nil pass0 (pa_cons (pv 0) (pa_cons pe_int pa_nil))) (fun _ _ => rfl)))
            (pss_cons (ps_set (i := 8) sc_l_history.nd rfl (.inl rfl) (pe_callTy call_tuple_of (by rfl) T.z_tuple (by decide +kernel) (pa_cons (pe_lc (own := [("_law_k", 9)]) (g := gName 9) (tt := tYes) rfl sc_l_history.nd (pi_range1 (by rfl) T.z_range (pa_cons (pe_ix (r := rIxL K) ix_list (pe_lst (pa_cons pe_int (pa_cons pe_int (pa_cons pe_int pa_nil)))) (pe_bm PySem.F.plainAttrs_list PySem.F.slot_list_index PySem.F.type_list_index mt_index (pe_lst (pa_cons pe_str (pa_cons pe_str (pa_cons pe_str pa_nil)))) (pa_cons (pv 7) pa_nil)) (fun _ _ => rfl)) pa_nil)) (blkOk_by (N := n_l_history) (sc := defScope s_l_history) (by decide +kernel)) (fun _ _ _ _ _ => (pg_name (i := 9) sc_l_history.nd rfl (.inl rfl))) (fun _ _ _ _ _ => pts_nil) (fun _ _ _ _ _ => (pe_call G_l_take (hr.mono (by omega)) rfl T.g_l_take T.F_l_take.kp T.b_l_take .nil pass0 (pa_cons (pv 0) (pa_cons (pv 2) pa_nil))))) pa_nil)))
            (pss_one (ps_expr (pe_bm PySem.F.plainAttrs_list PySem.F.slot_list_append PySem.F.type_list_append mt_append (pv 3) (pa_cons (pe_tup (pa_cons pe_str (pa_cons (pe_op op_catT (pe_tup (pa_cons (pv 7) pa_nil)) (pv 8)) pa_nil))) pa_nil))))))))))))
      (pss_one (ps_ret (pv 3))))), ?_⟩
    refine ⟨Nat.zero_le _, fun hc nhc => ⟨Nat.zero_le _, fun pc npc => ⟨_, _, rfl, ?_⟩⟩⟩
    have fh := Fr.mk nhc
    have fp := Fr.mk npc
    have s1 := (same_newF (o := .lst []) fh).trans (same_newF (o := .lst []) fp)
    have e1 : upd (upd H hc (.lst [])) pc (.lst []) hc = some (.lst []) := atNew fp upd_same
    have nhp : hc ≠ pc := ne_of_none (H := upd H hc (.lst [])) upd_same npc
    have j0 : JW H bag hc pc W [] [] (upd (upd H hc (.lst [])) pc (.lst [])) := ⟨⟨[], e1, HisAt.nil⟩, upd_same, hok_of True.intro, PH.nil, bag_kpR (kp_same (cs := []) s1) not_nil hb, kp_same s1, nhp, bag_ne hb nhc, bag_ne (bag_putF fh hb) npc, fh, Fr.mk ((same_newF (o := .lst []) fh).free npc)⟩
    generalize upd (upd H hc (.lst [])) pc (.lst []) = H1 at j0 ⊢
    refine ⟨_, rfl, _, rfl, _, _, rfl, rfl, bag, (most : Int) + 1, rfl, j0.bg, by omega, by omega, fun r H2 r0 r1 b2 k2 => ⟨_, rfl, by omega, by omega, ?_⟩⟩
    have j2 := j0.take k2 b2
    refine for_range (n := r.toNat) (fun i σ H' => ∃ hs es y5 y6 y7 y8 y9, σ = [some (.ref bag), some (.int (most : Int)), some (.int (W : Int)), some (.ref hc), some (.ref pc), y5, y6, y7, y8, y9] ∧ hs.length = i ∧ JW H bag hc pc W hs es H') ⟨[], [], _, _, _, _, _, rfl, rfl, j2⟩ ?_ ?_
    · rintro i σ H3 hi ⟨hs, es, y5, y6, y7, y8, y9, rfl, hl, j3⟩
      refine ⟨_, rfl, bag, 6, rfl, j3.bg, by decide, by decide, fun road H4 q0 q1 b4 k4 => ?_⟩
      have j6 := j3.take k4 b4
      have hli : (0 : Int) + (i : Int) = (hs.length : Int) := by omega
      have lp := pres_len (hs := hs) (k := hs.length)
      refine pGN ?_
      rw [hli]
      dsimp only []
      simp only [List.set_cons_succ, List.set_cons_zero]
      refine if_by2 (fun b H7 => Same H4 H7) (fun Q qb => ?_) ?_ ?_
      · refine ans_or (J1 := fun c H' => H' = H4) (J := fun b H7 => Same H4 H7) (fun Q q => ⟨_, rfl, _, _, rfl, rfl, _, rfl, q _ _ rfl⟩) (fun _ h => by rw [h]; exact Same.refl _) (fun H'' h => ?_) Q qb
        subst h
        refine ans_and (J1 := fun c H' => H' = H'') (fun Q q => ⟨_, rfl, rfl, _, rfl, q _ _ rfl⟩) (fun _ h => by rw [h]; exact Same.refl _) (fun H''' h => ?_)
        subst h
        exact fun Q q => ⟨_, rfl, Nat.zero_le _, fun z nz => ⟨pc, z, _, rfl, rfl, sqlOf (same_newF (Fr.mk nz) _ _ j6.pr), sqlOf upd_same, _, rfl, q _ _ (same_newF (Fr.mk nz))⟩⟩
      · intro H7 s7
        have j7 := j6.same s7
        obtain ⟨xs, ex, hx⟩ := j7.lh
        have lx := hx.len
        refine ⟨_, rfl, .inl ⟨rfl, _, sqlOf ex⟩, _, rfl, _, rfl, bag, (W : Int), rfl, j7.bg, by omega, by omega, fun ra Ha a0 a1 ba ka => ?_⟩
        have ja := j7.take ka ba
        obtain ⟨x, rfl, hx1⟩ := nat_of a0 a1
        refine ⟨_, rfl, _, rfl, bag, (W : Int), rfl, ba, by omega, by omega, fun rb Hb b0 b1 bb kb => ?_⟩
        have jb := ja.take kb bb
        obtain ⟨y, rfl, hy1⟩ := nat_of b0 b1
        refine ⟨le2, fun u nu => ⟨le2, fun t nt => ?_⟩⟩
        have fu := Fr.mk nu
        have ft := Fr.mk nt
        have exb : Hb hc = some (.lst xs) := kb.at_ _ _ (ka.at_ _ _ ex (not_cons j7.n2 not_nil)) (not_cons j7.n2 not_nil)
        have su := same_newF (o := .tup [.int (x : Int), .int (y : Int)]) fu
        have jc := jb.same su
        have exc := su _ _ exb
        have eu : upd Hb u (.tup [.int (x : Int), .int (y : Int)]) u = some (.tup [.int (x : Int), .int (y : Int)]) := upd_same
        generalize upd Hb u (.tup [.int (x : Int), .int (y : Int)]) = Hc at ft nt su jc exc eu ⊢
        have nth : hc ≠ t := ne_of_none exc nt
        have ntp : pc ≠ t := ne_of_none jc.pr nt
        have nut : u ≠ t := ne_of_none eu nt
        have nuh : u ≠ hc := neO eu exc (fun z => nomatch z)
        have nup : u ≠ pc := neO eu jc.pr (fun z => nomatch z)
        refine ⟨hc, xs, _, rfl, rfl, atNew ft exc, by rw [sizeLine_eq]; omega, ?_⟩
        have ep6 : upd (upd Hc t (.tup [.str "add", .ref u])) hc (.lst (xs ++ [.ref t])) pc = some (.lst ((presU hs hs.length).map nV)) := by rw [upd_ne jc.n1.symm, upd_ne ntp]; exact jc.pr
        refine ⟨_, rfl, .inl ⟨rfl, _, sqlOf ep6⟩, _, rfl, pc, _, _, rfl, rfl, ep6, by rw [List.length_map, sizeLine_eq]; omega, ?_⟩
        have k9 : Kp [hc, pc] Hc (upd (upd (upd Hc t (.tup [.str "add", .ref u])) hc (.lst (xs ++ [.ref t]))) pc (.lst ((presU hs hs.length).map nV ++ [.int (hs.length : Int)]))) := kp_up (memB memA) (kp_up memA (kp_new ft (kp_refl _ _)))
        have et : upd (upd (upd Hc t (.tup [.str "add", .ref u])) hc (.lst (xs ++ [.ref t]))) pc (.lst ((presU hs hs.length).map nV ++ [.int (hs.length : Int)])) t = some (.tup [.str "add", .ref u]) := by rw [upd_ne ntp.symm, upd_ne nth.symm]; exact upd_same
        have m6 : Mu Hc [hc, pc] := mu_lst exc (mu_lst jc.pr mu_nil)
        refine ⟨hs ++ [.add (.ref u)], es ++ [.add (x, y)], _, _, _, _, _, rfl, by rw [List.length_append, hl]; rfl, jc.more1 (e := .add (.ref u)) (p := .add (x, y)) (l := presU hs hs.length ++ [hs.length]) exc et ⟨u, rfl, kp_tup k9 m6 eu⟩ ⟨hx1, hy1⟩ (fun i z => by cases z) rfl k9 (by rw [upd_ne jc.n1]; exact upd_same) (by rw [upd_same, List.map_append]; rfl)⟩
      · intro H7 s7
        have j7 := j6.same s7
        refine if_by2 (fun b H8 => Same H7 H8 ∧ (b = true → presU hs hs.length ≠ [])) (fun Q qb => ?_) ?_ ?_
        · refine ans_and (J := fun b H8 => Same H7 H8 ∧ (b = true → presU hs hs.length ≠ [])) (ans_of fun Q q => ⟨_, rfl, _, _, rfl, rfl, _, rfl, q⟩) (fun _ h => ⟨by rw [h.2]; exact Same.refl _, fun z => nomatch z⟩) (fun H'' h => ?_) Q qb
          obtain ⟨_, rfl⟩ := h
          refine fun Q q => ⟨_, rfl, Nat.zero_le _, fun z nz => ⟨pc, z, _, rfl, rfl, sqlOf (same_newF (Fr.mk nz) _ _ j7.pr), sqlOf upd_same, _, rfl, q _ _ ⟨same_newF (Fr.mk nz), fun e => ?_⟩⟩⟩
          intro y
          rw [y] at e
          cases e
        · rintro H8 ⟨s8, hne⟩
          have hne := hne rfl
          have j7 := j7.same s8
          obtain ⟨xs, ex, hx⟩ := j7.lh
          have lx := hx.len
          have hpos : 0 < (presU hs hs.length).length := List.length_pos_iff.mpr hne
          have lpm : ((presU hs hs.length).map nV).length = (presU hs hs.length).length := List.length_map ..
          refine ⟨_, rfl, .inl ⟨rfl, _, sqlOf ex⟩, _, rfl, .inl ⟨rfl, _, sqlOf j7.pr⟩, _, rfl, _, rfl, pc, _, rfl, .inl (sqlOf j7.pr), bag, _, rfl, j7.bg, by omega, by omega, fun r H8 r0' r1' b8 k8 => ?_⟩
          have j8 := j7.take k8 b8
          obtain ⟨q, rfl⟩ := Int.eq_ofNat_of_zero_le r0'
          have hq : q < (presU hs hs.length).length := by omega
          have hget : (presU hs hs.length)[q]? = some ((presU hs hs.length)[q]) := List.getElem?_eq_getElem hq
          generalize (presU hs hs.length)[q] = x at hget
          have hxl : x < hs.length := (pres_lt (hs := hs) x (List.mem_of_getElem? hget)).1
          have ex8 : H8 hc = some (.lst xs) := k8.at_ _ _ ex (not_cons j7.n2 not_nil)
          refine ⟨pc, _, _, q, nV x, rfl, rfl, j8.pr, by omega, by omega, seq_at (by omega), by rw [List.getElem?_map, hget]; rfl, le2, fun t nt => ?_⟩
          have ft := Fr.mk nt
          have nhp := j8.n1
          refine ⟨hc, xs, _, rfl, rfl, ?_, by rw [sizeLine_eq]; omega, ?_⟩
          · exact atNew ft (by rw [upd_ne nhp]; exact ex8)
          have nth : t ≠ hc := fun z => by
            rw [z, upd_ne nhp, ex8] at nt
            cases nt
          have ntp : t ≠ pc := fun z => by
            rw [z, upd_same] at nt
            cases nt
          have et : upd (upd (upd H8 pc (.lst (((presU hs hs.length).map nV).eraseIdx q))) t (.tup [.str "remove", nV x])) hc (.lst (xs ++ [.ref t])) t = some (.tup [.str "remove", nV x]) := by rw [upd_ne nth]; exact upd_same
          refine ⟨hs ++ [.rem x], es ++ [.rem x], _, _, _, _, _, rfl, by rw [List.length_append, hl]; rfl, j8.more1 (e := .rem x) (p := .rem x) (l := (presU hs hs.length).eraseIdx q) ex8 et rfl True.intro (fun i z => by cases z; exact List.mem_of_getElem? hget) (pres_erase hget) (kp_up memA (kp_new ft (kp_up (memB memA) (kp_refl _ _)))) upd_same ?_⟩
          rw [upd_ne nhp.symm, upd_ne ntp.symm, upd_same, map_erase]
        · rintro H8 ⟨s8, _⟩
          have j7 := j7.same s8
          obtain ⟨xs, ex, hx⟩ := j7.lh
          have lx := hx.len
          refine ⟨le3, fun wl nwl => ?_⟩
          have fwl := Fr.mk nwl
          have sw := same_newF (o := .lst [.str "same", .str "size", .str "groups"]) fwl
          have jw := j7.same sw
          have exw := sw _ _ ex
          have ewl : upd H8 wl (.lst [.str "same", .str "size", .str "groups"]) wl = some (.lst [.str "same", .str "size", .str "groups"]) := upd_same
          generalize upd H8 wl (.lst [.str "same", .str "size", .str "groups"]) = Hw at sw jw exw ewl ⊢
          have nwb : wl ≠ bag := by
            obtain ⟨bx, hbx⟩ := bag_lst j7.bg
            exact (ne_of_none hbx nwl).symm
          refine ⟨_, rfl, bag, 3, rfl, jw.bg, by decide, by decide, fun r H9 r0' r1' b9 k9 => ?_⟩
          have j9 := jw.take k9 b9
          have ex9 := k9.at_ _ _ exw (not_cons j7.n2 not_nil)
          obtain ⟨wd, j, hj, g1, g2, g3, g4, g5, g6⟩ := word_of r0' r1'
          refine ⟨wl, _, _, _, rfl, rfl, sqlOf (k9.at_ _ _ ewl (not_cons nwb not_nil)), g1, pGN ?_⟩
          simp only [List.set_cons_succ, List.set_cons_zero]
          refine ⟨le3, fun l2 nl2 => ⟨le3, fun l3 nl3 => ?_⟩⟩
          have s2 := same_newF (o := .lst [.int 2, .int 1, .int 0]) (Fr.mk nl2)
          have s3 := same_newF (o := .lst [.str "same", .str "size", .str "groups"]) (Fr.mk nl3)
          have e2 : upd (upd H9 l2 (.lst [.int 2, .int 1, .int 0])) l3 (.lst [.str "same", .str "size", .str "groups"]) l2 = some (.lst [.int 2, .int 1, .int 0]) := atNew (Fr.mk nl3) upd_same
          have e3 : upd (upd H9 l2 (.lst [.int 2, .int 1, .int 0])) l3 (.lst [.str "same", .str "size", .str "groups"]) l3 = some (.lst [.str "same", .str "size", .str "groups"]) := upd_same
          have jx := j9.same (s2.trans s3)
          have exx := (s2.trans s3) _ _ ex9
          generalize upd (upd H9 l2 (.lst [.int 2, .int 1, .int 0])) l3 (.lst [.str "same", .str "size", .str "groups"]) = Hx at s2 s3 e2 e3 jx exx ⊢
          refine ⟨.inl ⟨rfl, _, sqlOf e3⟩, _, rfl, l3, _, .str wd, j, .str wd, rfl, rfl, sqlOf e3, rfl, by decide +kernel, g2, g3, g4, l2, _, _, _, rfl, rfl, sqlOf e2, g5, _, rfl, by omega, by omega, fun D nD => ?_⟩
          have fD := Fr.mk nD
          have nDb : D ≠ bag := bag_ne jx.bg nD
          refine lc_range (lo := 0) (n := ((2 - j : Nat) : Int).toNat) (fun i' H' => ∃ ks : List Nat, ks.length = i' ∧ (∀ x ∈ ks, x < W) ∧ Kp [bag] Hx H' ∧ Bag H' bag ∧ H' D = some (.lst (ks.map nV))) ⟨[], rfl, (fun _ z => nomatch z), kp_same (same_newF fD), bag_kpR (kp_same (cs := []) (same_newF fD)) not_nil jx.bg, upd_same⟩ ?_ ?_
          · rintro i' Ha hi' ⟨ks, h1, h2, ka, ba, eD⟩
            refine ⟨rfl, ?_⟩
            unfold tYes
            refine ifT rfl ?_
            refine ⟨_, rfl, _, rfl, bag, (W : Int), rfl, ba, by omega, by omega, fun ra Hb a0 a1 bb kb => ?_⟩
            obtain ⟨x, rfl, hx1⟩ := nat_of a0 a1
            have eDb := kb.at_ _ _ eD (not_cons nDb not_nil)
            refine ⟨_, eDb, by rw [List.length_map, sizeLine_eq]; omega, ks ++ [x], by rw [List.length_append, h1]; rfl, fun y m => ?_, ?_, bag_kpR (cs := [D]) (kp_up memA (kp_refl _ _)) (not_cons nDb.symm not_nil) bb, ?_⟩
            · rcases List.mem_append.mp m with m | m
              · exact h2 y m
              · rw [List.mem_singleton.mp m]
                exact hx1
            · exact kp_fresh (kp_trans ka kb) (kp_up (cs := [D]) memA (kp_refl _ _)) (subCons (.inr fD) subNil)
            · rw [upd_same, List.map_append]
              rfl
          · rintro Ha ⟨ks, h1, h2, ka, ba, eD⟩
            have ja := jx.take ka ba
            have exa := ka.at_ _ _ exx (not_cons j7.n2 not_nil)
            obtain ⟨qn, hq1, hq2⟩ := g6 W ks (by omega) h2
            refine ⟨D, _, rfl, .inl ⟨sqlOf eD, fun u nu => pGN ?_⟩⟩
            have su := same_newF (o := .tup (ks.map nV)) (Fr.mk nu)
            have eu : upd Ha u (.tup (ks.map nV)) u = some (.tup (ks.map nV)) := upd_same
            have jb := ja.same su
            have exb := su _ _ exa
            generalize upd Ha u (.tup (ks.map nV)) = Hb at su eu jb exb ⊢
            simp only [List.set_cons_succ, List.set_cons_zero]
            refine ⟨_, rfl, .inl ⟨rfl, _, sqlOf exb⟩, _, rfl, (by decide : 1 ≤ sizeLine), fun v nv => ⟨_, rfl, ?_⟩⟩
            have sv := same_newF (o := .tup [.str wd]) (Fr.mk nv)
            refine rcat_by upd_same (sv _ _ eu) (List.cons_ne_nil _ _) (by rw [List.length_map, sizeLine_eq, h1]; show 1 + _ ≤ _; omega) fun z Hz sz ez => ⟨le2, fun t nt => ?_⟩
            rw [← hq1] at ez
            have jc := jb.same (sv.trans sz)
            have exc := (sv.trans sz) _ _ exb
            have ft := Fr.mk nt
            have nth : hc ≠ t := ne_of_none exc nt
            have ntp : pc ≠ t := ne_of_none jc.pr nt
            refine ⟨hc, xs, _, rfl, rfl, atNew ft exc, by rw [sizeLine_eq]; omega, ?_⟩
            have k9 : Kp [hc, pc] Hz (upd (upd Hz t (.tup [.str "ask", .ref z])) hc (.lst (xs ++ [.ref t]))) := kp_up memA (kp_new ft (kp_refl _ _))
            have et : upd (upd Hz t (.tup [.str "ask", .ref z])) hc (.lst (xs ++ [.ref t])) t = some (.tup [.str "ask", .ref z]) := by rw [upd_ne nth.symm]; exact upd_same
            have m7 : Mu Hz [hc, pc] := mu_lst exc (mu_lst jc.pr mu_nil)
            exact ⟨hs ++ [.ask (.ref z)], es ++ [.ask qn], _, _, _, _, _, rfl, by rw [List.length_append, hl]; rfl, jc.more1 (e := .ask (.ref z)) (p := .ask qn) (l := presU hs hs.length) exc et ⟨z, rfl, kp_tup k9 m7 ez⟩ hq2 (fun i z => by cases z) rfl k9 upd_same (by rw [upd_ne jc.n1.symm, upd_ne ntp]; exact jc.pr)⟩
    · rintro σ H3 ⟨hs, es, y5, y6, y7, y8, y9, rfl, hl, j3⟩
      exact ⟨_, rfl, q hc hs es H3 j3.kp j3.bg j3.f1 j3.lh j3.ph j3.ok (by omega)⟩
end
end Ob

set_option Elab.async false
set_option linter.all false
set_option maxRecDepth 100000
set_option maxHeartbeats 1000000
namespace Ob
open PySem PySem.Spec PyProof.Rows L2
open LamX (Tabs TabB TabS ExtN)

set_option hygiene false in
local macro_rules
  | `(tactic| kp_flats) => `(tactic| first
    | assumption
    | exact upd_same
    | (apply atNew; assumption; kp_flats)
    | (apply atNe; (next => kbo_bools); kp_flats)
    | (apply atSame; assumption; kp_flats)
    | (apply atKp; assumption; (next => kaf_pre); kp_flats))
set_option hygiene false in
local macro_rules
  | `(tactic| kaf_pre) => `(tactic| first
    | assumption
    | exact not_nil
    | (apply not_cons; (next => kbo_bools); kaf_pre)
    | (apply not_app; (next => kaf_pre); kaf_pre))
set_option hygiene false in
local macro_rules
  | `(tactic| kbo_bools) => `(tactic| first
    | assumption
    | (apply Ne.symm; assumption)
    | (apply neN; assumption; kp_flats)
    | (apply neN'; assumption; kp_flats))
set_option hygiene false in
local macro_rules
  | `(tactic| o_reads) => `(tactic| first
    | with_reducible rfl
    | assumption
    | rfl
    | kp_flats
    | (show SqL _ _ _ _; first | assumption | (apply sqlOf; kp_flats) | (apply sqlSame; assumption; o_reads))
    | (show SqT _ _ _ _; first | assumption | (apply sqtOf; kp_flats) | (apply sqtAll; assumption) | (apply sqtSame; assumption; o_reads))
    | (show Cls _ _; first | exact T.cl_Unions)
    | (show NoAttr _ _ _; first | exact T.n_Unions_groups | exact T.n_Unions_parents | exact T.n_Unions_counts | exact T.n_Unions_moved)
    | (apply Or.inl; o_reads)
    | (apply Or.inr; o_reads)
    | (apply And.intro; (next => o_reads); o_reads)
    | (apply Exists.intro; o_reads)
    | exact Nat.le_of_ble_eq_true rfl
    | exact Nat.succ_ne_zero _
    | (show Fr _ _; kba_ints)
    | (show Same _ _; kd_subs)
    | (show Kp _ _ _; kxs_still)
    | (show (_ : Nat) ≤ _; simp only [List.length_append, List.length_map, List.length_cons, List.length_nil, List.length_take, List.length_drop, List.length_replicate, List.length_range, sizeLine_eq]; omega)
    | (show _ = none; apply Fr.h; kba_ints)
    | (show Bag _ _; first | assumption | (apply bag_putF; assumption; o_reads) | (apply bag_neF; (next => kbo_bools); o_reads) | (apply bag_kpR; assumption; (next => kaf_pre); o_reads))
    | omega
    | decide)
local macro_rules
  | `(tactic| o_readsAll) => `(tactic| repeat (first
    | (refine fun (pNew : Addr) (nNew : _ = none) => ?_; replace nNew := Fr.mk nNew)
    | (refine fun (xNew dNew : Addr) (nNew : _ = none) (mNew : _ = none) (eNew : dNew ≠ xNew) => ?_; replace nNew := Fr.mk nNew; replace mNew := Fr.mk mNew)
    | (apply And.intro; next => o_reads)
    | apply Exists.intro (α := V)
    | apply Exists.intro (α := Addr)
    | apply Exists.intro (α := Int)
    | apply Exists.intro (α := Bool)
    | apply Exists.intro (α := List V)
    | apply Exists.intro (α := List Nat)
    | apply Exists.intro (α := List (Str × V))
    | apply Exists.intro (α := List _)
    | apply Exists.intro (α := Str)
    | apply Exists.intro (α := HO)
    | apply Exists.intro (α := Sp)
    | apply Exists.intro (α := VK)))
set_option hygiene false in
local macro_rules
  | `(tactic| kba_ints) => `(tactic| first
    | assumption
    | (apply frUp; (first | assumption | (apply Ne.symm; assumption)); kba_ints)
    | (apply noneOf; assumption; intro oF eF; apply Exists.intro; kp_flats)
    | (apply frUp; (next => kbo_bools); kba_ints))
set_option hygiene false in
local macro_rules
  | `(tactic| kxs_still) => `(tactic| first
    | assumption
    | exact kp_refl _ _
    | (apply kp_newF; assumption; kxs_still)
    | (apply kp_new; assumption; kxs_still)
    | (apply kp_up; (next => o_fieldsN); kxs_still)
    | (apply kp_new; (next => kba_ints); kxs_still)
    | (apply kp_sameR; assumption; kxs_still)
    | (apply kp_transR; assumption; kxs_still)
    | (apply kp_freshR; assumption; (next => kaf_suf); kxs_still))
set_option hygiene false in
local macro_rules
  | `(tactic| kaf_suf) => `(tactic| first
    | assumption
    | exact subNil
    | (apply subCons; (first | (apply Or.inl; o_fieldsN) | (apply Or.inr; kba_ints)); kaf_suf)
    | (apply subApp; (next => kaf_suf); kaf_suf))
set_option hygiene false in
local macro_rules
  | `(tactic| o_fieldsN) => `(tactic| first
    | assumption
    | exact memA
    | (apply memB; o_fieldsN)
    | (apply memL; o_fieldsN)
    | (apply memR; o_fieldsN))
set_option hygiene false in
local macro_rules
  | `(tactic| kd_subs) => `(tactic| first
    | assumption
    | exact Same.refl _
    | (apply same_putF; assumption; kd_subs)
    | (apply same_putG; assumption; kd_subs)
    | (apply same_putF; (next => kba_ints); kd_subs)
    | (apply same_transR; assumption; kd_subs))

set_option pp.maxSteps 900
theorem cut_take {xs : List V} {n : Nat} : cutV xs none (some (n : Int)) = xs.take n := by
  unfold cutV
  simp [HT.sIx]
  rw [if_neg (by omega)]
  omega
theorem first_at : ∀ {l : List Nat} {x : Nat}, x ∈ l → ∃ j, j < l.length ∧ l[j]? = some x ∧ ∀ m, m < j → l[m]? ≠ some x
  | y :: l, x, h => by
    by_cases c : y = x
    · exact ⟨0, Nat.succ_pos _, by rw [c]; rfl, fun m h => absurd h (Nat.not_lt_zero _)⟩
    · obtain ⟨j, h1, h2, h3⟩ := first_at ((List.mem_cons.mp h).resolve_left fun z => c z.symm)
      refine ⟨j + 1, Nat.succ_lt_succ h1, h2, fun m hm => ?_⟩
      match m, hm with
      | 0, _ => exact fun z => c (Option.some.inj z)
      | m + 1, hm => exact h3 m (Nat.lt_of_succ_lt_succ hm)
section
variable {P : Program} {w : World} {K : PySem.W.Frag} {mg : Str → Option Value} {base : Heap}
def spPres : Sp := fun vs H Q _ => ∃ (ha : Addr) (hs : List HEv) (n : Nat), vs = [.ref ha, .int (n : Int)] ∧ LH H ha hs ∧ HOk hs ∧ n ≤ hs.length ∧ hs.length ≤ 2000 ∧ ∀ o H', Same H H' → Fr H o → H' o = some (.lst ((presU hs n).map nV)) → Q (.ref o) H'
theorem ok_pres (T : Txt K mg) : FnOk P w K mg base CX0 1 T.f_l_present T.d_l_present ["_law_deeds", "_law_index"] spPres := by
  refine T.F_l_present.ok sc_l_present (fun vs H Q E h => ?_) (fun cdv A outer s H vs Q E hr h => ?_)
  · obtain ⟨ha, hs, n, rfl, _⟩ := h
    rfl
  · obtain ⟨ha, hs, n, rfl, ⟨xs, hha, hh⟩, hok, hn, hl, q⟩ := h
    refine ⟨_, (pss_cons (ps_set (i := 2) sc_l_present.nd rfl (.inl rfl) (pe_lst pa_nil))
      (pss_cons (ps_for PassesOwn.never rfl (pi_enum (by rfl) T.z_enumerate (pa_cons (pe_slice sl_list (pv 0) po_none (po_some (pv 1))) pa_nil)) (pg_tup (by rfl) (pgs_cons (pg_name (i := 3) sc_l_present.nd rfl (.inl rfl)) (pgs_cons (pg_name (i := 4) sc_l_present.nd rfl (.inl rfl)) pgs_nil))) (pss_one (ps_if (pt_cmpR op_eq (pe_ix (r := rIxT K) ix_tup (pv 4) pe_int (fun _ _ => rfl)) pe_str (nomark _)) (pss_one (ps_expr (pe_bm PySem.F.plainAttrs_list PySem.F.slot_list_append PySem.F.type_list_append mt_append (pv 2) (pa_cons (pv 3) pa_nil)))) (pss_one (ps_if (pt_cmpR op_eq (pe_ix (r := rIxT K) ix_tup (pv 4) pe_int (fun _ _ => rfl)) pe_str (nomark _)) (pss_one (ps_expr (pe_bm PySem.F.plainAttrs_list PySem.F.slot_list_remove PySem.F.type_list_remove mt_remove (pv 2) (pa_cons (pe_ix (r := rIxT K) ix_tup (pv 4) pe_int (fun _ _ => rfl)) pa_nil)))) pss_nil)))))
      (pss_one (ps_ret (pv 2))))), ?_⟩
    have hlx := hh.len
    refine ⟨Nat.zero_le _, fun fo nfo => pGN ?_⟩
    have ff := Fr.mk nfo
    have s1 := same_newF (o := .lst []) ff
    have ef : upd H fo (.lst []) fo = some (.lst []) := upd_same
    generalize upd H fo (.lst []) = H1 at s1 ef ⊢
    refine ⟨_, rfl, _, rfl, _, rfl, ha, xs, rfl, sqlOf (s1 _ _ hha), fun p np => ?_⟩
    rw [cut_take]
    have sp := same_newF (o := .lst (xs.take n)) (Fr.mk np)
    have ep : upd H1 p (.lst (xs.take n)) p = some (.lst (xs.take n)) := upd_same
    have nfp : fo ≠ p := ne_of_none ef np
    have ef2 := sp _ _ ef
    have s2 := s1.trans sp
    generalize upd H1 p (.lst (xs.take n)) = H2 at sp ep ef2 s2 ⊢
    have hlt : (xs.take n).length = n := by
      rw [List.length_take]
      omega
    refine ⟨p, _, rfl, sqlOf ep, ?_⟩
    refine for_it (walk_enum (K := K) (a := p) (xs := xs.take n)) (fun k σ H' => ∃ y3 y4, σ = [some (.ref ha), some (.int (n : Int)), some (.ref fo), y3, y4] ∧ Kp [fo] H2 H' ∧ H' fo = some (.lst ((presU hs k).map nV))) ⟨_, _, rfl, kp_refl _ _, ef2⟩ (fun k σ H' _ ⟨_, _, _, z, _⟩ => sqlOf (z.at_ _ _ ep (not_cons nfp.symm not_nil))) ?_ ?_
    · rintro k x σ H3 H4 hk ⟨y3, y4, rfl, k3, hf⟩ ⟨T', vx, vy, rfl, nT, rfl, hx, hy⟩
      obtain rfl : V.int ((k : Nat) : Int) = vx := Option.some.inj hx
      rw [hlt] at hk
      have hkl : k < hs.length := by omega
      have hy' : xs[k]? = some vy := by
        have hy : (xs.take n)[k]? = some vy := hy
        rw [List.getElem?_take_of_lt hk] at hy
        exact hy
      obtain ⟨e, hee, _, hpp⟩ := ends_step (hs := hs) (k := k) hkl
      obtain ⟨t, rfl, hte⟩ := hh.at_ k vy e hy' hee
      have fT := Fr.mk nT
      have m2 : Mu H2 [fo] := mu_lst ef2 mu_nil
      have k4 : Kp [fo] H2 (upd H3 T' (.tup [.int (k : Int), .ref t])) := kp_new fT k3
      have eT : upd H3 T' (.tup [.int (k : Int), .ref t]) T' = some (.tup [.int (k : Int), .ref t]) := upd_same
      have hf4 : upd H3 T' (.tup [.int (k : Int), .ref t]) fo = some (.lst ((presU hs k).map nV)) := atNew fT hf
      generalize upd H3 T' (.tup [.int (k : Int), .ref t]) = H4 at eT k4 hf4 ⊢
      have ht4 := kp_tup k4 m2 (s2 _ _ hte)
      have lp := pres_len (hs := hs) (k := k)
      have fin : ∀ l : List Nat, presU hs (k + 1) = l → Kp [fo] H2 (upd H4 fo (.lst (l.map nV))) ∧ upd H4 fo (.lst (l.map nV)) fo = some (.lst ((presU hs (k + 1)).map nV)) := fun l e => ⟨kp_up memA k4, by rw [upd_same, e]⟩
      refine ⟨T', _, rfl, sqtOf eT, rfl, _, _, rfl, _, _, rfl, rfl, ?_⟩
      refine ⟨_, rfl, t, _, 0, _, rfl, rfl, sqtOf ht4, atI_nat (j := 0) rfl, rfl, _, rfl, ?_⟩
      match e, ht4, hee, hpp with
      | .add v, ht4, hee, hpp =>
        refine ifT (by show decide (V.str "add" = V.str "add") = true; decide +kernel) ?_
        refine ⟨_, rfl, .inl ⟨rfl, _, sqlOf hf4⟩, _, rfl, fo, _, _, rfl, rfl, hf4, by rw [List.length_map, sizeLine_eq]; omega, ?_⟩
        obtain ⟨f1, f2⟩ := fin (presU hs k ++ [k]) hpp
        rw [List.map_append] at f1 f2
        exact ⟨_, _, rfl, f1, f2⟩
      | .rem i, ht4, hee, hpp =>
        refine ifF (by show decide (V.str "remove" = V.str "add") = false; decide +kernel) ?_
        refine ⟨_, rfl, t, _, 0, _, rfl, rfl, sqtOf ht4, atI_nat (j := 0) rfl, rfl, _, rfl, ifT (by show decide (V.str "remove" = V.str "remove") = true; decide +kernel) ?_⟩
        have hmem := hok k i hee
        obtain ⟨j, hj, hget, hno⟩ := first_at hmem
        refine ⟨_, rfl, .inl ⟨rfl, _, sqlOf hf4⟩, _, rfl, t, _, 1, _, rfl, rfl, sqtOf ht4, atI_nat (j := 1) rfl, ?_⟩
        have hfI : H4 fo = some (.lst (((presU hs k).map fun x : Nat => (x : Int)).map V.int)) := by
          rw [hf4, List.map_map]
          rfl
        refine ⟨fo, _, (i : Int), j, rfl, rfl, hfI, by rw [List.getElem?_map, hget]; rfl, fun m hm z => ?_, ?_⟩
        · rw [List.getElem?_map] at z
          obtain ⟨x, hx, e⟩ := Option.map_eq_some_iff.mp z
          exact hno m hm (by rw [hx, Int.ofNat_inj.mp e])
        · have hst : stepP k (presU hs k) (.rem i) = (presU hs k).eraseIdx j := flt_erase (pres_inc (hs := hs) (k := k) (by omega)).1 hget
          obtain ⟨f1, f2⟩ := fin _ (hpp.trans hst)
          rw [map_erase, List.map_map]
          exact ⟨_, _, rfl, f1, f2⟩
      | .ask v, ht4, hee, hpp =>
        refine ifF (by show decide (V.str "ask" = V.str "add") = false; decide +kernel) ?_
        refine ⟨_, rfl, t, _, 0, _, rfl, rfl, sqtOf ht4, atI_nat (j := 0) rfl, rfl, _, rfl, ifF (by show decide (V.str "ask" = V.str "remove") = false; decide +kernel) ?_⟩
        exact ⟨_, _, rfl, k4, by rw [hpp]; exact hf4⟩
    · rintro σ H3 ⟨y3, y4, rfl, k3, hf⟩
      rw [hlt] at hf
      refine ⟨_, rfl, q fo H3 (fun b o e => k3.at_ b o (s2 b o e) (not_cons (ne_of_none e ff.h) not_nil)) ff hf⟩
end
end Ob

set_option Elab.async false
set_option linter.all false
set_option maxRecDepth 100000
set_option maxHeartbeats 1000000
namespace Ob
open PySem PySem.Spec PyProof.Rows L2
open LamX (Tabs TabB TabS ExtN)

set_option hygiene false in
local macro_rules
  | `(tactic| kp_flats) => `(tactic| first
    | assumption
    | exact upd_same
    | (apply atNew; assumption; kp_flats)
    | (apply atNe; (next => kbo_bools); kp_flats)
    | (apply atSame; assumption; kp_flats)
    | (apply atKp; assumption; (next => kaf_pre); kp_flats))
set_option hygiene false in
local macro_rules
  | `(tactic| kaf_pre) => `(tactic| first
    | assumption
    | exact not_nil
    | (apply not_cons; (next => kbo_bools); kaf_pre)
    | (apply not_app; (next => kaf_pre); kaf_pre))
set_option hygiene false in
local macro_rules
  | `(tactic| kbo_bools) => `(tactic| first
    | assumption
    | (apply Ne.symm; assumption)
    | (apply neN; assumption; kp_flats)
    | (apply neN'; assumption; kp_flats))
set_option hygiene false in
local macro_rules
  | `(tactic| o_reads) => `(tactic| first
    | with_reducible rfl
    | assumption
    | rfl
    | kp_flats
    | (show SqL _ _ _ _; first | assumption | (apply sqlOf; kp_flats) | (apply sqlSame; assumption; o_reads))
    | (show SqT _ _ _ _; first | assumption | (apply sqtOf; kp_flats) | (apply sqtAll; assumption) | (apply sqtSame; assumption; o_reads))
    | (show Cls _ _; first | exact T.cl_Unions)
    | (show NoAttr _ _ _; first | exact T.n_Unions_groups | exact T.n_Unions_parents | exact T.n_Unions_counts | exact T.n_Unions_moved)
    | (apply Or.inl; o_reads)
    | (apply Or.inr; o_reads)
    | (apply And.intro; (next => o_reads); o_reads)
    | (apply Exists.intro; o_reads)
    | exact Nat.le_of_ble_eq_true rfl
    | exact Nat.succ_ne_zero _
    | (show Fr _ _; kba_ints)
    | (show Same _ _; kd_subs)
    | (show Kp _ _ _; kxs_still)
    | (show (_ : Nat) ≤ _; simp only [List.length_append, List.length_map, List.length_cons, List.length_nil, List.length_take, List.length_drop, List.length_replicate, List.length_range, sizeLine_eq]; omega)
    | (show _ = none; apply Fr.h; kba_ints)
    | (show Bag _ _; first | assumption | (apply bag_putF; assumption; o_reads) | (apply bag_neF; (next => kbo_bools); o_reads) | (apply bag_kpR; assumption; (next => kaf_pre); o_reads))
    | omega
    | decide)
local macro_rules
  | `(tactic| o_readsAll) => `(tactic| repeat (first
    | (refine fun (pNew : Addr) (nNew : _ = none) => ?_; replace nNew := Fr.mk nNew)
    | (refine fun (xNew dNew : Addr) (nNew : _ = none) (mNew : _ = none) (eNew : dNew ≠ xNew) => ?_; replace nNew := Fr.mk nNew; replace mNew := Fr.mk mNew)
    | (apply And.intro; next => o_reads)
    | apply Exists.intro (α := V)
    | apply Exists.intro (α := Addr)
    | apply Exists.intro (α := Int)
    | apply Exists.intro (α := Bool)
    | apply Exists.intro (α := List V)
    | apply Exists.intro (α := List Nat)
    | apply Exists.intro (α := List (Str × V))
    | apply Exists.intro (α := List _)
    | apply Exists.intro (α := Str)
    | apply Exists.intro (α := HO)
    | apply Exists.intro (α := Sp)
    | apply Exists.intro (α := VK)))
set_option hygiene false in
local macro_rules
  | `(tactic| kba_ints) => `(tactic| first
    | assumption
    | (apply frUp; (first | assumption | (apply Ne.symm; assumption)); kba_ints)
    | (apply noneOf; assumption; intro oF eF; apply Exists.intro; kp_flats)
    | (apply frUp; (next => kbo_bools); kba_ints))
set_option hygiene false in
local macro_rules
  | `(tactic| kxs_still) => `(tactic| first
    | assumption
    | exact kp_refl _ _
    | (apply kp_newF; assumption; kxs_still)
    | (apply kp_new; assumption; kxs_still)
    | (apply kp_up; (next => o_fieldsN); kxs_still)
    | (apply kp_new; (next => kba_ints); kxs_still)
    | (apply kp_sameR; assumption; kxs_still)
    | (apply kp_transR; assumption; kxs_still)
    | (apply kp_freshR; assumption; (next => kaf_suf); kxs_still))
set_option hygiene false in
local macro_rules
  | `(tactic| kaf_suf) => `(tactic| first
    | assumption
    | exact subNil
    | (apply subCons; (first | (apply Or.inl; o_fieldsN) | (apply Or.inr; kba_ints)); kaf_suf)
    | (apply subApp; (next => kaf_suf); kaf_suf))
set_option hygiene false in
local macro_rules
  | `(tactic| o_fieldsN) => `(tactic| first
    | assumption
    | exact memA
    | (apply memB; o_fieldsN)
    | (apply memL; o_fieldsN)
    | (apply memR; o_fieldsN))
set_option hygiene false in
local macro_rules
  | `(tactic| kd_subs) => `(tactic| first
    | assumption
    | exact Same.refl _
    | (apply same_putF; assumption; kd_subs)
    | (apply same_putG; assumption; kd_subs)
    | (apply same_putF; (next => kba_ints); kd_subs)
    | (apply same_transR; assumption; kd_subs))

set_option pp.maxSteps 900
open NdefX (TabsN)
open Inf (LClo cut mend cellsOf)
theorem nPO : ¬ ("push" : Str) = "pop" := by decide +kernel
def forBody : Stmt → List Stmt
  | .For (body := b) .. => b
  | _ => []
def kwOf : Stmt → Nat → Expr
  | .Return (some (.Call _ _ kws _)) _, i => (kws.map Keyword.value).getD i (.Constant .none 0 ⟨0, 0, 0, 0⟩)
  | _, _ => .Constant .none 0 ⟨0, 0, 0, 0⟩
abbrev frN : List Str := ["_law_unions"]
/-! ### along a walk -/
theorem run_len : ∀ {l : List (Str × Nat)} {S : List Nat}, (runW S l).length ≤ S.length + l.length
  | [], S => Nat.le_refl _
  | e :: l, S => by
    have h := run_len (l := l) (S := stepS S e)
    have h2 : (stepS S e).length ≤ S.length + 1 := by
      unfold stepS
      split
      · rw [List.length_append]
        exact Nat.le_refl _
      · split
        · rw [List.length_dropLast]
          omega
        · omega
    show (runW (stepS S e) l).length ≤ _
    rw [List.length_cons]
    omega
theorem run_one {S : List Nat} {tr : List (Str × Nat)} {e : Str × Nat} : runW S (tr ++ [e]) = stepS (runW S tr) e := run_app
theorem stepPush {S : List Nat} {i : Nat} : stepS S ("push", i) = S ++ [i] := if_pos rfl
theorem stepPop {S : List Nat} {i : Nat} : stepS S ("pop", i) = S.dropLast := by
  show (if ("pop" : Str) = "push" then _ else if ("pop" : Str) = "pop" then _ else _) = _
  rw [if_neg wOP2, if_pos rfl]
theorem stepAsk {S : List Nat} {i : Nat} : stepS S ("ask", i) = S := by
  show (if ("ask" : Str) = "push" then _ else if ("ask" : Str) = "pop" then _ else _) = _
  rw [if_neg wAP2, if_neg wAO2]
theorem held_at {hs : List HEv} {j i : Nat} {tr z : List (Str × Nat)} (hok : HOk hs) (hl : hs.length ≤ 2 ^ j) (hj : j ≤ 12) (h : tr ++ (("ask" : Str), i) :: z = planW hs j) : (runW [] tr).Perm (presU hs i) := by
  have hr := run_ask (S := []) h
  rw [List.nil_append] at hr
  have hp := path_held (k := j) (i := i) (es := endsU hs hs.length) hj (by omega) fun e m => by
    have := ends_lt (hs := hs) (Nat.le_refl _) e m
    omega
  have ha : ∃ v, hs[i]? = some (.ask v) := by
    rcases plan_ok (hs := hs) (j := j) (("ask" : Str), i) (by rw [← h]; exact List.mem_append.mpr (.inr List.mem_cons_self)) with ⟨w | w, _⟩ | ⟨_, w⟩
    · exact absurd w.symm wPA
    · exact absurd w.symm wOA
    · exact w
  have hi : i < hs.length := by
    obtain ⟨v, hv⟩ := ha
    exact (List.getElem?_eq_some_iff.mp hv).1
  rw [hr.1, ← held_later (i := i) hok hi ha (Nat.le_of_lt hi) (Nat.le_refl _)]
  exact hp
theorem plan_small {hs : List HEv} {j : Nat} (hl : hs.length ≤ 50) (c : hs.length ≤ 2 ^ j) (hj2 : j = 0 ∨ 2 ^ (j - 1) < hs.length) : j ≤ 6 ∧ (planW hs j).length ≤ 2000 := by
  have hj6 : j ≤ 6 := by
    refine Nat.le_of_not_lt fun z => ?_
    rcases hj2 with h | h
    · omega
    · have h1 : (2 : Nat) ^ 6 ≤ 2 ^ (j - 1) := Nat.pow_le_pow_right (by decide) (by omega)
      have h2 : (2 : Nat) ^ 6 = 64 := by decide
      omega
  have h1 := walk_len (N := nodesOf (endsU hs hs.length)) (bs := hs.map HEv.isAsk) (k := j) (f := 0)
  have h2 := tot_foldH (k := j) (f := 0) (h := j) (es := endsU hs hs.length) (N := fun _ _ => [])
  have h3 := ends_len (hs := hs) (k := hs.length)
  have h4 : (2 : Nat) ^ j ≤ 64 := Nat.le_trans (Nat.pow_le_pow_right (by decide) hj6) (by decide)
  have h5 : 2 * (j + 1) * (endsU hs hs.length).length ≤ 14 * 50 := Nat.mul_le_mul (by omega) (by omega)
  have h6 : (planW hs j).length = (walkW (nodesOf (endsU hs hs.length)) (hs.map HEv.isAsk) j 0).length := rfl
  refine ⟨hj6, ?_⟩
  have h2 := h2 fun e m => by
    have := ends_lt (hs := hs) (Nat.le_refl _) e m
    omega
  rw [tot_nil, Nat.zero_add] at h2
  have h7 : totW (nodesOf (endsU hs hs.length)) j 0 ≤ 2 * (j + 1) * (endsU hs hs.length).length := h2
  omega
theorem un_cut {C s dp dc m : Addr} {H : Hp} {W : Nat} {ps : List (Nat × Nat)} {cs : List Addr} (h : Un.UnAt C H s dp dc m W ps) (e : ∀ b ∈ cs, ∃ φ, H b = some (.ext φ)) : Un.UnAt C (cut cs H) s dp dc m W ps := by
  have out : ∀ {b : Addr} {o : HO}, H b = some o → (∀ φ, o ≠ .ext φ) → cut cs H b = some o := fun {b o} g n => (Inf.cut_out fun z => by
    obtain ⟨φ, y⟩ := e b z
    rw [g] at y
    exact n φ (Option.some.inj y)).trans g
  obtain ⟨⟨dx, e1⟩, e2, ⟨c, e3, e4⟩, e5, e6, e7⟩ := h
  exact ⟨⟨dx, out e1 (fun _ z => nomatch z)⟩, out e2 (fun _ z => nomatch z), ⟨c, out e3 (fun _ z => nomatch z), e4⟩, out e5 (fun _ z => nomatch z), e6, e7⟩
theorem un_mend {C s dp dc m : Addr} {H H1 : Hp} {W : Nat} {ps : List (Nat × Nat)} {cs : List Addr} (h : Un.UnAt C H1 s dp dc m W ps) (no : ∀ b ∈ cs, H1 b = none) : Un.UnAt C (mend cs H H1) s dp dc m W ps := by
  have e' : ∀ {y : Addr} {o : HO}, H1 y = some o → mend cs H H1 y = some o := fun {y o} e => by
    rw [Inf.mend_out fun m => by rw [no y m] at e; cases e]
    exact e
  obtain ⟨⟨dx, e1⟩, e2, ⟨c, e3, e4⟩, e5, e6, e7⟩ := h
  exact ⟨⟨dx, e' e1⟩, e' e2, ⟨c, e' e3, e4⟩, e' e5, e6, e7⟩
theorem un_mu {C s dp dc m : Addr} {H : Hp} {W : Nat} {ps : List (Nat × Nat)} (h : Un.UnAt C H s dp dc m W ps) : Mu H [s, dp, dc, m] := by
  obtain ⟨⟨dx, e1⟩, e2, ⟨c, e3, e4⟩, e5, e6, e7⟩ := h
  exact mu_ins e1 (mu_cons e2 (fun _ z => nomatch z) (fun _ z => nomatch z) (mu_cons e3 (fun _ z => nomatch z) (fun _ z => nomatch z) (mu_lst e5 mu_nil)))
theorem tup_cut {H : Hp} {cs : List Addr} {t : Addr} {xs : List V} (g : H t = some (.tup xs)) (e : ∀ b ∈ cs, ∃ φ, H b = some (.ext φ)) : cut cs H t = some (.tup xs) := (Inf.cut_out fun z => by
  obtain ⟨φ, y⟩ := e t z
  rw [g] at y
  cases y).trans g
theorem pairs_app {es : List PEv} {a b : List Nat} : pairsF es (a ++ b) = pairsF es a ++ pairsF es b := List.map_append ..
def AnU (W : Nat) (hs : List HEv) (es : List PEv) : List (Str × Nat) → Nat → V → Hp → Prop := fun _ i u _ => u = ansF W hs es i
theorem ans_u {W : Nat} {hs : List HEv} {es : List PEv} {H : Hp} {tr : List (Str × Nat)} {us : List V} (h : AnsAt (AnU W hs es) H tr us) : us = (tr.filter isAskE).map fun e => ansF W hs es e.2 := by
  induction h with
  | nil => rfl
  | @skip tr us e _ n ih =>
    rw [List.filter_append, List.filter_cons_of_neg (p := isAskE) (fun z => n (of_decide_eq_true z))]
    show us = (tr.filter isAskE ++ []).map _
    rw [List.append_nil]
    exact ih
  | @ask tr us i u _ a ih =>
    have a : u = ansF W hs es i := a
    rw [List.filter_append, List.filter_cons_of_pos (p := isAskE) (decide_eq_true rfl), List.map_append, ih, a]
    rfl
def dueU (W : Nat) (hs : List HEv) (es : List PEv) (k : Nat) : List V := (asksOf (hs.map HEv.isAsk) 0 k).map (ansF W hs es)
theorem due_plan {W : Nat} {hs : List HEv} {es : List PEv} {j : Nat} (h : hs.length ≤ 2 ^ j) : ((planW hs j).filter isAskE).map (fun e => ansF W hs es e.2) = dueU W hs es hs.length := by
  have h1 := walk_asks (N := nodesOf (endsU hs hs.length)) (bs := hs.map HEv.isAsk) (k := j) (f := 0)
  have h2 : (planW hs j).filter isAskE = (asksOf (hs.map HEv.isAsk) 0 (2 ^ j)).map fun i => (("ask" : Str), i) := h1
  rw [h2, List.map_map, asks_more (by rw [List.length_map]; exact h), List.length_map]
  rfl
/-- Un's answer at a question, over those that are held -/
theorem ans_held {W : Nat} {H : Hp} {hs : List HEv} {es : List PEv} {j i : Nat} {tr z : List (Str × Nat)} {v : V} (hok : HOk hs) (hl : hs.length ≤ 2 ^ j) (hj : j ≤ 12) (h : tr ++ (("ask" : Str), i) :: z = planW hs j) (ph : PH W H hs es) (hv : hs[i]? = some (.ask v)) (hw : Un.InW W (pairsF es (runW [] tr))) : (qnF es i).ans W (pairsF es (runW [] tr)) = ansF W hs es i := by
  have hp := held_at hok hl hj h
  have e : ∀ p, p ∈ pairsF es (runW [] tr) ↔ p ∈ pairsF es (presU hs i) := fun p => (hp.map (prF es)).mem_iff
  obtain ⟨_, _, _, hq⟩ := ph.qn hv
  exact Un.ans_mem hw (fun p m => hw p ((e p).mpr m)) e hq
namespace La
def qN : Str := ("law" : Str) ++ ".<locals>." ++ "<lambda>"
def LP (cl : List (Str × Addr)) (c : Addr) : Inf.LF := lamF qN cl c (lamOf ((forBody ((defBody s_law).getD 0 (.Pass ⟨0, 0, 0, 0⟩))).getD 5 (.Pass ⟨0, 0, 0, 0⟩)) 0)
def LO (cl : List (Str × Addr)) (c : Addr) : Inf.LF := lamF qN cl c (lamOf ((forBody ((defBody s_law).getD 0 (.Pass ⟨0, 0, 0, 0⟩))).getD 5 (.Pass ⟨0, 0, 0, 0⟩)) 1)
def LA (cl : List (Str × Addr)) (c : Addr) : Inf.LF := lamF qN cl c (lamOf ((forBody ((defBody s_law).getD 0 (.Pass ⟨0, 0, 0, 0⟩))).getD 5 (.Pass ⟨0, 0, 0, 0⟩)) 2)
theorem cellN : ∀ y ∈ frN, (defScope s_law).names.lookup y = some .cell := by decide +kernel
theorem scP : NdefX.NScope ["_law_pair", "_law_unions"] ["_law_pair"] frN (LP [] 0).scope := NdefX.nscope_by (by decide +kernel)
theorem scO : NdefX.NScope ["_law_unions"] [] frN (LO [] 0).scope := NdefX.nscope_by (by decide +kernel)
theorem scA : NdefX.NScope ["_law_asked", "_law_unions"] ["_law_asked"] frN (LA [] 0).scope := NdefX.nscope_by (by decide +kernel)
section
variable {P : Program} {w : World} {K : PySem.W.Frag} {mg : Str → Option Value} {base : Heap}
abbrev toW (F : Inf.LF) (sp : List (Option V) → Sp) (f : Addr) : Sp := fun vs H Q E => ∃ ws, LClo H f F frN ws ∧ sp (ws.map some) vs (cut (cellsOf F.nf frN) H) (fun v H1 => (∀ b, b ∈ cellsOf F.nf frN → H1 b = Option.none) → Q v (mend (cellsOf F.nf frN) H H1)) E
def insA (C : Addr) (H : Hp) (s : Addr) : Prop := ∃ dx g dp dc m, H s = some (.ins C dx [("groups", g), ("parents", .ref dp), ("counts", .ref dc), ("moved", .ref m)])
def spLP (C : Addr) : List (Option V) → Sp := fun ws vs H Q E => ∃ (s : Addr) (v : V), ws = [some (.ref s)] ∧ vs = [v] ∧ insA C H s ∧ Un.spPush C [.ref s, v] H Q E
def spLO (C : Addr) : List (Option V) → Sp := fun ws vs H Q E => ∃ (s : Addr), ws = [some (.ref s)] ∧ vs = [] ∧ insA C H s ∧ Un.spPop C [.ref s] H Q E
def spLA (C : Addr) : List (Option V) → Sp := fun ws vs H Q E => ∃ (s : Addr) (v : V), ws = [some (.ref s)] ∧ vs = [v] ∧ insA C H s ∧ Un.spAsk C [.ref s, v] H Q E
theorem lamP (T : Txt K mg) {cl : List (Str × Addr)} {c f : Addr} : FnR P w K mg base CX0 3 f (toW (LP cl c) (spLP T.C_Unions) f) := by
  have G_Unions_push := Un.ok_push (P := P) (w := w) (base := base) T
  refine Inf.lam_cloR (k := 2) (N := ["_law_pair", "_law_unions"]) (ps := ["_law_pair"]) scP (fun _ _ us hl => match us, hl with | [_], _ => rfl) (fun ws vs H Q E h => ?_) (fun A outer s H vs ws Q E hr hl h => ?_)
  · obtain ⟨s, v, rfl, rfl, _⟩ := h
    rfl
  · obtain ⟨s0, v, rfl, rfl, ⟨dx, g, dp, dc, m, hs⟩, h1⟩ := h
    refine ⟨_, pe_meth (pv 1) T.cl_Unions ⟨T.m_Unions_push, T.t_Unions_push, T.k_Unions_push⟩ G_Unions_push (by exact hr) T.b_Unions_push .nil pass0 (pa_cons (pv 0) pa_nil), ?_⟩
    exact ⟨_, rfl, s0, dx, _, rfl, hs, rfl, _, rfl, h1⟩
theorem lamO (T : Txt K mg) {cl : List (Str × Addr)} {c f : Addr} : FnR P w K mg base CX0 3 f (toW (LO cl c) (spLO T.C_Unions) f) := by
  have G_Unions_pop := Un.ok_pop (P := P) (w := w) (base := base) T
  refine Inf.lam_cloR (k := 2) (N := ["_law_unions"]) (ps := []) scO (fun _ _ us hl => match us, hl with | [], _ => rfl) (fun ws vs H Q E h => ?_) (fun A outer s H vs ws Q E hr hl h => ?_)
  · obtain ⟨s, rfl, rfl, _⟩ := h
    rfl
  · obtain ⟨s0, rfl, rfl, ⟨dx, g, dp, dc, m, hs⟩, h1⟩ := h
    refine ⟨_, pe_meth0 (pv 0) T.cl_Unions ⟨T.m_Unions_pop, T.t_Unions_pop, T.k_Unions_pop⟩ G_Unions_pop (by exact hr) T.b_Unions_pop .nil pass0, ?_⟩
    exact ⟨_, rfl, s0, dx, _, rfl, hs, rfl, h1⟩
theorem lamA (T : Txt K mg) {cl : List (Str × Addr)} {c f : Addr} : FnR P w K mg base CX0 3 f (toW (LA cl c) (spLA T.C_Unions) f) := by
  have G_Unions_ask := Un.ok_ask (P := P) (w := w) (base := base) T
  refine Inf.lam_cloR (k := 2) (N := ["_law_asked", "_law_unions"]) (ps := ["_law_asked"]) scA (fun _ _ us hl => match us, hl with | [_], _ => rfl) (fun ws vs H Q E h => ?_) (fun A outer s H vs ws Q E hr hl h => ?_)
  · obtain ⟨s, v, rfl, rfl, _⟩ := h
    rfl
  · obtain ⟨s0, v, rfl, rfl, ⟨dx, g, dp, dc, m, hs⟩, h1⟩ := h
    refine ⟨_, pe_meth (pv 1) T.cl_Unions ⟨T.m_Unions_ask, T.t_Unions_ask, T.k_Unions_ask⟩ G_Unions_ask (by exact hr) T.b_Unions_ask .nil pass0 (pa_cons (pv 0) pa_nil), ?_⟩
    exact ⟨_, rfl, s0, dx, _, rfl, hs, rfl, _, rfl, h1⟩
theorem ins_of {C s dp dc m : Addr} {H : Hp} {W : Nat} {ps : List (Nat × Nat)} (h : Un.UnAt C H s dp dc m W ps) : insA C H s := by
  obtain ⟨⟨dx, e1⟩, _⟩ := h
  exact ⟨dx, _, _, _, _, e1⟩
def RU (C s dp dc m : Addr) (W : Nat) (hs : List HEv) (es : List PEv) (cp' co' ca' : List (Str × Addr)) (fp cp fo co fa ca : Addr) (tr : List (Str × Nat)) (H : Hp) : Prop :=
  (LClo H fp (LP cp' cp) frN [.ref s] ∧ LClo H fo (LO co' co) frN [.ref s] ∧ LClo H fa (LA ca' ca) frN [.ref s]) ∧ Un.UnAt C H s dp dc m W (pairsF es (runW [] tr)) ∧ PH W H hs es
theorem asU (T : Txt K mg) {W : Nat} {hs : List HEv} {es : List PEv} {j : Nat} {cp' co' ca' : List (Str × Addr)} {fp cp fo co fa ca s dp dc m : Addr} (hok : HOk hs) (hW : W ≤ 10000) (hl : hs.length ≤ 2 ^ j) (hj : j ≤ 12) (hfull : (planW hs j).length ≤ 5000) : AS P w K mg base 3 hs (planW hs j) [s, dp, dc, m] (.ref fp) (.ref fo) (.ref fa) (RU T.C_Unions s dp dc m W hs es cp' co' ca' fp cp fo co fa ca) (AnU W hs es) where
  rk := fun {tr cs H H1} h k mu n => by
    obtain ⟨⟨h1, h2, h3⟩, h4, h5⟩ := h
    exact ⟨⟨lclo_kp h1 k mu, lclo_kp h2 k mu, lclo_kp h3 k mu⟩, h4.kp k (n s memA) (n dp (memB memA)) (n dc (memB (memB memA))) (n m (memB (memB (memB memA)))), h5.kp k mu⟩
  ak := fun h _ _ => h
  mu := fun h => un_mu h.2.1
  push := fun {tr i v H Q} hf hv h q => by
    obtain ⟨⟨h1, h2, h3⟩, h4, h5⟩ := h
    obtain ⟨z, hz⟩ := hf
    have hlen : (runW [] tr).length ≤ 5000 := by
      have h0 := run_len (l := tr) (S := [])
      have := congrArg List.length hz
      rw [List.length_append] at this
      have h00 : ([] : List Nat).length = 0 := rfl
      omega
    obtain ⟨t, rfl, ht, w1, w2⟩ := h5.pair hv
    have ex : ∀ b ∈ cellsOf (LP cp' cp).nf frN, ∃ φ, H b = some (.ext φ) := fun b m => by obtain ⟨v, φ, e, _⟩ := h1.cell m; exact ⟨φ, e⟩
    refine ⟨fp, _, _, rfl, h1.fn, Inf.lamHO, lamP T, [.ref s], h1, s, .ref t, rfl, rfl, ins_of (un_cut h4 ex), s, dp, dc, m, t, W, _, _, _, rfl, un_cut h4 ex, tup_cut ht ex, w1, w2, hW, by unfold pairsF; rw [List.length_map]; omega, fun H1 k1 u1 no => ?_⟩
    have k2 : Kp [s, dp, dc, m] H (mend (cellsOf (LP cp' cp).nf frN) H H1) := mend_kp ex k1 no
    have m0 := un_mu h4
    refine q _ _ k2 ⟨⟨lclo_kp h1 k2 m0, lclo_kp h2 k2 m0, lclo_kp h3 k2 m0⟩, ?_, h5.kp k2 m0⟩
    rw [run_one, stepPush, pairs_app]
    exact un_mend u1 no
  pop := fun {tr i H Q} hf h q => by
    obtain ⟨⟨h1, h2, h3⟩, h4, h5⟩ := h
    obtain ⟨z, hz⟩ := hf
    obtain ⟨S', hS⟩ := run_popA (S := []) hz
    have hlen : (runW [] tr).length ≤ 5000 := by
      have h0 := run_len (l := tr) (S := [])
      have := congrArg List.length hz
      rw [List.length_append] at this
      have h00 : ([] : List Nat).length = 0 := rfl
      omega
    have hlen' : S'.length ≤ 5000 := by
      rw [hS, List.length_append] at hlen
      omega
    have h4' : Un.UnAt T.C_Unions H s dp dc m W (pairsF es S' ++ [prF es i]) := by
      rw [hS, pairs_app] at h4
      exact h4
    have ex : ∀ b ∈ cellsOf (LO co' co).nf frN, ∃ φ, H b = some (.ext φ) := fun b m => by obtain ⟨v, φ, e, _⟩ := h2.cell m; exact ⟨φ, e⟩
    refine ⟨fo, _, _, rfl, h2.fn, Inf.lamHO, lamO T, [.ref s], h2, s, rfl, rfl, ins_of (un_cut h4 ex), s, dp, dc, m, W, _, _, rfl, un_cut h4' ex, hW, by unfold pairsF; rw [List.length_map]; omega, fun H1 k1 u1 no => ?_⟩
    have k2 : Kp [s, dp, dc, m] H (mend (cellsOf (LO co' co).nf frN) H H1) := mend_kp ex k1 no
    have m0 := un_mu h4
    refine q _ _ k2 ⟨⟨lclo_kp h1 k2 m0, lclo_kp h2 k2 m0, lclo_kp h3 k2 m0⟩, ?_, h5.kp k2 m0⟩
    rw [run_one, stepPop, hS, List.dropLast_concat]
    exact un_mend u1 no
  ask := fun {tr i v H Q} hf hv h q => by
    obtain ⟨⟨h1, h2, h3⟩, h4, h5⟩ := h
    obtain ⟨z, hz⟩ := hf
    obtain ⟨t, rfl, ht, hq⟩ := h5.qn hv
    have ex : ∀ b ∈ cellsOf (LA ca' ca).nf frN, ∃ φ, H b = some (.ext φ) := fun b m => by obtain ⟨v, φ, e, _⟩ := h3.cell m; exact ⟨φ, e⟩
    refine ⟨fa, _, _, rfl, h3.fn, Inf.lamHO, lamA T, [.ref s], h3, s, .ref t, rfl, rfl, ins_of (un_cut h4 ex), s, dp, dc, m, t, W, _, qnF es i, rfl, un_cut h4 ex, tup_cut ht ex, fun no => ?_⟩
    have hm : mend (cellsOf (LA ca' ca).nf frN) H (cut (cellsOf (LA ca' ca).nf frN) H) = H := Inf.mend_cut
    rw [hm]
    refine q _ _ (kp_refl _ _) ⟨⟨h1, h2, h3⟩, ?_, h5⟩ ?_
    · rw [run_one, stepAsk]
      exact h4
    · exact ans_held hok hl hj hz h5 hv h4.w
end
end La
namespace Lt
def qN : Str := ("_law_told" : Str) ++ ".<locals>." ++ "<lambda>"
def LP (cl : List (Str × Addr)) (c : Addr) : Inf.LF := lamF qN cl c (kwOf ((defBody s_l_told).getD 1 (.Pass ⟨0, 0, 0, 0⟩)) 3)
def LO (cl : List (Str × Addr)) (c : Addr) : Inf.LF := lamF qN cl c (kwOf ((defBody s_l_told).getD 1 (.Pass ⟨0, 0, 0, 0⟩)) 2)
def LA (cl : List (Str × Addr)) (c : Addr) : Inf.LF := lamF qN cl c (kwOf ((defBody s_l_told).getD 1 (.Pass ⟨0, 0, 0, 0⟩)) 1)
theorem cellN : ∀ y ∈ frN, (defScope s_l_told).names.lookup y = some .cell := by decide +kernel
theorem scP : NdefX.NScope ["_law_pair", "_law_unions"] ["_law_pair"] frN (LP [] 0).scope := NdefX.nscope_by (by decide +kernel)
theorem scO : NdefX.NScope ["_law_unions"] [] frN (LO [] 0).scope := NdefX.nscope_by (by decide +kernel)
theorem scA : NdefX.NScope ["_law_question", "_law_unions"] ["_law_question"] frN (LA [] 0).scope := NdefX.nscope_by (by decide +kernel)
section
variable {P : Program} {w : World} {K : PySem.W.Frag} {mg : Str → Option Value} {base : Heap}
abbrev toW (F : Inf.LF) (sp : List (Option V) → Sp) (f : Addr) : Sp := fun vs H Q E => ∃ ws, LClo H f F frN ws ∧ sp (ws.map some) vs (cut (cellsOf F.nf frN) H) (fun v H1 => (∀ b, b ∈ cellsOf F.nf frN → H1 b = Option.none) → Q v (mend (cellsOf F.nf frN) H H1)) E
def insA (C : Addr) (H : Hp) (s : Addr) : Prop := ∃ dx g dp dc m, H s = some (.ins C dx [("groups", g), ("parents", .ref dp), ("counts", .ref dc), ("moved", .ref m)])
def spLP (C : Addr) : List (Option V) → Sp := fun ws vs H Q E => ∃ (s : Addr) (v : V), ws = [some (.ref s)] ∧ vs = [v] ∧ insA C H s ∧ Un.spPush C [.ref s, v] H Q E
def spLO (C : Addr) : List (Option V) → Sp := fun ws vs H Q E => ∃ (s : Addr), ws = [some (.ref s)] ∧ vs = [] ∧ insA C H s ∧ Un.spPop C [.ref s] H Q E
def spLA (C : Addr) : List (Option V) → Sp := fun ws vs H Q E => ∃ (s : Addr) (v : V), ws = [some (.ref s)] ∧ vs = [v] ∧ insA C H s ∧ Un.spAsk C [.ref s, v] H Q E
theorem lamP (T : Txt K mg) {cl : List (Str × Addr)} {c f : Addr} : FnR P w K mg base CX0 3 f (toW (LP cl c) (spLP T.C_Unions) f) := by
  have G_Unions_push := Un.ok_push (P := P) (w := w) (base := base) T
  refine Inf.lam_cloR (k := 2) (N := ["_law_pair", "_law_unions"]) (ps := ["_law_pair"]) scP (fun _ _ us hl => match us, hl with | [_], _ => rfl) (fun ws vs H Q E h => ?_) (fun A outer s H vs ws Q E hr hl h => ?_)
  · obtain ⟨s, v, rfl, rfl, _⟩ := h
    rfl
  · obtain ⟨s0, v, rfl, rfl, ⟨dx, g, dp, dc, m, hs⟩, h1⟩ := h
    refine ⟨_, pe_meth (pv 1) T.cl_Unions ⟨T.m_Unions_push, T.t_Unions_push, T.k_Unions_push⟩ G_Unions_push (by exact hr) T.b_Unions_push .nil pass0 (pa_cons (pv 0) pa_nil), ?_⟩
    exact ⟨_, rfl, s0, dx, _, rfl, hs, rfl, _, rfl, h1⟩
theorem lamO (T : Txt K mg) {cl : List (Str × Addr)} {c f : Addr} : FnR P w K mg base CX0 3 f (toW (LO cl c) (spLO T.C_Unions) f) := by
  have G_Unions_pop := Un.ok_pop (P := P) (w := w) (base := base) T
  refine Inf.lam_cloR (k := 2) (N := ["_law_unions"]) (ps := []) scO (fun _ _ us hl => match us, hl with | [], _ => rfl) (fun ws vs H Q E h => ?_) (fun A outer s H vs ws Q E hr hl h => ?_)
  · obtain ⟨s, rfl, rfl, _⟩ := h
    rfl
  · obtain ⟨s0, rfl, rfl, ⟨dx, g, dp, dc, m, hs⟩, h1⟩ := h
    refine ⟨_, pe_meth0 (pv 0) T.cl_Unions ⟨T.m_Unions_pop, T.t_Unions_pop, T.k_Unions_pop⟩ G_Unions_pop (by exact hr) T.b_Unions_pop .nil pass0, ?_⟩
    exact ⟨_, rfl, s0, dx, _, rfl, hs, rfl, h1⟩
theorem lamA (T : Txt K mg) {cl : List (Str × Addr)} {c f : Addr} : FnR P w K mg base CX0 3 f (toW (LA cl c) (spLA T.C_Unions) f) := by
  have G_Unions_ask := Un.ok_ask (P := P) (w := w) (base := base) T
  refine Inf.lam_cloR (k := 2) (N := ["_law_question", "_law_unions"]) (ps := ["_law_question"]) scA (fun _ _ us hl => match us, hl with | [_], _ => rfl) (fun ws vs H Q E h => ?_) (fun A outer s H vs ws Q E hr hl h => ?_)
  · obtain ⟨s, v, rfl, rfl, _⟩ := h
    rfl
  · obtain ⟨s0, v, rfl, rfl, ⟨dx, g, dp, dc, m, hs⟩, h1⟩ := h
    refine ⟨_, pe_meth (pv 1) T.cl_Unions ⟨T.m_Unions_ask, T.t_Unions_ask, T.k_Unions_ask⟩ G_Unions_ask (by exact hr) T.b_Unions_ask .nil pass0 (pa_cons (pv 0) pa_nil), ?_⟩
    exact ⟨_, rfl, s0, dx, _, rfl, hs, rfl, _, rfl, h1⟩
theorem ins_of {C s dp dc m : Addr} {H : Hp} {W : Nat} {ps : List (Nat × Nat)} (h : Un.UnAt C H s dp dc m W ps) : insA C H s := by
  obtain ⟨⟨dx, e1⟩, _⟩ := h
  exact ⟨dx, _, _, _, _, e1⟩
def RU (C s dp dc m : Addr) (W : Nat) (hs : List HEv) (es : List PEv) (cp' co' ca' : List (Str × Addr)) (fp cp fo co fa ca : Addr) (tr : List (Str × Nat)) (H : Hp) : Prop :=
  (LClo H fp (LP cp' cp) frN [.ref s] ∧ LClo H fo (LO co' co) frN [.ref s] ∧ LClo H fa (LA ca' ca) frN [.ref s]) ∧ Un.UnAt C H s dp dc m W (pairsF es (runW [] tr)) ∧ PH W H hs es
theorem asU (T : Txt K mg) {W : Nat} {hs : List HEv} {es : List PEv} {j : Nat} {cp' co' ca' : List (Str × Addr)} {fp cp fo co fa ca s dp dc m : Addr} (hok : HOk hs) (hW : W ≤ 10000) (hl : hs.length ≤ 2 ^ j) (hj : j ≤ 12) (hfull : (planW hs j).length ≤ 5000) : AS P w K mg base 3 hs (planW hs j) [s, dp, dc, m] (.ref fp) (.ref fo) (.ref fa) (RU T.C_Unions s dp dc m W hs es cp' co' ca' fp cp fo co fa ca) (AnU W hs es) where
  rk := fun {tr cs H H1} h k mu n => by
    obtain ⟨⟨h1, h2, h3⟩, h4, h5⟩ := h
    exact ⟨⟨lclo_kp h1 k mu, lclo_kp h2 k mu, lclo_kp h3 k mu⟩, h4.kp k (n s memA) (n dp (memB memA)) (n dc (memB (memB memA))) (n m (memB (memB (memB memA)))), h5.kp k mu⟩
  ak := fun h _ _ => h
  mu := fun h => un_mu h.2.1
  push := fun {tr i v H Q} hf hv h q => by
    obtain ⟨⟨h1, h2, h3⟩, h4, h5⟩ := h
    obtain ⟨z, hz⟩ := hf
    have hlen : (runW [] tr).length ≤ 5000 := by
      have h0 := run_len (l := tr) (S := [])
      have := congrArg List.length hz
      rw [List.length_append] at this
      have h00 : ([] : List Nat).length = 0 := rfl
      omega
    obtain ⟨t, rfl, ht, w1, w2⟩ := h5.pair hv
    have ex : ∀ b ∈ cellsOf (LP cp' cp).nf frN, ∃ φ, H b = some (.ext φ) := fun b m => by obtain ⟨v, φ, e, _⟩ := h1.cell m; exact ⟨φ, e⟩
    refine ⟨fp, _, _, rfl, h1.fn, Inf.lamHO, lamP T, [.ref s], h1, s, .ref t, rfl, rfl, ins_of (un_cut h4 ex), s, dp, dc, m, t, W, _, _, _, rfl, un_cut h4 ex, tup_cut ht ex, w1, w2, hW, by unfold pairsF; rw [List.length_map]; omega, fun H1 k1 u1 no => ?_⟩
    have k2 : Kp [s, dp, dc, m] H (mend (cellsOf (LP cp' cp).nf frN) H H1) := mend_kp ex k1 no
    have m0 := un_mu h4
    refine q _ _ k2 ⟨⟨lclo_kp h1 k2 m0, lclo_kp h2 k2 m0, lclo_kp h3 k2 m0⟩, ?_, h5.kp k2 m0⟩
    rw [run_one, stepPush, pairs_app]
    exact un_mend u1 no
  pop := fun {tr i H Q} hf h q => by
    obtain ⟨⟨h1, h2, h3⟩, h4, h5⟩ := h
    obtain ⟨z, hz⟩ := hf
    obtain ⟨S', hS⟩ := run_popA (S := []) hz
    have hlen : (runW [] tr).length ≤ 5000 := by
      have h0 := run_len (l := tr) (S := [])
      have := congrArg List.length hz
      rw [List.length_append] at this
      have h00 : ([] : List Nat).length = 0 := rfl
      omega
    have hlen' : S'.length ≤ 5000 := by
      rw [hS, List.length_append] at hlen
      omega
    have h4' : Un.UnAt T.C_Unions H s dp dc m W (pairsF es S' ++ [prF es i]) := by
      rw [hS, pairs_app] at h4
      exact h4
    have ex : ∀ b ∈ cellsOf (LO co' co).nf frN, ∃ φ, H b = some (.ext φ) := fun b m => by obtain ⟨v, φ, e, _⟩ := h2.cell m; exact ⟨φ, e⟩
    refine ⟨fo, _, _, rfl, h2.fn, Inf.lamHO, lamO T, [.ref s], h2, s, rfl, rfl, ins_of (un_cut h4 ex), s, dp, dc, m, W, _, _, rfl, un_cut h4' ex, hW, by unfold pairsF; rw [List.length_map]; omega, fun H1 k1 u1 no => ?_⟩
    have k2 : Kp [s, dp, dc, m] H (mend (cellsOf (LO co' co).nf frN) H H1) := mend_kp ex k1 no
    have m0 := un_mu h4
    refine q _ _ k2 ⟨⟨lclo_kp h1 k2 m0, lclo_kp h2 k2 m0, lclo_kp h3 k2 m0⟩, ?_, h5.kp k2 m0⟩
    rw [run_one, stepPop, hS, List.dropLast_concat]
    exact un_mend u1 no
  ask := fun {tr i v H Q} hf hv h q => by
    obtain ⟨⟨h1, h2, h3⟩, h4, h5⟩ := h
    obtain ⟨z, hz⟩ := hf
    obtain ⟨t, rfl, ht, hq⟩ := h5.qn hv
    have ex : ∀ b ∈ cellsOf (LA ca' ca).nf frN, ∃ φ, H b = some (.ext φ) := fun b m => by obtain ⟨v, φ, e, _⟩ := h3.cell m; exact ⟨φ, e⟩
    refine ⟨fa, _, _, rfl, h3.fn, Inf.lamHO, lamA T, [.ref s], h3, s, .ref t, rfl, rfl, ins_of (un_cut h4 ex), s, dp, dc, m, t, W, _, qnF es i, rfl, un_cut h4 ex, tup_cut ht ex, fun no => ?_⟩
    have hm : mend (cellsOf (LA ca' ca).nf frN) H (cut (cellsOf (LA ca' ca).nf frN) H) = H := Inf.mend_cut
    rw [hm]
    refine q _ _ (kp_refl _ _) ⟨⟨h1, h2, h3⟩, ?_, h5⟩ ?_
    · rw [run_one, stepAsk]
      exact h4
    · exact ans_held hok hl hj hz h5 hv h4.w
end
end Lt
end Ob

set_option Elab.async false
set_option linter.all false
set_option maxRecDepth 100000
set_option maxHeartbeats 1000000
namespace Ob
open PySem PySem.Spec PyProof.Rows L2
open LamX (Tabs TabB TabS ExtN)

set_option hygiene false in
local macro_rules
  | `(tactic| kp_flats) => `(tactic| first
    | assumption
    | exact upd_same
    | (apply atNew; assumption; kp_flats)
    | (apply atNe; (next => kbo_bools); kp_flats)
    | (apply atSame; assumption; kp_flats)
    | (apply atKp; assumption; (next => kaf_pre); kp_flats))
set_option hygiene false in
local macro_rules
  | `(tactic| kaf_pre) => `(tactic| first
    | assumption
    | exact not_nil
    | (apply not_cons; (next => kbo_bools); kaf_pre)
    | (apply not_app; (next => kaf_pre); kaf_pre))
set_option hygiene false in
local macro_rules
  | `(tactic| kbo_bools) => `(tactic| first
    | assumption
    | (apply Ne.symm; assumption)
    | (apply neN; assumption; kp_flats)
    | (apply neN'; assumption; kp_flats))
set_option hygiene false in
local macro_rules
  | `(tactic| o_reads) => `(tactic| first
    | with_reducible rfl
    | assumption
    | rfl
    | kp_flats
    | (show SqL _ _ _ _; first | assumption | (apply sqlOf; kp_flats) | (apply sqlSame; assumption; o_reads))
    | (show SqT _ _ _ _; first | assumption | (apply sqtOf; kp_flats) | (apply sqtAll; assumption) | (apply sqtSame; assumption; o_reads))
    | (show Cls _ _; first | exact T.cl_Unions)
    | (show NoAttr _ _ _; first | exact T.n_Unions_groups | exact T.n_Unions_parents | exact T.n_Unions_counts | exact T.n_Unions_moved)
    | (apply Or.inl; o_reads)
    | (apply Or.inr; o_reads)
    | (apply And.intro; (next => o_reads); o_reads)
    | (apply Exists.intro; o_reads)
    | exact Nat.le_of_ble_eq_true rfl
    | exact Nat.succ_ne_zero _
    | (show Fr _ _; kba_ints)
    | (show Same _ _; kd_subs)
    | (show Kp _ _ _; kxs_still)
    | (show (_ : Nat) ≤ _; simp only [List.length_append, List.length_map, List.length_cons, List.length_nil, List.length_take, List.length_drop, List.length_replicate, List.length_range, sizeLine_eq]; omega)
    | (show _ = none; apply Fr.h; kba_ints)
    | (show Bag _ _; first | assumption | (apply bag_putF; assumption; o_reads) | (apply bag_neF; (next => kbo_bools); o_reads) | (apply bag_kpR; assumption; (next => kaf_pre); o_reads))
    | omega
    | decide)
local macro_rules
  | `(tactic| o_readsAll) => `(tactic| repeat (first
    | (refine fun (pNew : Addr) (nNew : _ = none) => ?_; replace nNew := Fr.mk nNew)
    | (refine fun (xNew dNew : Addr) (nNew : _ = none) (mNew : _ = none) (eNew : dNew ≠ xNew) => ?_; replace nNew := Fr.mk nNew; replace mNew := Fr.mk mNew)
    | (apply And.intro; next => o_reads)
    | apply Exists.intro (α := V)
    | apply Exists.intro (α := Addr)
    | apply Exists.intro (α := Int)
    | apply Exists.intro (α := Bool)
    | apply Exists.intro (α := List V)
    | apply Exists.intro (α := List Nat)
    | apply Exists.intro (α := List (Str × V))
    | apply Exists.intro (α := List _)
    | apply Exists.intro (α := Str)
    | apply Exists.intro (α := HO)
    | apply Exists.intro (α := Sp)
    | apply Exists.intro (α := VK)))
set_option hygiene false in
local macro_rules
  | `(tactic| kba_ints) => `(tactic| first
    | assumption
    | (apply frUp; (first | assumption | (apply Ne.symm; assumption)); kba_ints)
    | (apply noneOf; assumption; intro oF eF; apply Exists.intro; kp_flats)
    | (apply frUp; (next => kbo_bools); kba_ints))
set_option hygiene false in
local macro_rules
  | `(tactic| kxs_still) => `(tactic| first
    | assumption
    | exact kp_refl _ _
    | (apply kp_newF; assumption; kxs_still)
    | (apply kp_new; assumption; kxs_still)
    | (apply kp_up; (next => o_fieldsN); kxs_still)
    | (apply kp_new; (next => kba_ints); kxs_still)
    | (apply kp_sameR; assumption; kxs_still)
    | (apply kp_transR; assumption; kxs_still)
    | (apply kp_freshR; assumption; (next => kaf_suf); kxs_still))
set_option hygiene false in
local macro_rules
  | `(tactic| kaf_suf) => `(tactic| first
    | assumption
    | exact subNil
    | (apply subCons; (first | (apply Or.inl; o_fieldsN) | (apply Or.inr; kba_ints)); kaf_suf)
    | (apply subApp; (next => kaf_suf); kaf_suf))
set_option hygiene false in
local macro_rules
  | `(tactic| o_fieldsN) => `(tactic| first
    | assumption
    | exact memA
    | (apply memB; o_fieldsN)
    | (apply memL; o_fieldsN)
    | (apply memR; o_fieldsN))
set_option hygiene false in
local macro_rules
  | `(tactic| kd_subs) => `(tactic| first
    | assumption
    | exact Same.refl _
    | (apply same_putF; assumption; kd_subs)
    | (apply same_putG; assumption; kd_subs)
    | (apply same_putF; (next => kba_ints); kd_subs)
    | (apply same_transR; assumption; kd_subs))

set_option pp.maxSteps 900
open NdefX (TabsN)
open Inf (LClo cut mend cellsOf)
def nm_l_told : Nat → Nat → Str := fun l _ => if l = 214 then ("_law_told" : Str) ++ ".<locals>." ++ "<lambda>" else ("_law_told" : Str) ++ ".<locals>." ++ "<lambda>"
def nm_law : Nat → Nat → Str := fun l _ => if l = 225 then ("law" : Str) ++ ".<locals>." ++ "<lambda>" else ("law" : Str) ++ ".<locals>." ++ "<lambda>"
def TT {K : PySem.W.Frag} {mg : Str → Option Value} (T : Txt K mg) : List NdefX.NTab := [(T.p_l_told, nm_l_told), (T.p_law, nm_law)]
theorem hm_l_told {K : PySem.W.Frag} {mg : Str → Option Value} (T : Txt K mg) : (T.p_l_told, nm_l_told) ∈ TT T := List.mem_cons_self ..
theorem hu_l_told {K : PySem.W.Frag} {mg : Str → Option Value} (T : Txt K mg) : ∀ p ∈ TT T, p.1 = T.p_l_told → p.2 = nm_l_told := fun p m e => by
  rcases List.mem_cons.mp m with rfl | m
  · exact rfl
  rcases List.mem_cons.mp m with rfl | m
  · exact absurd e.symm T.pne_l_told_law
  · cases m
theorem hm_law {K : PySem.W.Frag} {mg : Str → Option Value} (T : Txt K mg) : (T.p_law, nm_law) ∈ TT T := List.mem_cons_of_mem _ (List.mem_cons_self ..)
theorem hu_law {K : PySem.W.Frag} {mg : Str → Option Value} (T : Txt K mg) : ∀ p ∈ TT T, p.1 = T.p_law → p.2 = nm_law := fun p m e => by
  rcases List.mem_cons.mp m with rfl | m
  · exact absurd e T.pne_l_told_law
  rcases List.mem_cons.mp m with rfl | m
  · exact rfl
  · cases m
theorem kb_ans {K : PySem.W.Frag} {f : Addr} {fd : FuncData} (F : Fun K "answers" "answers" s_answers f fd) :
    KBn K fd ["push", "pop", "ask", "history"] 0 ["history", "ask", "pop", "push"] (fun _ ws => ws.reverse) (fun _ zs => zs.reverse) := by
  obtain ⟨oc, od, kV, doc, pm, an, cdv, ct, osl, rfl, lk, hcd⟩ := F.ex
  exact ⟨fun s us ws X l1 l2 => match us, ws, l1, l2 with | [], [a, b, c, d], _, _ => .of_eq rfl, fun _ r => r.reverse⟩
theorem tab_mu {T : List NdefX.NTab} {P : Addr} {nm : Nat → Nat → Str} {H : Hp} (t : TabsN T H) (m : (P, nm) ∈ T) : Mu H [P] := by
  obtain ⟨ps, h, _⟩ := t _ m
  exact mu_cons h (fun _ z => nomatch z) (fun _ z => nomatch z) mu_nil
theorem un_tab {T : List NdefX.NTab} {C s dp dc m : Addr} {H H1 : Hp} {W : Nat} {ps : List (Nat × Nat)} (h : Un.UnAt C H s dp dc m W ps) (t : TabsN T H) (k : Kp [s, dp, dc, m] H H1) : TabsN T H1 := tabsN_kp t k fun a ha => by
  obtain ⟨⟨dx, e1⟩, e2, ⟨c, e3, _⟩, e5, _, _⟩ := h
  rcases List.mem_cons.mp ha with rfl | ha
  · exact ⟨_, e1, (fun _ z => nomatch z), fun _ z => nomatch z⟩
  rcases List.mem_cons.mp ha with rfl | ha
  · exact ⟨_, e2, (fun _ z => nomatch z), fun _ z => nomatch z⟩
  rcases List.mem_cons.mp ha with rfl | ha
  · exact ⟨_, e3, (fun _ z => nomatch z), fun _ z => nomatch z⟩
  · rw [List.mem_singleton.mp ha]
    exact ⟨_, e5, (fun _ z => nomatch z), fun _ z => nomatch z⟩
section
variable {P : Program} {w : World} {K : PySem.W.Frag} {mg : Str → Option Value} {base : Heap}
def spTold (T : Txt K mg) : Sp := fun vs H Q _ => ∃ (ha : Addr) (W : Nat) (hs : List HEv) (es : List PEv), vs = [.ref ha, .int (W : Int)] ∧ LH H ha hs ∧ PH W H hs es ∧ HOk hs ∧ hs.length ≤ 50 ∧ W ≤ 10000 ∧ TabsN (TT T) H ∧
  ∀ o H', Kp [T.p_l_told] H H' → TabsN (TT T) H' → Fr H o → H' o = some (.lst (dueU W hs es hs.length)) → Q (.ref o) H'
theorem ok_told (T : Txt K mg) (TB : LamX.TabB base mg T.c_l_told T.p_l_told) : FnOk P w K mg base CX0 30 T.f_l_told T.d_l_told ["_law_deeds", "_law_wide"] (spTold T) := by
  have G_Unions_init := Un.ok_ui (P := P) (w := w) (base := base) T
  have G_answers := ok_ans (P := P) (w := w) (base := base) (n := 3) T
  have KB_answers := kb_ans T.F_answers
  refine T.F_l_told.ok sc_l_told (fun vs H Q E h => ?_) (fun A outer s H vs Q E hr h => ?_)
  · obtain ⟨ha, W, hs, es, rfl, _⟩ := h
    rfl
  · obtain ⟨c, W, hs, es, rfl, L0, ph0, hok, hl, hW, t0, q⟩ := h
    refine ⟨_, (pss_cons (ps_set (i := 2) sc_l_told.nd rfl (.inr rfl) (pe_make ⟨T.mk_Unions, T.m_Unions_init, T.t_Unions_init, T.kp_Unions⟩ G_Unions_init (hr.mono (by omega)) rfl T.gc_Unions T.b_Unions_init .nil pass0 (pa_cons (pv 1) pa_nil)))
      (pss_one (ps_ret (Inf.pe_kwT (fun _ => rfl) G_answers (hr.mono (by omega)) rfl T.g_answers T.F_answers.kp KB_answers (pk_cons (pv 0) (pk_cons (Inf.pe_lamP (T := TT T) (nm := nm_l_told) (c := T.c_l_told) (P := T.p_l_told) TB rfl (hm_l_told T) rfl (hu_l_told T) rfl (NdefX.ndef_free (sc := defScope s_l_told) (fr := ["_law_unions"]) (by decide +kernel))) (pk_cons (Inf.pe_lamP (T := TT T) (nm := nm_l_told) (c := T.c_l_told) (P := T.p_l_told) TB rfl (hm_l_told T) rfl (hu_l_told T) rfl (NdefX.ndef_free (sc := defScope s_l_told) (fr := ["_law_unions"]) (by decide +kernel))) (pk_cons (Inf.pe_lamP (T := TT T) (nm := nm_l_told) (c := T.c_l_told) (P := T.p_l_told) TB rfl (hm_l_told T) rfl (hu_l_told T) rfl (NdefX.ndef_free (sc := defScope s_l_told) (fr := ["_law_unions"]) (by decide +kernel))) pk_nil)))))))), ?_⟩
    refine ⟨_, rfl, fun u dx nu ndx nxu => ?_⟩
    have fu := Fr.mk nu
    have fdx := Fr.mk ndx
    have e1 : upd (upd H dx (.own u)) u (.ins T.C_Unions dx []) u = some (.ins T.C_Unions dx []) := upd_same
    have s1 : Same H (upd (upd H dx (.own u)) u (.ins T.C_Unions dx [])) := same_putG fu (same_newF fdx)
    have nuf : ∀ {a : Addr}, Fr (upd (upd H dx (.own u)) u (.ins T.C_Unions dx [])) a → Fr H a := fun f => Fr.mk (s1.free f.h)
    generalize upd (upd H dx (.own u)) u (.ins T.C_Unions dx []) = H1 at e1 s1 nuf ⊢
    refine ⟨u, dx, W, rfl, e1, fun dp dc m H2 fdp fdc fm k2 un2 => ⟨rfl, ?_⟩⟩
    have k02 : Kp [u] H H2 := kp_trans (kp_same s1) k2
    have s02 : Same H H2 := fun b o e => k02.at_ b o e (not_cons (ne_of_none e nu) not_nil)
    have L2 := L0.same s02
    have ph2 := ph0.same s02
    have t2 := tabs_same t0 s02
    refine pGN ?_
    refine ⟨_, rfl, t2, fun fa ca H6 k6 n6 tb6 nf6 hf6 hc6 => ⟨tb6, fun fo co H7 k7 n7 tb7 nf7 hf7 hc7 => ⟨tb7, fun fp' cp H8 k8 n8 tb8 nf8 hf8 hc8 => ⟨rfl, fun cT HT tel => ?_⟩⟩⟩⟩
    obtain ⟨ca', eca, hf6⟩ : ∃ cl, (cl = cloFrom (cxOf CX0 P w K mg base n_l_told "_law_told" (defScope s_l_told) T.f_l_told (Value.ref T.c_l_told) A outer s H E).env.cells (Lt.LA [] 0).scope.names []) ∧ H6 fa = some (Inf.LamO fa (Lt.LA cl ca)) := ⟨_, rfl, hf6⟩
    obtain ⟨co', eco, hf7⟩ : ∃ cl, (cl = cloFrom (cxOf CX0 P w K mg base n_l_told "_law_told" (defScope s_l_told) T.f_l_told (Value.ref T.c_l_told) A outer s H E).env.cells (Lt.LO [] 0).scope.names []) ∧ H7 fo = some (Inf.LamO fo (Lt.LO cl co)) := ⟨_, rfl, hf7⟩
    obtain ⟨cp', ecp, hf8⟩ : ∃ cl, (cl = cloFrom (cxOf CX0 P w K mg base n_l_told "_law_told" (defScope s_l_told) T.f_l_told (Value.ref T.c_l_told) A outer s H E).env.cells (Lt.LP [] 0).scope.names []) ∧ H8 fp' = some (Inf.LamO fp' (Lt.LP cl cp)) := ⟨_, rfl, hf8⟩
    have hc6 : H6 ca = some (LamX.CodeO ca Lt.qN) := hc6
    have hc7 : H7 co = some (LamX.CodeO co Lt.qN) := hc7
    have hc8 : H8 cp = some (LamX.CodeO cp Lt.qN) := hc8
    have k6 : Kp [T.p_l_told] H2 H6 := ⟨fun b o e n => k6 b o e fun z => n (by rw [z]; exact memA)⟩
    have k7 : Kp [T.p_l_told] H6 H7 := ⟨fun b o e n => k7 b o e fun z => n (by rw [z]; exact memA)⟩
    have k8 : Kp [T.p_l_told] H7 H8 := ⟨fun b o e n => k8 b o e fun z => n (by rw [z]; exact memA)⟩
    have nt : ∀ {Ha Hb : Hp} {a : Addr} {o : HO}, TabsN (TT T) Ha → Kp [T.p_l_told] Ha Hb → Ha a = some o → (∀ ps, o ≠ .tbl ps) → Hb a = some o := fun t k e n => k.at_ _ _ e (not_cons (tab_ne t (hm_l_told T) e n) not_nil)
    have up6 : ∀ {a : Addr} {o : HO}, H6 a = some o → (∀ ps, o ≠ .tbl ps) → H8 a = some o := fun e n => nt tb7 k8 (nt tb6 k7 e n) n
    have up2 : ∀ {a : Addr} {o : HO}, H2 a = some o → (∀ ps, o ≠ .tbl ps) → H8 a = some o := fun e n => up6 (nt t2 k6 e n) n
    have un8 : Un.UnAt T.C_Unions H8 u dp dc m W [] := by
      obtain ⟨⟨dx, e1⟩, e2, ⟨c, e3, e4⟩, e5, e6, e7⟩ := un2
      exact ⟨⟨dx, up2 e1 (fun _ z => nomatch z)⟩, up2 e2 (fun _ z => nomatch z), ⟨c, up2 e3 (fun _ z => nomatch z), e4⟩, up2 e5 (fun _ z => nomatch z), e6, e7⟩
    have mt : Mu H2 [T.p_l_told] := tab_mu t2 (hm_l_told T)
    have k28 : Kp [T.p_l_told] H2 H8 := kp_trans k6 (kp_trans k7 k8)
    have L8 : LH H8 c hs := by
      obtain ⟨xs, e1, e2⟩ := L2
      exact ⟨xs, up2 e1 (fun _ z => nomatch z), e2.kp k28 mt⟩
    have ph8 := ph2.kp k28 mt
    obtain ⟨xsT, eT, hhT⟩ := L8.same tel.same
    have unT := un8.same tel.same
    have phT := ph8.same tel.same
    have hR : Lt.RU T.C_Unions u dp dc m W hs es cp' co' ca' fp' cp fo co fa ca [] HT := ⟨⟨tel.lclo (F := Lt.LP cp' cp) (js := [2]) (ws := [.ref u]) Lt.scP ecp Lt.cellN rfl rfl hf8 hc8, tel.lclo (F := Lt.LO co' co) (js := [2]) (ws := [.ref u]) Lt.scO eco Lt.cellN rfl rfl (nt tb7 k8 hf7 (fun _ z => nomatch z)) (nt tb7 k8 hc7 (fun _ z => nomatch z)), tel.lclo (F := Lt.LA ca' ca) (js := [2]) (ws := [.ref u]) Lt.scA eca Lt.cellN rfl rfl (up6 hf6 (fun _ z => nomatch z)) (up6 hc6 (fun _ z => nomatch z))⟩, unT, phT⟩
    refine ⟨.ref fp', .ref fo, .ref fa, c, xsT, hs, [u, dp, dc, m], Lt.RU T.C_Unions u dp dc m W hs es cp' co' ca' fp' cp fo co fa ca, AnU W hs es, rfl, eT, hhT, hok, by omega, hR, fun j g1 g2 => Lt.asU T hok hW g1 (by have := (plan_small hl g1 g2).1; omega) (by have := (plan_small hl g1 g2).2; omega), fun j us o H9 hj1 hj2 k9 fo9 eo9 an9 R9 => ?_⟩
    have mT := un_mu unT
    obtain ⟨t1, t3⟩ := tel_kp tel k9 mT
    have cv := cv_tel tel t1
    have hus := ans_u an9
    rw [due_plan hj1] at hus
    subst hus
    have eo10 := cv _ _ eo9 (fun _ z => nomatch z)
    have tb9 := un_tab un8 tb8 t3
    have fu0 : ∀ x ∈ [u, dp, dc, m], x ∈ [T.p_l_told] ∨ Fr H x := fun x hx => by
      rcases List.mem_cons.mp hx with rfl | hx
      · exact .inr fu
      rcases List.mem_cons.mp hx with rfl | hx
      · exact .inr (nuf fdp)
      rcases List.mem_cons.mp hx with rfl | hx
      · exact .inr (nuf fdc)
      · rw [List.mem_singleton.mp hx]
        exact .inr (nuf fm)
    have k08 : Kp [T.p_l_told] H H8 := kp_trans (kp_same s02) k28
    have k09 : Kp [T.p_l_told] H (cut cT H9) := kp_fresh k08 t3 fu0
    exact ⟨t1, q o _ k09 tb9 (fr_kp k08 (tab_mu tb8 (hm_l_told T)) (Fr.mk (tel.same.free fo9.h))) eo10⟩
end
end Ob

set_option Elab.async false
set_option linter.all false
set_option maxRecDepth 100000
set_option maxHeartbeats 1000000
namespace Ob
open PySem PySem.Spec PyProof.Rows L2
open LamX (Tabs TabB TabS ExtN)

set_option hygiene false in
local macro_rules
  | `(tactic| kp_flats) => `(tactic| first
    | assumption
    | exact upd_same
    | (apply atNew; assumption; kp_flats)
    | (apply atNe; (next => kbo_bools); kp_flats)
    | (apply atSame; assumption; kp_flats)
    | (apply atKp; assumption; (next => kaf_pre); kp_flats))
set_option hygiene false in
local macro_rules
  | `(tactic| kaf_pre) => `(tactic| first
    | assumption
    | exact not_nil
    | (apply not_cons; (next => kbo_bools); kaf_pre)
    | (apply not_app; (next => kaf_pre); kaf_pre))
set_option hygiene false in
local macro_rules
  | `(tactic| kbo_bools) => `(tactic| first
    | assumption
    | (apply Ne.symm; assumption)
    | (apply neN; assumption; kp_flats)
    | (apply neN'; assumption; kp_flats))
set_option hygiene false in
local macro_rules
  | `(tactic| o_reads) => `(tactic| first
    | with_reducible rfl
    | assumption
    | rfl
    | kp_flats
    | (show SqL _ _ _ _; first | assumption | (apply sqlOf; kp_flats) | (apply sqlSame; assumption; o_reads))
    | (show SqT _ _ _ _; first | assumption | (apply sqtOf; kp_flats) | (apply sqtAll; assumption) | (apply sqtSame; assumption; o_reads))
    | (show Cls _ _; first | exact T.cl_Unions)
    | (show NoAttr _ _ _; first | exact T.n_Unions_groups | exact T.n_Unions_parents | exact T.n_Unions_counts | exact T.n_Unions_moved)
    | (apply Or.inl; o_reads)
    | (apply Or.inr; o_reads)
    | (apply And.intro; (next => o_reads); o_reads)
    | (apply Exists.intro; o_reads)
    | exact Nat.le_of_ble_eq_true rfl
    | exact Nat.succ_ne_zero _
    | (show Fr _ _; kba_ints)
    | (show Same _ _; kd_subs)
    | (show Kp _ _ _; kxs_still)
    | (show (_ : Nat) ≤ _; simp only [List.length_append, List.length_map, List.length_cons, List.length_nil, List.length_take, List.length_drop, List.length_replicate, List.length_range, sizeLine_eq]; omega)
    | (show _ = none; apply Fr.h; kba_ints)
    | (show Bag _ _; first | assumption | (apply bag_putF; assumption; o_reads) | (apply bag_neF; (next => kbo_bools); o_reads) | (apply bag_kpR; assumption; (next => kaf_pre); o_reads))
    | omega
    | decide)
local macro_rules
  | `(tactic| o_readsAll) => `(tactic| repeat (first
    | (refine fun (pNew : Addr) (nNew : _ = none) => ?_; replace nNew := Fr.mk nNew)
    | (refine fun (xNew dNew : Addr) (nNew : _ = none) (mNew : _ = none) (eNew : dNew ≠ xNew) => ?_; replace nNew := Fr.mk nNew; replace mNew := Fr.mk mNew)
    | (apply And.intro; next => o_reads)
    | apply Exists.intro (α := V)
    | apply Exists.intro (α := Addr)
    | apply Exists.intro (α := Int)
    | apply Exists.intro (α := Bool)
    | apply Exists.intro (α := List V)
    | apply Exists.intro (α := List Nat)
    | apply Exists.intro (α := List (Str × V))
    | apply Exists.intro (α := List _)
    | apply Exists.intro (α := Str)
    | apply Exists.intro (α := HO)
    | apply Exists.intro (α := Sp)
    | apply Exists.intro (α := VK)))
set_option hygiene false in
local macro_rules
  | `(tactic| kba_ints) => `(tactic| first
    | assumption
    | (apply frUp; (first | assumption | (apply Ne.symm; assumption)); kba_ints)
    | (apply noneOf; assumption; intro oF eF; apply Exists.intro; kp_flats)
    | (apply frUp; (next => kbo_bools); kba_ints))
set_option hygiene false in
local macro_rules
  | `(tactic| kxs_still) => `(tactic| first
    | assumption
    | exact kp_refl _ _
    | (apply kp_newF; assumption; kxs_still)
    | (apply kp_new; assumption; kxs_still)
    | (apply kp_up; (next => o_fieldsN); kxs_still)
    | (apply kp_new; (next => kba_ints); kxs_still)
    | (apply kp_sameR; assumption; kxs_still)
    | (apply kp_transR; assumption; kxs_still)
    | (apply kp_freshR; assumption; (next => kaf_suf); kxs_still))
set_option hygiene false in
local macro_rules
  | `(tactic| kaf_suf) => `(tactic| first
    | assumption
    | exact subNil
    | (apply subCons; (first | (apply Or.inl; o_fieldsN) | (apply Or.inr; kba_ints)); kaf_suf)
    | (apply subApp; (next => kaf_suf); kaf_suf))
set_option hygiene false in
local macro_rules
  | `(tactic| o_fieldsN) => `(tactic| first
    | assumption
    | exact memA
    | (apply memB; o_fieldsN)
    | (apply memL; o_fieldsN)
    | (apply memR; o_fieldsN))
set_option hygiene false in
local macro_rules
  | `(tactic| kd_subs) => `(tactic| first
    | assumption
    | exact Same.refl _
    | (apply same_putF; assumption; kd_subs)
    | (apply same_putG; assumption; kd_subs)
    | (apply same_putF; (next => kba_ints); kd_subs)
    | (apply same_transR; assumption; kd_subs))

set_option pp.maxSteps 900
open NdefX (TabsN)
open Inf (LClo cut mend cellsOf)
/-! ### a def with a table of its own, called where no repr is under way -/
theorem okGT {P : Program} {w : World} {K : PySem.W.Frag} {mg : Str → Option Value} {base : Heap} {x qual : Str} {st : Stmt} {f c : Addr} {fd : FuncData} {N ps : List Str} {k : Nat} {sp : Sp} (F : FunT K x qual st f fd c) (S : FnScope N ps (defScope st)) (len : ∀ vs H Q E, sp vs H Q E → vs.length = ps.length)
    (hbody : ∀ (A : Around) (outer : List Env) (s : Shared) (H : Hp) (vs : List V) (Q : VK) (E : XK), (A.deeper (envOfC qual (defScope st) s.heap.objs.size f (.ref c))).guards = some [] → Room k (A.deeper (envOfC qual (defScope st) s.heap.objs.size f (.ref c))) → sp vs H Q E →
      ∃ t, PSs (cxOf CX0 P w K mg base N qual (defScope st) f (.ref c) A outer s H E).nox (defBody st) t ∧ t { nx := fun _ H' => Q .non H', rt := Q } (L2.start N vs) H) : Inf.FnOkG P w K mg base CX0 (k + 1) f fd ps sp := by
  obtain ⟨oc, od, kV, doc, pm, an, ct, osl, rfl, lk, hcd⟩ := F.ex
  refine ⟨len, fun A outer s H args us vs Q E hga hr e0 hb r hsp => ?_⟩
  have KX : K.In s.heap := e0.mod.kin.keeps fun b o e => (e0.bs b o e).1
  have lim : s.heap.NoLimit := e0.mod.nolimit.keeps fun b o e => (e0.bs b o e).1
  have hl := len _ _ _ _ hsp
  have hkind : ∀ y ∈ ps.zip us, (defScope st).names.lookup y.1 = some .local ∨ ((defScope st).names.lookup y.1 = some .cell ∧ ((cellsFrom (s.heap.objs.size + 1) (defScope st).names []).lookup y.1).isSome = true) := fun ⟨n, v⟩ hy =>
    (S.par n (List.of_mem_zip hy).1).elim .inl fun q => .inr ⟨q, PySem.W.cellsFrom_some _ _ _ (.inl q)⟩
  refine codeAny_call_function hr.depth (KX _ _ lk) rfl S.co S.gen rfl (PySem.W.codeRec_of KX hcd) (hb _ _ _ _ (wpAny_newFunctionEnv_cells S.kind hkind fun env he s1 xx => ?_))
  subst he
  obtain ⟨t, ht, hq⟩ := hbody A outer s H vs Q E hga (hr.deeper _) hsp
  have I : Inv (cxOf CX0 P w K mg base N qual (defScope st) f (.ref c) A outer s H E) [] (L2.start N vs) H s1 := inv_start S hr.hd e0 hl r xx
  refine ⟨lim.keeps xx.toInCall.keep, codeAny_func (wpAny_mono (ht.run [] s1 (L2.start N vs) H _ (I.wish _) hq) (fun fl s' hs => ?_) fun e s' hs => False.elim hs)⟩
  have fin : ∀ {σ' : L2.St} {H' : Hp} {v : V} {u : Value}, Inv (cxOf CX0 P w K mg base N qual (defScope st) f (.ref c) A outer s H E).nox [] σ' H' s' → L2.RelV v u → Q v H' → CE outer P w H s Q u s' :=
    fun {σ' H' v u} J rv q => ⟨v, H', J.os, J.bare, J.base, J.hok, rv, q⟩
  match fl, hs with
  | .ret u, hs => exact hs.elim fun v z => z.elim fun σ' z => z.elim fun H' z => fin z.1 z.2.1 z.2.2
  | .next, hs => exact hs.elim fun σ' z => z.elim fun H' z => fin (v := V.non) (u := Value.none) z.1 rfl z.2
  | .brk, hs => exact hs.elim fun _ z => z.elim fun _ z => False.elim z.2
  | .cont, hs => exact hs.elim fun _ z => z.elim fun _ z => False.elim z.2
theorem same_kp {cs : List Addr} {H0 H H1 : Hp} (s : Same H0 H) (k : Kp cs H H1) (f : ∀ x ∈ cs, Fr H0 x) : Same H0 H1 := fun b o e => k.at_ b o (s b o e) fun m => ne_of_none e (f b m).h rfl
theorem ps_nil {H : Hp} {a : Addr} (h : H a = some (.lst [])) : Un.PsAt H a [] [] := ⟨h, rfl, fun i t p e => by cases i <;> cases e⟩
theorem ps_add {H : Hp} {a t : Addr} {ts : List Addr} {ps : List (Nat × Nat)} {p : Nat × Nat} (h : Un.PsAt H a ts ps) (ht : H t = some (.tup [.int (p.1 : Int), .int (p.2 : Int)])) : Un.PsAt (upd H a (.lst (ts.map V.ref ++ [V.ref t]))) a (ts ++ [t]) (ps ++ [p]) := by
  have m : Mu H [a] := mu_lst h.l mu_nil
  have k : Kp [a] H (upd H a (.lst (ts.map V.ref ++ [V.ref t]))) := kp_up memA (kp_refl _ _)
  refine ⟨by rw [upd_same, List.map_append]; rfl, by rw [List.length_append, List.length_append, h.n]; rfl, fun i u q e1 e2 => ?_⟩
  by_cases c : i < ts.length
  · rw [List.getElem?_append_left c] at e1
    rw [List.getElem?_append_left (by rw [← h.n]; exact c)] at e2
    exact kp_tup k m (h.t i u q e1 e2)
  · rw [List.getElem?_append_right (by omega)] at e1
    rw [List.getElem?_append_right (by rw [← h.n]; omega), ← h.n] at e2
    match i - ts.length, e1, e2 with
    | 0, e1, e2 =>
      cases e1
      cases e2
      exact kp_tup k m ht
    | r + 1, e1, _ => cases r <;> cases e1
theorem pres_adds {hs : List HEv} : ∀ {k : Nat}, k ≤ hs.length → ∀ i ∈ presU hs k, ∃ v, hs[i]? = some (.add v)
  | 0, _, i, m => nomatch m
  | k + 1, hk, i, m => by
    obtain ⟨e, hee, _, hp⟩ := ends_step (hs := hs) (k := k) hk
    rw [hp] at m
    match e, hee, m with
    | .add v, hee, m =>
      rcases List.mem_append.mp m with m | m
      · exact pres_adds (Nat.le_of_succ_le hk) i m
      · rw [List.mem_singleton.mp m]
        exact ⟨v, hee⟩
    | .rem j, _, m => exact pres_adds (Nat.le_of_succ_le hk) i (List.mem_filter.mp m).1
    | .ask v, _, m => exact pres_adds (Nat.le_of_succ_le hk) i m
theorem due_step {W : Nat} {hs : List HEv} {es : List PEv} {k : Nat} {e : HEv} (h : hs[k]? = some e) : dueU W hs es (k + 1) = dueU W hs es k ++ (if e.isAsk = true then [ansF W hs es k] else []) := by
  unfold dueU
  rw [asks_app, List.map_append, Nat.zero_add]
  congr 1
  have : asksOf (hs.map HEv.isAsk) k 1 = if e.isAsk = true then [k] else [] := by
    show ([k].filter fun i => decide ((hs.map HEv.isAsk)[i]? = some true)) = _
    rw [List.filter_cons, List.filter_nil, List.getElem?_map, h]
    cases e <;> rfl
  rw [this]
  split <;> rfl
theorem due_len {W : Nat} {hs : List HEv} {es : List PEv} {k : Nat} : (dueU W hs es k).length ≤ k := by
  unfold dueU asksOf
  rw [List.length_map]
  refine Nat.le_trans (List.length_filter_le _ _) ?_
  rw [List.length_range']
  exact Nat.le_refl _
theorem ask_in {hs : List HEv} {i n : Nat} (h : i ∈ asksOf (hs.map HEv.isAsk) 0 n) : ∃ v, hs[i]? = some (.ask v) := by
  have h2 := of_decide_eq_true (List.mem_filter.mp h).2
  rw [List.getElem?_map] at h2
  obtain ⟨e, he, h3⟩ := Option.map_eq_some_iff.mp h2
  match e, h3 with
  | .ask v, _ => exact ⟨v, he⟩
def dueD (W : Nat) (hs : List HEv) (es : List PEv) : PyData := .list ((asksOf (hs.map HEv.isAsk) 0 hs.length).map fun i => ansD W (pairsF es (presU hs i)) (qnF es i))
theorem lay_due {W : Nat} {hs : List HEv} {es : List PEv} : ∀ l : List Nat, PyData.canLayAll0 (l.map fun i => ansD W (pairsF es (presU hs i)) (qnF es i)) = true ∧ PyData.depthAll (l.map fun i => ansD W (pairsF es (presU hs i)) (qnF es i)) ≤ 1
  | [] => ⟨rfl, Nat.zero_le _⟩
  | x :: l => by
    obtain ⟨a, b⟩ := lay_due (W := W) (hs := hs) (es := es) l
    have h0 : PyData.canLay0 (ansD W (pairsF es (presU hs x)) (qnF es x)) = true ∧ PyData.depth (ansD W (pairsF es (presU hs x)) (qnF es x)) ≤ 1 := by
      cases qnF es x with
      | same a b => exact ⟨rfl, Nat.zero_le _⟩
      | size a => exact ⟨rfl, Nat.zero_le _⟩
      | groups => exact ⟨rfl, Nat.zero_le _⟩
    refine ⟨?_, ?_⟩
    · rw [List.map_cons]
      simp only [PyData.canLayAll0, a, h0.1, Bool.and_self]
    · rw [List.map_cons]
      exact Nat.max_le.mpr ⟨h0.2, b⟩
theorem sh_due {W : Nat} {hs : List HEv} {es : List PEv} : SeqAt.shaped (dueD W hs es) = true := by
  obtain ⟨a, b⟩ := lay_due (W := W) (hs := hs) (es := es) (asksOf (hs.map HEv.isAsk) 0 hs.length)
  unfold SeqAt.shaped dueD
  rw [Bool.and_eq_true]
  refine ⟨?_, decide_eq_true ?_⟩
  · simp only [PyData.canLay0, a]
  · simp only [PyData.depth]
    omega
theorem dp_due {K : PySem.W.Frag} {H H1 : Hp} {W : Nat} {hs : List HEv} {es : List PEv} {o : Addr} (ho : H o = some (.lst (dueU W hs es hs.length))) (hW : W ≤ 1000) (hl : hs.length ≤ 100) (ph : PH W H1 hs es) : Dp K H (.ref o) (dueD W hs es) ∧ Shw (2 ^ 20) 64 (dueD W hs es) :=
  dp_anss ho hW (by
    have := due_len (W := W) (hs := hs) (es := es) (k := hs.length)
    unfold dueU at this
    rw [List.length_map] at this
    omega) fun i m => by
    obtain ⟨v, hv⟩ := ask_in m
    have hi := (List.getElem?_eq_some_iff.mp hv).1
    obtain ⟨_, _, _, h3⟩ := ph.qn hv
    have := pres_len (hs := hs) (k := i)
    exact ⟨ph.wide (pres_adds (by omega)), h3, by omega⟩
theorem eq_sh {d : PyData} (h : SeqAt.shaped d = true) : (!PyData.eqv d d) = false := by
  rw [SeqAt.eqv_refl _ (SeqAt.canLay_of_shaped h)]
  rfl
theorem sql_kp {K : PySem.W.Frag} {cs : List Addr} {H H1 : Hp} {a : Addr} {xs : List V} (h : SqL K H a xs) (k : Kp cs H H1) (n : ∀ o, H a = some o → (∀ ps, o ≠ .tbl ps) → a ∉ cs) : SqL K H1 a xs := by
  rcases h with (h | ⟨o, h⟩) | h
  · exact .inl (.inl (k.at_ _ _ h (n _ h (fun _ z => nomatch z))))
  · exact .inl (.inr ⟨o, k.at_ _ _ h (n _ h (fun _ z => nomatch z))⟩)
  · exact .inr h
section
variable {P : Program} {w : World} {K : PySem.W.Frag} {mg : Str → Option Value} {base : Heap}
def spLaw (T : Txt K mg) : Sp := fun vs H Q _ => ∃ (a : Addr) (ns : List Int), vs = [.ref a] ∧ SqL K H a (ns.map V.int) ∧ ns.length ≤ 63 ∧ H T.p_l_told = some (.tbl #[]) ∧ H T.p_law = some (.tbl #[]) ∧ ∀ H', Q (.bl true) H'
theorem ok_law (T : Txt K mg) (TB1 : LamX.TabB base mg T.c_l_told T.p_l_told) (TB : LamX.TabB base mg T.c_law T.p_law) {f : Addr} {d : FuncData} (F : FunT K "law" "law" s_law f d T.c_law) : Inf.FnOkG P w K mg base CX0 40 f d ["_law_script"] (spLaw T) := by
  have G_l_bag := ok_bag (P := P) (w := w) (base := base) T
  have G_l_take := ok_takeK (P := P) (w := w) (base := base) T
  have G_l_history := ok_hist (P := P) (w := w) (base := base) T
  have G_l_present := ok_pres (P := P) (w := w) (base := base) T
  have G_l_answer := Un.ok_answer (P := P) (w := w) (base := base) T
  have G_Unions_init := Un.ok_ui (P := P) (w := w) (base := base) T
  have G_answers := ok_ans (P := P) (w := w) (base := base) (n := 3) T
  have G_l_told := ok_told (P := P) (w := w) T TB1
  refine okGT F sc_law (fun vs H Q E h => ?_) (fun A outer s H vs Q E hG hr h => ?_)
  · obtain ⟨a, ns, rfl, _⟩ := h
    rfl
  · obtain ⟨a0, ns0, rfl, hS, hlen, hp1, hp2, q⟩ := h
    have t0 : TabsN (TT T) H := fun p hp => by
      rcases List.mem_cons.mp hp with rfl | hp
      · exact NdefX.TabN.nil hp1
      · rw [List.mem_singleton.mp hp]
        exact NdefX.TabN.nil hp2
    refine ⟨_, (pss_cons (ps_for PassesOwn.never rfl (pi_range1 (by rfl) T.z_range (pa_cons (pe_callB (call_max2 rfl) (by rfl) T.z_max (by decide +kernel) (pa_cons pe_int (pa_cons (pe_callB (call_min2 rfl) (by rfl) T.z_min (by decide +kernel) (pa_cons pe_int (pa_cons (pe_callB call_len_seq (by rfl) T.z_len (by decide +kernel) (pa_cons (pv 0) pa_nil)) pa_nil))) pa_nil))) pa_nil)) (pg_name (i := 1) sc_law.nd rfl (.inl rfl)) (pss_cons (ps_set (i := 2) sc_law.nd rfl (.inl rfl) (pe_call G_l_bag (hr.mono (by omega)) rfl T.g_l_bag T.F_l_bag.kp T.b_l_bag .nil pass0 (pa_cons (pv 0) (pa_cons (pv 1) pa_nil))))
        (pss_cons (ps_set (i := 3) sc_law.nd rfl (.inl rfl) (pe_op op_add pe_int (pe_call G_l_take (hr.mono (by omega)) rfl T.g_l_take T.F_l_take.kp T.b_l_take .nil pass0 (pa_cons (pv 2) (pa_cons pe_int pa_nil)))))
        (pss_cons (ps_asg (pe_tup (pa_cons (pe_call G_l_history (hr.mono (by omega)) rfl T.g_l_history T.F_l_history.kp T.b_l_history .nil pass0 (pa_cons (pv 2) (pa_cons pe_int (pa_cons (pv 3) pa_nil)))) (pa_cons (pe_lst pa_nil) pa_nil))) (pg_tup (by rfl) (pgs_cons (pg_name (i := 4) sc_law.nd rfl (.inr rfl)) (pgs_cons (pg_name (i := 5) sc_law.nd rfl (.inl rfl)) pgs_nil))))
        (pss_cons (ps_for PassesOwn.never rfl (pi_enum (by rfl) T.z_enumerate (pa_cons (pv 4) pa_nil)) (pg_tup (by rfl) (pgs_cons (pg_name (i := 6) sc_law.nd rfl (.inl rfl)) (pgs_cons (pg_name (i := 7) sc_law.nd rfl (.inl rfl)) pgs_nil))) (pss_one (ps_if (pt_cmpR op_eq (pe_ix (r := rIxT K) ix_tup (pv 7) pe_int (fun _ _ => rfl)) pe_str (nomark _)) (pss_cons (ps_setLc (i := 8) (own := [("_law_one", 12)]) (g := gName 12) (tt := tYes) rfl sc_law.nd rfl rfl (sw_true rfl rfl rfl (by decide +kernel)) (pi_list (pe_call G_l_present (hr.mono (by omega)) rfl T.g_l_present T.F_l_present.kp T.b_l_present .nil pass0 (pa_cons (pv 4) (pa_cons (pv 6) pa_nil)))) (blkOk_by (N := n_law) (sc := defScope s_law) (by decide +kernel)) (fun _ _ _ _ _ => (pg_name (i := 12) sc_law.nd rfl (.inl rfl))) (fun _ _ _ _ _ => pts_nil) (fun _ _ _ _ _ => (pe_ix (r := rIxT K) ix_tup (pe_ix (r := rIxL K) ix_list (pv 4) (pv 12) (fun _ _ => rfl)) pe_int (fun _ _ => rfl))))
            (pss_one (ps_expr (pe_bm PySem.F.plainAttrs_list PySem.F.slot_list_append PySem.F.type_list_append mt_append (pv 5) (pa_cons (pe_call G_l_answer (hr.mono (by omega)) rfl T.g_l_answer T.F_l_answer.kp T.b_l_answer .nil pass0 (pa_cons (pv 8) (pa_cons (pv 3) (pa_cons (pe_ix (r := rIxT K) ix_tup (pv 7) pe_int (fun _ _ => rfl)) pa_nil)))) pa_nil))))) pss_nil)))
        (pss_cons (ps_asg (pe_tup (pa_cons (pe_callB (Inf.call_reprD hG (u16 hr)) (by rfl) T.z_repr (by decide +kernel) (pa_cons (pv 4) pa_nil)) (pa_cons (pe_make ⟨T.mk_Unions, T.m_Unions_init, T.t_Unions_init, T.kp_Unions⟩ G_Unions_init (hr.mono (by omega)) rfl T.gc_Unions T.b_Unions_init .nil pass0 (pa_cons (pv 3) pa_nil)) pa_nil))) (pg_tup (by rfl) (pgs_cons (pg_name (i := 9) sc_law.nd rfl (.inl rfl)) (pgs_cons (pg_name (i := 10) sc_law.nd rfl (.inr rfl)) pgs_nil))))
        (pss_cons (ps_set (i := 11) sc_law.nd rfl (.inl rfl) (Inf.pe_callT (fun _ => rfl) G_answers (hr.mono (by omega)) rfl T.g_answers T.F_answers.kp T.b_answers .nil (pa_cons (Inf.pe_lamP (T := TT T) (nm := nm_law) (c := T.c_law) (P := T.p_law) TB rfl (hm_law T) rfl (hu_law T) rfl (NdefX.ndef_free (sc := defScope s_law) (fr := ["_law_unions"]) (by decide +kernel))) (pa_cons (Inf.pe_lamP (T := TT T) (nm := nm_law) (c := T.c_law) (P := T.p_law) TB rfl (hm_law T) rfl (hu_law T) rfl (NdefX.ndef_free (sc := defScope s_law) (fr := ["_law_unions"]) (by decide +kernel))) (pa_cons (Inf.pe_lamP (T := TT T) (nm := nm_law) (c := T.c_law) (P := T.p_law) TB rfl (hm_law T) rfl (hu_law T) rfl (NdefX.ndef_free (sc := defScope s_law) (fr := ["_law_unions"]) (by decide +kernel))) (pa_cons (pv 4) pa_nil))))))
        (pss_one (ps_if (PW.pt (pw_or (pt_cmpR op_ne (pe_callB (Inf.call_reprD hG (u16 hr)) (by rfl) T.z_repr (by decide +kernel) (pa_cons (pv 11) pa_nil)) (pe_callB (Inf.call_reprD hG (u16 hr)) (by rfl) T.z_repr (by decide +kernel) (pa_cons (pv 5) pa_nil)) (nomark _)) (pw_or (pt_cmpR op_ne (pe_callB (Inf.call_reprD hG (u16 hr)) (by rfl) T.z_repr (by decide +kernel) (pa_cons (pv 4) pa_nil)) (pv 9) (nomark _)) (pw_or1 (pt_cmpR (op_neD hr.units) (pe_call G_l_told (hr.mono (by omega)) rfl T.g_l_told T.F_l_told.kp T.b_l_told .nil pass0 (pa_cons (pv 4) (pa_cons (pv 3) pa_nil))) (pv 5) (nomark _)))))) (pss_one (ps_ret pe_bl)) pss_nil)))))))))
      (pss_one (ps_ret pe_bl))), ?_⟩
    refine ⟨_, rfl, a0, _, rfl, .inl hS, 4, _, rfl, 1, _, rfl, _, rfl, ?_, ?_, ?_⟩
    · split <;> split <;> omega
    · split <;> split <;> omega
    generalize hN : ((if (if (((ns0.map V.int).length : Nat) : Int) < 4 then (((ns0.map V.int).length : Nat) : Int) else 4) > 1 then (if (((ns0.map V.int).length : Nat) : Int) < 4 then (((ns0.map V.int).length : Nat) : Int) else 4) else 1) : Int).toNat = N
    have hN2 : N ≤ 5 := by
      rw [← hN]
      split <;> split <;> omega
    refine for_range (n := N) (fun i σ H' => ∃ y1 y2 y3 y4 y5 y6 y7 y8 y9 y10 y11 y12, σ = [some (.ref a0), y1, y2, y3, y4, y5, y6, y7, y8, y9, y10, y11, y12] ∧ TabsN (TT T) H' ∧ SqL K H' a0 (ns0.map V.int)) ⟨_, _, _, _, _, _, _, _, _, _, _, _, rfl, t0, hS⟩ ?_ ?_
    · rintro i σ Hz hi ⟨y1, y2, y3, y4, y5, y6, y7, y8, y9, y10, y11, y12, rfl, tz, sz⟩
      refine ⟨_, rfl, _, rfl, a0, ns0, i, by rw [Int.zero_add]; rfl, sz, by omega, fun p H1 np s1 b1 => pGN ?_⟩
      have fp := Fr.mk np
      dsimp only []
      simp only [List.set_cons_succ, List.set_cons_zero]
      refine ⟨_, rfl, p, 7, rfl, b1, by decide, by decide, fun r H2 r0 r1 b2 k2 => ⟨_, _, rfl, rfl, pGN ?_⟩⟩
      obtain ⟨W, hW1, hW2, hW3⟩ : ∃ W : Nat, 1 + r = (W : Int) ∧ 0 < W ∧ W ≤ 100 := ⟨(1 + r).toNat, by omega, by omega, by omega⟩
      dsimp only []
      simp only [List.set_cons_succ, List.set_cons_zero]
      rw [hW1]
      refine ⟨_, rfl, _, rfl, p, 40, W, rfl, by decide, hW2, hW3, b2, fun c hs es H3 k3 b3 fc L3 ph3 hok hl => ⟨Nat.zero_le _, fun du ndu => ⟨le2, fun t nt => ?_⟩⟩⟩
      have s3 : Same Hz H3 := same_kp s1 (kp_trans k2 k3) (subCons fp subNil)
      have fdu := Fr.mk ndu
      have ft := Fr.mk nt
      have s35 := (same_newF (o := .lst []) fdu).trans (same_newF (o := .tup [.ref c, .ref du]) ft)
      have edu : upd (upd H3 du (.lst [])) t (.tup [.ref c, .ref du]) du = some (.lst []) := atNew ft upd_same
      refine ⟨t, _, rfl, sqtOf upd_same, rfl, _, _, rfl, _, _, rfl, rfl, ?_⟩
      dsimp only []
      simp only [List.set_cons_succ, List.set_cons_zero]
      have L5 := L3.same s35
      have ph5 := ph3.same s35
      have s5 := s3.trans s35
      have ncd : c ≠ du := by
        obtain ⟨xs, e1, _⟩ := L3
        exact ne_of_none e1 ndu
      generalize upd (upd H3 du (.lst [])) t (.tup [.ref c, .ref du]) = H5 at s35 edu L5 ph5 s5 ⊢
      obtain ⟨xs, e5, hh5⟩ := id L5
      have hlx := hh5.len
      refine ⟨_, rfl, c, xs, rfl, sqlOf e5, ?_⟩
      refine for_it (walk_enum (K := K) (a := c) (xs := xs)) (fun k σ H' => ∃ y6 y7 y8 y12, σ = [some (.ref a0), some (.int (0 + (i : Int))), some (.ref p), some (.int (W : Int)), some (.ref c), some (.ref du), y6, y7, y8, y9, y10, y11, y12] ∧ Kp [du] H5 H' ∧ H' du = some (.lst (dueU W hs es k))) ⟨_, _, _, _, rfl, kp_refl _ _, edu⟩ (fun k σ H' _ ⟨_, _, _, _, _, z, _⟩ => sqlOf (z.at_ _ _ e5 (not_cons ncd not_nil))) ?_ ?_
      · rintro k x σ H6' H6 hk ⟨y6, y7, y8, y12, rfl, k6, ed6⟩ ⟨T', vx, vy, rfl, nT, rfl, hx, hy⟩
        obtain rfl : V.int ((k : Nat) : Int) = vx := Option.some.inj hx
        have hkl : k < hs.length := by omega
        have hee : hs[k]? = some (hs[k]'hkl) := List.getElem?_eq_getElem hkl
        generalize hs[k]'hkl = e at hee
        obtain ⟨te, rfl, hte⟩ := hh5.at_ k vy e hy hee
        have fT := Fr.mk nT
        have m5 : Mu H5 [du] := mu_lst edu mu_nil
        have k7 : Kp [du] H5 (upd H6' T' (.tup [.int (k : Int), .ref te])) := kp_new fT k6
        have eT : upd H6' T' (.tup [.int (k : Int), .ref te]) T' = some (.tup [.int (k : Int), .ref te]) := upd_same
        have ed7 : upd H6' T' (.tup [.int (k : Int), .ref te]) du = some (.lst (dueU W hs es k)) := atNew fT ed6
        generalize upd H6' T' (.tup [.int (k : Int), .ref te]) = H7 at eT k7 ed7 ⊢
        have ht7 := kp_tup k7 m5 hte
        have L7 := L5.kpn k7 m5 (not_cons ncd not_nil)
        have ph7 := ph5.kp k7 m5
        refine ⟨T', _, rfl, sqtOf eT, rfl, _, _, rfl, _, _, rfl, rfl, ?_⟩
        simp only [List.set_cons_succ, List.set_cons_zero]
        refine ⟨_, rfl, te, _, 0, _, rfl, rfl, sqtOf ht7, atI_nat (j := 0) rfl, rfl, _, rfl, ?_⟩
        rw [due_step hee]
        by_cases ck : e.isAsk = true
        · rw [if_pos ck]
          obtain ⟨v, rfl⟩ : ∃ v, e = .ask v := by
            match e, ck with
            | .ask v, _ => exact ⟨v, rfl⟩
          refine ifT (by show decide (V.str "ask" = V.str "ask") = true; decide +kernel) ?_
          refine ⟨_, rfl, _, rfl, c, hs, k, rfl, L7, hok, by omega, by omega, fun pr H8 s8 fpr epr => ⟨pr, rfl, ⟨_, sqlOf epr⟩, fun D nD => ?_⟩⟩
          have fD := Fr.mk nD
          refine lc_it (walk_list (K := K) (a := pr) (xs := (presU hs k).map nV)) (fun q H' => Same H8 H' ∧ ∃ ts, Un.PsAt H' D ts (pairsF es ((presU hs k).take q))) ⟨same_newF fD, [], ps_nil upd_same⟩ (fun q H' _ z => sqlOf (z.1 _ _ epr)) ?_ ?_
          · rintro q2 x H16' H16 hq2 ⟨s16, ts, pst⟩ ⟨rfl, hx2⟩
            rw [List.length_map] at hq2
            rw [List.getElem?_map] at hx2
            obtain ⟨ix, hix, rfl⟩ := Option.map_eq_some_iff.mp hx2
            obtain ⟨vp, hvp⟩ := pres_adds (hs := hs) (k := k) (by omega) ix (List.mem_of_getElem? hix)
            have hixl : ix < hs.length := (List.getElem?_eq_some_iff.mp hvp).1
            obtain ⟨tx, hxx, htx⟩ : ∃ tx, xs[ix]? = some (.ref tx) ∧ H5 tx = some (.tup [.str (HEv.add vp).w, (HEv.add vp).v]) := by
              have h1 : xs[ix]? = some (xs[ix]'(by omega)) := List.getElem?_eq_getElem _
              obtain ⟨tx, g1, g2⟩ := hh5.at_ ix _ _ h1 hvp
              exact ⟨tx, by rw [h1, g1], g2⟩
            obtain ⟨tp, rfl, htp, _, _⟩ := ph7.pair hvp
            have s76 := s8.trans s16
            have ec16 := s76 _ _ (k7.at_ _ _ e5 (not_cons ncd not_nil))
            have htx16 := s76 _ _ (kp_tup k7 m5 htx)
            have htp16 := s76 _ _ htp
            refine ⟨rfl, ?_⟩
            unfold tYes
            refine ifT rfl ?_
            have htk : pairsF es ((presU hs k).take (q2 + 1)) = pairsF es ((presU hs k).take q2) ++ [prF es ix] := by
              rw [List.take_succ, hix, pairs_app]
              rfl
            have lts : ts.length ≤ q2 := by
              rw [pst.n]
              unfold pairsF
              rw [List.length_map]
              exact List.length_take_le _ _
            have lpk := pres_len (hs := hs) (k := k)
            refine ⟨_, rfl, _, rfl, c, xs, _, .ref tx, rfl, rfl, sqlOf ec16, atI_nat (j := ix) hxx, tx, _, 1, _, rfl, rfl, sqtOf htx16, atI_nat (j := 1) rfl, _, pst.l, by rw [List.length_map, sizeLine_eq]; omega, same_putG fD s16, ts ++ [tp], ?_⟩
            rw [htk]
            exact ps_add pst htp16
          · rintro H16 ⟨s16, ts, pst⟩
            rw [List.take_of_length_le (by rw [List.length_map]; exact Nat.le_refl _)] at pst
            refine pGN ?_
            simp only [List.set_cons_succ, List.set_cons_zero]
            have s76 := s8.trans s16
            obtain ⟨tq, rfl, htq, hqw⟩ := ph7.qn hee
            have lpk := pres_len (hs := hs) (k := k)
            have ld := due_len (W := W) (hs := hs) (es := es) (k := k)
            refine ⟨_, rfl, .inl ⟨rfl, _, sqlOf (s76 _ _ ed7)⟩, _, rfl, _, rfl, _, rfl, te, _, 1, _, rfl, rfl, sqtOf (s76 _ _ ht7), atI_nat (j := 1) rfl, D, tq, ts, pairsF es (presU hs k), W, qnF es k, rfl, pst, ?_, ph7.wide (pres_adds (by omega)), hW2, hW3, s76 _ _ htq, hqw, fun H' s' => ⟨du, _, _, rfl, rfl, s' _ _ (s76 _ _ ed7), by rw [sizeLine_eq]; omega, ?_⟩⟩
            · unfold pairsF
              rw [List.length_map]
              omega
            · exact ⟨_, _, _, _, rfl, kp_up memA (kp_trans k7 (kp_same (s76.trans s'))), upd_same⟩
        · rw [if_neg ck, List.append_nil]
          have hne : decide (V.str e.w = V.str "ask") = false := by
            match e, ck with
            | .add v, _ => show decide (V.str "add" = V.str "ask") = false; decide +kernel
            | .rem v, _ => show decide (V.str "remove" = V.str "ask") = false; decide +kernel
            | .ask v, ck => exact absurd rfl ck
          exact ifF hne ⟨_, _, _, _, rfl, k7, ed7⟩
      · rintro σ H6 ⟨y6, y7, y8, y12, rfl, k6, ed6⟩
        rw [hlx] at ed6
        have m5 : Mu H5 [du] := mu_lst edu mu_nil
        have fduz : Fr Hz du := Fr.mk (s3.free ndu)
        have sz6 : Same Hz H6 := same_kp s5 k6 (subCons fduz subNil)
        have t6 := tabs_same tz sz6
        have L6 := L5.kpn k6 m5 (not_cons ncd not_nil)
        have ph6 := ph5.kp k6 m5
        clear edu L5 ph5 k6 m5 e5 hh5 L3 ph3 k3 k2 b3 b2 b1
        obtain ⟨dl6, shl⟩ := dp_hs (K := K) L6 ph6 hok (by omega) (by omega)
        dsimp only []
        refine ⟨_, rfl, .ref c, .list (es.map evD), rfl, dl6, shl.sh, shl.nd, shl.dp, shl.fits (Nat.le_refl _), dp_int dl6 shl.sh, _, rfl, fun u dx nu ndx nxu => ?_⟩
        have fu := Fr.mk nu
        have fdx := Fr.mk ndx
        have e1 : upd (upd H6 dx (.own u)) u (.ins T.C_Unions dx []) u = some (.ins T.C_Unions dx []) := upd_same
        have s1' : Same H6 (upd (upd H6 dx (.own u)) u (.ins T.C_Unions dx [])) := same_putG fu (same_newF fdx)
        generalize upd (upd H6 dx (.own u)) u (.ins T.C_Unions dx []) = H7 at e1 s1' ⊢
        refine ⟨u, dx, W, rfl, e1, fun dp dc m H8 fdp fdc fm k8 un8 => ⟨rfl, le2, fun t2 nt2 => ?_⟩⟩
        have k68 : Kp [u] H6 H8 := kp_trans (kp_same s1') k8
        have s68 : Same H6 H8 := fun b o e => k68.at_ b o e (not_cons (ne_of_none e nu) not_nil)
        have s89 := same_newF (o := .tup [.str (PyData.list (es.map evD)).shown, .ref u]) (Fr.mk nt2)
        have s69 := s68.trans s89
        refine ⟨t2, _, rfl, sqtOf upd_same, rfl, _, _, rfl, _, _, rfl, rfl, ?_⟩
        dsimp only []
        simp only [List.set_cons_succ, List.set_cons_zero]
        have L9 := L6.same s69
        have ph9 := ph6.same s69
        have un9 := un8.same s89
        have t9 := tabs_same t6 s69
        have sz9 := sz6.trans s69
        have ed9 := s69 _ _ ed6
        have frU : ∀ x ∈ [u, dp, dc, m], Fr H6 x := fun x hx => by
          rcases List.mem_cons.mp hx with rfl | hx
          · exact fu
          rcases List.mem_cons.mp hx with rfl | hx
          · exact Fr.mk (s1'.free fdp.h)
          rcases List.mem_cons.mp hx with rfl | hx
          · exact Fr.mk (s1'.free fdc.h)
          · rw [List.mem_singleton.mp hx]
            exact Fr.mk (s1'.free fm.h)
        generalize upd H8 t2 (.tup [.str (PyData.list (es.map evD)).shown, .ref u]) = H9 at s89 s69 L9 ph9 un9 t9 sz9 ed9 ⊢
        clear un8 s89 s68 k68 nt2 e1 s1' k8
        refine ⟨t9, fun fp' cp H10 k10 n10 tb10 nf10 hf10 hc10 => ⟨tb10, fun fo co H11 k11 n11 tb11 nf11 hf11 hc11 => ⟨tb11, fun fa ca H12 k12 n12 tb12 nf12 hf12 hc12 => ⟨_, rfl, fun cT HT tel => ?_⟩⟩⟩⟩
        obtain ⟨cp', ecp, hf10⟩ : ∃ cl, (cl = cloFrom (cxOf CX0 P w K mg base n_law "law" (defScope s_law) f (Value.ref T.c_law) A outer s H E).env.cells (La.LP [] 0).scope.names []) ∧ H10 fp' = some (Inf.LamO fp' (La.LP cl cp)) := ⟨_, rfl, hf10⟩
        obtain ⟨co', eco, hf11⟩ : ∃ cl, (cl = cloFrom (cxOf CX0 P w K mg base n_law "law" (defScope s_law) f (Value.ref T.c_law) A outer s H E).env.cells (La.LO [] 0).scope.names []) ∧ H11 fo = some (Inf.LamO fo (La.LO cl co)) := ⟨_, rfl, hf11⟩
        obtain ⟨ca', eca, hf12⟩ : ∃ cl, (cl = cloFrom (cxOf CX0 P w K mg base n_law "law" (defScope s_law) f (Value.ref T.c_law) A outer s H E).env.cells (La.LA [] 0).scope.names []) ∧ H12 fa = some (Inf.LamO fa (La.LA cl ca)) := ⟨_, rfl, hf12⟩
        have hc10 : H10 cp = some (LamX.CodeO cp La.qN) := hc10
        have hc11 : H11 co = some (LamX.CodeO co La.qN) := hc11
        have hc12 : H12 ca = some (LamX.CodeO ca La.qN) := hc12
        have k10 : Kp [T.p_law] H9 H10 := ⟨fun b o e n => k10 b o e fun z => n (by rw [z]; exact memA)⟩
        have k11 : Kp [T.p_law] H10 H11 := ⟨fun b o e n => k11 b o e fun z => n (by rw [z]; exact memA)⟩
        have k12 : Kp [T.p_law] H11 H12 := ⟨fun b o e n => k12 b o e fun z => n (by rw [z]; exact memA)⟩
        have nt : ∀ {Ha Hb : Hp} {a : Addr} {o : HO}, TabsN (TT T) Ha → Kp [T.p_law] Ha Hb → Ha a = some o → (∀ ps, o ≠ .tbl ps) → Hb a = some o := fun t k e n => k.at_ _ _ e (not_cons (tab_ne t (hm_law T) e n) not_nil)
        have up10 : ∀ {a : Addr} {o : HO}, H10 a = some o → (∀ ps, o ≠ .tbl ps) → H12 a = some o := fun e n => nt tb11 k12 (nt tb10 k11 e n) n
        have up9 : ∀ {a : Addr} {o : HO}, H9 a = some o → (∀ ps, o ≠ .tbl ps) → H12 a = some o := fun e n => up10 (nt t9 k10 e n) n
        have un12 : Un.UnAt T.C_Unions H12 u dp dc m W [] := by
          obtain ⟨⟨dx, e1⟩, e2, ⟨c, e3, e4⟩, e5, e6, e7⟩ := un9
          exact ⟨⟨dx, up9 e1 (fun _ z => nomatch z)⟩, up9 e2 (fun _ z => nomatch z), ⟨c, up9 e3 (fun _ z => nomatch z), e4⟩, up9 e5 (fun _ z => nomatch z), e6, e7⟩
        have mt : Mu H9 [T.p_law] := tab_mu t9 (hm_law T)
        have k912 : Kp [T.p_law] H9 H12 := kp_trans k10 (kp_trans k11 k12)
        have L12 : LH H12 c hs := by
          obtain ⟨xs, e1, e2⟩ := L9
          exact ⟨xs, up9 e1 (fun _ z => nomatch z), e2.kp k912 mt⟩
        have ph12 := ph9.kp k912 mt
        have ed12 := up9 ed9 (fun _ z => nomatch z)
        obtain ⟨xsT, eT, hhT⟩ := L12.same tel.same
        have unT := un12.same tel.same
        have phT := ph12.same tel.same
        have hR : La.RU T.C_Unions u dp dc m W hs es cp' co' ca' fp' cp fo co fa ca [] HT := ⟨⟨tel.lclo (F := La.LP cp' cp) (js := [10]) (ws := [.ref u]) La.scP ecp La.cellN rfl rfl (up10 hf10 (fun _ z => nomatch z)) (up10 hc10 (fun _ z => nomatch z)), tel.lclo (F := La.LO co' co) (js := [10]) (ws := [.ref u]) La.scO eco La.cellN rfl rfl (nt tb11 k12 hf11 (fun _ z => nomatch z)) (nt tb11 k12 hc11 (fun _ z => nomatch z)), tel.lclo (F := La.LA ca' ca) (js := [10]) (ws := [.ref u]) La.scA eca La.cellN rfl rfl hf12 hc12⟩, unT, phT⟩
        refine ⟨.ref fp', .ref fo, .ref fa, c, xsT, hs, [u, dp, dc, m], La.RU T.C_Unions u dp dc m W hs es cp' co' ca' fp' cp fo co fa ca, AnU W hs es, rfl, eT, hhT, hok, by omega, hR, fun j g1 g2 => La.asU T hok (by omega) g1 (by have := (plan_small (by omega) g1 g2).1; omega) (by have := (plan_small (by omega) g1 g2).2; omega), fun j us o H13 hj1 hj2 k13 fo13 eo13 an13 _ => ?_⟩
        have mT := un_mu unT
        obtain ⟨t1', t3'⟩ := tel_kp tel k13 mT
        have cv := cv_tel tel t1'
        have hus := ans_u an13
        rw [due_plan hj1] at hus
        subst hus
        have eo20 := cv _ _ eo13 (fun _ z => nomatch z)
        have t20 := un_tab un12 tb12 t3'
        have m12 := un_mu un12
        have ncU : c ∉ [u, dp, dc, m] := fun z => by
          obtain ⟨xs, e1, _⟩ := L6
          exact ne_of_none e1 (frU _ z).h rfl
        have ndU : du ∉ [u, dp, dc, m] := fun z => ne_of_none ed6 (frU _ z).h rfl
        have L20 := L12.kpn t3' m12 ncU
        have ph20 := ph12.kp t3' m12
        have ed20 := t3'.at_ _ _ ed12 ndU
        have k620 : Kp (T.p_law :: [u, dp, dc, m]) H6 (cut cT H13) := kp_trans (kp_same s69) (kp_trans (kp_more k912 (subCons memA subNil)) (kp_more t3' fun a m => memB m))
        have sq20 : SqL K (cut cT H13) a0 (ns0.map V.int) := sql_kp (sz6.seq sz) k620 fun o e no => not_cons (tab_ne t6 (hm_law T) e no) fun m => ne_of_none e (frU _ m).h rfl
        refine ⟨t1', pGN ?_⟩
        generalize cut cT H13 = H20 at eo20 t20 L20 ph20 ed20 sq20 ⊢
        simp only [List.set_cons_succ, List.set_cons_zero]
        clear k620 cv t3' t1' k13 fo13 eo13 an13 hR phT unT hhT eT L12 ph12 ed12 un12 nt up10 up9 tel hf10 hf11 hf12 hc10 hc11 hc12
        obtain ⟨dl20, _⟩ := dp_hs (K := K) L20 ph20 hok (by omega) (by omega)
        obtain ⟨do20, sho⟩ := dp_due (K := K) eo20 (by omega) (by omega) ph20
        obtain ⟨dd20, _⟩ := dp_due (K := K) ed20 (by omega) (by omega) ph20
        have hne : ∀ z : Str, (!decide (V.str z = V.str z)) = false := fun z => by rw [decide_eq_true rfl]; rfl
        refine pIf (pOr (pTest (pOp ?_)))
        refine ⟨_, rfl, .ref o, _, rfl, do20, sho.sh, sho.nd, sho.dp, sho.fits (Nat.le_refl _), dp_int do20 sho.sh, _, rfl, .ref du, _, rfl, dd20, sho.sh, sho.nd, sho.dp, sho.fits (Nat.le_refl _), dp_int dd20 sho.sh, rfl, _, rfl, ifF (hne _) ?_⟩
        refine pOr (pTest (pOp ?_))
        refine ⟨_, rfl, .ref c, _, rfl, dl20, shl.sh, shl.nd, shl.dp, shl.fits (Nat.le_refl _), dp_int dl20 shl.sh, _, rfl, rfl, _, rfl, ifF (hne _) ?_⟩
        refine pTest (pOp ?_)
        refine ⟨_, rfl, _, rfl, c, W, hs, es, rfl, L20, ph20, hok, by omega, by omega, t20, fun o2 H21 k21 t21 fo2 eo2 => ?_⟩
        have ed21 := k21.at_ _ _ ed20 (not_cons (tab_ne t20 (hm_l_told T) ed20 (fun _ z => nomatch z)) not_nil)
        have ph21 := ph20.kp k21 (tab_mu t20 (hm_l_told T))
        obtain ⟨do21, _⟩ := dp_due (K := K) eo2 (by omega) (by omega) ph21
        obtain ⟨dd21, _⟩ := dp_due (K := K) ed21 (by omega) (by omega) ph21
        have sq21 := sql_kp sq20 k21 fun o e no => not_cons (tab_ne t20 (hm_l_told T) e no) not_nil
        refine ⟨_, rfl, _, _, do21, dd21, sh_due, sh_due, _, rfl, ifF (eq_sh sh_due) (pNx ?_)⟩
        exact ⟨_, _, _, _, _, _, _, _, _, _, _, _, rfl, t21, sq21⟩
    · rintro σ H3 ⟨y1, y2, y3, y4, y5, y6, y7, y8, y9, y10, y11, y12, rfl, tz, sz⟩
      exact q _
end
end Ob

set_option Elab.async false
set_option linter.all false
set_option maxRecDepth 100000
set_option maxHeartbeats 1000000
namespace Ob
open PySem PySem.Spec PyProof.Rows L2
open LamX (Tabs TabB TabS ExtN)

set_option hygiene false in
local macro_rules
  | `(tactic| kp_flats) => `(tactic| first
    | assumption
    | exact upd_same
    | (apply atNew; assumption; kp_flats)
    | (apply atNe; (next => kbo_bools); kp_flats)
    | (apply atSame; assumption; kp_flats)
    | (apply atKp; assumption; (next => kaf_pre); kp_flats))
set_option hygiene false in
local macro_rules
  | `(tactic| kaf_pre) => `(tactic| first
    | assumption
    | exact not_nil
    | (apply not_cons; (next => kbo_bools); kaf_pre)
    | (apply not_app; (next => kaf_pre); kaf_pre))
set_option hygiene false in
local macro_rules
  | `(tactic| kbo_bools) => `(tactic| first
    | assumption
    | (apply Ne.symm; assumption)
    | (apply neN; assumption; kp_flats)
    | (apply neN'; assumption; kp_flats))
set_option hygiene false in
local macro_rules
  | `(tactic| o_reads) => `(tactic| first
    | with_reducible rfl
    | assumption
    | rfl
    | kp_flats
    | (show SqL _ _ _ _; first | assumption | (apply sqlOf; kp_flats) | (apply sqlSame; assumption; o_reads))
    | (show SqT _ _ _ _; first | assumption | (apply sqtOf; kp_flats) | (apply sqtAll; assumption) | (apply sqtSame; assumption; o_reads))
    | (show Cls _ _; first | exact T.cl_Unions)
    | (show NoAttr _ _ _; first | exact T.n_Unions_groups | exact T.n_Unions_parents | exact T.n_Unions_counts | exact T.n_Unions_moved)
    | (apply Or.inl; o_reads)
    | (apply Or.inr; o_reads)
    | (apply And.intro; (next => o_reads); o_reads)
    | (apply Exists.intro; o_reads)
    | exact Nat.le_of_ble_eq_true rfl
    | exact Nat.succ_ne_zero _
    | (show Fr _ _; kba_ints)
    | (show Same _ _; kd_subs)
    | (show Kp _ _ _; kxs_still)
    | (show (_ : Nat) ≤ _; simp only [List.length_append, List.length_map, List.length_cons, List.length_nil, List.length_take, List.length_drop, List.length_replicate, List.length_range, sizeLine_eq]; omega)
    | (show _ = none; apply Fr.h; kba_ints)
    | (show Bag _ _; first | assumption | (apply bag_putF; assumption; o_reads) | (apply bag_neF; (next => kbo_bools); o_reads) | (apply bag_kpR; assumption; (next => kaf_pre); o_reads))
    | omega
    | decide)
local macro_rules
  | `(tactic| o_readsAll) => `(tactic| repeat (first
    | (refine fun (pNew : Addr) (nNew : _ = none) => ?_; replace nNew := Fr.mk nNew)
    | (refine fun (xNew dNew : Addr) (nNew : _ = none) (mNew : _ = none) (eNew : dNew ≠ xNew) => ?_; replace nNew := Fr.mk nNew; replace mNew := Fr.mk mNew)
    | (apply And.intro; next => o_reads)
    | apply Exists.intro (α := V)
    | apply Exists.intro (α := Addr)
    | apply Exists.intro (α := Int)
    | apply Exists.intro (α := Bool)
    | apply Exists.intro (α := List V)
    | apply Exists.intro (α := List Nat)
    | apply Exists.intro (α := List (Str × V))
    | apply Exists.intro (α := List _)
    | apply Exists.intro (α := Str)
    | apply Exists.intro (α := HO)
    | apply Exists.intro (α := Sp)
    | apply Exists.intro (α := VK)))
set_option hygiene false in
local macro_rules
  | `(tactic| kba_ints) => `(tactic| first
    | assumption
    | (apply frUp; (first | assumption | (apply Ne.symm; assumption)); kba_ints)
    | (apply noneOf; assumption; intro oF eF; apply Exists.intro; kp_flats)
    | (apply frUp; (next => kbo_bools); kba_ints))
set_option hygiene false in
local macro_rules
  | `(tactic| kxs_still) => `(tactic| first
    | assumption
    | exact kp_refl _ _
    | (apply kp_newF; assumption; kxs_still)
    | (apply kp_new; assumption; kxs_still)
    | (apply kp_up; (next => o_fieldsN); kxs_still)
    | (apply kp_new; (next => kba_ints); kxs_still)
    | (apply kp_sameR; assumption; kxs_still)
    | (apply kp_transR; assumption; kxs_still)
    | (apply kp_freshR; assumption; (next => kaf_suf); kxs_still))
set_option hygiene false in
local macro_rules
  | `(tactic| kaf_suf) => `(tactic| first
    | assumption
    | exact subNil
    | (apply subCons; (first | (apply Or.inl; o_fieldsN) | (apply Or.inr; kba_ints)); kaf_suf)
    | (apply subApp; (next => kaf_suf); kaf_suf))
set_option hygiene false in
local macro_rules
  | `(tactic| o_fieldsN) => `(tactic| first
    | assumption
    | exact memA
    | (apply memB; o_fieldsN)
    | (apply memL; o_fieldsN)
    | (apply memR; o_fieldsN))
set_option hygiene false in
local macro_rules
  | `(tactic| kd_subs) => `(tactic| first
    | assumption
    | exact Same.refl _
    | (apply same_putF; assumption; kd_subs)
    | (apply same_putG; assumption; kd_subs)
    | (apply same_putF; (next => kba_ints); kd_subs)
    | (apply same_transR; assumption; kd_subs))

open NdefX (TabsN)
set_option pp.maxSteps 700
theorem all_mk {QQ : Program} {l : PySem.W.OpenLaw} {w : World} {K : PySem.W.Frag} {h : Heap} {mg : Str → Option Value} {fa : Addr} (X : K.In h) (G : h.Ns mainGlobals mg) (hfa : mg "law" = some (.ref fa)) (tt : Inf.TopTabs QQ K mg h)
    {C_Unions : Addr} {a0 : Addr} {oc0 kV0 dc0 pm0 ct0 : Value} {od0 an0 : Option Addr} {sl0 : Array (Option Value)} {cd0 : Value} {a1 : Addr} {oc1 kV1 dc1 pm1 ct1 : Value} {od1 an1 : Option Addr} {sl1 : Array (Option Value)} {cd1 : Value} {a2 : Addr} {oc2 kV2 dc2 pm2 ct2 : Value} {od2 an2 : Option Addr} {sl2 : Array (Option Value)} {cd2 : Value} {a3 : Addr} {oc3 kV3 dc3 pm3 ct3 : Value} {od3 an3 : Option Addr} {sl3 : Array (Option Value)} {cd3 : Value} {a4 : Addr} {oc4 kV4 dc4 pm4 ct4 : Value} {od4 an4 : Option Addr} {sl4 : Array (Option Value)} {cd4 : Value} {a5 : Addr} {oc5 kV5 dc5 pm5 ct5 : Value} {od5 an5 : Option Addr} {sl5 : Array (Option Value)} {cd5 : Value} {a6 : Addr} {oc6 kV6 dc6 pm6 ct6 : Value} {od6 an6 : Option Addr} {sl6 : Array (Option Value)} {cd6 : Value} {a7 : Addr} {oc7 kV7 dc7 pm7 ct7 : Value} {od7 an7 : Option Addr} {sl7 : Array (Option Value)} {cd7 : Value} {a8 : Addr} {oc8 kV8 dc8 pm8 ct8 : Value} {od8 an8 : Option Addr} {sl8 : Array (Option Value)} {cd8 : Value} {a9 : Addr} {oc9 kV9 dc9 pm9 ct9 : Value} {od9 an9 : Option Addr} {sl9 : Array (Option Value)} {cd9 : Value} {a10 : Addr} {oc10 kV10 dc10 pm10 ct10 : Value} {od10 an10 : Option Addr} {sl10 : Array (Option Value)} {cd10 : Value} {a11 : Addr} {oc11 kV11 dc11 pm11 ct11 : Value} {od11 an11 : Option Addr} {sl11 : Array (Option Value)} {cd11 : Value} {a12 : Addr} {oc12 kV12 dc12 pm12 ct12 : Value} {od12 an12 : Option Addr} {sl12 : Array (Option Value)} {cd12 : Value} {a13 : Addr} {oc13 kV13 dc13 pm13 ct13 : Value} {od13 an13 : Option Addr} {sl13 : Array (Option Value)} {cd13 : Value} {a14 : Addr} {oc14 kV14 dc14 pm14 ct14 : Value} {od14 an14 : Option Addr} {sl14 : Array (Option Value)} {cd14 : Value} {a15 : Addr} {oc15 kV15 dc15 pm15 ct15 : Value} {od15 an15 : Option Addr} {sl15 : Array (Option Value)} {cd15 : Value} {a16 : Addr} {oc16 kV16 dc16 pm16 ct16 : Value} {od16 an16 : Option Addr} {sl16 : Array (Option Value)} {cd16 : Value} {a17 : Addr} {oc17 kV17 dc17 pm17 ct17 : Value} {od17 an17 : Option Addr} {sl17 : Array (Option Value)} {cd17 : Value} {a18 : Addr} {oc18 kV18 dc18 pm18 ct18 : Value} {od18 an18 : Option Addr} {sl18 : Array (Option Value)} {cd18 : Value} {a19 : Addr} {oc19 kV19 dc19 pm19 ct19 : Value} {od19 an19 : Option Addr} {sl19 : Array (Option Value)} {cd19 : Value} {a20 : Addr} {oc20 kV20 dc20 pm20 ct20 : Value} {od20 an20 : Option Addr} {sl20 : Array (Option Value)} {cd20 : Value} {a21 : Addr} {oc21 kV21 dc21 pm21 ct21 : Value} {od21 an21 : Option Addr} {sl21 : Array (Option Value)} {cd21 : Value} {a22 : Addr} {oc22 kV22 dc22 pm22 ct22 : Value} {od22 an22 : Option Addr} {sl22 : Array (Option Value)} {cd22 : Value} {a23 : Addr} {oc23 kV23 dc23 pm23 ct23 : Value} {od23 an23 : Option Addr} {sl23 : Array (Option Value)} {cd23 : Value} {a24 : Addr} {oc24 kV24 dc24 pm24 ct24 : Value} {od24 an24 : Option Addr} {sl24 : Array (Option Value)} {cd24 : Value} {a25 : Addr} {oc25 kV25 dc25 pm25 ct25 : Value} {od25 an25 : Option Addr} {sl25 : Array (Option Value)} {cd25 : Value} {a26 : Addr} {oc26 kV26 dc26 pm26 ct26 : Value} {od26 an26 : Option Addr} {sl26 : Array (Option Value)} {cd26 : Value} {a27 : Addr} {oc27 kV27 dc27 pm27 ct27 : Value} {od27 an27 : Option Addr} {sl27 : Array (Option Value)} {cd27 : Value} {a28 : Addr} {oc28 kV28 dc28 pm28 ct28 : Value} {od28 an28 : Option Addr} {sl28 : Array (Option Value)} {cc28 pp28 : Addr} {lv28 : Array Value} {lo28 : Value} {ld28 : Option Addr} {ls28 : Array (Option Value)} {a29 : Addr} {oc29 kV29 dc29 pm29 ct29 : Value} {od29 an29 : Option Addr} {sl29 : Array (Option Value)} {cc29 pp29 : Addr} {lv29 : Array Value} {lo29 : Value} {ld29 : Option Addr} {ls29 : Array (Option Value)} {t_GREATEST : Tok} {cW : Addr} {pW : Option Addr} {nW : Nat} {sW : Array (Option Value)} {tW1 tW2 tW3 : Tok}
    (gc_Unions : PySem.W.nsIn K mainGlobals "Unions" = some (some (.ref C_Unions)))
    (ma0 : PySem.W.findIn K (.ref C_Unions) "__init__" = some (some (.ref a0)))
    (l0 : K.lookup a0 = some ⟨oc0, od0, .func (PySem.W.fnOf "__init__" "Unions.__init__" (defArgs s_Unions_init) (defBody s_Unions_init) (defScope s_Unions_init) .none kV0 dc0 pm0 an0 cd0 ct0), sl0⟩) (c0 : PySem.W.codeIn K cd0 "Unions.__init__" = true) (k0 : PySem.W.keepIn K (.ref a0) = true)
    (mt0 : PySem.W.isFn K (.ref a0) = true) (my0 : PySem.W.typeIn K (.ref a0) = some (.type "function"))
    (ma1 : PySem.W.findIn K (.ref C_Unions) "push" = some (some (.ref a1)))
    (l1 : K.lookup a1 = some ⟨oc1, od1, .func (PySem.W.fnOf "push" "Unions.push" (defArgs s_Unions_push) (defBody s_Unions_push) (defScope s_Unions_push) .none kV1 dc1 pm1 an1 cd1 ct1), sl1⟩) (c1 : PySem.W.codeIn K cd1 "Unions.push" = true) (k1 : PySem.W.keepIn K (.ref a1) = true)
    (mt1 : PySem.W.isFn K (.ref a1) = true) (my1 : PySem.W.typeIn K (.ref a1) = some (.type "function"))
    (ma2 : PySem.W.findIn K (.ref C_Unions) "pop" = some (some (.ref a2)))
    (l2 : K.lookup a2 = some ⟨oc2, od2, .func (PySem.W.fnOf "pop" "Unions.pop" (defArgs s_Unions_pop) (defBody s_Unions_pop) (defScope s_Unions_pop) .none kV2 dc2 pm2 an2 cd2 ct2), sl2⟩) (c2 : PySem.W.codeIn K cd2 "Unions.pop" = true) (k2 : PySem.W.keepIn K (.ref a2) = true)
    (mt2 : PySem.W.isFn K (.ref a2) = true) (my2 : PySem.W.typeIn K (.ref a2) = some (.type "function"))
    (ma3 : PySem.W.findIn K (.ref C_Unions) "ask" = some (some (.ref a3)))
    (l3 : K.lookup a3 = some ⟨oc3, od3, .func (PySem.W.fnOf "ask" "Unions.ask" (defArgs s_Unions_ask) (defBody s_Unions_ask) (defScope s_Unions_ask) .none kV3 dc3 pm3 an3 cd3 ct3), sl3⟩) (c3 : PySem.W.codeIn K cd3 "Unions.ask" = true) (k3 : PySem.W.keepIn K (.ref a3) = true)
    (mt3 : PySem.W.isFn K (.ref a3) = true) (my3 : PySem.W.typeIn K (.ref a3) = some (.type "function"))
    (ma4 : PySem.W.findIn K (.ref C_Unions) "root_of" = some (some (.ref a4)))
    (l4 : K.lookup a4 = some ⟨oc4, od4, .func (PySem.W.fnOf "root_of" "Unions.root_of" (defArgs s_Unions_root_of) (defBody s_Unions_root_of) (defScope s_Unions_root_of) .none kV4 dc4 pm4 an4 cd4 ct4), sl4⟩) (c4 : PySem.W.codeIn K cd4 "Unions.root_of" = true) (k4 : PySem.W.keepIn K (.ref a4) = true)
    (mt4 : PySem.W.isFn K (.ref a4) = true) (my4 : PySem.W.typeIn K (.ref a4) = some (.type "function"))
    (ma5 : PySem.W.findIn K (.ref C_Unions) "count_of" = some (some (.ref a5)))
    (l5 : K.lookup a5 = some ⟨oc5, od5, .func (PySem.W.fnOf "count_of" "Unions.count_of" (defArgs s_Unions_count_of) (defBody s_Unions_count_of) (defScope s_Unions_count_of) .none kV5 dc5 pm5 an5 cd5 ct5), sl5⟩) (c5 : PySem.W.codeIn K cd5 "Unions.count_of" = true) (k5 : PySem.W.keepIn K (.ref a5) = true)
    (mt5 : PySem.W.isFn K (.ref a5) = true) (my5 : PySem.W.typeIn K (.ref a5) = some (.type "function"))
    (ga6 : PySem.W.nsIn K mainGlobals "plan_pushes" = some (some (.ref a6)))
    (l6 : K.lookup a6 = some ⟨oc6, od6, .func (PySem.W.fnOf "plan_pushes" "plan_pushes" (defArgs s_plan_pushes) (defBody s_plan_pushes) (defScope s_plan_pushes) .none kV6 dc6 pm6 an6 cd6 ct6), sl6⟩) (c6 : PySem.W.codeIn K cd6 "plan_pushes" = true) (k6 : PySem.W.keepIn K (.ref a6) = true)
    (ga7 : PySem.W.nsIn K mainGlobals "plan_pops" = some (some (.ref a7)))
    (l7 : K.lookup a7 = some ⟨oc7, od7, .func (PySem.W.fnOf "plan_pops" "plan_pops" (defArgs s_plan_pops) (defBody s_plan_pops) (defScope s_plan_pops) .none kV7 dc7 pm7 an7 cd7 ct7), sl7⟩) (c7 : PySem.W.codeIn K cd7 "plan_pops" = true) (k7 : PySem.W.keepIn K (.ref a7) = true)
    (ga8 : PySem.W.nsIn K mainGlobals "pieces" = some (some (.ref a8)))
    (l8 : K.lookup a8 = some ⟨oc8, od8, .func (PySem.W.fnOf "pieces" "pieces" (defArgs s_pieces) (defBody s_pieces) (defScope s_pieces) .none kV8 dc8 pm8 an8 cd8 ct8), sl8⟩) (c8 : PySem.W.codeIn K cd8 "pieces" = true) (k8 : PySem.W.keepIn K (.ref a8) = true)
    (ga9 : PySem.W.nsIn K mainGlobals "piece_size" = some (some (.ref a9)))
    (l9 : K.lookup a9 = some ⟨oc9, od9, .func (PySem.W.fnOf "piece_size" "piece_size" (defArgs s_piece_size) (defBody s_piece_size) (defScope s_piece_size) .none kV9 dc9 pm9 an9 cd9 ct9), sl9⟩) (c9 : PySem.W.codeIn K cd9 "piece_size" = true) (k9 : PySem.W.keepIn K (.ref a9) = true)
    (ga10 : PySem.W.nsIn K mainGlobals "lowest_power" = some (some (.ref a10)))
    (l10 : K.lookup a10 = some ⟨oc10, od10, .func (PySem.W.fnOf "lowest_power" "lowest_power" (defArgs s_lowest_power) (defBody s_lowest_power) (defScope s_lowest_power) .none kV10 dc10 pm10 an10 cd10 ct10), sl10⟩) (c10 : PySem.W.codeIn K cd10 "lowest_power" = true) (k10 : PySem.W.keepIn K (.ref a10) = true)
    (ga11 : PySem.W.nsIn K mainGlobals "greatest_power" = some (some (.ref a11)))
    (l11 : K.lookup a11 = some ⟨oc11, od11, .func (PySem.W.fnOf "greatest_power" "greatest_power" (defArgs s_greatest_power) (defBody s_greatest_power) (defScope s_greatest_power) .none kV11 dc11 pm11 an11 cd11 ct11), sl11⟩) (c11 : PySem.W.codeIn K cd11 "greatest_power" = true) (k11 : PySem.W.keepIn K (.ref a11) = true)
    (ga12 : PySem.W.nsIn K mainGlobals "is_integer" = some (some (.ref a12)))
    (l12 : K.lookup a12 = some ⟨oc12, od12, .func (PySem.W.fnOf "is_integer" "is_integer" (defArgs s_is_integer) (defBody s_is_integer) (defScope s_is_integer) .none kV12 dc12 pm12 an12 cd12 ct12), sl12⟩) (c12 : PySem.W.codeIn K cd12 "is_integer" = true) (k12 : PySem.W.keepIn K (.ref a12) = true)
    (ga13 : PySem.W.nsIn K mainGlobals "check_integer" = some (some (.ref a13)))
    (l13 : K.lookup a13 = some ⟨oc13, od13, .func (PySem.W.fnOf "check_integer" "check_integer" (defArgs s_check_integer) (defBody s_check_integer) (defScope s_check_integer) .none kV13 dc13 pm13 an13 cd13 ct13), sl13⟩) (c13 : PySem.W.codeIn K cd13 "check_integer" = true) (k13 : PySem.W.keepIn K (.ref a13) = true)
    (ga14 : PySem.W.nsIn K mainGlobals "check_number" = some (some (.ref a14)))
    (l14 : K.lookup a14 = some ⟨oc14, od14, .func (PySem.W.fnOf "check_number" "check_number" (defArgs s_check_number) (defBody s_check_number) (defScope s_check_number) .none kV14 dc14 pm14 an14 cd14 ct14), sl14⟩) (c14 : PySem.W.codeIn K cd14 "check_number" = true) (k14 : PySem.W.keepIn K (.ref a14) = true)
    (ga15 : PySem.W.nsIn K mainGlobals "answers" = some (some (.ref a15)))
    (l15 : K.lookup a15 = some ⟨oc15, od15, .func (PySem.W.fnOf "answers" "answers" (defArgs s_answers) (defBody s_answers) (defScope s_answers) .none kV15 dc15 pm15 an15 cd15 ct15), sl15⟩) (c15 : PySem.W.codeIn K cd15 "answers" = true) (k15 : PySem.W.keepIn K (.ref a15) = true)
    (ga16 : PySem.W.nsIn K mainGlobals "plan_answers" = some (some (.ref a16)))
    (l16 : K.lookup a16 = some ⟨oc16, od16, .func (PySem.W.fnOf "plan_answers" "plan_answers" (defArgs s_plan_answers) (defBody s_plan_answers) (defScope s_plan_answers) .none kV16 dc16 pm16 an16 cd16 ct16), sl16⟩) (c16 : PySem.W.codeIn K cd16 "plan_answers" = true) (k16 : PySem.W.keepIn K (.ref a16) = true)
    (ga17 : PySem.W.nsIn K mainGlobals "present_ends" = some (some (.ref a17)))
    (l17 : K.lookup a17 = some ⟨oc17, od17, .func (PySem.W.fnOf "present_ends" "present_ends" (defArgs s_present_ends) (defBody s_present_ends) (defScope s_present_ends) .none kV17 dc17 pm17 an17 cd17 ct17), sl17⟩) (c17 : PySem.W.codeIn K cd17 "present_ends" = true) (k17 : PySem.W.keepIn K (.ref a17) = true)
    (ga18 : PySem.W.nsIn K mainGlobals "is_entry" = some (some (.ref a18)))
    (l18 : K.lookup a18 = some ⟨oc18, od18, .func (PySem.W.fnOf "is_entry" "is_entry" (defArgs s_is_entry) (defBody s_is_entry) (defScope s_is_entry) .none kV18 dc18 pm18 an18 cd18 ct18), sl18⟩) (c18 : PySem.W.codeIn K cd18 "is_entry" = true) (k18 : PySem.W.keepIn K (.ref a18) = true)
    (ga19 : PySem.W.nsIn K mainGlobals "members_by_nodes" = some (some (.ref a19)))
    (l19 : K.lookup a19 = some ⟨oc19, od19, .func (PySem.W.fnOf "members_by_nodes" "members_by_nodes" (defArgs s_members_by_nodes) (defBody s_members_by_nodes) (defScope s_members_by_nodes) .none kV19 dc19 pm19 an19 cd19 ct19), sl19⟩) (c19 : PySem.W.codeIn K cd19 "members_by_nodes" = true) (k19 : PySem.W.keepIn K (.ref a19) = true)
    (ga20 : PySem.W.nsIn K mainGlobals "walk_size" = some (some (.ref a20)))
    (l20 : K.lookup a20 = some ⟨oc20, od20, .func (PySem.W.fnOf "walk_size" "walk_size" (defArgs s_walk_size) (defBody s_walk_size) (defScope s_walk_size) .none kV20 dc20 pm20 an20 cd20 ct20), sl20⟩) (c20 : PySem.W.codeIn K cd20 "walk_size" = true) (k20 : PySem.W.keepIn K (.ref a20) = true)
    (ga21 : PySem.W.nsIn K mainGlobals "visit" = some (some (.ref a21)))
    (l21 : K.lookup a21 = some ⟨oc21, od21, .func (PySem.W.fnOf "visit" "visit" (defArgs s_visit) (defBody s_visit) (defScope s_visit) .none kV21 dc21 pm21 an21 cd21 ct21), sl21⟩) (c21 : PySem.W.codeIn K cd21 "visit" = true) (k21 : PySem.W.keepIn K (.ref a21) = true)
    (ga22 : PySem.W.nsIn K mainGlobals "_law_bag" = some (some (.ref a22)))
    (l22 : K.lookup a22 = some ⟨oc22, od22, .func (PySem.W.fnOf "_law_bag" "_law_bag" (defArgs s_l_bag) (defBody s_l_bag) (defScope s_l_bag) .none kV22 dc22 pm22 an22 cd22 ct22), sl22⟩) (c22 : PySem.W.codeIn K cd22 "_law_bag" = true) (k22 : PySem.W.keepIn K (.ref a22) = true)
    (ga23 : PySem.W.nsIn K mainGlobals "_law_take" = some (some (.ref a23)))
    (l23 : K.lookup a23 = some ⟨oc23, od23, .func (PySem.W.fnOf "_law_take" "_law_take" (defArgs s_l_take) (defBody s_l_take) (defScope s_l_take) .none kV23 dc23 pm23 an23 cd23 ct23), sl23⟩) (c23 : PySem.W.codeIn K cd23 "_law_take" = true) (k23 : PySem.W.keepIn K (.ref a23) = true)
    (ga24 : PySem.W.nsIn K mainGlobals "_law_history" = some (some (.ref a24)))
    (l24 : K.lookup a24 = some ⟨oc24, od24, .func (PySem.W.fnOf "_law_history" "_law_history" (defArgs s_l_history) (defBody s_l_history) (defScope s_l_history) .none kV24 dc24 pm24 an24 cd24 ct24), sl24⟩) (c24 : PySem.W.codeIn K cd24 "_law_history" = true) (k24 : PySem.W.keepIn K (.ref a24) = true)
    (ga25 : PySem.W.nsIn K mainGlobals "_law_present" = some (some (.ref a25)))
    (l25 : K.lookup a25 = some ⟨oc25, od25, .func (PySem.W.fnOf "_law_present" "_law_present" (defArgs s_l_present) (defBody s_l_present) (defScope s_l_present) .none kV25 dc25 pm25 an25 cd25 ct25), sl25⟩) (c25 : PySem.W.codeIn K cd25 "_law_present" = true) (k25 : PySem.W.keepIn K (.ref a25) = true)
    (ga26 : PySem.W.nsIn K mainGlobals "_law_component" = some (some (.ref a26)))
    (l26 : K.lookup a26 = some ⟨oc26, od26, .func (PySem.W.fnOf "_law_component" "_law_component" (defArgs s_l_component) (defBody s_l_component) (defScope s_l_component) .none kV26 dc26 pm26 an26 cd26 ct26), sl26⟩) (c26 : PySem.W.codeIn K cd26 "_law_component" = true) (k26 : PySem.W.keepIn K (.ref a26) = true)
    (ga27 : PySem.W.nsIn K mainGlobals "_law_answer" = some (some (.ref a27)))
    (l27 : K.lookup a27 = some ⟨oc27, od27, .func (PySem.W.fnOf "_law_answer" "_law_answer" (defArgs s_l_answer) (defBody s_l_answer) (defScope s_l_answer) .none kV27 dc27 pm27 an27 cd27 ct27), sl27⟩) (c27 : PySem.W.codeIn K cd27 "_law_answer" = true) (k27 : PySem.W.keepIn K (.ref a27) = true)
    (ga28 : PySem.W.nsIn K mainGlobals "_law_told" = some (some (.ref a28)))
    (l28 : K.lookup a28 = some ⟨oc28, od28, .func (PySem.W.fnOf "_law_told" "_law_told" (defArgs s_l_told) (defBody s_l_told) (defScope s_l_told) .none kV28 dc28 pm28 an28 (.ref cc28) ct28), sl28⟩) (c28 : PySem.W.codeIn K (.ref cc28) "_law_told" = true) (k28 : PySem.W.keepIn K (.ref a28) = true)
    (tl28 : K.lookup cc28 = some ⟨lo28, ld28, .fields lv28, ls28⟩) (tp28 : lv28[11]? = some (.ref pp28)) (tn28 : K.lookup pp28 = none) (tr28 : (PyProof.Rows.recsOf QQ).any (fun d => d.name == "_law_told") = true)
    (ga29 : PySem.W.nsIn K mainGlobals "law" = some (some (.ref a29)))
    (l29 : K.lookup a29 = some ⟨oc29, od29, .func (PySem.W.fnOf "law" "law" (defArgs s_law) (defBody s_law) (defScope s_law) .none kV29 dc29 pm29 an29 (.ref cc29) ct29), sl29⟩) (c29 : PySem.W.codeIn K (.ref cc29) "law" = true) (k29 : PySem.W.keepIn K (.ref a29) = true)
    (tl29 : K.lookup cc29 = some ⟨lo29, ld29, .fields lv29, ls29⟩) (tp29 : lv29[11]? = some (.ref pp29)) (tn29 : K.lookup pp29 = none) (tr29 : (PyProof.Rows.recsOf QQ).any (fun d => d.name == "law") = true)
    (pne28_29 : pp28 ≠ pp29)
    (z_abs : PySem.W.nsIn K mainGlobals "abs" = some none)
    (z_any : PySem.W.nsIn K mainGlobals "any" = some none)
    (z_bool : PySem.W.nsIn K mainGlobals "bool" = some none)
    (z_enumerate : PySem.W.nsIn K mainGlobals "enumerate" = some none)
    (z_int : PySem.W.nsIn K mainGlobals "int" = some none)
    (z_isinstance : PySem.W.nsIn K mainGlobals "isinstance" = some none)
    (z_len : PySem.W.nsIn K mainGlobals "len" = some none)
    (z_list : PySem.W.nsIn K mainGlobals "list" = some none)
    (z_max : PySem.W.nsIn K mainGlobals "max" = some none)
    (z_min : PySem.W.nsIn K mainGlobals "min" = some none)
    (z_range : PySem.W.nsIn K mainGlobals "range" = some none)
    (z_repr : PySem.W.nsIn K mainGlobals "repr" = some none)
    (z_reversed : PySem.W.nsIn K mainGlobals "reversed" = some none)
    (z_str : PySem.W.nsIn K mainGlobals "str" = some none)
    (z_tuple : PySem.W.nsIn K mainGlobals "tuple" = some none)
    (v_GREATEST : PySem.W.nsIn K mainGlobals "GREATEST" = some (some (.int (10 ^ (30 : Nat)) t_GREATEST)))
    (pg_Unions : PySem.W.plainGet K C_Unions Str.empty = true)
    (hd_Unions : PySem.W.hasDictIn K C_Unions = true)
    (po_Unions : PySem.W.plainOver K C_Unions = true)
    (sa_Unions : PySem.W.findIn K (.ref C_Unions) "__setattr__" = some (some (.builtin "object.__setattr__")))
    (mk_Unions : PySem.W.makesIn K C_Unions = true)
    (kp_Unions : PySem.W.keepIn K (.ref C_Unions) = true)
    (n_Unions_groups : PySem.W.findIn K (.ref C_Unions) "groups" = some none)
    (n_Unions_parents : PySem.W.findIn K (.ref C_Unions) "parents" = some none)
    (n_Unions_counts : PySem.W.findIn K (.ref C_Unions) "counts" = some none)
    (n_Unions_moved : PySem.W.findIn K (.ref C_Unions) "moved" = some none)
    (gW : PySem.W.nsIn K mainGlobals "WORDS" = some (some (.ref cW)))
    (lW : K.lookup cW = some ⟨.type "tuple", pW, .seq (List.toArray [.str "add" tW1, .str "remove" tW2, .str "ask" tW3]) nW, sW⟩) : Inf.LawAtG l w K CX0 40 63 "_law_script" mg fa h := by
  have e := hfa.symm.trans (PySem.W.mg_of X G ga29)
  cases e
  have F0 := fun_mk (st := s_Unions_init) l0 c0 k0
  have F1 := fun_mk (st := s_Unions_push) l1 c1 k1
  have F2 := fun_mk (st := s_Unions_pop) l2 c2 k2
  have F3 := fun_mk (st := s_Unions_ask) l3 c3 k3
  have F4 := fun_mk (st := s_Unions_root_of) l4 c4 k4
  have F5 := fun_mk (st := s_Unions_count_of) l5 c5 k5
  have F6 := fun_mk (st := s_plan_pushes) l6 c6 k6
  have F7 := fun_mk (st := s_plan_pops) l7 c7 k7
  have F8 := fun_mk (st := s_pieces) l8 c8 k8
  have F9 := fun_mk (st := s_piece_size) l9 c9 k9
  have F10 := fun_mk (st := s_lowest_power) l10 c10 k10
  have F11 := fun_mk (st := s_greatest_power) l11 c11 k11
  have F12 := fun_mk (st := s_is_integer) l12 c12 k12
  have F13 := fun_mk (st := s_check_integer) l13 c13 k13
  have F14 := fun_mk (st := s_check_number) l14 c14 k14
  have F15 := fun_mk (st := s_answers) l15 c15 k15
  have F16 := fun_mk (st := s_plan_answers) l16 c16 k16
  have F17 := fun_mk (st := s_present_ends) l17 c17 k17
  have F18 := fun_mk (st := s_is_entry) l18 c18 k18
  have F19 := fun_mk (st := s_members_by_nodes) l19 c19 k19
  have F20 := fun_mk (st := s_walk_size) l20 c20 k20
  have F21 := fun_mk (st := s_visit) l21 c21 k21
  have F22 := fun_mk (st := s_l_bag) l22 c22 k22
  have F23 := fun_mk (st := s_l_take) l23 c23 k23
  have F24 := fun_mk (st := s_l_history) l24 c24 k24
  have F25 := fun_mk (st := s_l_present) l25 c25 k25
  have F26 := fun_mk (st := s_l_component) l26 c26 k26
  have F27 := fun_mk (st := s_l_answer) l27 c27 k27
  have F28 : FunT K "_law_told" "_law_told" s_l_told a28 _ cc28 := ⟨⟨_, _, _, _, _, _, _, _, rfl, l28, c28⟩, k28⟩
  have B28 : Binds K _ ["_law_deeds", "_law_wide"] [] := .all (fd := PySem.W.fnOf "_law_told" "_law_told" (defArgs s_l_told) (defBody s_l_told) (defScope s_l_told) .none kV28 dc28 pm28 an28 (.ref cc28) ct28) fun us hl => match us, hl with | [_, _], _ => rfl
  have F29 : FunT K "law" "law" s_law fa _ cc29 := ⟨⟨_, _, _, _, _, _, _, _, rfl, l29, c29⟩, k29⟩
  have B29 : Binds K _ ["_law_script"] [] := .all (fd := PySem.W.fnOf "law" "law" (defArgs s_law) (defBody s_law) (defScope s_law) .none kV29 dc29 pm29 an29 (.ref cc29) ct29) fun us hl => match us, hl with | [_], _ => rfl
  have T28 := tt "_law_told" a28 cc28 pp28 _ _ _ _ _ _ tr28 (PySem.W.mg_of X G ga28) l28 rfl rfl tl28 tp28
  have T29 := tt "law" fa cc29 pp29 _ _ _ _ _ _ tr29 hfa l29 rfl rfl tl29 tp29
  let T : Txt K mg := {
    C_Unions := C_Unions,
    gc_Unions := PySem.W.mg_of X G gc_Unions,
    f_Unions_init := a0,
    d_Unions_init := _,
    F_Unions_init := F0,
    b_Unions_init := (F0.binds (ps := ["self", "many"]) fun _ _ _ _ _ _ us hl => match us, hl with | [_, _], _ => rfl),
    m_Unions_init := ma0,
    t_Unions_init := mt0,
    y_Unions_init := my0,
    k_Unions_init := k0,
    f_Unions_push := a1,
    d_Unions_push := _,
    F_Unions_push := F1,
    b_Unions_push := (F1.binds (ps := ["self", "pair"]) fun _ _ _ _ _ _ us hl => match us, hl with | [_, _], _ => rfl),
    m_Unions_push := ma1,
    t_Unions_push := mt1,
    y_Unions_push := my1,
    k_Unions_push := k1,
    f_Unions_pop := a2,
    d_Unions_pop := _,
    F_Unions_pop := F2,
    b_Unions_pop := (F2.binds (ps := ["self"]) fun _ _ _ _ _ _ us hl => match us, hl with | [_], _ => rfl),
    m_Unions_pop := ma2,
    t_Unions_pop := mt2,
    y_Unions_pop := my2,
    k_Unions_pop := k2,
    f_Unions_ask := a3,
    d_Unions_ask := _,
    F_Unions_ask := F3,
    b_Unions_ask := (F3.binds (ps := ["self", "question"]) fun _ _ _ _ _ _ us hl => match us, hl with | [_, _], _ => rfl),
    m_Unions_ask := ma3,
    t_Unions_ask := mt3,
    y_Unions_ask := my3,
    k_Unions_ask := k3,
    f_Unions_root_of := a4,
    d_Unions_root_of := _,
    F_Unions_root_of := F4,
    b_Unions_root_of := (F4.binds (ps := ["self", "point"]) fun _ _ _ _ _ _ us hl => match us, hl with | [_, _], _ => rfl),
    m_Unions_root_of := ma4,
    t_Unions_root_of := mt4,
    y_Unions_root_of := my4,
    k_Unions_root_of := k4,
    f_Unions_count_of := a5,
    d_Unions_count_of := _,
    F_Unions_count_of := F5,
    b_Unions_count_of := (F5.binds (ps := ["self", "root"]) fun _ _ _ _ _ _ us hl => match us, hl with | [_, _], _ => rfl),
    m_Unions_count_of := ma5,
    t_Unions_count_of := mt5,
    y_Unions_count_of := my5,
    k_Unions_count_of := k5,
    f_plan_pushes := a6,
    d_plan_pushes := _,
    F_plan_pushes := F6,
    b_plan_pushes := (F6.binds (ps := ["numbers"]) fun _ _ _ _ _ _ us hl => match us, hl with | [_], _ => rfl),
    g_plan_pushes := PySem.W.mg_of X G ga6,
    f_plan_pops := a7,
    d_plan_pops := _,
    F_plan_pops := F7,
    b_plan_pops := (F7.binds (ps := ["numbers"]) fun _ _ _ _ _ _ us hl => match us, hl with | [_], _ => rfl),
    g_plan_pops := PySem.W.mg_of X G ga7,
    f_pieces := a8,
    d_pieces := _,
    F_pieces := F8,
    b_pieces := (F8.binds (ps := ["begin", "end"]) fun _ _ _ _ _ _ us hl => match us, hl with | [_, _], _ => rfl),
    g_pieces := PySem.W.mg_of X G ga8,
    f_piece_size := a9,
    d_piece_size := _,
    F_piece_size := F9,
    b_piece_size := (F9.binds (ps := ["first", "room"]) fun _ _ _ _ _ _ us hl => match us, hl with | [_, _], _ => rfl),
    g_piece_size := PySem.W.mg_of X G ga9,
    f_lowest_power := a10,
    d_lowest_power := _,
    F_lowest_power := F10,
    b_lowest_power := (F10.binds (ps := ["number"]) fun _ _ _ _ _ _ us hl => match us, hl with | [_], _ => rfl),
    g_lowest_power := PySem.W.mg_of X G ga10,
    f_greatest_power := a11,
    d_greatest_power := _,
    F_greatest_power := F11,
    b_greatest_power := (F11.binds (ps := ["number"]) fun _ _ _ _ _ _ us hl => match us, hl with | [_], _ => rfl),
    g_greatest_power := PySem.W.mg_of X G ga11,
    f_is_integer := a12,
    d_is_integer := _,
    F_is_integer := F12,
    b_is_integer := (F12.binds (ps := ["value"]) fun _ _ _ _ _ _ us hl => match us, hl with | [_], _ => rfl),
    g_is_integer := PySem.W.mg_of X G ga12,
    f_check_integer := a13,
    d_check_integer := _,
    F_check_integer := F13,
    b_check_integer := (F13.binds (ps := ["value"]) fun _ _ _ _ _ _ us hl => match us, hl with | [_], _ => rfl),
    g_check_integer := PySem.W.mg_of X G ga13,
    f_check_number := a14,
    d_check_number := _,
    F_check_number := F14,
    b_check_number := (F14.binds (ps := ["value"]) fun _ _ _ _ _ _ us hl => match us, hl with | [_], _ => rfl),
    g_check_number := PySem.W.mg_of X G ga14,
    f_answers := a15,
    d_answers := _,
    F_answers := F15,
    b_answers := (F15.binds (ps := ["push", "pop", "ask", "history"]) fun _ _ _ _ _ _ us hl => match us, hl with | [_, _, _, _], _ => rfl),
    g_answers := PySem.W.mg_of X G ga15,
    f_plan_answers := a16,
    d_plan_answers := _,
    F_plan_answers := F16,
    b_plan_answers := (F16.binds (ps := ["history"]) fun _ _ _ _ _ _ us hl => match us, hl with | [_], _ => rfl),
    g_plan_answers := PySem.W.mg_of X G ga16,
    f_present_ends := a17,
    d_present_ends := _,
    F_present_ends := F17,
    b_present_ends := (F17.binds (ps := ["history"]) fun _ _ _ _ _ _ us hl => match us, hl with | [_], _ => rfl),
    g_present_ends := PySem.W.mg_of X G ga17,
    f_is_entry := a18,
    d_is_entry := _,
    F_is_entry := F18,
    b_is_entry := (F18.binds (ps := ["entry", "present"]) fun _ _ _ _ _ _ us hl => match us, hl with | [_, _], _ => rfl),
    g_is_entry := PySem.W.mg_of X G ga18,
    f_members_by_nodes := a19,
    d_members_by_nodes := _,
    F_members_by_nodes := F19,
    b_members_by_nodes := (F19.binds (ps := ["ends"]) fun _ _ _ _ _ _ us hl => match us, hl with | [_], _ => rfl),
    g_members_by_nodes := PySem.W.mg_of X G ga19,
    f_walk_size := a20,
    d_walk_size := _,
    F_walk_size := F20,
    b_walk_size := (F20.binds (ps := ["length"]) fun _ _ _ _ _ _ us hl => match us, hl with | [_], _ => rfl),
    g_walk_size := PySem.W.mg_of X G ga20,
    f_visit := a21,
    d_visit := _,
    F_visit := F21,
    b_visit := (F21.binds (ps := ["entries", "nodes", "asked", "first", "size"]) fun _ _ _ _ _ _ us hl => match us, hl with | [_, _, _, _, _], _ => rfl),
    g_visit := PySem.W.mg_of X G ga21,
    f_l_bag := a22,
    d_l_bag := _,
    F_l_bag := F22,
    b_l_bag := (F22.binds (ps := ["_law_script", "_law_at"]) fun _ _ _ _ _ _ us hl => match us, hl with | [_, _], _ => rfl),
    g_l_bag := PySem.W.mg_of X G ga22,
    f_l_take := a23,
    d_l_take := _,
    F_l_take := F23,
    b_l_take := (F23.binds (ps := ["_law_bag_here", "_law_many"]) fun _ _ _ _ _ _ us hl => match us, hl with | [_, _], _ => rfl),
    g_l_take := PySem.W.mg_of X G ga23,
    f_l_history := a24,
    d_l_history := _,
    F_l_history := F24,
    b_l_history := (F24.binds (ps := ["_law_bag_here", "_law_most", "_law_wide"]) fun _ _ _ _ _ _ us hl => match us, hl with | [_, _, _], _ => rfl),
    g_l_history := PySem.W.mg_of X G ga24,
    f_l_present := a25,
    d_l_present := _,
    F_l_present := F25,
    b_l_present := (F25.binds (ps := ["_law_deeds", "_law_index"]) fun _ _ _ _ _ _ us hl => match us, hl with | [_, _], _ => rfl),
    g_l_present := PySem.W.mg_of X G ga25,
    f_l_component := a26,
    d_l_component := _,
    F_l_component := F26,
    b_l_component := (F26.binds (ps := ["_law_pairs", "_law_point"]) fun _ _ _ _ _ _ us hl => match us, hl with | [_, _], _ => rfl),
    g_l_component := PySem.W.mg_of X G ga26,
    f_l_answer := a27,
    d_l_answer := _,
    F_l_answer := F27,
    b_l_answer := (F27.binds (ps := ["_law_pairs", "_law_wide", "_law_question"]) fun _ _ _ _ _ _ us hl => match us, hl with | [_, _, _], _ => rfl),
    g_l_answer := PySem.W.mg_of X G ga27,
    f_l_told := a28,
    d_l_told := _,
    c_l_told := cc28,
    p_l_told := pp28,
    F_l_told := F28,
    b_l_told := B28,
    g_l_told := PySem.W.mg_of X G ga28,
    c_law := cc29,
    p_law := pp29,
    pne_l_told_law := pne28_29,
    z_abs := PySem.W.mg_none_of X G z_abs,
    z_any := PySem.W.mg_none_of X G z_any,
    z_bool := PySem.W.mg_none_of X G z_bool,
    z_enumerate := PySem.W.mg_none_of X G z_enumerate,
    z_int := PySem.W.mg_none_of X G z_int,
    z_isinstance := PySem.W.mg_none_of X G z_isinstance,
    z_len := PySem.W.mg_none_of X G z_len,
    z_list := PySem.W.mg_none_of X G z_list,
    z_max := PySem.W.mg_none_of X G z_max,
    z_min := PySem.W.mg_none_of X G z_min,
    z_range := PySem.W.mg_none_of X G z_range,
    z_repr := PySem.W.mg_none_of X G z_repr,
    z_reversed := PySem.W.mg_none_of X G z_reversed,
    z_str := PySem.W.mg_none_of X G z_str,
    z_tuple := PySem.W.mg_none_of X G z_tuple,
    u_GREATEST := _,
    v_GREATEST := PySem.W.mg_of X G v_GREATEST,
    r_GREATEST := ⟨_, rfl⟩,
    cl_Unions := ⟨pg_Unions, hd_Unions, po_Unions, sa_Unions⟩,
    mk_Unions := mk_Unions,
    kp_Unions := kp_Unions,
    n_Unions_groups := n_Unions_groups,
    n_Unions_parents := n_Unions_parents,
    n_Unions_counts := n_Unions_counts,
    n_Unions_moved := n_Unions_moved,
    c_WORDS := cW,
    g_WORDS := PySem.W.mg_of X G gW,
    s_WORDS := fun _ => .inr ⟨_, _, _, lW, rfl, rfl, (show (3 : Nat) ≤ sizeLine from le3), .cons ⟨_, rfl⟩ (.cons ⟨_, rfl⟩ (.cons ⟨_, rfl⟩ .nil))⟩ }
  refine ⟨PySem.W.fnOf "law" "law" (defArgs s_law) (defBody s_law) (defScope s_law) .none kV29 dc29 pm29 an29 (.ref cc29) ct29, [(cc28, pp28), (cc29, pp29)], spLaw T, (all_cons T28.2 (all_cons T29.2 (fun _ z => nomatch z))), (all_cons tn28 (all_cons tn29 (fun _ z => nomatch z))), (all_cons T28.1 (all_cons T29.1 (fun _ z => nomatch z))), fun s v => .of_eq rfl, fun H a ns hl ht hS => ⟨a, ns, rfl, hS, hl, ht _ (List.mem_cons_self ..), ht _ (List.mem_cons_of_mem _ (List.mem_cons_self ..)), fun _ => rfl⟩, fun base _ _ tb => (ok_law T (tb _ (List.mem_cons_self ..)) (tb _ (List.mem_cons_of_mem _ (List.mem_cons_self ..))) F29)⟩
end Ob
open PySem PySem.W PyProof.Rows
set_option maxHeartbeats 0 in
theorem PySem.Challenge.cw_oncebuilt_k71_answers_of_histories_holds : PySem.Challenge.rw_oncebuilt_k71_answers_of_histories.Holds := by
  w_on; o_law; k_head; (case hw => w_witness2)
  k_fill
  refine Inf.walk_topG (l := PySem.Challenge.rw_oncebuilt_k71_answers_of_histories) (n := 63) (k := 40) (x := "_law_script") (YP := _) (CX := fun _ => L2.CX0) rfl (by decide) rfl ⟨rfl, by decide, by decide⟩ (fun w h Y => by first | exact PySem.W.kIn_of Y | exact PySem.W.km_in_of Y) ?F (fun _ _ _ _ _ h => h)
  case F =>
    intro w mg fa h Y KX G hmg tt
    refine' Ob.all_mk KX G hmg tt ?gc_Unions ?ma0 ?l0 ?c0 ?k0 ?mt0 ?my0 ?ma1 ?l1 ?c1 ?k1 ?mt1 ?my1 ?ma2 ?l2 ?c2 ?k2 ?mt2 ?my2 ?ma3 ?l3 ?c3 ?k3 ?mt3 ?my3 ?ma4 ?l4 ?c4 ?k4 ?mt4 ?my4 ?ma5 ?l5 ?c5 ?k5 ?mt5 ?my5 ?ga6 ?l6 ?c6 ?k6 ?ga7 ?l7 ?c7 ?k7 ?ga8 ?l8 ?c8 ?k8 ?ga9 ?l9 ?c9 ?k9 ?ga10 ?l10 ?c10 ?k10 ?ga11 ?l11 ?c11 ?k11 ?ga12 ?l12 ?c12 ?k12 ?ga13 ?l13 ?c13 ?k13 ?ga14 ?l14 ?c14 ?k14 ?ga15 ?l15 ?c15 ?k15 ?ga16 ?l16 ?c16 ?k16 ?ga17 ?l17 ?c17 ?k17 ?ga18 ?l18 ?c18 ?k18 ?ga19 ?l19 ?c19 ?k19 ?ga20 ?l20 ?c20 ?k20 ?ga21 ?l21 ?c21 ?k21 ?ga22 ?l22 ?c22 ?k22 ?ga23 ?l23 ?c23 ?k23 ?ga24 ?l24 ?c24 ?k24 ?ga25 ?l25 ?c25 ?k25 ?ga26 ?l26 ?c26 ?k26 ?ga27 ?l27 ?c27 ?k27 ?ga28 ?l28 ?c28 ?k28 ?tl28 ?tp28 ?tn28 ?tr28 ?ga29 ?l29 ?c29 ?k29 ?tl29 ?tp29 ?tn29 ?tr29 ?pne28_29 ?z_abs ?z_any ?z_bool ?z_enumerate ?z_int ?z_isinstance ?z_len ?z_list ?z_max ?z_min ?z_range ?z_repr ?z_reversed ?z_str ?z_tuple ?v_GREATEST ?pg_Unions ?hd_Unions ?po_Unions ?sa_Unions ?mk_Unions ?kp_Unions ?n_Unions_groups ?n_Unions_parents ?n_Unions_counts ?n_Unions_moved ?gW ?lW
    (case gc_Unions => k_is); (case ma0 => k_is); (case l0 => k_is); (case c0 => k_is); (case k0 => k_is); (case mt0 => k_is); (case my0 => k_is); (case ma1 => k_is); (case l1 => k_is); (case c1 => k_is); (case k1 => k_is); (case mt1 => k_is); (case my1 => k_is); (case ma2 => k_is); (case l2 => k_is); (case c2 => k_is); (case k2 => k_is); (case mt2 => k_is); (case my2 => k_is); (case ma3 => k_is); (case l3 => k_is); (case c3 => k_is); (case k3 => k_is); (case mt3 => k_is); (case my3 => k_is); (case ma4 => k_is); (case l4 => k_is); (case c4 => k_is); (case k4 => k_is); (case mt4 => k_is); (case my4 => k_is); (case ma5 => k_is); (case l5 => k_is); (case c5 => k_is); (case k5 => k_is); (case mt5 => k_is); (case my5 => k_is); (case ga6 => k_is); (case l6 => k_is); (case c6 => k_is); (case k6 => k_is); (case ga7 => k_is); (case l7 => k_is); (case c7 => k_is); (case k7 => k_is); (case ga8 => k_is); (case l8 => k_is); (case c8 => k_is); (case k8 => k_is); (case ga9 => k_is); (case l9 => k_is); (case c9 => k_is); (case k9 => k_is); (case ga10 => k_is); (case l10 => k_is); (case c10 => k_is); (case k10 => k_is); (case ga11 => k_is); (case l11 => k_is); (case c11 => k_is); (case k11 => k_is); (case ga12 => k_is); (case l12 => k_is); (case c12 => k_is); (case k12 => k_is); (case ga13 => k_is); (case l13 => k_is); (case c13 => k_is); (case k13 => k_is); (case ga14 => k_is); (case l14 => k_is); (case c14 => k_is); (case k14 => k_is); (case ga15 => k_is); (case l15 => k_is); (case c15 => k_is); (case k15 => k_is); (case ga16 => k_is); (case l16 => k_is); (case c16 => k_is); (case k16 => k_is); (case ga17 => k_is); (case l17 => k_is); (case c17 => k_is); (case k17 => k_is); (case ga18 => k_is); (case l18 => k_is); (case c18 => k_is); (case k18 => k_is); (case ga19 => k_is); (case l19 => k_is); (case c19 => k_is); (case k19 => k_is); (case ga20 => k_is); (case l20 => k_is); (case c20 => k_is); (case k20 => k_is); (case ga21 => k_is); (case l21 => k_is); (case c21 => k_is); (case k21 => k_is); (case ga22 => k_is); (case l22 => k_is); (case c22 => k_is); (case k22 => k_is); (case ga23 => k_is); (case l23 => k_is); (case c23 => k_is); (case k23 => k_is); (case ga24 => k_is); (case l24 => k_is); (case c24 => k_is); (case k24 => k_is); (case ga25 => k_is); (case l25 => k_is); (case c25 => k_is); (case k25 => k_is); (case ga26 => k_is); (case l26 => k_is); (case c26 => k_is); (case k26 => k_is); (case ga27 => k_is); (case l27 => k_is); (case c27 => k_is); (case k27 => k_is); (case ga28 => k_is); (case l28 => k_is); (case c28 => k_is); (case k28 => k_is); (case tl28 => k_is); (case tp28 => rfl); (case tn28 => kernel_rfl); (case tr28 => rfl); (case ga29 => k_is); (case l29 => k_is); (case c29 => k_is); (case k29 => k_is); (case tl29 => k_is); (case tp29 => rfl); (case tn29 => kernel_rfl); (case tr29 => rfl); (case pne28_29 => decide); (case z_abs => k_is); (case z_any => k_is); (case z_bool => k_is); (case z_enumerate => k_is); (case z_int => k_is); (case z_isinstance => k_is); (case z_len => k_is); (case z_list => k_is); (case z_max => k_is); (case z_min => k_is); (case z_range => k_is); (case z_repr => k_is); (case z_reversed => k_is); (case z_str => k_is); (case z_tuple => k_is); (case v_GREATEST => k_is); (case pg_Unions => k_is); (case hd_Unions => k_is); (case po_Unions => k_is); (case sa_Unions => k_is); (case mk_Unions => k_is); (case kp_Unions => k_is); (case n_Unions_groups => k_is); (case n_Unions_parents => k_is); (case n_Unions_counts => k_is); (case n_Unions_moved => k_is); (case gW => k_is); (case lW => k_is)


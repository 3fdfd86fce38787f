import PyProof.Rows.All
import Wide.All
import OpenK.AllK
import Wide.FinOn
import HandS.ForMost
import HandS.ForExc
import HandS.Nested
import HandS.Star
import HandS.Finally
import HandS.EndTab
import HandS.Replace
import HandS.Defaults
import HandS.ClsMeth
import HandS.MakeKwOnly
import KE.KMinKey
import HandS.SortKw
import KE.KDictCopyH
import KE.KDictIter
import HandS.IterVal
import HandS.DictTup
import HandS.Wide
import HandS.WideBits
import HandS.IsInst
import HandS.Codes
import HandS.Comp
import HandS.Conv
import HandS.SortInts
import HandS.MethStar
import PySem.Challenge.RW_oncebuilt_k72_plans_of_histories
import HandS.Walk
import HandS.Rev
import HandS.Style
import HandS.TryOnly
import HandS.Deep
set_option Elab.async false
set_option linter.all false
set_option maxRecDepth 100000
set_option maxHeartbeats 4000000
namespace Inf
open PySem PySem.Spec PyProof.Rows L2 NdefX LamX
/-! ### a cell that is told -/
def CellO (c : Addr) (v : V) : HO := .ext fun h => ∃ u, L2.RelV v u ∧ h.IsCell c (some u)
theorem cellO_at {P : Program} {w : World} {H : Hp} {h : Heap} {c : Addr} {v : V} (hok : HOk P w H h) (e : H c = some (CellO c v)) : ∃ u, L2.RelV v u ∧ h.IsCell c (some u) := by
  obtain ⟨z, _, _⟩ := hok c _ e
  exact z
theorem cellO_ok {P : Program} {w : World} {H : Hp} {h : Heap} {c : Addr} {v : V} (x : ∃ u, L2.RelV v u ∧ h.IsCell c (some u)) : ObjOk P w H h c (CellO c v) := by
  refine ⟨x, ?_, fun h1 h2 ⟨u, r, o, e, d⟩ k => ⟨u, r, o, k o e, d⟩⟩
  obtain ⟨u, _, o, e, _⟩ := x
  exact ⟨o, e⟩
/-! ### cells left out, and put back -/
def cut (cs : List Addr) (H : Hp) : Hp := fun b => if b ∈ cs then Option.none else H b
def mend (cs : List Addr) (H H1 : Hp) : Hp := fun b => if b ∈ cs then H b else H1 b
theorem cut_in {cs : List Addr} {H : Hp} {b : Addr} (h : b ∈ cs) : cut cs H b = Option.none := if_pos h
theorem cut_out {cs : List Addr} {H : Hp} {b : Addr} (h : b ∉ cs) : cut cs H b = H b := if_neg h
theorem mend_in {cs : List Addr} {H H1 : Hp} {b : Addr} (h : b ∈ cs) : mend cs H H1 b = H b := if_pos h
theorem mend_out {cs : List Addr} {H H1 : Hp} {b : Addr} (h : b ∉ cs) : mend cs H H1 b = H1 b := if_neg h
def cellsOf (F : NF) (fr : List Str) : List Addr := fr.filterMap fun y => F.cl.lookup y
theorem mem_cells {F : NF} {fr : List Str} {c : Addr} : c ∈ cellsOf F fr ↔ ∃ y ∈ fr, F.cl.lookup y = some c := List.mem_filterMap
/-- the function F stands at f, and its captured cells hold ws -/
structure Clo (H : Hp) (f : Addr) (F : NF) (fr : List Str) (ws : List V) : Prop where
  fn : H f = some (FnO f F)
  code : H F.c = some (CodeO F.c F.qual)
  len : ws.length = fr.length
  dom : ∀ y c, F.cl.lookup y = some c → y ∈ fr
  inj : ∀ x y c, F.cl.lookup x = some c → F.cl.lookup y = some c → x = y
  at_ : ∀ (i : Nat) (y : Str), fr[i]? = some y → ∃ c v, F.cl.lookup y = some c ∧ ws[i]? = some v ∧ H c = some (CellO c v)
theorem Clo.same {H H1 : Hp} {f : Addr} {F : NF} {fr : List Str} {ws : List V} (h : Clo H f F fr ws) (s : Same H H1) : Clo H1 f F fr ws :=
  ⟨s _ _ h.fn, s _ _ h.code, h.len, h.dom, h.inj, fun i y e => by
    obtain ⟨c, v, a, b, d⟩ := h.at_ i y e
    exact ⟨c, v, a, b, s _ _ d⟩⟩
theorem Clo.cell {H : Hp} {f : Addr} {F : NF} {fr : List Str} {ws : List V} (h : Clo H f F fr ws) {b : Addr} (hb : b ∈ cellsOf F fr) : ∃ v, H b = some (CellO b v) := by
  obtain ⟨y, hy, e⟩ := mem_cells.mp hb
  obtain ⟨i, hi⟩ := List.mem_iff_getElem?.mp hy
  obtain ⟨c, v, a, _, d⟩ := h.at_ i y hi
  rw [e] at a
  cases a
  exact ⟨v, d⟩
/-- what is no thing by a word of its own is no cell -/
theorem Clo.out {H : Hp} {f : Addr} {F : NF} {fr : List Str} {ws : List V} (h : Clo H f F fr ws) {b : Addr} {o : HO} (e : H b = some o) (n : ∀ φ, o ≠ .ext φ) : b ∉ cellsOf F fr := fun hb => by
  obtain ⟨v, d⟩ := h.cell hb
  rw [e] at d
  exact n _ (Option.some.inj d)
section
variable {P : Program} {w : World} {K : PySem.W.Frag} {mg : Str → Option Value} {base : Heap} {k : Nat} {f : Addr} {F : NF} {ps fr : List Str} {sp : List (Option V) → Sp}
/-- A FUNCTION THAT WAS MADE IN A DEF, called from anywhere: its cells are told; while it runs they are left out, behind it they are put back -/
theorem clo_fnR (N : NOk P w K mg base CX0 k f F ps fr sp) :
    FnR P w K mg base CX0 k f (fun vs H Q E => ∃ ws, Clo H f F fr ws ∧ sp (ws.map some) vs (cut (cellsOf F fr) H) (fun v H1 => (∀ b, b ∈ cellsOf F fr → H1 b = Option.none) → Q v (mend (cellsOf F fr) H H1)) E) := by
  intro A outer s H us vs Q E hr e0 r hsp
  obtain ⟨ws, hc, hsp⟩ := hsp
  have cellAt : ∀ b, b ∈ cellsOf F fr → ∃ v, H b = some (CellO b v) := fun b hb => hc.cell hb
  have fnout : f ∉ cellsOf F fr := fun hb => by
    obtain ⟨v, e⟩ := cellAt f hb
    obtain ⟨u, _, o, e1, e2⟩ := cellO_at e0.hok e
    obtain ⟨od, sl, doc, pm, ctv, e3⟩ := fnO_at e0.hok hc.fn
    rw [e1] at e3
    cases e3
    cases e2
  have cout : F.c ∉ cellsOf F fr := fun hb => by
    obtain ⟨v, e⟩ := cellAt F.c hb
    obtain ⟨u, _, o, e1, e2⟩ := cellO_at e0.hok e
    obtain ⟨⟨oc, vs', t, h1, h2, h3⟩, _, _⟩ := e0.hok F.c _ hc.code
    rw [e1] at h1
    cases h1
    rw [e2] at h2
    cases h2
  have hokc : HOk P w (cut (cellsOf F fr) H) s.heap := fun b o e => by
    by_cases hb : b ∈ cellsOf F fr
    · rw [cut_in hb] at e
      cases e
    · rw [cut_out hb] at e
      refine (e0.hok b o e).stay (fun c u _ q => q) (fun c q => ?_) fun c xs q => ?_
      · rw [cut_out (hc.out q (fun φ z => nomatch z))]
        exact q
      · rw [cut_out (hc.out q (fun φ z => nomatch z))]
        exact q
  have noneC : ∀ b, H b = Option.none → cut (cellsOf F fr) H b = Option.none := fun b e => by
    by_cases hb : b ∈ cellsOf F fr
    · exact cut_in hb
    · rw [cut_out hb]
      exact e
  have e1 : Env0 P w K mg base A outer s (cut (cellsOf F fr) H) := ⟨e0.frames, e0.mod, fun b o q => ⟨(e0.bs b o q).1, noneC b (e0.bs b o q).2⟩, e0.bsz, e0.funs, fun b hb => noneC b (e0.frf b hb), hokc, e0.bare⟩
  have C : CellsAt F.cl fr (ws.map some) s.heap (cut (cellsOf F fr) H) := by
    refine ⟨by rw [List.length_map]; exact hc.len, fun y c e => ?_, hc.inj, fun i y e => ?_⟩
    · have hb : c ∈ cellsOf F fr := mem_cells.mpr ⟨y, hc.dom y c e, e⟩
      obtain ⟨v, d⟩ := cellAt c hb
      obtain ⟨u, _, z⟩ := cellO_at e0.hok d
      exact ⟨cut_in hb, _, z⟩
    · obtain ⟨c, v, a, b, d⟩ := hc.at_ i y e
      refine ⟨c, a, fun v' e' => ?_⟩
      rw [List.getElem?_map, b] at e'
      cases e'
      obtain ⟨u, r', z⟩ := cellO_at e0.hok d
      exact ⟨u, r', z⟩
  refine codeAny_mono (N.run A outer s (cut (cellsOf F fr) H) us vs (ws.map some) _ E hr e1 (by rw [cut_out fnout]; exact hc.fn) (by rw [cut_out cout]; exact hc.code) C r hsp) fun res s' hq => ?_
  cases res with
  | error e => exact hq
  | ok fl =>
    cases fl with
    | next => exact hq
    | brk => exact hq
    | cont => exact hq
    | ret u =>
      obtain ⟨v, H1, os, bare, un, hok1, rv, q⟩ := hq
      have gone : ∀ b, b ∈ cellsOf F fr → H1 b = Option.none := fun b hb => by
        obtain ⟨v, d⟩ := cellAt b hb
        obtain ⟨u, _, o, z1, z2⟩ := cellO_at e0.hok d
        exact un.free b o z1 (cut_in hb) (by simp)
      have notfr : ∀ b, b ∈ cellsOf F fr → b ∉ frs outer := fun b hb z => by
        obtain ⟨v, d⟩ := cellAt b hb
        rw [e0.frf b z] at d
        cases d
      refine ⟨v, mend (cellsOf F fr) H H1, os, bare, ⟨fun b o a n h1 h2 => un.keep b o a (noneC b n) h1 h2, fun b o a n h1 h2 => un.slot b o a (noneC b n) h1 h2, fun b o a n h2 => ?_, un.there, fun b xs e => ?_, fun b o u e => ?_, fun b ps e => ?_⟩, fun b o e => ?_, rv, q gone⟩
      · by_cases hb : b ∈ cellsOf F fr
        · rw [mend_in hb]
          exact n
        · rw [mend_out hb]
          exact un.free b o a (noneC b n) h2
      · have hb := hc.out e (fun φ z => nomatch z)
        rw [mend_out hb]
        exact un.tups b xs (by rw [cut_out hb]; exact e)
      · have hb := hc.out e (fun φ z => nomatch z)
        rw [mend_out hb]
        exact un.frzs b o u (by rw [cut_out hb]; exact e)
      · have hb := hc.out e (fun φ z => nomatch z)
        rw [mend_out hb]
        exact un.tbls b ps (by rw [cut_out hb]; exact e)
      · by_cases hb : b ∈ cellsOf F fr
        · rw [mend_in hb] at e
          obtain ⟨v', d⟩ := cellAt b hb
          rw [d] at e
          cases e
          obtain ⟨u', r', o', z1, z2⟩ := cellO_at e0.hok d
          exact cellO_ok ⟨u', r', o', un.keep b o' z1 (cut_in hb) (notfr b hb) (by simp), z2⟩
        · rw [mend_out hb] at e
          refine (hok1 b o e).stay (fun c u _ q => q) (fun c q => ?_) fun c xs q => ?_
          · have hb' : c ∉ cellsOf F fr := fun z => by
              rw [gone c z] at q
              cases q
            rw [mend_out hb']
            exact q
          · have hb' : c ∉ cellsOf F fr := fun z => by
              rw [gone c z] at q
              cases q
            rw [mend_out hb']
            exact q
end
theorem mend_at {cs : List Addr} {H H1 : Hp} {a : Addr} {o : HO} (g : ∀ b, b ∈ cs → H1 b = Option.none) (e : H1 a = some o) : mend cs H H1 a = some o := by
  rw [mend_out fun z => by rw [g a z] at e; cases e]
  exact e
theorem cut_at {cs : List Addr} {H : Hp} {a : Addr} {o : HO} (n : a ∉ cs) (e : H a = some o) : cut cs H a = some o := (cut_out n).trans e
end Inf

set_option Elab.async false
set_option linter.all false
set_option maxRecDepth 100000
set_option maxHeartbeats 4000000
namespace Inf
open PySem PySem.Spec PyProof.Rows L2 NdefX LamX
/-! ### a body that ends in a return: what its names hold there is told -/
abbrev TSR := (L2.St → V → Hp → Prop) → L2.St → Hp → Prop
structure PSsR (X : Cx) (ss : List Stmt) (t : TSR) : Prop where
  run : ∀ (pins : List (Addr × Obj)) (s : Shared) (σ : L2.St) (H : Hp) (R : L2.St → V → Hp → Prop), Inv X pins σ H s → t R σ H →
    wpAny (model X.prog X.w) X.A (execs ss X.env) (fun fl s' => ∃ u v σ' H', fl = .ret u ∧ Inv X pins σ' H' s' ∧ L2.RelV v u ∧ R σ' v H') X.xe s
theorem psr_cons {X : Cx} {st : Stmt} {rest : List Stmt} {t : TS} {u : TSR} (h1 : PS X st t) (h2 : PSsR X rest u) : PSsR X (st :: rest) (fun R σ H => t { nx := fun σ' H' => u R σ' H', rt := fun _ _ => False } σ H) := by
  refine ⟨fun pins s σ H R I h => ?_⟩
  refine wpAny_execs_cons (thn (h1.run pins s σ H { nx := fun σ' H' => u R σ' H', rt := fun _ _ => False } I h) fun fl s1 q => ?_)
  cases fl with
  | next =>
    obtain ⟨σ1, H1, I1, q1⟩ := q
    exact h2.run pins s1 σ1 H1 R I1 q1
  | brk =>
    obtain ⟨_, _, _, q1⟩ := q
    exact False.elim q1
  | cont =>
    obtain ⟨_, _, _, q1⟩ := q
    exact False.elim q1
  | ret v =>
    obtain ⟨_, _, _, _, _, q1⟩ := q
    exact False.elim q1
theorem psr_ret {X : Cx} {e : Expr} {pos : Pos} {te : TE} (he : PE X e te) : PSsR X [.Return (some e) pos] (fun R σ H => te σ H (R σ)) := by
  refine ⟨fun pins s σ H R I h => ?_⟩
  refine wpAny_execs_cons (wpAny_Return_some (thn (he.run pins s σ H _ I h) fun v s1 ⟨x, H1, I1, r1, q1⟩ => ?_))
  exact ⟨v, x, σ, H1, rfl, I1, r1, q1⟩
/-! ### a def that returns things that hold its names -/
/-- the heap behind the return: the def's cells are told -/
structure Fin (cells : List (Str × Addr)) (names : List (Str × NameKind)) (N : List Str) (σ : L2.St) (H H' : Hp) : Prop where
  same : Same H H'
  gone : ∀ b, H' b = Option.none → H b = Option.none
  inj : ∀ x y c, cells.lookup x = some c → cells.lookup y = some c → x = y
  at_ : ∀ (i : Nat) (y : Str) (c : Addr) (v : V), N[i]? = some y → names.lookup y = some .cell → cells.lookup y = some c → σ[i]? = some (some v) → H' c = some (CellO c v)
theorem cells_big : ∀ (names : List (Str × NameKind)) (n lo : Nat) (acc : List (Str × Addr)), (∀ p ∈ acc, lo ≤ p.2) → lo ≤ n → ∀ p ∈ cellsFrom n names acc, lo ≤ p.2
  | [], n, lo, acc, h, _ => h
  | (x, kd) :: r, n, lo, acc, h, hn => by
    unfold cellsFrom
    split
    · exact cells_big r (n + 1) lo _ (fun p hp => by
        rcases List.mem_cons.mp hp with rfl | hp
        · exact hn
        · exact h p hp) (by omega)
    · exact cells_big r n lo acc h hn
section
variable {CX : CXT} {P : Program} {w : World} {K : PySem.W.Frag} {mg : Str → Option Value} {base : Heap} {N ps : List Str} {qual : Str} {scope : Scope} {f : Addr} {cdv : Value} {A : Around} {outer : List Env} {s s' : Shared} {H H' : Hp} {E : XK} {σ : L2.St} {Q : VK}
open Classical in
theorem fin_make (nd : N.Nodup) (J : Inv (cxOf CX P w K mg base N qual scope f cdv A outer s H E) [] σ H' s') :
    ∃ H'', Fin (envOfC qual scope s.heap.objs.size f cdv).cells scope.names N σ H' H'' ∧ Un (frs outer) [] H H'' s.heap s'.heap ∧ HOk P w H'' s'.heap := by
  have ge : ∀ (y : Str) (c : Addr), (envOfC qual scope s.heap.objs.size f cdv).cells.lookup y = some c → s.heap.objs.size ≤ c := fun y c e =>
    cells_big scope.names (s.heap.objs.size + 1) s.heap.objs.size [] (fun p hp => by cases hp) (Nat.le_succ _) (y, c) (PySem.mem_of_lookup e)
  have J0 : Un (frs outer) [] H H' s.heap s'.heap := J.base
  have inj := J.ok.inj
  let Pr : Addr → V → Prop := fun b v => ∃ (i : Nat) (y : Str), N[i]? = some y ∧ scope.names.lookup y = some .cell ∧ (envOfC qual scope s.heap.objs.size f cdv).cells.lookup y = some b ∧ σ[i]? = some (some v)
  have gone : ∀ b v, Pr b v → H' b = Option.none := fun b v ⟨i, y, _, _, e, _⟩ => J.freeC y b e
  have uniq : ∀ b v u, Pr b v → Pr b u → v = u := fun b v u ⟨i, y, a1, a2, a3, a4⟩ ⟨j, z, b1, b2, b3, b4⟩ => by
    have e1 : y = z := inj y z b a3 b3
    subst e1
    have e2 : i = j := by
      obtain ⟨h1, g1⟩ := List.getElem?_eq_some_iff.mp a1
      obtain ⟨h2, g2⟩ := List.getElem?_eq_some_iff.mp b1
      exact (List.getElem_inj nd).mp (g1.trans g2.symm)
    subst e2
    rw [a4] at b4
    exact Option.some.inj (Option.some.inj b4)
  let H'' : Hp := fun b => if h : ∃ v, Pr b v then some (CellO b (Classical.choose h)) else H' b
  have inC : ∀ b v, Pr b v → H'' b = some (CellO b v) := fun b v h => by
    have hx : ∃ v, Pr b v := ⟨v, h⟩
    show (if h : ∃ v, Pr b v then some (CellO b (Classical.choose h)) else H' b) = _
    rw [dif_pos hx, uniq b _ v (Classical.choose_spec hx) h]
  have outC : ∀ b, (¬ ∃ v, Pr b v) → H'' b = H' b := fun b h => dif_neg h
  have known : ∀ b o, H' b = some o → H'' b = some o := fun b o e => by
    rw [outC b fun ⟨v, h⟩ => by rw [gone b v h] at e; cases e]
    exact e
  refine ⟨H'', ⟨known, fun b e => ?_, inj, fun i y c v h1 h2 h3 h4 => inC c v ⟨i, y, h1, h2, h3, h4⟩⟩, ⟨J0.keep, J0.slot, fun b o a n h2 => ?_, J0.there, fun b xs e => known _ _ (J0.tups b xs e), fun b o u e => known _ _ (J0.frzs b o u e), fun b ps' e => ?_⟩, fun b o e => ?_⟩
  · by_cases hb : ∃ v, Pr b v
    · obtain ⟨v, h⟩ := hb
      rw [inC b v h] at e
      cases e
    · rw [outC b hb] at e
      exact e
  · rw [outC b fun ⟨v, i, y, _, _, e, _⟩ => by
      exact absurd (Heap.lt_size a) (Nat.not_lt.mpr (ge y b e))]
    exact J0.free b o a n h2
  · obtain ⟨more, e2⟩ := J0.tbls b ps' e
    exact ⟨more, known _ _ e2⟩
  · by_cases hb : ∃ v, Pr b v
    · obtain ⟨v, h⟩ := hb
      rw [inC b v h] at e
      cases e
      obtain ⟨i, y, a1, a2, a3, a4⟩ := h
      obtain ⟨m, hn, hl⟩ := J.loc
      obtain ⟨u, ru, lk⟩ := hl i y v a1 a4 (.inr (.inl a2))
      refine cellO_ok ⟨u, ru, ?_⟩
      rcases lk with ⟨z, _⟩ | ⟨_, c', hc', hcell⟩
      · have z' : scope.names.lookup y = some .local := z
        rw [a2] at z'
        cases z'
      · have hc2 : (envOfC qual scope s.heap.objs.size f cdv).cells.lookup y = some c' := hc'
        rw [a3] at hc2
        cases hc2
        exact hcell
    · rw [outC b hb] at e
      exact (J.hok b o e).stay (fun c u _ q => q) (fun c q => known _ _ q) fun c xs q => known _ _ q
end
/-- THE RULE for such a def -/
theorem Fun.okC {P : Program} {w : World} {K : PySem.W.Frag} {mg : Str → Option Value} {base : Heap} {x qual : Str} {st : Stmt} {f : Addr} {fd : FuncData} {N ps : List Str} {k : Nat} {sp : Sp} (F : L2.Fun K x qual st f fd) (S : FnScope N ps (defScope st)) (len : ∀ vs H Q E, sp vs H Q E → vs.length = ps.length)
    (hbody : ∀ (cdv : Value) (A : Around) (outer : List Env) (s : Shared) (H : Hp) (vs : List V) (Q : VK) (E : XK), Room k (A.deeper (envOfC qual (defScope st) s.heap.objs.size f cdv)) → PySem.W.codeIn K cdv qual = true → sp vs H Q E →
      ∃ t, PSsR (cxOf CX0 P w K mg base N qual (defScope st) f cdv A outer s H E).nox (defBody st) t ∧
        t (fun σ v H' => ∀ H'', Fin (envOfC qual (defScope st) s.heap.objs.size f cdv).cells (defScope st).names N σ H' H'' → Q v H'') (start N vs) H) : FnOk P w K mg base CX0 (k + 1) f fd ps sp := by
  obtain ⟨oc, od, kV, doc, pm, an, cdv, ct, osl, rfl, lk, hcd⟩ := F.ex
  refine ⟨len, fun A outer s H args us vs Q E hr e0 hb r hsp => ?_⟩
  have hl := len _ _ _ _ hsp
  have KX : K.In s.heap := e0.mod.kin.keeps fun b o e => (e0.bs b o e).1
  have lim : s.heap.NoLimit := e0.mod.nolimit.keeps fun b o e => (e0.bs b o e).1
  have hkind : ∀ y ∈ ps.zip us, (defScope st).names.lookup y.1 = some .local ∨ ((defScope st).names.lookup y.1 = some .cell ∧ ((cellsFrom (s.heap.objs.size + 1) (defScope st).names []).lookup y.1).isSome = true) := fun ⟨n, v⟩ hy => by
    rcases S.par n (List.of_mem_zip hy).1 with q | q
    · exact .inl q
    · exact .inr ⟨q, PySem.W.cellsFrom_some _ _ _ (.inl q)⟩
  refine codeAny_call_function hr.depth (KX _ _ lk) rfl S.co S.gen rfl (PySem.W.codeRec_of KX hcd) (hb _ _ _ _ ?_)
  refine wpAny_newFunctionEnv_cells S.kind hkind fun env he s1 xx => ?_
  subst he
  refine ⟨lim.keeps xx.toInCall.keep, codeAny_func ?_⟩
  obtain ⟨t, ht, hq⟩ := hbody cdv A outer s H vs Q E (hr.deeper _) hcd hsp
  have I : Inv (cxOf CX0 P w K mg base N qual (defScope st) f cdv A outer s H E) [] (start N vs) H s1 := inv_start S hr.hd e0 hl r xx
  refine wpAny_mono (ht.run [] s1 (start N vs) H _ (I.wish _) hq) (fun fl s' hs => ?_) fun e s' hs => False.elim hs
  obtain ⟨u, v, σ', H', rfl, J', rv, q⟩ := hs
  have J : Inv (cxOf CX0 P w K mg base N qual (defScope st) f cdv A outer s H E) [] σ' H' s' := J'.unwish
  obtain ⟨H'', hF, hU, hO⟩ := fin_make S.nd J
  exact ⟨v, H'', J.os, J.bare, hU, hO, rv, q H'' hF⟩
end Inf

set_option Elab.async false
set_option linter.all false
set_option maxRecDepth 100000
set_option maxHeartbeats 4000000
namespace Inf
open PySem PySem.Spec PyProof.Rows L2 NdefX LamX
/-! ### f( *values), f a name that holds a function that was made in a def -/
/-- such a thing is a function object -/
def FnHO (f : Addr) (o : HO) : Prop := ∀ (P : Program) (w : World) (H : Hp) (h : Heap), HOk P w H h → H f = some o → PySem.W.FnAt f h
theorem fnHO_of {f : Addr} {F : NF} : FnHO f (FnO f F) := fun P w H h hok e => by
  obtain ⟨od, sl, doc, pm, ctv, z⟩ := fnO_at hok e
  exact ⟨_, od, _, sl, z⟩
def tAct (P : Program) (w : World) (K : PySem.W.Frag) (mg : Str → Option Value) (base : Heap) (CX : CXT) (k i : Nat) (E : L2.St → XK) (te : TE) : TE := fun σ H Q => ∃ f, σ[i]? = some (some (.ref f)) ∧ te σ H fun y H1 => ∃ a xs o sp, y = V.ref a ∧ (SqT K H1 a xs ∨ SqL K H1 a xs) ∧ H1 f = some o ∧ FnHO f o ∧
  FnR P w K mg base CX k f sp ∧ sp xs H1 Q (E σ)
section
variable {X : Cx} {CX : CXT} {k i : Nat} {E : L2.St → XK} {x : Str} {e : Expr} {te : TE} {p sp_ pos : Pos}
theorem run_fnE {pins : List (Addr × Obj)} {σ : L2.St} {H : Hp} {s : Shared} {f : Addr} {sp : Sp} {Q : VK} {us : List Value} {vs : List V} (F : FnR X.prog X.w X.K X.mg X.base CX k f sp) (hr : Room k X.A) (hx : PassesAt CX X σ (E σ)) (I : Inv X pins σ H s) (r : Vals vs us) (h : sp vs H Q (E σ)) :
    wpAny (model X.prog X.w) X.A (call (.ref f) us) (EP X pins σ Q) X.xe s := by
  refine wpAny_call (codeAny_mono (F X.A X.stack s H us vs Q (E σ) hr I.env0 r h) fun r s' hq => ?_)
  match r, hq with
  | .error e, hq => exact hx pins H s e s' I hq
  | .ok (.ret u), hq => exact I.after hq
  | .ok .next, hq => exact False.elim hq
  | .ok .brk, hq => exact False.elim hq
  | .ok .cont, hq => exact False.elim hq
theorem pe_act (hN : X.N[i]? = some x) (hv : Vis X.env.scope x) (hr : Room k X.A) (hx : ∀ σ, PassesAt CX X σ (E σ)) (he : PE X e te) (hd : (x == ("__debug__" : Str)) = false := by decide) (hcd : (x == ("__classdict__" : Str)) = false := by decide)
    (hst : starEach [.Starred e sp_] X.env = [(true, eval e X.env)] := by rfl) : PE X (.Call (.Name x p) [.Starred e sp_] [] pos) (tAct X.prog X.w X.K X.mg X.base CX k i E te) := by
  refine ⟨fun pins s σ H Q I h => ?_⟩
  obtain ⟨f, hs, h⟩ := h
  refine wpAny_Call_Name_kw (thn ((pe_var (pos := p) hN hv hd hcd).run pins s σ H (fun v H1 => v = .ref f ∧ H1 = H) I ⟨.ref f, hs, rfl, rfl⟩) fun u s1 ⟨v, H1, I1, r1, ev, eH⟩ => ?_)
  subst ev
  rw [eH] at I1
  obtain rfl : u = Value.ref f := r1
  rw [show backTo pos (starEach [.Starred e sp_] X.env) = [(true, (do let v ← eval e X.env; standAt pos; pure v))] by rw [hst]; rfl]
  refine PySem.W.ks_call (P := PySem.W.FnAt f) rfl PySem.W.keeps_F (PySem.W.ks_lone ?_)
  refine thn (he.run pins s1 σ H _ I1 h) fun v s2 ⟨y, H2, I2, ry, a, xs, o, sp, ey, hxs, hf, ho, hF, q⟩ => ?_
  subst ey
  obtain rfl : v = Value.ref a := ry
  exact StX.star_any I2 hxs fun us s3 I3 rv => ⟨ho _ _ _ _ I3.hok hf, run_fnE hF hr (hx σ) I3 rv q⟩
end
/-! ### try: body finally: suite, where nothing is raised -/
section
variable {X : Cx} {body : List Stmt} {f₀ : Stmt} {fs : List Stmt} {pos : Pos} {tb tf : TS}
def tFin0 (tb tf : TS) : TS := fun D σ H => tb { nx := fun σ1 H1 => tf D σ1 H1, rt := fun _ _ => False } σ H
theorem ps_fin0 (hb : PSs X.nox body tb) (hf : PSs X.nox (f₀ :: fs) tf) : PS X (.Try body [] [] (f₀ :: fs) pos) (tFin0 tb tf) := by
  refine ⟨fun pins s σ H D I h => wpAny_Try_finally (wpAny_mono (hb.run pins s σ H _ (I.wish _) h) (fun g s1 z => ?_) fun _ _ z => False.elim z)⟩
  match g, z with
  | .ret u, z => exact (z.elim fun _ z => z.elim fun _ z => z.elim fun _ z => z.2.2).elim
  | .brk, z => exact (z.elim fun _ z => z.elim fun _ z => z.2).elim
  | .cont, z => exact (z.elim fun _ z => z.elim fun _ z => z.2).elim
  | .next, z =>
    obtain ⟨σ1, H1, J1, q1⟩ := z
    refine wpAny_execs_nil (wpAny_mono (hf.run pins s1 σ1 H1 D (J1.unwish.wish _) q1) (fun g2 s2 q2 => ?_) fun _ _ e => False.elim e)
    have q3 : SP X pins D g2 s2 := q2.unwish
    cases g2 <;> exact q3
end
end Inf

set_option Elab.async false
set_option linter.all false
set_option maxRecDepth 100000
set_option maxHeartbeats 4000000
namespace Inf
open PySem PySem.Spec PyProof.Rows L2 NdefX LamX
/-- the tables of the code objects of the top's defs, as the written part and the head tell them -/
def TopTabs (q : Program) (K : PySem.W.Frag) (mg : Str → Option Value) (h : Heap) : Prop := ∀ (x : Str) (f c P : Addr) (o1 : Obj) (fd1 : FuncData) (e : Value) (dd : Option Addr) (vs1 : Array Value) (sl : Array (Option Value)),
  (recsOf q).any (fun d => d.name == x) = true → mg x = some (.ref f) → K.lookup f = some o1 → o1.data = .func fd1 → fd1.code = .ref c → K.lookup c = some ⟨e, dd, .fields vs1, sl⟩ → vs1[11]? = some (.ref P) →
    PySem.W.CodeHd h c P ∧ h.get? P = some { cls := .none, data := .fields #[] }
theorem walk_top {l : PySem.W.OpenLaw} {n k : Nat} {q : Program} {loose : List Str} {XP : (Str → Option Value) → Heap → Prop} {YP : World → Heap → Prop} {d : DefRec} {K : Params → PySem.W.Frag} {CX : World → CXT} {x : Str}
    (hn : l.most = some n) (hn2 : n ≤ sizeLine) (hdf : d.params.defaults = []) (hr : Room k callerA) (hY : ∀ (w : World) (h : Heap), YP w h → (K w.params).In h)
    (F : ∀ (w : World) (mg : Str → Option Value) (fa : Addr) (h : Heap), YP w h → (K w.params).In h → h.Ns mainGlobals mg → mg d.name = some (.ref fa) → TopTabs q (K w.params) mg h → LawAtS l w (K w.params) (CX w) k n x mg fa h)
    (hCX : ∀ (w : World) (H : Hp) (s : Shared) (e : Value) (s' : Shared), CX w [] H s (fun _ _ _ => False) e s' → False) :
    PySem.W.WalkO q loose XP YP l.row.toRowW d [] (fun f vs => PySem.call f vs) :=
  Att.attach_callB hn hdf fun w s₀ s₁ mg mb fa o pm cd doc a vs ns G Y ho hd hcd hmg hobj hints hlen hbits hg => by
    have KX := hY w _ Y
    have tabs : TopTabs q (K w.params) mg s₁.heap := fun x f c P o1 fd1 e dd vs1 sl hrec hx k1 k2 k3 k4 k5 => by
      obtain ⟨dL, hm, hn1⟩ := List.any_eq_true.mp hrec
      have hn2 : dL.name = x := beq_iff_eq.mp hn1
      obtain ⟨a', o', fd', c', P', h1, h2, h3, h4, h5, h6⟩ := G.T.tab dL hm
      rw [hn2, hx] at h1
      cases h1
      have g1 := KX _ _ k1
      rw [g1] at h2
      cases h2
      rw [k2] at h3
      cases h3
      rw [k3] at h4
      cases h4
      have hC := PySem.W.CodeHd.of h5 h6
      obtain ⟨⟨oc, vc, e1, _, e3, e4⟩, hP⟩ := h6
      have g2 := KX _ _ k4
      rw [g2] at e1
      cases e1
      cases e3
      rw [k5] at e4
      cases e4
      exact ⟨hC, hP⟩
    obtain ⟨fd, cs, sp, hT, nT, C, hb, hsp, hF⟩ := F w mg fa _ Y KX G.T.g hmg tabs
    exact law_callTs KX G.T.g G.T.b G.T.builtins G.T.nolimit hg hT nT C G.T.bmain hobj hints (Nat.le_trans hlen hn2) hr hF hb (fun H hH hS => hsp H a ns hlen hbits hH hS) fun H e s' => hCX w H s₁ e s'
end Inf

set_option Elab.async false
set_option linter.all false
set_option maxRecDepth 100000
set_option maxHeartbeats 4000000
namespace Inf
open PySem PySem.Spec PyProof.Rows L2 NdefX LamX
/-! ### promises of defs that are called where no repr is under way -/
structure FnOkG (P : Program) (w : World) (K : PySem.W.Frag) (mg : Str → Option Value) (base : Heap) (CX : CXT) (k : Nat) (f : Addr) (fd : FuncData) (ps : List Str) (sp : Sp) : Prop where
  len : ∀ vs H Q E, sp vs H Q E → vs.length = ps.length
  run : ∀ (A : Around) (outer : List Env) (s : Shared) (H : Hp) (args : Args) (us : List Value) (vs : List V) (Q : VK) (E : XK), A.guards = some [] → Room k A → Env0 P w K mg base A outer s H → BindsTo s fd args (ps.zip us) → Vals vs us → sp vs H Q E →
    codeAny (model P w) A (.call (.ref f) args) (CR CX outer P w H s Q E) s
theorem FnOkG.of {P : Program} {w : World} {K : PySem.W.Frag} {mg : Str → Option Value} {base : Heap} {CX : CXT} {k : Nat} {f : Addr} {fd : FuncData} {ps : List Str} {sp : Sp} (F : FnOk P w K mg base CX k f fd ps sp) : FnOkG P w K mg base CX k f fd ps sp :=
  ⟨F.len, fun A outer s H args us vs Q E _ => F.run A outer s H args us vs Q E⟩
section
variable {P : Program} {w : World} {K : PySem.W.Frag} {mg mb : Str → Option Value} {CX : CXT} {k : Nat} {fa a : Addr} {cs : List (Addr × Addr)} {fd : FuncData} {x : Str} {sp : Sp} {s₁ : Shared} {vs : List Value} {ns : List Int}
/-- the law's call, from such a promise -/
theorem call_lawG (KX : K.In s₁.heap) (hns : s₁.heap.Ns mainGlobals mg) (hb : s₁.heap.Ns builtinsNs mb) (hbb : ∀ x : Str, x ≠ "__name__" → mb x = bootBuiltins x) (hlim : s₁.heap.NoLimit) (hg : s₁.gens = #[])
    (hT : ∀ p ∈ cs, s₁.heap.get? p.2 = some { cls := .none, data := .fields #[] }) (nT : ∀ p ∈ cs, K.lookup p.2 = none) (C : ∀ p ∈ cs, PySem.W.CodeHd s₁.heap p.1 p.2)
    (hbm : ∃ (bm : Addr) (ob : Obj), mg "__builtins__" = some (.ref bm) ∧ bm ≠ builtinsNs ∧ s₁.heap.get? bm = some ob ∧ ob.cls = .type "module" ∧ ob.dict = some builtinsNs ∧ ob.data = .plain)
    (ha : s₁.heap.get? a = some { cls := .type "list", data := .seq vs.toArray }) (hi : IntsAre vs ns) (hl : ns.length ≤ sizeLine) (hr : Room k callerA)
    (F : ∀ base : Heap, K.In base → base.Ns mainGlobals mg → (∀ p ∈ cs, TabB base mg p.1 p.2) → FnOkG P w K mg base CX k fa fd [x] sp) (hbind : ∀ (s : Shared) (u : Value), BindsTo s fd ⟨[u], []⟩ [(x, u)])
    (hsp : ∀ H : Hp, (∀ p ∈ cs, H p.2 = some (.tbl #[])) → SqL K H a (ns.map V.int) → sp [.ref a] H (fun v _ => v = .bl true) fun _ _ _ => False)
    (hCX : ∀ H e s', CX [] H s₁ (fun _ _ _ => False) e s' → False) :
    codeAny (model P w) callerA (.call (.ref fa) ⟨[.ref a], []⟩) (fun r s' => r = .ok (.ret (.bool true)) ∧ OldK s₁.heap s'.heap ∧ s'.os = s₁.os ∧ AllBare s'.gens) s₁ := by
  have tabAt : ∀ b, b ∈ cs.map (·.2) → s₁.heap.get? b = some { cls := .none, data := .fields #[] } := fun b hb => (List.mem_map.mp hb).elim fun p hp => hp.2 ▸ hT p hp.1
  have tabK : ∀ b, b ∈ cs.map (·.2) → K.lookup b = none := fun b hb => (List.mem_map.mp hb).elim fun p hp => hp.2 ▸ nT p hp.1
  -- the abstract heap: the tables, and the script where the written part doesn't hold it
  let H : Hp := fun b => if b ∈ cs.map (·.2) then some (.tbl #[]) else if b = a ∧ K.lookup a = none then some (.frz { cls := .type "list", data := .seq vs.toArray } (.lst (ns.map V.int))) else none
  have aNot : a ∉ cs.map (·.2) := fun z => by
    have := tabAt a z
    rw [ha] at this
    cases this
  have Htab : ∀ b, b ∈ cs.map (·.2) → H b = some (.tbl #[]) := fun b hb => if_pos hb
  have Hcase : ∀ b u, H b = some u → (b ∈ cs.map (·.2) ∧ u = .tbl #[]) ∨ (b = a ∧ K.lookup a = none ∧ u = .frz { cls := .type "list", data := .seq vs.toArray } (.lst (ns.map V.int))) := fun b u e => by
    by_cases h1 : b ∈ cs.map (·.2)
    · exact .inl ⟨h1, Option.some.inj (e.symm.trans (Htab b h1))⟩
    · by_cases h2 : b = a ∧ K.lookup a = none
      · exact .inr ⟨h2.1, h2.2, Option.some.inj (e.symm.trans ((if_neg h1).trans (if_pos h2)))⟩
      · exact absurd (e.symm.trans ((if_neg h1).trans (if_neg h2))) (fun z => nomatch z)
  have other : ∀ b o, s₁.heap.get? b = some o → (∀ its n, o.data ≠ .seq its n) → o.data ≠ .fields #[] → H b = none := fun b o e n1 n2 => by
    match q : H b with
    | none => rfl
    | some u =>
      rcases Hcase b u q with ⟨z, _⟩ | ⟨z, _, _⟩
      · rw [tabAt b z] at e
        exact absurd (by cases e; rfl) n2
      · rw [z, ha] at e
        exact absurd (by cases e; rfl) (n1 vs.toArray 0)
  have hok : HOk P w H s₁.heap := fun b u e => by
    rcases Hcase b u e with ⟨z, rfl⟩ | ⟨rfl, _, rfl⟩
    · exact tabAt b z
    · exact ⟨ha, by rw [List.length_map]; exact hl, vs, _, vals_ints hi, ha⟩
  have hS : SqL K H a (ns.map V.int) := by
    match hk : K.lookup a with
    | none => exact .inl (.inr ⟨_, (if_neg aNot).trans (if_pos ⟨rfl, hk⟩)⟩)
    | some o =>
      have e := KX a o hk
      rw [ha] at e
      cases e
      have lenV := hi.length
      exact .inr ⟨_, vs.toArray, _, hk, rfl, rfl, rfl, by rw [List.size_toArray, lenV]; exact hl, by simpa using vals_ints hi⟩
  have low : ∀ b o, s₁.heap.get? b = some o → H b = none → (hidT s₁.heap H).get? b = some o := fun b o e n => hidT_get e n
  have lowNs : ∀ {b : Addr} {m : Str → Option Value}, s₁.heap.Ns b m → (hidT s₁.heap H).Ns b m := fun {b m} h => by
    obtain ⟨o, es, ep, e, d, r⟩ := h
    exact ⟨o, es, ep, low b o e (other b o e (fun its n z => by rw [d] at z; cases z) fun z => by rw [d] at z; cases z), d, r⟩
  have lowK : K.In (hidT s₁.heap H) := fun b o e => low b o (KX b o e) (by
    match q : H b with
    | none => rfl
    | some u =>
      rcases Hcase b u q with ⟨z, _⟩ | ⟨rfl, z, _⟩
      · rw [tabK b z] at e
        cases e
      · rw [z] at e
        cases e)
  have notG : ∀ b o, s₁.heap.get? b = some o → (∀ es ep, o.data ≠ .dict es ep) → b ≠ mainGlobals := fun b o e n z => by
    obtain ⟨o', es, ep, e', d, _⟩ := hns
    rw [z, e'] at e
    cases e
    exact n es ep d
  have lowT : ∀ p ∈ cs, TabB (hidT s₁.heap H) mg p.1 p.2 := fun p hp => by
    refine ⟨?_, ?_, Ne.symm (notG p.2 _ (hT p hp) (fun es ep z => nomatch z))⟩
    · obtain ⟨o, us, file, tf, flags, tg, inF, text, tt, e1, r1, r2, r3, rest⟩ := C p hp
      refine ⟨o, us, file, tf, flags, tg, inF, text, tt, low _ o e1 (other _ o e1 (fun its n z => by rw [r2] at z; cases z) fun z => ?_), r1, r2, r3, rest⟩
      rw [r2] at z
      cases z
      simp at r3
    · obtain ⟨bm, ob, b1, b2, b3, b4, b5, b6⟩ := hbm
      refine ⟨bm, ob, b1, b2, notG bm ob b3 (fun es ep z => by rw [b6] at z; cases z), fun z => ?_, low bm ob b3 (other bm ob b3 (fun its n z => by rw [b6] at z; cases z) fun z => by rw [b6] at z; cases z), b4, b5, b6⟩
      rw [z, hT p hp] at b3
      cases b3
      cases b6
  have lowM : L2.Mod K mg (hidT s₁.heap H) := ⟨lowK, lowNs hns, ⟨mb, lowNs hb, hbb⟩, hlim.elim fun mc h => ⟨mc, lowNs h.1, h.2⟩⟩
  have e0 : Env0 P w K mg (hidT s₁.heap H) callerA [] s₁ H := ⟨rfl, lowM, fun b o e => of_hidT e, Nat.le_of_eq (hidT_size _ _), trivial, fun b hb => absurd (show b ∈ ([] : List Addr) from hb) (List.not_mem_nil), hok, .of_eq hg⟩
  refine codeAny_mono ((F _ lowK (lowNs hns) lowT).run callerA [] s₁ H ⟨[.ref a], []⟩ [.ref a] [.ref a] _ _ rfl hr e0 (hbind s₁ (.ref a)) (.cons rfl .nil) (hsp H (fun p hp => Htab _ (List.mem_map.mpr ⟨p, hp, rfl⟩)) hS)) fun r s' h => ?_
  match r, h with
  | .error e, h => exact (hCX H e s' h).elim
  | .ok .next, h => exact False.elim h
  | .ok .brk, h => exact False.elim h
  | .ok .cont, h => exact False.elim h
  | .ok (.ret u), h =>
    obtain ⟨v, H', os, bare, un, hok', r', q⟩ := h
    have q2 : v = .bl true := q
    subst q2
    obtain rfl : u = Value.bool true := r'
    have stays : ∀ b o, b ∉ cs.map (·.2) → s₁.heap.get? b = some o → s'.heap.get? b = some o := fun b o nb e => by
      match z : H b with
      | none => exact un.keep b o e z (fun z => nomatch z) (fun z => nomatch z)
      | some u =>
        rcases Hcase b u z with ⟨y, _⟩ | ⟨rfl, _, rfl⟩
        · exact absurd y nb
        · obtain ⟨e1, _⟩ := hok' b _ (un.frzs b _ _ z)
          rw [ha] at e
          cases e
          exact e1
    have tabs : ∀ p ∈ cs, ∃ more : Array Value, s'.heap.get? p.2 = some { cls := .none, data := .fields more } := fun p hp =>
      (un.tbls p.2 #[] (Htab _ (List.mem_map.mpr ⟨p, hp, rfl⟩))).elim fun more z => ⟨_, hok' p.2 _ z⟩
    refine ⟨rfl, ⟨fun b o e => ?_, fun b o e => ?_⟩, os, bare⟩
    · by_cases nb : b ∈ cs.map (·.2)
      · obtain ⟨p, hp, rfl⟩ := List.mem_map.mp nb
        rw [hT p hp] at e
        cases e
        exact (tabs p hp).elim fun more hm => .inr (.inl ⟨((C p hp).tab (hT p hp)).isCodeTable, rfl, #[], more, rfl, hm.trans (by rw [Array.empty_append])⟩)
      · exact .inl (stays b o nb e)
    · by_cases nb : b ∈ cs.map (·.2)
      · obtain ⟨p, hp, rfl⟩ := List.mem_map.mp nb
        exact (tabs p hp).elim fun more hm => ⟨_, hm⟩
      · exact ⟨o, stays b o nb e⟩
end
/-- what is known of the law's promise at the head's heap, where no repr is under way -/
def LawAtG (l : PySem.W.OpenLaw) (w : World) (K : PySem.W.Frag) (CX : CXT) (k n : Nat) (x : Str) (mg : Str → Option Value) (fa : Addr) (h : Heap) : Prop :=
  ∃ (fd : FuncData) (cs : List (Addr × Addr)) (sp : Sp), (∀ p ∈ cs, h.get? p.2 = some { cls := .none, data := .fields #[] }) ∧ (∀ p ∈ cs, K.lookup p.2 = none) ∧ (∀ p ∈ cs, PySem.W.CodeHd h p.1 p.2) ∧ (∀ (s : Shared) (u : Value), BindsTo s fd ⟨[u], []⟩ [(x, u)]) ∧
    (∀ (H : Hp) (a : Addr) (ns : List Int), ns.length ≤ n → (∀ p ∈ cs, H p.2 = some (.tbl #[])) → SqL K H a (ns.map V.int) → sp [.ref a] H (fun v _ => v = .bl true) fun _ _ _ => False) ∧
    ∀ base : Heap, K.In base → base.Ns mainGlobals mg → (∀ p ∈ cs, TabB base mg p.1 p.2) → FnOkG l.prog w K mg base CX k fa fd [x] sp
theorem walk_topG {l : PySem.W.OpenLaw} {n k : Nat} {q : Program} {loose : List Str} {XP : (Str → Option Value) → Heap → Prop} {YP : World → Heap → Prop} {d : DefRec} {K : Params → PySem.W.Frag} {CX : World → CXT} {x : Str}
    (hn : l.most = some n) (hn2 : n ≤ sizeLine) (hdf : d.params.defaults = []) (hr : Room k callerA) (hY : ∀ (w : World) (h : Heap), YP w h → (K w.params).In h)
    (F : ∀ (w : World) (mg : Str → Option Value) (fa : Addr) (h : Heap), YP w h → (K w.params).In h → h.Ns mainGlobals mg → mg d.name = some (.ref fa) → TopTabs q (K w.params) mg h → LawAtG l w (K w.params) (CX w) k n x mg fa h)
    (hCX : ∀ (w : World) (H : Hp) (s : Shared) (e : Value) (s' : Shared), CX w [] H s (fun _ _ _ => False) e s' → False) :
    PySem.W.WalkO q loose XP YP l.row.toRowW d [] (fun f vs => PySem.call f vs) :=
  Att.attach_callB hn hdf fun w s₀ s₁ mg mb fa o pm cd doc a vs ns G Y ho hd hcd hmg hobj hints hlen hbits hg => by
    have KX := hY w _ Y
    have tabs : TopTabs q (K w.params) mg s₁.heap := fun x f c P o1 fd1 e dd vs1 sl hrec hx k1 k2 k3 k4 k5 => by
      obtain ⟨dL, hm, hn1⟩ := List.any_eq_true.mp hrec
      have hn2 : dL.name = x := beq_iff_eq.mp hn1
      obtain ⟨a', o', fd', c', P', h1, h2, h3, h4, h5, h6⟩ := G.T.tab dL hm
      rw [hn2, hx] at h1
      cases h1
      have g1 := KX _ _ k1
      rw [g1] at h2
      cases h2
      rw [k2] at h3
      cases h3
      rw [k3] at h4
      cases h4
      have hC := PySem.W.CodeHd.of h5 h6
      obtain ⟨⟨oc, vc, e1, _, e3, e4⟩, hP⟩ := h6
      have g2 := KX _ _ k4
      rw [g2] at e1
      cases e1
      cases e3
      rw [k5] at e4
      cases e4
      exact ⟨hC, hP⟩
    obtain ⟨fd, cs, sp, hT, nT, C, hb, hsp, hF⟩ := F w mg fa _ Y KX G.T.g hmg tabs
    exact call_lawG KX G.T.g G.T.b G.T.builtins G.T.nolimit hg hT nT C G.T.bmain hobj hints (Nat.le_trans hlen hn2) hr hF hb (fun H hH hS => hsp H a ns hlen hH hS) fun H e s' => hCX w H s₁ e s'
/-! ### bodies and calls of such defs -/
theorem okG {P : Program} {w : World} {K : PySem.W.Frag} {mg : Str → Option Value} {base : Heap} {x qual : Str} {st : Stmt} {f : Addr} {fd : FuncData} {N ps : List Str} {k : Nat} {sp : Sp} (F : L2.Fun K x qual st f fd) (S : FnScope N ps (defScope st)) (len : ∀ vs H Q E, sp vs H Q E → vs.length = ps.length)
    (hbody : ∀ (cdv : Value) (A : Around) (outer : List Env) (s : Shared) (H : Hp) (vs : List V) (Q : VK) (E : XK), (A.deeper (envOfC qual (defScope st) s.heap.objs.size f cdv)).guards = some [] → Room k (A.deeper (envOfC qual (defScope st) s.heap.objs.size f cdv)) → sp vs H Q E →
      ∃ t, PSs (cxOf CX0 P w K mg base N qual (defScope st) f cdv A outer s H E).nox (defBody st) t ∧ t { nx := fun _ H' => Q .non H', rt := Q } (start N vs) H) : FnOkG P w K mg base CX0 (k + 1) f fd ps sp := by
  obtain ⟨oc, od, kV, doc, pm, an, cdv, ct, osl, rfl, lk, hcd⟩ := F.ex
  refine ⟨len, fun A outer s H args us vs Q E hga hr e0 hb r hsp => ?_⟩
  have KX : K.In s.heap := e0.mod.kin.keeps fun b o e => (e0.bs b o e).1
  have lim : s.heap.NoLimit := e0.mod.nolimit.keeps fun b o e => (e0.bs b o e).1
  have hl := len _ _ _ _ hsp
  have hkind : ∀ y ∈ ps.zip us, (defScope st).names.lookup y.1 = some .local ∨ ((defScope st).names.lookup y.1 = some .cell ∧ ((cellsFrom (s.heap.objs.size + 1) (defScope st).names []).lookup y.1).isSome = true) := fun ⟨n, v⟩ hy =>
    (S.par n (List.of_mem_zip hy).1).elim .inl fun q => .inr ⟨q, PySem.W.cellsFrom_some _ _ _ (.inl q)⟩
  refine codeAny_call_function hr.depth (KX _ _ lk) rfl S.co S.gen rfl (PySem.W.codeRec_of KX hcd) (hb _ _ _ _ (wpAny_newFunctionEnv_cells S.kind hkind fun env he s1 xx => ?_))
  subst he
  obtain ⟨t, ht, hq⟩ := hbody cdv A outer s H vs Q E hga (hr.deeper _) hsp
  have I : Inv (cxOf CX0 P w K mg base N qual (defScope st) f cdv A outer s H E) [] (start N vs) H s1 := inv_start S hr.hd e0 hl r xx
  refine ⟨lim.keeps xx.toInCall.keep, codeAny_func (wpAny_mono (ht.run [] s1 (start N vs) H _ (I.wish _) hq) (fun fl s' hs => ?_) fun e s' hs => False.elim hs)⟩
  have fin : ∀ {σ' : L2.St} {H' : Hp} {v : V} {u : Value}, Inv (cxOf CX0 P w K mg base N qual (defScope st) f cdv A outer s H E).nox [] σ' H' s' → L2.RelV v u → Q v H' → CE outer P w H s Q u s' :=
    fun {σ' H' v u} J rv q => ⟨v, H', J.os, J.bare, J.base, J.hok, rv, q⟩
  match fl, hs with
  | .ret u, hs => exact hs.elim fun v z => z.elim fun σ' z => z.elim fun H' z => fin z.1 z.2.1 z.2.2
  | .next, hs => exact hs.elim fun σ' z => z.elim fun H' z => fin (v := V.non) (u := Value.none) z.1 rfl z.2
  | .brk, hs => exact hs.elim fun _ z => z.elim fun _ z => False.elim z.2
  | .cont, hs => exact hs.elim fun _ z => z.elim fun _ z => False.elim z.2
section
variable {X : Cx} {CX : CXT} {k : Nat} {f : Addr} {fd : FuncData} {ps : List Str} {sp : Sp} {E : XK} {x : Str} {p pos : Pos} {e : Expr} {es : List Expr} {t : TA}
/-- f(e, ..), f such a def -/
theorem pe_callG (F : FnOkG X.prog X.w X.K X.mg X.base CX k f fd ps sp) (hG : X.A.guards = some []) (hr : Room k X.A) (hg : Gl X x) (hm : X.mg x = some (.ref f)) (hk : PySem.W.keepIn X.K (.ref f) = true) (hb : L2.Binds X.K fd ps []) (hx : Passes CX X E)
    (ha : PA X (e :: es) t) (hdb : (x == ("__debug__" : Str)) = false := by decide) (he : starEach (e :: es) X.env = (false, eval e X.env) :: starEach es X.env := by rfl) (hpl : (backTo pos (starEach es X.env)).any (·.1) = false := by rfl) :
    PE X (.Call (.Name x p) (e :: es) [] pos) (fun σ H Q => t σ H fun vs H1 => sp vs H1 Q E) := by
  refine ⟨fun pins s σ H Q I h => wpAny_Call_Name_kw (ld_glob I hg hm (PySem.W.callWith_K (h₀ := X.base) I.ok.mod.kin hk (thn (ha.run pos pins s σ H _ I h) fun us s1 ⟨vs, H1, I1, r, q⟩ => ⟨I1.kIn, ?_⟩) he hpl) hdb)⟩
  have hl : us.length = ps.length := r.length.symm.trans (F.len _ _ _ _ q)
  have hb2 : BindsTo s1 fd ⟨us, []⟩ (ps.zip us) := by
    have := hb s1 us I1.kIn (by rw [List.append_nil]; exact hl)
    rwa [List.append_nil] at this
  refine wpAny_call (codeAny_mono (F.run X.A X.stack s1 H1 ⟨us, []⟩ us vs Q E hG hr I1.env0 hb2 r q) fun res s' hq => ?_)
  match res, hq with
  | .error er, hq => exact hx pins σ H1 s1 er s' I1 hq
  | .ok (.ret u), hq => exact I1.after hq
  | .ok .next, hq => exact False.elim hq
  | .ok .brk, hq => exact False.elim hq
  | .ok .cont, hq => exact False.elim hq
/-- repr of data: what PyData.shown says -/
theorem call_reprD (hG : X.A.guards = some []) (hu : X.A.units + 64 + 16 < cLine) : CallR X (.builtin "repr") (fun xs H Q => ∃ (v : V) (d : PyData), xs = [v] ∧ Dp X.K H v d ∧ d.showable = true ∧ d.hasDict = false ∧ d.depth ≤ 64 ∧ d.shown.length ≤ sizeLine ∧ (∀ i, v = .int i → i.natAbs.log2 < 1920) ∧ Q (.str d.shown) H) := by
  intro pins s σ H xs us Q I r h
  obtain ⟨v, d, rfl, hd, hs, hnd, hdp, hsz, hi, q⟩ := h
  obtain ⟨u, rfl, ru⟩ := vals1 r
  have txt : ∀ tk, ∃ (y : V) (H1 : Hp), Inv X pins σ H1 { s with toks := tk } ∧ L2.RelV y (.str d.shown s.toks) ∧ Q y H1 := fun tk => ⟨.str d.shown, H, I.kept (t' := tk) fun _ _ z => z, ⟨_, rfl⟩, q⟩
  have obj : ∀ (a : Addr), u = .ref a → wpAny (model X.prog X.w) X.A (call (.builtin "repr") [u]) (EP X pins σ Q) X.xe s := fun a e => by
    subst e
    obtain ⟨as, rd⟩ := Dp.reads I _ _ _ hd ru
    exact repr_of_reads' rd hs (fun z => by rw [hnd] at z; cases z) hG (by omega) (fun _ _ z => z) (fun h' u tk hk => ⟨.str d.shown, H, I.kept (h' := h') (t' := tk) hk, ⟨_, rfl⟩, q⟩) hsz
  cases hd with
  | non =>
    obtain rfl : u = Value.none := ru
    exact P.repr_of_none (txt _)
  | bl b =>
    obtain rfl : u = Value.bool b := ru
    exact P.repr_of_bool (by cases b <;> exact txt _)
  | int i =>
    obtain ⟨t, rfl⟩ := ru
    exact P.repr_of_int (hi i rfl) (txt _)
  | str y =>
    obtain ⟨t, rfl⟩ := ru
    exact P.repr_of_str (txt _) hsz
  | lst h1 h2 => exact obj _ ru
  | tup h1 h2 => exact obj _ ru
end
end Inf

set_option Elab.async false
set_option linter.all false
set_option maxRecDepth 100000
set_option maxHeartbeats 4000000
namespace Inf
open PySem PySem.Spec PyProof.Rows L2 NdefX LamX
/-! ### a lambda as a value: a function that stands where it was made -/
/-- its words, the cells that it captured, its code object -/
structure LF where
  qual : Str
  params : Arguments
  body : Expr
  scope : Scope
  cl : List (Str × Addr)
  c : Addr
def LamO (f : Addr) (F : LF) : HO := .ext fun h => ∃ (pm ctv : Value), h.get? f = some (PySem.W.kla_obj "<lambda>" F.qual F.params F.body F.scope F.cl pm F.c ctv)
theorem lamO_at {P : Program} {w : World} {H : Hp} {h : Heap} {f : Addr} {F : LF} (hok : HOk P w H h) (e : H f = some (LamO f F)) : ∃ (pm ctv : Value), h.get? f = some (PySem.W.kla_obj "<lambda>" F.qual F.params F.body F.scope F.cl pm F.c ctv) := by
  obtain ⟨z, _, _⟩ := hok f _ e
  exact z
theorem lamO_ok {P : Program} {w : World} {H : Hp} {h : Heap} {f : Addr} {F : LF} (e : ∃ (pm ctv : Value), h.get? f = some (PySem.W.kla_obj "<lambda>" F.qual F.params F.body F.scope F.cl pm F.c ctv)) : ObjOk P w H h f (LamO f F) := by
  refine ⟨e, ?_, fun h1 h2 ⟨pm, ctv, z⟩ k => ⟨pm, ctv, k _ z⟩⟩
  obtain ⟨pm, ctv, z⟩ := e
  exact ⟨_, z⟩
theorem lamHO {f : Addr} {F : LF} : FnHO f (LamO f F) := fun P w H h hok e => by
  obtain ⟨pm, ctv, z⟩ := lamO_at hok e
  exact ⟨_, _, _, _, z⟩
section
variable {X : Cx} {pins : List (Addr × Obj)} {σ : L2.St} {H : Hp} {s : Shared}
/-- the lambda is made and told where it stands; its code object is new, or found in the table -/
theorem lam_told {T : List (Addr × Str)} {c P : Addr} {params : Arguments} {body : Expr} {scope : Scope} {pos : Pos} {E : Value → Shared → Prop} {Q : Value → Shared → Prop} (I : Inv X pins σ H s) (TB : TabB X.base X.mg c P) (hcode : X.env.code = .ref c)
    (hm : (P, X.env.qual ++ "<lambda>") ∈ T) (hu : ∀ p ∈ T, p.1 = P → p.2 = X.env.qual ++ "<lambda>") (hT : Tabs T H) (hdef : defaultsOf params X.env = ([], [])) (hfree : ∀ y ∈ scope.names, y.2 = .free → ∃ c, X.env.cells.lookup y.1 = some c)
    (h : ∀ (f c' : Addr) (H1 : Hp) (s' : Shared), Inv X pins σ (upd H1 f (LamO f ⟨X.env.qual ++ "<lambda>", params, body, scope, cloFrom X.env.cells scope.names [], c'⟩)) s' → (∀ b o, H b = some o → b ≠ P → H1 b = some o) → (∀ b, H1 b = none → H b = none) → Tabs T H1 → H1 f = none → H1 c' = some (CodeO c' (X.env.qual ++ "<lambda>")) → Q (.ref f) s') :
    wpAny (model X.prog X.w) X.A (eval (.Lambda params body scope pos) X.env) Q E s := by
  obtain ⟨ps, tP, tO, tA⟩ := hT _ hm
  have bP := TB.bm.keeps (h' := s.heap) I.bk
  have gP : s.heap.get? P = some { cls := .none, data := .fields ps } := I.hok P _ tP
  refine PySem.W.kla_eval hdef ?_
  cases cd : codeAmong pos ps.toList with
  | none =>
    refine PySem.W.kla_makeFunction (mg := X.mg) (c := c) (P := P) (ps := ps) (closure_ok hfree) I.ok.glob (I.mod.glob.keeps I.bk) hcode (TB.code.keeps I.bk) gP tO cd TB.gP bP fun c' ctv h' tk hx hge hlt hrec htb => ?_
    obtain ⟨c2, oc, vs, t, e2, hoc, hd, hv⟩ := hrec
    cases e2
    have nC : H c' = none := I.hok.fresh hge
    have I0 := inv_table (q := X.env.qual ++ "<lambda>") (t' := tk) (more := #[rawInt pos.line, rawInt pos.col, .ref c']) (h' := h') I tP hx htb hge ⟨oc, vs, t, hoc, hd, hv⟩
    have I1 := I0.laid (a := h'.objs.size) (o := LamO h'.objs.size ⟨X.env.qual ++ "<lambda>", params, body, scope, cloFrom X.env.cells scope.names [], c'⟩) (h' := h'.push (PySem.W.kla_obj "<lambda>" (X.env.qual ++ "<lambda>") params body scope (cloFrom X.env.cells scope.names []) ((X.mg "__name__").getD .none) c' ctv)) (t' := tk)
      (fun b u z => Heap.get?_push_of_some _ z) (Nat.le_refl _) (lamO_ok ⟨_, _, Heap.get?_push_size _ rfl⟩)
    have stays : ∀ b o, H b = some o → b ≠ P → (upd (upd H P (.tbl (ps ++ #[rawInt pos.line, rawInt pos.col, .ref c']))) c' (CodeO c' (X.env.qual ++ "<lambda>"))) b = some o := fun b o e n => by
      rw [upd_ne (ne_of_none e nC), upd_ne n]
      exact e
    have neP : ∀ {b : Addr} {c2 : Addr} {q : Str}, H b = some (CodeO c2 q) → b ≠ P := fun e z => by
      rw [z, tP] at e
      exact codeO_ne _ (Option.some.inj e).symm
    refine h _ c' _ _ I1 stays (fun b z => ?_) (fun p hp => ?_) (I0.hok.fresh (Nat.le_refl _)) upd_same
    · by_cases b1 : b = c'
      · rw [b1]
        exact nC
      · rw [upd_ne b1] at z
        by_cases b2 : b = P
        · rw [b2, upd_same] at z
          cases z
        · rw [upd_ne b2] at z
          exact z
    · obtain ⟨qs, a1, a2, a3⟩ := hT p hp
      by_cases hb : p.1 = P
      · have eL : (ps ++ #[rawInt pos.line, rawInt pos.col, .ref c']).toList = ps.toList ++ [rawInt pos.line, rawInt pos.col, .ref c'] := by simp
        refine ⟨_, by rw [hb, upd_ne (ne_of_none tP nC), upd_same], ?_, fun p' cv y => ?_⟩
        · rw [eL]
          exact PySem.TriplesOk_snoc _ _ _ _ tO
        · rw [eL] at y
          rw [hu p hp hb]
          rcases among_app _ tO y with z | z
          · obtain ⟨c0, k1, k2⟩ := tA p' cv z
            exact ⟨c0, k1, stays _ _ k2 (neP k2)⟩
          · exact ⟨c', z, upd_same⟩
      · refine ⟨qs, ?_, a2, fun p' cv y => ?_⟩
        · rw [upd_ne (ne_of_none a1 nC), upd_ne hb]
          exact a1
        · obtain ⟨c0, k1, k2⟩ := a3 p' cv y
          exact ⟨c0, k1, stays _ _ k2 (neP k2)⟩
  | some cv =>
    obtain ⟨c', e, hco⟩ := tA pos cv cd
    subst e
    refine PySem.W.kla_makeFunctionHit (mg := X.mg) (c := c) (P := P) (ps := ps) (closure_ok hfree) I.ok.glob (I.mod.glob.keeps I.bk) hcode (TB.code.keeps I.bk) gP tO cd bP fun ctv h' tk hx hsz => ?_
    have I0 : Inv X pins σ H { s with heap := h', toks := tk } := I.kept hx
    have I1 := I0.laid (a := h'.objs.size) (o := LamO h'.objs.size ⟨X.env.qual ++ "<lambda>", params, body, scope, cloFrom X.env.cells scope.names [], c'⟩) (h' := h'.push (PySem.W.kla_obj "<lambda>" (X.env.qual ++ "<lambda>") params body scope (cloFrom X.env.cells scope.names []) ((X.mg "__name__").getD .none) c' ctv)) (t' := tk)
      (fun b u z => Heap.get?_push_of_some _ z) (Nat.le_refl _) (lamO_ok ⟨_, _, Heap.get?_push_size _ rfl⟩)
    exact h _ c' H _ I1 (fun _ _ e _ => e) (fun _ z => z) hT (I0.hok.fresh (Nat.le_refl _)) hco
end
def tLamO (T : List (Addr × Str)) (P : Addr) (F : Addr → LF) : TE := fun σ H Q => Tabs T H ∧ ∀ (f c' : Addr) (H1 : Hp), (∀ b o, H b = some o → b ≠ P → H1 b = some o) → (∀ b, H1 b = none → H b = none) → Tabs T H1 → H1 f = none → H1 c' = some (CodeO c' (F c').qual) → Q (.ref f) (upd H1 f (LamO f (F c')))
theorem pe_lamO {X : Cx} {T : List (Addr × Str)} {c P : Addr} {params : Arguments} {body : Expr} {scope : Scope} {pos : Pos} (TB : TabB X.base X.mg c P) (hcode : X.env.code = .ref c) (hm : (P, X.env.qual ++ "<lambda>") ∈ T) (hu : ∀ p ∈ T, p.1 = P → p.2 = X.env.qual ++ "<lambda>")
    (hdef : defaultsOf params X.env = ([], [])) (hfree : ∀ y ∈ scope.names, y.2 = .free → X.env.scope.names.lookup y.1 = some .cell ∨ X.env.scope.names.lookup y.1 = some .free) :
    PE X (.Lambda params body scope pos) (tLamO T P fun c' => ⟨X.env.qual ++ "<lambda>", params, body, scope, cloFrom X.env.cells scope.names [], c'⟩) := by
  refine ⟨fun pins s σ H Q I h => ?_⟩
  obtain ⟨hT, q⟩ := h
  exact lam_told I TB hcode hm hu hT hdef (fun y hy e => (hfree y hy e).elim (fun z => I.ok.has _ (.inl z)) fun z => I.ok.has _ (.inr z)) fun f c' H1 s' I1 e1 n1 t1 nf hc => ⟨.ref f, _, I1, rfl, q f c' H1 e1 n1 t1 nf hc⟩
end Inf

set_option Elab.async false
set_option linter.all false
set_option maxRecDepth 100000
set_option maxHeartbeats 4000000
namespace Inf
open PySem PySem.Spec PyProof.Rows L2 NdefX LamX
/-- its words as those of a function: for the frame alone -/
def LF.nf (F : LF) : NF := ⟨"<lambda>", F.qual, F.params, [], F.scope, F.cl, F.c⟩
section
variable {P : Program} {w : World} {K : PySem.W.Frag} {mg : Str → Option Value} {base : Heap} {k : Nat} {f : Addr} {F : LF} {N ps : List Str} {sp : Sp}
/-- a lambda that captures nothing, called from anywhere -/
theorem lam_fnR (S : NScope N ps [] F.scope) (hcl : F.cl = []) (hb : ∀ (pm ctv : Value) (us : List Value), us.length = ps.length → bindArgs (PySem.W.kla_fn "<lambda>" F.qual F.params F.body F.scope F.cl pm (.ref F.c) ctv) ⟨us, []⟩ = pure (ps.zip us))
    (len : ∀ vs H Q E, sp vs H Q E → vs.length = ps.length)
    (hbody : ∀ (A : Around) (outer : List Env) (s : Shared) (H : Hp) (vs : List V) (Q : VK) (E : XK), Room k (A.deeper (envF F.nf f s.heap.objs.size)) → sp vs H Q E → ∃ te, PE (ncx CX0 P w K mg base N F.nf f A outer s H E) F.body te ∧ te (startF N vs []) H Q) :
    FnR P w K mg base CX0 (k + 1) f (fun vs H Q E => H f = some (LamO f F) ∧ H F.c = some (CodeO F.c F.qual) ∧ sp vs H Q E) := by
  intro A outer s H us vs Q E hr e0 r hsp
  obtain ⟨hf, hc, hsp⟩ := hsp
  have hl := len _ _ _ _ hsp
  have lim : s.heap.NoLimit := e0.mod.nolimit.keeps fun b o e => (e0.bs b o e).1
  obtain ⟨pm, ctv, ho⟩ := lamO_at e0.hok hf
  have C : CellsAt F.nf.cl [] [] s.heap H := by
    show CellsAt F.cl [] [] s.heap H
    rw [hcl]
    exact ⟨rfl, (fun y c e => nomatch e), (fun x y c e => nomatch e), (fun i y e => nomatch e)⟩
  refine PySem.W.kla_callFunE hr.depth ho rfl S.co S.gen rfl (codeO_at e0.hok hc) ?_
  rw [hb pm ctv us (by rw [← r.length]; exact hl)]
  refine wpAny_pure (wpAny_newFunctionEnv S.nocell (fun ⟨n, _⟩ hy => S.par n (List.of_mem_zip hy).1) (fun h₁ hns hsb => ⟨lim.fresh _ hsb, ?_⟩) S.kind)
  obtain ⟨te, ht, hq⟩ := hbody A outer s H vs Q E (hr.deeper _) hsp
  have kp : ∀ b o, s.heap.get? b = some o → h₁.get? b = some o := fun b o e => hsb.extBut b o (Nat.ne_of_lt (Heap.lt_size e)) (Heap.get?_push_of_some _ e)
  have I := inv_startN (CX := CX0) (P := P) (w := w) (K := K) (mg := mg) (base := base) (F := F.nf) (f := f) (A := A) (outer := outer) (E := E) (tk := s.toks + (ps.zip us).length) S hr.hd e0 hl r C hns kp
  refine PySem.W.kla_codeExpr (wpAny_mono (ht.run [] _ (startF N vs []) H Q I hq) (fun u s' hs => ?_) fun e s' hs => hs)
  obtain ⟨v, H', J, rv, q⟩ := hs
  exact ⟨v, H', J.os, J.bare, J.base, J.hok, rv, q⟩
end
end Inf

set_option Elab.async false
set_option linter.all false
set_option maxRecDepth 100000
set_option maxHeartbeats 4000000
namespace Inf
open PySem PySem.Spec PyProof.Rows L2 NdefX LamX
/-- a def that returns things that hold its names, by what K knows of it -/
theorem okC_of {P : Program} {w : World} {K : PySem.W.Frag} {mg : Str → Option Value} {base : Heap} {x qual : Str} {st : Stmt} {f : Addr} {N ps : List Str} {k : Nat} {sp : Sp} {oc : Value} {od : Option Addr} {kV doc pm cdv ct : Value} {an : Option Addr} {osl : Array (Option Value)}
    (lk : K.lookup f = some ⟨oc, od, .func (PySem.W.fnOf x qual (defArgs st) (defBody st) (defScope st) .none kV doc pm an cdv ct), osl⟩) (hcd : PySem.W.codeIn K cdv qual = true) (S : FnScope N ps (defScope st)) (len : ∀ vs H Q E, sp vs H Q E → vs.length = ps.length)
    (hbody : ∀ (A : Around) (outer : List Env) (s : Shared) (H : Hp) (vs : List V) (Q : VK) (E : XK), Room k (A.deeper (envOfC qual (defScope st) s.heap.objs.size f cdv)) → sp vs H Q E →
      ∃ t, PSsR (cxOf CX0 P w K mg base N qual (defScope st) f cdv A outer s H E).nox (defBody st) t ∧
        t (fun σ v H' => ∀ H'', Fin (envOfC qual (defScope st) s.heap.objs.size f cdv).cells (defScope st).names N σ H' H'' → Q v H'') (start N vs) H) :
    FnOk P w K mg base CX0 (k + 1) f (PySem.W.fnOf x qual (defArgs st) (defBody st) (defScope st) .none kV doc pm an cdv ct) ps sp := by
  refine ⟨len, fun A outer s H args us vs Q E hr e0 hb r hsp => ?_⟩
  have hl := len _ _ _ _ hsp
  have KX : K.In s.heap := e0.mod.kin.keeps fun b o e => (e0.bs b o e).1
  have lim : s.heap.NoLimit := e0.mod.nolimit.keeps fun b o e => (e0.bs b o e).1
  have hkind : ∀ y ∈ ps.zip us, (defScope st).names.lookup y.1 = some .local ∨ ((defScope st).names.lookup y.1 = some .cell ∧ ((cellsFrom (s.heap.objs.size + 1) (defScope st).names []).lookup y.1).isSome = true) := fun ⟨n, v⟩ hy => by
    rcases S.par n (List.of_mem_zip hy).1 with q | q
    · exact .inl q
    · exact .inr ⟨q, PySem.W.cellsFrom_some _ _ _ (.inl q)⟩
  refine codeAny_call_function hr.depth (KX _ _ lk) rfl S.co S.gen rfl (PySem.W.codeRec_of KX hcd) (hb _ _ _ _ ?_)
  refine wpAny_newFunctionEnv_cells S.kind hkind fun env he s1 xx => ?_
  subst he
  refine ⟨lim.keeps xx.toInCall.keep, codeAny_func ?_⟩
  obtain ⟨t, ht, hq⟩ := hbody A outer s H vs Q E (hr.deeper _) hsp
  have I : Inv (cxOf CX0 P w K mg base N qual (defScope st) f cdv A outer s H E) [] (start N vs) H s1 := inv_start S hr.hd e0 hl r xx
  refine wpAny_mono (ht.run [] s1 (start N vs) H _ (I.wish _) hq) (fun fl s' hs => ?_) fun e s' hs => False.elim hs
  obtain ⟨u, v, σ', H', rfl, J', rv, q⟩ := hs
  have J : Inv (cxOf CX0 P w K mg base N qual (defScope st) f cdv A outer s H E) [] σ' H' s' := J'.unwish
  obtain ⟨H'', hF, hU, hO⟩ := fin_make S.nd J
  exact ⟨v, H'', J.os, J.bare, hU, hO, rv, q H'' hF⟩
/-- a function that the def made, behind its return: its captured cells are told -/
theorem clo_fin {cells : List (Str × Addr)} {names nn : List (Str × NameKind)} {N fr : List Str} {σ : L2.St} {H H' : Hp} {f : Addr} {F : NF} {ws : List V} (X : Fin cells names N σ H H') (hc : ∀ y, names.lookup y = some .cell → (cells.lookup y).isSome = true) (hcl : F.cl = cloFrom cells nn []) (hcel : ∀ y ∈ nn, y.2 = .free → names.lookup y.1 = some .cell)
    (hfr : ∀ y ∈ fr, (y, NameKind.free) ∈ nn) (hrf : ∀ y ∈ nn, y.2 = .free → y.1 ∈ fr) (hf : H f = some (FnO f F)) (hco : H F.c = some (CodeO F.c F.qual)) (len : ws.length = fr.length) (at_ : ∀ (i : Nat) (y : Str), fr[i]? = some y → ∃ (j : Nat) (v : V), N[j]? = some y ∧ ws[i]? = some v ∧ σ[j]? = some (some v)) : Clo H' f F fr ws := by
  have hfree : ∀ y ∈ nn, y.2 = .free → ∃ c, cells.lookup y.1 = some c := fun y hy e => Option.isSome_iff_exists.mp (hc _ (hcel y hy e))
  refine ⟨X.same _ _ hf, X.same _ _ hco, len, fun y c e => ?_, fun x y c e1 e2 => ?_, fun i y e => ?_⟩
  · rw [hcl] at e
    have m := PySem.mem_of_lookup e
    rcases cloFrom_mem m with q | ⟨q, _⟩
    · cases q
    · exact hrf _ q rfl
  · rw [hcl] at e1 e2
    exact X.inj x y c (clo_cm hfree e1) (clo_cm hfree e2)
  · have hy : y ∈ fr := List.mem_of_getElem? e
    have hm := hfr y hy
    have hn := hcel _ hm rfl
    obtain ⟨c, hcc⟩ := Option.isSome_iff_exists.mp (hc y hn)
    obtain ⟨j, v, h1, h2, h3⟩ := at_ i y e
    refine ⟨c, v, ?_, h2, X.at_ j y c v h1 hn hcc h3⟩
    rw [hcl]
    exact clo_has hfree hm hcc
end Inf

set_option Elab.async false
set_option linter.all false
set_option maxRecDepth 100000
set_option maxHeartbeats 4000000
namespace Inf
open PySem PySem.Spec PyProof.Rows L2
section
variable {X : Cx}
/-- o.replace(str(e), "c"), a token out: what is struck is not c -/
def tStrike (to tt : TE) (c : Str) : TE := fun σ H Q => to σ H fun x H1 => ∃ a, x = V.str a ∧ tt σ H1 fun y H2 => ∃ i : Int, y = .int i ∧ i.natAbs.log2 < 1920 ∧ (Str.ofString (toString i) == c) = false ∧ a.length + (a.length + 1) * c.length ≤ 16777216 ∧ Q (.str (Txt.replace a (Str.ofString (toString i)) c)) H2
theorem pet_strike {o e : Expr} {to tt : TE} {c : Str} {ck : Nat} {apos np cp ccp pos : Pos} (ho : PE X o to) (he : PE X e tt) (hg : Gl X "str") (hm : X.mg "str" = none)
    (hbase : attributeBase o "replace" X.env (eval o X.env) = eval o X.env := by rfl)
    (hfew : ((backTo pos (starEach [.Call (.Name "str" np) [e] [] cp, .Constant (.str c) ck ccp] X.env)).all (fun x => !x.1) && (backToKw pos (keywordEach [] X.env)).all (fun x => x.1.isSome)
      && decide (([.Call (.Name "str" np) [e] [] cp, .Constant (.str c) ck ccp] : List Expr).length + ([] : List Keyword).length + (if ([] : List Keyword).isEmpty then 0 else 1) < 30)) = true := by rfl)
    (hline : (apos.endLine == pos.line) = true := by rfl) (hs : starEach [e] X.env = [(false, eval e X.env)] := by rfl) (hpl : (backTo cp (starEach [] X.env)).any (·.1) = false := by rfl) :
    PET X (.Call (.Attribute o "replace" apos) [.Call (.Name "str" np) [e] [] cp, .Constant (.str c) ck ccp] [] pos) (tStrike to tt c) := by
  intro pins s σ H Q h0 I h
  refine wpAny_Call_method_late hbase hfew hline rfl (wpAny_mono (PySem.wpAny_toks (ho.run pins s σ H _ I h)) (fun v s1 q => ?_) fun _ _ z => z.2)
  obtain ⟨hk1, x, H1, I1, r1, a, rfl, q⟩ := q
  obtain ⟨t, rfl⟩ := _root_.id r1
  refine ⟨"str", _, F.plainAttrs_str, F.slot_str_replace, F.type_str_replace, typeIs_str _ _ _, (fun _ e => nomatch e), ?_⟩
  refine Calls.callWith_builtin rfl (Calls.evalArgs_plain ?_)
  show wpAny _ _ (spliced ((false, eval (.Call (.Name "str" np) [e] [] cp) X.env) :: backTo pos (starEach [.Constant (.str c) ck ccp] X.env))) _ _ s1
  refine Calls.spliced_cons ?_
  refine wpAny_Call_Name_kw (ld_blt I1 hg hm (show bootBuiltins "str" = some (.type "str") by decide +kernel) ?_ (by decide) (by decide))
  refine PyProof.Rows.callWith_type1 (wpAny_mono (PySem.wpAny_toks ((pa_cons he pa_nil hs).run cp pins s1 σ H1 (fun vs H2 => match vs with
    | [y] => ∃ i : Int, y = V.int i ∧ i.natAbs.log2 < 1920 ∧ (Str.ofString (toString i) == c) = false ∧ a.length + (a.length + 1) * c.length ≤ 16777216 ∧ Q (.str (Txt.replace a (Str.ofString (toString i)) c)) H2
    | _ => False) I1 q)) (fun us s2 q2 => ?_) fun _ _ z => z.2) hs hpl
  obtain ⟨hk2, vs, H2, I2, r2, q2⟩ := q2
  match vs, r2, q2 with
  | [y], r2, ⟨i, ey, hz, hne, hb, q3⟩ =>
    subst ey
    obtain ⟨u, rfl, t2, rfl⟩ := vals1 r2
    have h2 : 1 ≤ s2.toks := Nat.le_trans h0 (Nat.le_trans hk1 hk2)
    refine PySem.P.str_of_int hz ?_
    refine Calls.spliced_cons (Calls.Constant_str (k := ck) (pos := ccp) (Calls.spliced_nil ?_))
    refine SC.replace (u := s2.toks) (v := s2.toks + 1) (Nat.ne_of_gt h2) (Nat.succ_ne_zero _) (Nat.ne_of_lt (Nat.lt_succ_self _)) hne hb fun t' k => ?_
    exact ⟨.str _, H2, I2.tok _, ⟨_, rfl⟩, q3⟩
/-- one token out: a return -/
theorem pst_ret {e : Expr} {te : TE} {pos : Pos} (he : PET X e te) : PST X (.Return (some e) pos) (tRet te) := fun pins s σ H D h0 I h =>
  wpAny_Return_some (thn (he pins s σ H _ h0 I h) fun v s1 ⟨x, H1, I1, r1, q1⟩ => ⟨x, σ, H1, I1, r1, q1⟩)
theorem psst_one {st : Stmt} {t : TS} (h1 : PST X st t) : PSsT X [st] t := by
  intro pins s σ H D h0 I h
  refine wpAny_execs_cons (thn (h1 pins s σ H D h0 I h) fun f s1 q => ?_)
  cases f with
  | next => exact wpAny_execs_nil q
  | ret v => exact q
  | brk => exact q
  | cont => exact q
/-- if x op 3: behind the test a token is out -/
theorem ps_ifC {a : Expr} {op : CmpOp} {r : R2} {ta : TE} {j : Int} {k : Nat} {cpos cp pos : Pos} {A B : List Stmt} {t u : TS} (ho : OpR X (compareOp op) r) (ha : PE X a ta) (hm : behindInMarks op (.Constant (.int j) k cpos) = false) (hA : PSsT X A t) (hB : PSs X B u) :
    PS X (.If (.Compare a [op] [.Constant (.int j) k cpos] cp) A B pos) (tIfS (tTest (tOp r ta (tC (.int j)))) t u) := by
  refine ⟨fun pins s σ H D I h => ?_⟩
  refine wpAny_If (wpAny_mono (Q := fun d s' => 1 ≤ s'.toks ∧ TP X pins σ (fun b H1 => if b = true then t D σ H1 else u D σ H1) d s') (E := X.xe) ?_ (fun d s1 q => ?_) fun _ _ z => z)
  · refine wpAny_isTrue_Compare1 (thn (ha.run pins s σ H _ I h) fun v s1 ⟨x, H1, I1, r1, q1⟩ => ?_) hm
    refine wpAny_Constant_int ?_
    refine wpAny_mono (PySem.wpAny_toks (ho pins _ σ H1 x (.int j) v (.int j s1.toks) _ (I1.tok _) r1 ⟨_, rfl⟩ q1)) (fun c s3 q3 => ?_) fun _ _ z => z.2
    obtain ⟨hk, z, H3, I3, r3, b, e, q3⟩ := q3
    subst e
    cases r3
    exact wpAny_truthy_bool ⟨Nat.le_trans (Nat.le_add_left 1 _) hk, H3, I3, q3⟩
  · obtain ⟨hk, H1, I1, q1⟩ := q
    cases d with
    | true => exact hA pins s1 σ H1 D hk I1 q1
    | false => exact hB.run pins s1 σ H1 D I1 q1
end
end Inf

set_option Elab.async false
set_option linter.all false
set_option maxRecDepth 100000
set_option maxHeartbeats 4000000
namespace Inf
open PySem PySem.Spec PyProof.Rows L2
section
variable {X : Cx} {CX : CXT} {k n : Nat} {f C : Addr} {fd : FuncData} {ps ks : List Str} {sp : Sp} {E : XK} {m : Str} {pos apos : Pos} {e o : Expr} {es : List Expr} {kws : List Keyword} {ta : TE} {t tk : TA} {g : List Value → List Value → List Value} {gV : List V → List V → List V}
/-- a method called with keywords: n values are written, then j keywords -/
def tMethN (C : Addr) (m : Str) (n j : Nat) (sp : Sp) (gV : List V → List V → List V) (E : XK) (ta : TE) (t tk : TA) : TE := fun σ H Q => ta σ H fun x H1 => ∃ a dx fs, x = V.ref a ∧ H1 a = some (.ins C dx fs) ∧ fs.lookup m = none ∧ t σ H1 fun vs H2 => tk σ H2 fun zs H3 => vs.length = n ∧ zs.length = j ∧ sp (gV (.ref a :: vs) zs) H3 Q E
theorem pe_methK0 {pl : Sem Bool} (he : PE X o ta) (c : Cls X.K C) (hm : Meth X.K C m f) (F : FnOk X.prog X.w X.K X.mg X.base CX k f fd ps sp) (hr : Room k X.A) (hb : KBn X.K fd ps 1 ks g gV) (hx : Passes CX X E) (hkw : PK X kws tk)
    (hall : (backToKw pos (keywordEach kws X.env)).all (·.1.isSome) = true := by rfl) (hks : (backToKw pos (keywordEach kws X.env)).filterMap (·.1) = ks := by rfl)
    (hpl : ((backTo pos (starEach [] X.env)).any (·.1) || (backToKw pos (keywordEach kws X.env)).any (·.1.isNone)) = false := by rfl)
    (ht : eval (.Call (.Attribute o m apos) [] kws pos) X.env = (do
      let ov ← eval o X.env
      standAt apos.atName
      let (f, first) ← holding [ov] (getMethod ov m pl)
      callWith pos f first (backTo pos (starEach [] X.env)) (backToKw pos (keywordEach kws X.env))) := by rfl) :
    PE X (.Call (.Attribute o m apos) [] kws pos) (tMethN C m 0 ks.length sp gV E ta tNil tk) := by
  refine ⟨fun pins s σ H Q I h => ?_⟩
  refine PySem.W.methodCall_KW (pl := pl) (thn (he.run pins s σ H _ I h) fun u s1 ⟨x, H1, I1, rx, a, dx, fs, ex, ea, l, q⟩ => ?_) ht
  subst ex
  obtain rfl : u = Value.ref a := rx
  refine getmeth_ok I1 ea c hm l ?_
  refine PySem.W.callWith_KW0 (first := [.ref a]) (h₀ := X.base) I.ok.mod.kin hm.kp hall (thn (hkw.run pos pins s1 σ H1 _ I1 q) fun ws s2 ⟨zs, H2, I2, rz, l1, l2, q2⟩ => ⟨I2.kIn, ?_⟩) hpl
  rw [hks]
  exact run_fnN (us := [.ref a]) (vs := [.ref a]) F hr hb hx I2 (.cons rfl .nil) rz rfl l2 q2
theorem pe_methK {pl : Sem Bool} (he : PE X o ta) (c : Cls X.K C) (hm : Meth X.K C m f) (F : FnOk X.prog X.w X.K X.mg X.base CX k f fd ps sp) (hr : Room k X.A) (hb : KBn X.K fd ps (n + 1) ks g gV) (hx : Passes CX X E) (ha : PA X (e :: es) t) (hkw : PK X kws tk)
    (hall : (backToKw pos (keywordEach kws X.env)).all (·.1.isSome) = true := by rfl) (hks : (backToKw pos (keywordEach kws X.env)).filterMap (·.1) = ks := by rfl)
    (hst : starEach (e :: es) X.env = (false, eval e X.env) :: starEach es X.env := by rfl)
    (hpl : ((backTo pos (starEach (e :: es) X.env)).any (·.1) || (backToKw pos (keywordEach kws X.env)).any (·.1.isNone)) = false := by rfl)
    (ht : eval (.Call (.Attribute o m apos) (e :: es) kws pos) X.env = (do
      let ov ← eval o X.env
      standAt apos.atName
      let (f, first) ← holding [ov] (getMethod ov m pl)
      callWith pos f first (backTo pos (starEach (e :: es) X.env)) (backToKw pos (keywordEach kws X.env))) := by rfl) :
    PE X (.Call (.Attribute o m apos) (e :: es) kws pos) (tMethN C m n ks.length sp gV E ta t tk) := by
  refine ⟨fun pins s σ H Q I h => ?_⟩
  refine PySem.W.methodCall_KW (pl := pl) (thn (he.run pins s σ H _ I h) fun u s1 ⟨x, H1, I1, rx, a, dx, fs, ex, ea, l, q⟩ => ?_) ht
  subst ex
  obtain rfl : u = Value.ref a := rx
  refine getmeth_ok I1 ea c hm l ?_
  refine PySem.W.callWith_KW (first := [.ref a]) (h₀ := X.base) I.ok.mod.kin hm.kp hall (thn (ha.run pos pins s1 σ H1 _ I1 q) fun us s2 ⟨vs, H2, I2, r, q2⟩ => ?_) hpl hst
  refine thn (hkw.run pos pins s2 σ H2 _ I2 q2) fun ws s3 ⟨zs, H3, I3, rz, l1, l2, q3⟩ => ⟨I3.kIn, ?_⟩
  rw [hks]
  exact run_fnN (us := .ref a :: us) (vs := .ref a :: vs) F hr hb hx I3 (.cons rfl r) rz (congrArg Nat.succ l1) l2 q3
end
end Inf

set_option Elab.async false
set_option linter.all false
set_option maxRecDepth 100000
set_option maxHeartbeats 4000000
namespace Inf
open PySem PySem.Spec PyProof.Rows L2 NdefX LamX
section
variable {X : Cx} {pins : List (Addr × Obj)} {σ : L2.St} {H : Hp} {s : Shared}
/-- a lambda in a def that makes functions by name, too: the table knows the names by their places -/
theorem lam_toldN {T : List NTab} {nm : Nat → Nat → Str} {c P : Addr} {params : Arguments} {body : Expr} {scope : Scope} {pos : Pos} {E : Value → Shared → Prop} {Q : Value → Shared → Prop} (I : Inv X pins σ H s) (TB : TabB X.base X.mg c P) (hcode : X.env.code = .ref c)
    (hm : (P, nm) ∈ T) (hn : nm pos.line pos.col = X.env.qual ++ "<lambda>") (hu : ∀ p ∈ T, p.1 = P → p.2 = nm) (hT : TabsN T H) (hdef : defaultsOf params X.env = ([], [])) (hfree : ∀ y ∈ scope.names, y.2 = .free → ∃ c, X.env.cells.lookup y.1 = some c)
    (h : ∀ (f c' : Addr) (H1 : Hp) (s' : Shared), Inv X pins σ H1 s' → ExtN H H1 → (∀ b, H1 b = Option.none → H b = Option.none) → TabsN T H1 → H f = none → H1 f = some (LamO f ⟨X.env.qual ++ "<lambda>", params, body, scope, cloFrom X.env.cells scope.names [], c'⟩) → H1 c' = some (CodeO c' (X.env.qual ++ "<lambda>")) → Q (.ref f) s') :
    wpAny (model X.prog X.w) X.A (eval (.Lambda params body scope pos) X.env) Q E s := by
  obtain ⟨ps, hP, ht, ha⟩ := (show TabN H P nm from hT _ hm)
  have bP := TB.bm.keeps (h' := s.heap) I.bk
  have gP : s.heap.get? P = some { cls := .none, data := .fields ps } := I.hok P _ hP
  refine PySem.W.kla_eval hdef ?_
  cases cd : codeAmong pos ps.toList with
  | none =>
    refine PySem.W.kla_makeFunction (mg := X.mg) (c := c) (P := P) (ps := ps) (closure_ok hfree) I.ok.glob (I.mod.glob.keeps I.bk) hcode (TB.code.keeps I.bk) gP ht cd TB.gP bP fun c' ctv h' tk hx hge hlt hrec htb => ?_
    obtain ⟨c2, oc, vs, t, e2, hoc, hd, hv⟩ := hrec
    cases e2
    have nC : H c' = none := I.hok.fresh hge
    have I1 := inv_table (q := X.env.qual ++ "<lambda>") (t' := tk) (more := #[rawInt pos.line, rawInt pos.col, .ref c']) (h' := h') I hP hx htb hge ⟨oc, vs, t, hoc, hd, hv⟩
    have hE : ExtN H (upd (upd H P (.tbl (ps ++ #[rawInt pos.line, rawInt pos.col, .ref c']))) c' (CodeO c' (X.env.qual ++ "<lambda>"))) := fun b o e n => by
      rw [upd_ne (ne_of_none e nC), upd_ne (fun z => n ps (Option.some.inj (e.symm.trans (by rw [z]; exact hP))))]
      exact e
    have eL : (ps ++ #[rawInt pos.line, rawInt pos.col, .ref c']).toList = ps.toList ++ [rawInt pos.line, rawInt pos.col, .ref c'] := by simp
    have T1 : TabsN T (upd (upd H P (.tbl (ps ++ #[rawInt pos.line, rawInt pos.col, .ref c']))) c' (CodeO c' (X.env.qual ++ "<lambda>"))) := fun p hp => by
      by_cases hb : p.1 = P
      · rw [hu p hp hb, hb]
        refine ⟨_, by rw [upd_ne (ne_of_none hP nC), upd_same], by rw [eL]; exact PySem.TriplesOk_snoc _ _ _ _ ht, fun p' cv hcv => ?_⟩
        rw [eL] at hcv
        rcases among_app2 _ ht hcv with z | ⟨z, z1, z2⟩
        · obtain ⟨c0, e1, e2⟩ := ha p' cv z
          exact ⟨c0, e1, hE _ _ e2 codeO_ne⟩
        · refine ⟨c', z, ?_⟩
          rw [← z1, ← z2, hn]
          exact upd_same
      · obtain ⟨ps', a1, a2, a3⟩ := hT p hp
        refine ⟨ps', by rw [upd_ne (ne_of_none a1 nC), upd_ne hb]; exact a1, a2, fun p' cv hcv => ?_⟩
        obtain ⟨c0, e1, e2⟩ := a3 p' cv hcv
        exact ⟨c0, e1, hE _ _ e2 codeO_ne⟩
    have nF := I1.hok.fresh (Nat.le_refl h'.objs.size)
    have I2 := I1.laid (a := h'.objs.size) (o := LamO h'.objs.size ⟨X.env.qual ++ "<lambda>", params, body, scope, cloFrom X.env.cells scope.names [], c'⟩) (h' := h'.push (PySem.W.kla_obj "<lambda>" (X.env.qual ++ "<lambda>") params body scope (cloFrom X.env.cells scope.names []) ((X.mg "__name__").getD .none) c' ctv)) (t' := tk)
      (fun b u z => Heap.get?_push_of_some _ z) (Nat.le_refl _) (lamO_ok ⟨_, _, Heap.get?_push_size _ rfl⟩)
    refine h h'.objs.size c' _ _ I2 (fun b o e n => ?_) (fun b e => NdefX.upd_none (NdefX.upd_none (NdefX.upd_none e))) (T1.ext fun b o e => ?_) (I.hok.fresh (Nat.le_trans hge (Nat.le_of_lt hlt))) upd_same ?_
    · have e1 := hE b o e n
      exact (upd_ne (ne_of_none e1 nF)).trans e1
    · exact (upd_ne (ne_of_none e nF)).trans e
    · exact (upd_ne (Nat.ne_of_lt hlt)).trans upd_same
  | some cv =>
    obtain ⟨c', e, hco⟩ := ha pos cv cd
    subst e
    rw [hn] at hco
    refine PySem.W.kla_makeFunctionHit (mg := X.mg) (c := c) (P := P) (ps := ps) (closure_ok hfree) I.ok.glob (I.mod.glob.keeps I.bk) hcode (TB.code.keeps I.bk) gP ht cd bP fun ctv h' tk hx hsz => ?_
    have I0 : Inv X pins σ H { s with heap := h', toks := tk } := I.kept hx
    have nF : H h'.objs.size = none := I0.hok.fresh (Nat.le_refl _)
    have I2 := I0.laid (a := h'.objs.size) (o := LamO h'.objs.size ⟨X.env.qual ++ "<lambda>", params, body, scope, cloFrom X.env.cells scope.names [], c'⟩) (h' := h'.push (PySem.W.kla_obj "<lambda>" (X.env.qual ++ "<lambda>") params body scope (cloFrom X.env.cells scope.names []) ((X.mg "__name__").getD .none) c' ctv)) (t' := tk)
      (fun b u z => Heap.get?_push_of_some _ z) (Nat.le_refl _) (lamO_ok ⟨_, _, Heap.get?_push_size _ rfl⟩)
    refine h h'.objs.size c' _ _ I2 (fun b o e n => ?_) (fun b e => NdefX.upd_none e) (hT.ext fun b o e => ?_) nF upd_same ?_
    · exact (upd_ne (ne_of_none e nF)).trans e
    · exact (upd_ne (ne_of_none e nF)).trans e
    · exact (upd_ne (ne_of_none hco nF)).trans hco
end
def tLamN (T : List NTab) (F : Addr → LF) : TE := fun σ H Q => TabsN T H ∧ ∀ (f c' : Addr) (H1 : Hp), ExtN H H1 → (∀ b, H1 b = Option.none → H b = Option.none) → TabsN T H1 → H f = none → H1 f = some (LamO f (F c')) → H1 c' = some (CodeO c' (F c').qual) → Q (.ref f) H1
theorem pe_lamN {X : Cx} {T : List NTab} {nm : Nat → Nat → Str} {c P : Addr} {params : Arguments} {body : Expr} {scope : Scope} {pos : Pos} (TB : TabB X.base X.mg c P) (hcode : X.env.code = .ref c) (hm : (P, nm) ∈ T) (hn : nm pos.line pos.col = X.env.qual ++ "<lambda>") (hu : ∀ p ∈ T, p.1 = P → p.2 = nm)
    (hdef : defaultsOf params X.env = ([], [])) (hfree : ∀ y ∈ scope.names, y.2 = .free → X.env.scope.names.lookup y.1 = some .cell ∨ X.env.scope.names.lookup y.1 = some .free) :
    PE X (.Lambda params body scope pos) (tLamN T fun c' => ⟨X.env.qual ++ "<lambda>", params, body, scope, cloFrom X.env.cells scope.names [], c'⟩) := by
  refine ⟨fun pins s σ H Q I h => ?_⟩
  obtain ⟨hT, q⟩ := h
  exact lam_toldN I TB hcode hm hn hu hT hdef (fun y hy e => (hfree y hy e).elim (fun z => I.ok.has _ (.inl z)) fun z => I.ok.has _ (.inr z)) fun f c' H1 s' I1 e1 n1 t1 nf hf hc => ⟨.ref f, H1, I1, rfl, q f c' H1 e1 n1 t1 nf hf hc⟩
end Inf

set_option Elab.async false
set_option linter.all false
set_option maxRecDepth 100000
set_option maxHeartbeats 4000000
namespace Inf
open PySem PySem.Spec PyProof.Rows L2 ClX
section
variable {M : Model} {A : Around} {E : Value → Shared → Prop} {s : Shared} {K : PySem.W.Frag} {env : Env} {pos : Pos} {first : List Value} {Q : Value → Shared → Prop} {kws : List Keyword} {q g : Addr} {self : Value}
/-- a bound method, called by names alone -/
theorem callWith_MK0 (hf : PySem.W.fnIn K g = true) (hall : (backToKw pos (keywordEach kws env)).all (·.1.isSome) = true)
    (h : wpAny M A (evalAll ((backToKw pos (keywordEach kws env)).map (·.2))) (fun ks s₂ => PySem.W.MethP K q g self s₂.heap ∧ wpAny M A (call (.ref q) (first ++ []) (((backToKw pos (keywordEach kws env)).filterMap (·.1)).zip ks)) Q E s₂) E s)
    (hplain : ((backTo pos (starEach [] env)).any (·.1) || (backToKw pos (keywordEach kws env)).any (·.1.isNone)) = false := by rfl) :
    wpAny M A (callWith pos (.ref q) first (backTo pos (starEach [] env)) (backToKw pos (keywordEach kws env))) Q E s :=
  PySem.W.callWith_of hplain (PySem.W.keeps_M hf) (evalArgs_kw2_nil hall h)
theorem callWith_MK {e : Expr} {rest : List Expr} (hf : PySem.W.fnIn K g = true) (hall : (backToKw pos (keywordEach kws env)).all (·.1.isSome) = true)
    (h : wpAny M A (spliced (backTo pos (starEach (e :: rest) env))) (fun vs s₁ => wpAny M A (evalAll ((backToKw pos (keywordEach kws env)).map (·.2)))
      (fun ks s₂ => PySem.W.MethP K q g self s₂.heap ∧ wpAny M A (call (.ref q) (first ++ vs) (((backToKw pos (keywordEach kws env)).filterMap (·.1)).zip ks)) Q E s₂) E s₁) E s)
    (hplain : ((backTo pos (starEach (e :: rest) env)).any (·.1) || (backToKw pos (keywordEach kws env)).any (·.1.isNone)) = false := by rfl) (he : starEach (e :: rest) env = (false, eval e env) :: starEach rest env := by rfl) :
    wpAny M A (callWith pos (.ref q) first (backTo pos (starEach (e :: rest) env)) (backToKw pos (keywordEach kws env))) Q E s :=
  PySem.W.callWith_of hplain (PySem.W.keeps_M hf) (evalArgs_kw2 hall h he)
end
section
variable {X : Cx} {CX : CXT} {k n : Nat} {f C p : Addr} {mc : Value} {fd : FuncData} {ps ks : List Str} {sp : Sp} {E : XK} {m x : Str} {pos apos : Pos} {e o : Expr} {es : List Expr} {kws : List Keyword} {ta : TE} {t tk : TA} {g : List Value → List Value → List Value} {gV : List V → List V → List V}
/-- the call of a bound classmethod by values and names -/
theorem run_cmN {pins : List (Addr × Obj)} {σ : L2.St} {H : Hp} {s : Shared} {Q : VK} {q : Addr} {us ws : List Value} {vs zs : List V} (F : FnOk X.prog X.w X.K X.mg X.base CX k f fd ps sp) (hr : Room k X.A) (hb : KBn X.K fd ps (n + 1) ks g gV) (hx : Passes CX X E)
    (I : Inv X ((q, PySem.W.methodObj (.ref f) (.ref C)) :: pins) σ H s) (r : Vals vs us) (rz : Vals zs ws) (l1 : vs.length = n) (l2 : zs.length = ks.length) (h : sp (gV (.ref C :: vs) zs) H Q E) :
    wpAny (model X.prog X.w) X.A (call (.ref q) us (ks.zip ws)) (EP X pins σ Q) X.xe s := by
  have r1 : Vals (V.ref C :: vs) (Value.ref C :: us) := .cons rfl r
  have r2 := hb.rel r1 rz
  have n1 : (Value.ref C :: us).length = n + 1 := by
    rw [List.length_cons, ← r.length, l1]
  have z : wpAny (model X.prog X.w) X.A (call (.ref q) us (ks.zip ws)) (EP X ((q, PySem.W.methodObj (.ref f) (.ref C)) :: pins) σ Q) X.xe s := by
    refine wpAny_call (PySem.W.method_call (pin_at I) (codeAny_mono (F.run X.A X.stack s H ⟨Value.ref C :: us, ks.zip ws⟩ (g (Value.ref C :: us) ws) _ Q E hr I.env0 (hb.to s _ ws I.kIn n1 (rz.length.symm.trans l2)) r2 h) fun r s' hq => ?_))
    cases r with
    | error e => exact hx _ σ H s e s' I hq
    | ok fl =>
      cases fl with
      | ret u => exact I.after hq
      | next => exact False.elim hq
      | brk => exact False.elim hq
      | cont => exact False.elim hq
  exact thn z fun _ _ y => unpinE y
/-- C.m(k = v, ..), m a classmethod: n values are written, then j names -/
def tCMethN (C : Addr) (n j : Nat) (sp : Sp) (gV : List V → List V → List V) (E : XK) (ta : TE) (t tk : TA) : TE := fun σ H Q => ta σ H fun x H1 => x = .ref C ∧ t σ H1 fun vs H2 => tk σ H2 fun zs H3 => vs.length = n ∧ zs.length = j ∧ sp (gV (.ref C :: vs) zs) H3 Q E
theorem pe_cmethK0 {pl : Sem Bool} (he : PE X o ta) (r : CRead X.K C mc) (c : CMet X.K C mc m p f) (F : FnOk X.prog X.w X.K X.mg X.base CX k f fd ps sp) (hr : Room k X.A) (hb : KBn X.K fd ps 1 ks g gV) (hx : Passes CX X E) (hkw : PK X kws tk)
    (hall : (backToKw pos (keywordEach kws X.env)).all (·.1.isSome) = true := by rfl) (hks : (backToKw pos (keywordEach kws X.env)).filterMap (·.1) = ks := by rfl)
    (hpl : ((backTo pos (starEach [] X.env)).any (·.1) || (backToKw pos (keywordEach kws X.env)).any (·.1.isNone)) = false := by rfl)
    (ht : eval (.Call (.Attribute o m apos) [] kws pos) X.env = (do
      let ov ← eval o X.env
      standAt apos.atName
      let (f, first) ← holding [ov] (getMethod ov m pl)
      callWith pos f first (backTo pos (starEach [] X.env)) (backToKw pos (keywordEach kws X.env))) := by rfl) :
    PE X (.Call (.Attribute o m apos) [] kws pos) (tCMethN C 0 ks.length sp gV E ta tNil tk) := by
  refine ⟨fun pins s σ H Q I h => ?_⟩
  refine PySem.W.methodCall_KW (pl := pl) (thn (he.run pins s σ H _ I h) fun u s1 ⟨x, H1, I1, rx, ex, q⟩ => ?_) ht
  subst ex
  obtain rfl : u = Value.ref C := rx
  refine getmethcm_ok I1 r c fun s2 I2 => ?_
  refine callWith_MK0 (first := []) c.fi hall (thn (hkw.run pos _ s2 σ H1 _ I2 q) fun ws s3 ⟨zs, H2, I3, rz, l1, l2, q2⟩ => ⟨⟨pin_at I3, I3.kIn⟩, ?_⟩) hpl
  rw [hks]
  exact run_cmN (us := []) (vs := []) F hr hb hx I3 .nil rz rfl l2 q2
theorem pe_cmethK {pl : Sem Bool} (he : PE X o ta) (r : CRead X.K C mc) (c : CMet X.K C mc m p f) (F : FnOk X.prog X.w X.K X.mg X.base CX k f fd ps sp) (hr : Room k X.A) (hb : KBn X.K fd ps (n + 1) ks g gV) (hx : Passes CX X E) (ha : PA X (e :: es) t) (hkw : PK X kws tk)
    (hall : (backToKw pos (keywordEach kws X.env)).all (·.1.isSome) = true := by rfl) (hks : (backToKw pos (keywordEach kws X.env)).filterMap (·.1) = ks := by rfl)
    (hst : starEach (e :: es) X.env = (false, eval e X.env) :: starEach es X.env := by rfl)
    (hpl : ((backTo pos (starEach (e :: es) X.env)).any (·.1) || (backToKw pos (keywordEach kws X.env)).any (·.1.isNone)) = false := by rfl)
    (ht : eval (.Call (.Attribute o m apos) (e :: es) kws pos) X.env = (do
      let ov ← eval o X.env
      standAt apos.atName
      let (f, first) ← holding [ov] (getMethod ov m pl)
      callWith pos f first (backTo pos (starEach (e :: es) X.env)) (backToKw pos (keywordEach kws X.env))) := by rfl) :
    PE X (.Call (.Attribute o m apos) (e :: es) kws pos) (tCMethN C n ks.length sp gV E ta t tk) := by
  refine ⟨fun pins s σ H Q I h => ?_⟩
  refine PySem.W.methodCall_KW (pl := pl) (thn (he.run pins s σ H _ I h) fun u s1 ⟨x, H1, I1, rx, ex, q⟩ => ?_) ht
  subst ex
  obtain rfl : u = Value.ref C := rx
  refine getmethcm_ok I1 r c fun s2 I2 => ?_
  refine callWith_MK (self := .ref C) (first := []) c.fi hall (thn (ha.run pos _ s2 σ H1 _ I2 q) fun us s3 ⟨vs, H2, I3, rv, q2⟩ => ?_) hpl hst
  refine thn (hkw.run pos _ s3 σ H2 _ I3 q2) fun ws s4 ⟨zs, H3, I4, rz, l1, l2, q3⟩ => ⟨⟨pin_at I4, I4.kIn⟩, ?_⟩
  rw [hks]
  exact run_cmN F hr hb hx I4 rv rz l1 l2 q3
/-- c(e, .., k = v, ..), c a local name that holds the class at C -/
def tMakeL (C : Addr) (n j : Nat) (sp : Sp) (gV : List V → List V → List V) (E : XK) (ta : TE) (t tk : TA) : TE := fun σ H Q => ta σ H fun x H0 => x = .ref C ∧ tMakeK C n j sp gV E t tk σ H0 Q
theorem pe_makeL (hc : PE X (.Name x pos) ta) (M : Mk X.K C f) (F : FnOk X.prog X.w X.K X.mg X.base CX k f fd ps sp) (hr : Room (k + 1) X.A) (hb : KBn X.K fd ps (n + 1) ks g gV) (hx : Passes CX X E) (ha : PA X (e :: es) t) (hkw : PK X kws tk)
    (hall : (backToKw apos (keywordEach kws X.env)).all (·.1.isSome) = true := by rfl) (hks : (backToKw apos (keywordEach kws X.env)).filterMap (·.1) = ks := by rfl)
    (he : starEach (e :: es) X.env = (false, eval e X.env) :: starEach es X.env := by rfl) (hpl : ((backTo apos (starEach (e :: es) X.env)).any (·.1) || (backToKw apos (keywordEach kws X.env)).any (·.1.isNone)) = false := by rfl) :
    PE X (.Call (.Name x pos) (e :: es) kws apos) (tMakeL C n ks.length sp gV E ta t tk) := by
  refine ⟨fun pins s σ H Q I h => ?_⟩
  refine wpAny_Call_Name_kw (thn (hc.run pins s σ H _ I h) fun u s0 ⟨y, H0, I0, ry, ey, h0⟩ => ?_)
  subst ey
  obtain rfl : u = Value.ref C := ry
  refine PySem.W.callWith_KW (h₀ := X.base) I0.ok.mod.kin M.kp hall (thn (ha.run apos pins s0 σ H0 _ I0 h0) fun us s1 ⟨vs, H1, I1, r, q⟩ => ?_) hpl he
  refine thn (hkw.run apos pins s1 σ H1 _ I1 q) fun ws s2 ⟨zs, H2, I2, rz, l1, l2, q2⟩ => ⟨I2.kIn, ?_⟩
  rw [hks]
  exact run_makeK M F hr hb hx I2 r rz l1 l2 q2
end
end Inf

set_option Elab.async false
set_option linter.all false
set_option maxRecDepth 100000
set_option maxHeartbeats 4000000
namespace Inf
open PySem PySem.Spec PyProof.Rows L2 NdefX LamX
/-! ### a lambda that captures cells -/
/-- a cell at c that holds v -/
def CellAt (H : Hp) (c : Addr) (v : V) : Prop := ∃ φ, H c = some (.ext φ) ∧ ∀ h : Heap, φ h → ∃ u, L2.RelV v u ∧ h.IsCell c (some u)
theorem CellAt.of {H : Hp} {c : Addr} {v : V} (h : H c = some (CellO c v)) : CellAt H c v := ⟨_, h, fun _ z => z⟩
theorem CellAt.at_ {P : Program} {w : World} {H : Hp} {h : Heap} {c : Addr} {v : V} (hok : HOk P w H h) (e : CellAt H c v) : ∃ u, L2.RelV v u ∧ h.IsCell c (some u) := by
  obtain ⟨φ, e1, e2⟩ := e
  obtain ⟨z, _, _⟩ := hok c _ e1
  exact e2 _ z
theorem CellAt.same {H H1 : Hp} {c : Addr} {v : V} (h : CellAt H c v) (s : Same H H1) : CellAt H1 c v := by
  obtain ⟨φ, e1, e2⟩ := h
  exact ⟨φ, s _ _ e1, e2⟩
/-- the lambda F stands at f, and its captured cells hold ws -/
structure LClo (H : Hp) (f : Addr) (F : LF) (fr : List Str) (ws : List V) : Prop where
  fn : H f = some (LamO f F)
  code : H F.c = some (CodeO F.c F.qual)
  len : ws.length = fr.length
  dom : ∀ y c, F.cl.lookup y = some c → y ∈ fr
  inj : ∀ x y c, F.cl.lookup x = some c → F.cl.lookup y = some c → x = y
  at_ : ∀ (i : Nat) (y : Str), fr[i]? = some y → ∃ c v, F.cl.lookup y = some c ∧ ws[i]? = some v ∧ CellAt H c v
theorem LClo.same {H H1 : Hp} {f : Addr} {F : LF} {fr : List Str} {ws : List V} (h : LClo H f F fr ws) (s : Same H H1) : LClo H1 f F fr ws :=
  ⟨s _ _ h.fn, s _ _ h.code, h.len, h.dom, h.inj, fun i y e => by
    obtain ⟨c, v, a, b, d⟩ := h.at_ i y e
    exact ⟨c, v, a, b, d.same s⟩⟩
theorem LClo.cell {H : Hp} {f : Addr} {F : LF} {fr : List Str} {ws : List V} (h : LClo H f F fr ws) {b : Addr} (hb : b ∈ cellsOf F.nf fr) : ∃ v, CellAt H b v := by
  obtain ⟨y, hy, e⟩ := mem_cells.mp hb
  obtain ⟨i, hi⟩ := List.mem_iff_getElem?.mp hy
  obtain ⟨c, v, a, _, d⟩ := h.at_ i y hi
  have e' : F.cl.lookup y = some b := e
  rw [e'] at a
  cases a
  exact ⟨v, d⟩
theorem LClo.out {H : Hp} {f : Addr} {F : LF} {fr : List Str} {ws : List V} (h : LClo H f F fr ws) {b : Addr} {o : HO} (e : H b = some o) (n : ∀ φ, o ≠ .ext φ) : b ∉ cellsOf F.nf fr := fun hb => by
  obtain ⟨v, φ, d, _⟩ := h.cell hb
  rw [e] at d
  exact n _ (Option.some.inj d)
section
variable {P : Program} {w : World} {K : PySem.W.Frag} {mg : Str → Option Value} {base : Heap} {k : Nat} {f : Addr} {F : LF} {N ps fr : List Str} {sp : List (Option V) → Sp}
theorem lam_run (S : NScope N ps fr F.scope) (hb : ∀ (pm ctv : Value) (us : List Value), us.length = ps.length → bindArgs (PySem.W.kla_fn "<lambda>" F.qual F.params F.body F.scope F.cl pm (.ref F.c) ctv) ⟨us, []⟩ = pure (ps.zip us))
    (len : ∀ ws vs H Q E, sp ws vs H Q E → vs.length = ps.length)
    (hbody : ∀ (A : Around) (outer : List Env) (s : Shared) (H : Hp) (vs : List V) (ws : List (Option V)) (Q : VK) (E : XK), Room k (A.deeper (envF F.nf f s.heap.objs.size)) → ws.length = fr.length → sp ws vs H Q E → ∃ te, PE (ncx CX0 P w K mg base N F.nf f A outer s H E) F.body te ∧ te (startF N vs ws) H Q)
    (A : Around) (outer : List Env) (s : Shared) (H : Hp) (us : List Value) (vs : List V) (ws : List (Option V)) (Q : VK) (E : XK) (hr : Room (k + 1) A) (e0 : Env0 P w K mg base A outer s H) (hf : H f = some (LamO f F)) (hc : H F.c = some (CodeO F.c F.qual)) (C : CellsAt F.cl fr ws s.heap H) (r : Vals vs us) (hsp : sp ws vs H Q E) :
    codeAny (model P w) A (.call (.ref f) ⟨us, []⟩) (CR CX0 outer P w H s Q E) s := by
  have hl := len _ _ _ _ _ hsp
  have lim : s.heap.NoLimit := e0.mod.nolimit.keeps fun b o e => (e0.bs b o e).1
  obtain ⟨pm, ctv, ho⟩ := lamO_at e0.hok hf
  refine PySem.W.kla_callFunE hr.depth ho rfl S.co S.gen rfl (codeO_at e0.hok hc) ?_
  rw [hb pm ctv us (by rw [← r.length]; exact hl)]
  refine wpAny_pure (wpAny_newFunctionEnv S.nocell (fun ⟨n, _⟩ hy => S.par n (List.of_mem_zip hy).1) (fun h₁ hns hsb => ⟨lim.fresh _ hsb, ?_⟩) S.kind)
  obtain ⟨te, ht, hq⟩ := hbody A outer s H vs ws Q E (hr.deeper _) C.len hsp
  have kp : ∀ b o, s.heap.get? b = some o → h₁.get? b = some o := fun b o e => hsb.extBut b o (Nat.ne_of_lt (Heap.lt_size e)) (Heap.get?_push_of_some _ e)
  have I := inv_startN (CX := CX0) (P := P) (w := w) (K := K) (mg := mg) (base := base) (F := F.nf) (f := f) (A := A) (outer := outer) (E := E) (tk := s.toks + (ps.zip us).length) S hr.hd e0 hl r C hns kp
  refine PySem.W.kla_codeExpr (wpAny_mono (ht.run [] _ (startF N vs ws) H Q I hq) (fun u s' hs => ?_) fun e s' hs => hs)
  obtain ⟨v, H', J, rv, q⟩ := hs
  exact ⟨v, H', J.os, J.bare, J.base, J.hok, rv, q⟩
/-- A LAMBDA THAT CAPTURES CELLS, called from anywhere: its cells are told; while it runs they are left out, behind it they are put back -/
theorem lam_cloR (S : NScope N ps fr F.scope) (hb : ∀ (pm ctv : Value) (us : List Value), us.length = ps.length → bindArgs (PySem.W.kla_fn "<lambda>" F.qual F.params F.body F.scope F.cl pm (.ref F.c) ctv) ⟨us, []⟩ = pure (ps.zip us))
    (len : ∀ ws vs H Q E, sp ws vs H Q E → vs.length = ps.length)
    (hbody : ∀ (A : Around) (outer : List Env) (s : Shared) (H : Hp) (vs : List V) (ws : List (Option V)) (Q : VK) (E : XK), Room k (A.deeper (envF F.nf f s.heap.objs.size)) → ws.length = fr.length → sp ws vs H Q E → ∃ te, PE (ncx CX0 P w K mg base N F.nf f A outer s H E) F.body te ∧ te (startF N vs ws) H Q) :
    FnR P w K mg base CX0 (k + 1) f (fun vs H Q E => ∃ ws, LClo H f F fr ws ∧ sp (ws.map some) vs (cut (cellsOf F.nf fr) H) (fun v H1 => (∀ b, b ∈ cellsOf F.nf fr → H1 b = Option.none) → Q v (mend (cellsOf F.nf fr) H H1)) E) := by
  intro A outer s H us vs Q E hr e0 r hsp
  obtain ⟨ws, hc, hsp⟩ := hsp
  have cellAt : ∀ b, b ∈ cellsOf F.nf fr → ∃ v, CellAt H b v := fun b hb => hc.cell hb
  have isC : ∀ b, b ∈ cellsOf F.nf fr → ∃ u, s.heap.IsCell b (some u) := fun b hb => by
    obtain ⟨v, e⟩ := cellAt b hb
    obtain ⟨u, _, z⟩ := e.at_ e0.hok
    exact ⟨u, z⟩
  have fnout : f ∉ cellsOf F.nf fr := fun hb => by
    obtain ⟨u, o, e1, e2⟩ := isC f hb
    obtain ⟨pm, ctv, e3⟩ := lamO_at e0.hok hc.fn
    rw [e1] at e3
    cases e3
    cases e2
  have cout : F.c ∉ cellsOf F.nf fr := fun hb => by
    obtain ⟨u, o, e1, e2⟩ := isC F.c hb
    obtain ⟨⟨oc, vs', t, h1, h2, h3⟩, _, _⟩ := e0.hok F.c _ hc.code
    rw [e1] at h1
    cases h1
    rw [e2] at h2
    cases h2
  have hokc : HOk P w (cut (cellsOf F.nf fr) H) s.heap := fun b o e => by
    by_cases hb : b ∈ cellsOf F.nf fr
    · rw [cut_in hb] at e
      cases e
    · rw [cut_out hb] at e
      refine (e0.hok b o e).stay (fun c u _ q => q) (fun c q => ?_) fun c xs q => ?_
      · rw [cut_out (hc.out q (fun φ z => nomatch z))]
        exact q
      · rw [cut_out (hc.out q (fun φ z => nomatch z))]
        exact q
  have noneC : ∀ b, H b = Option.none → cut (cellsOf F.nf fr) H b = Option.none := fun b e => by
    by_cases hb : b ∈ cellsOf F.nf fr
    · exact cut_in hb
    · rw [cut_out hb]
      exact e
  have e1 : Env0 P w K mg base A outer s (cut (cellsOf F.nf fr) H) := ⟨e0.frames, e0.mod, fun b o q => ⟨(e0.bs b o q).1, noneC b (e0.bs b o q).2⟩, e0.bsz, e0.funs, fun b hb => noneC b (e0.frf b hb), hokc, e0.bare⟩
  have C : CellsAt F.cl fr (ws.map some) s.heap (cut (cellsOf F.nf fr) H) := by
    refine ⟨by rw [List.length_map]; exact hc.len, fun y c e => ?_, hc.inj, fun i y e => ?_⟩
    · have hb : c ∈ cellsOf F.nf fr := mem_cells.mpr ⟨y, hc.dom y c e, e⟩
      obtain ⟨u, z⟩ := isC c hb
      exact ⟨cut_in hb, _, z⟩
    · obtain ⟨c, v, a, b, d⟩ := hc.at_ i y e
      refine ⟨c, a, fun v' e' => ?_⟩
      rw [List.getElem?_map, b] at e'
      cases e'
      obtain ⟨u, r', z⟩ := d.at_ e0.hok
      exact ⟨u, r', z⟩
  refine codeAny_mono (lam_run S hb len hbody A outer s (cut (cellsOf F.nf fr) H) us vs (ws.map some) _ E hr e1 (by rw [cut_out fnout]; exact hc.fn) (by rw [cut_out cout]; exact hc.code) C r hsp) fun res s' hq => ?_
  cases res with
  | error e => exact hq
  | ok fl =>
    cases fl with
    | next => exact hq
    | brk => exact hq
    | cont => exact hq
    | ret u =>
      obtain ⟨v, H1, os, bare, un, hok1, rv, q⟩ := hq
      have gone : ∀ b, b ∈ cellsOf F.nf fr → H1 b = Option.none := fun b hb => by
        obtain ⟨u, o, z1, z2⟩ := isC b hb
        exact un.free b o z1 (cut_in hb) (by simp)
      have notfr : ∀ b, b ∈ cellsOf F.nf fr → b ∉ frs outer := fun b hb z => by
        obtain ⟨v, φ, d, _⟩ := cellAt b hb
        rw [e0.frf b z] at d
        cases d
      refine ⟨v, mend (cellsOf F.nf fr) H H1, os, bare, ⟨fun b o a n h1 h2 => un.keep b o a (noneC b n) h1 h2, fun b o a n h1 h2 => un.slot b o a (noneC b n) h1 h2, fun b o a n h2 => ?_, un.there, fun b xs e => ?_, fun b o u e => ?_, fun b ps e => ?_⟩, fun b o e => ?_, rv, q gone⟩
      · by_cases hb : b ∈ cellsOf F.nf fr
        · rw [mend_in hb]
          exact n
        · rw [mend_out hb]
          exact un.free b o a (noneC b n) h2
      · have hb := hc.out e (fun φ z => nomatch z)
        rw [mend_out hb]
        exact un.tups b xs (by rw [cut_out hb]; exact e)
      · have hb := hc.out e (fun φ z => nomatch z)
        rw [mend_out hb]
        exact un.frzs b o u (by rw [cut_out hb]; exact e)
      · have hb := hc.out e (fun φ z => nomatch z)
        rw [mend_out hb]
        exact un.tbls b ps (by rw [cut_out hb]; exact e)
      · by_cases hb : b ∈ cellsOf F.nf fr
        · rw [mend_in hb] at e
          obtain ⟨v', φ, d, _⟩ := cellAt b hb
          rw [d] at e
          cases e
          obtain ⟨z, ⟨o', z1⟩, st⟩ := e0.hok b _ d
          have z2 := un.keep b o' z1 (cut_in hb) (notfr b hb) (by simp)
          refine ⟨st _ _ z (fun x hx => ?_), ⟨o', z2⟩, st⟩
          rw [z1] at hx
          cases hx
          exact z2
        · rw [mend_out hb] at e
          refine (hok1 b o e).stay (fun c u _ q => q) (fun c q => ?_) fun c xs q => ?_
          · have hb' : c ∉ cellsOf F.nf fr := fun z => by
              rw [gone c z] at q
              cases q
            rw [mend_out hb']
            exact q
          · have hb' : c ∉ cellsOf F.nf fr := fun z => by
              rw [gone c z] at q
              cases q
            rw [mend_out hb']
            exact q
end
/-! ### a call while the def's cells are told -/
/-- HT is H with the def's cells cs told -/
structure Tel (cells : List (Str × Addr)) (names : List (Str × NameKind)) (N : List Str) (σ : L2.St) (H : Hp) (cs : List Addr) (HT : Hp) : Prop where
  no : ∀ b, b ∈ cs → H b = Option.none
  ext : ∀ b, b ∈ cs → ∃ φ, HT b = some (.ext φ)
  out : ∀ b, b ∉ cs → HT b = H b
  inj : ∀ x y c, cells.lookup x = some c → cells.lookup y = some c → x = y
  has : ∀ y, names.lookup y = some .cell → ∃ c, cells.lookup y = some c
  at_ : ∀ (i : Nat) (y : Str) (c : Addr) (v : V), N[i]? = some y → names.lookup y = some .cell → cells.lookup y = some c → σ[i]? = some (some v) → CellAt HT c v
theorem Tel.same {cells : List (Str × Addr)} {names : List (Str × NameKind)} {N : List Str} {σ : L2.St} {H HT : Hp} {cs : List Addr} (t : Tel cells names N σ H cs HT) : Same H HT := fun b o e => by
  rw [t.out b fun z => by rw [t.no b z] at e; cases e]
  exact e
theorem Tel.cut_at {cells : List (Str × Addr)} {names : List (Str × NameKind)} {N : List Str} {σ : L2.St} {H HT H1 : Hp} {cs : List Addr} (t : Tel cells names N σ H cs HT) (g : ∀ b, b ∈ cs → H1 b = HT b) {b : Addr} {o : HO} (e : H1 b = some o) (n : ∀ φ, o ≠ .ext φ) : cut cs H1 b = some o := by
  rw [cut_out fun z => ?_]
  · exact e
  · obtain ⟨φ, f⟩ := t.ext b z
    rw [g b z, f] at e
    exact n _ (Option.some.inj e).symm
theorem Tel.cut_same {cells : List (Str × Addr)} {names : List (Str × NameKind)} {N : List Str} {σ : L2.St} {H HT H1 : Hp} {cs : List Addr} (t : Tel cells names N σ H cs HT) (s : Same HT H1) : Same H (cut cs H1) := fun b o e => by
  rw [cut_out fun z => by rw [t.no b z] at e; cases e]
  exact s _ _ (t.same _ _ e)
theorem Tel.back {cells : List (Str × Addr)} {names : List (Str × NameKind)} {N : List Str} {σ : L2.St} {H HT : Hp} {cs : List Addr} (t : Tel cells names N σ H cs HT) : cut cs HT = H := funext fun b => by
  by_cases hb : b ∈ cs
  · rw [cut_in hb, t.no b hb]
  · rw [cut_out hb, t.out b hb]
theorem mend_cut {cs : List Addr} {H : Hp} : mend cs H (cut cs H) = H := funext fun b => by
  by_cases hb : b ∈ cs
  · rw [mend_in hb]
  · rw [mend_out hb, cut_out hb]
/-- a lambda that was made in the def, while the def's cells are told -/
theorem Tel.lclo {cells : List (Str × Addr)} {names : List (Str × NameKind)} {N : List Str} {σ : L2.St} {H HT : Hp} {cs : List Addr} (t : Tel cells names N σ H cs HT) {NL psL fr : List Str} {F : LF} {f : Addr} {js : List Nat} {ws : List V}
    (S : NScope NL psL fr F.scope) (hcl : F.cl = cloFrom cells F.scope.names []) (hfree : ∀ y ∈ fr, names.lookup y = some .cell)
    (hN : js.map (fun j => N[j]?) = fr.map some) (hσ : js.map (fun j => σ[j]?) = ws.map fun v => some (some v))
    (hf : H f = some (LamO f F)) (hc : H F.c = some (CodeO F.c F.qual)) : LClo HT f F fr ws := by
  have hfr : ∀ y ∈ F.scope.names, y.2 = .free → ∃ c, cells.lookup y.1 = some c := fun y hy e => t.has _ (hfree _ (S.free y hy e))
  have l1 := congrArg List.length hN
  have l2 := congrArg List.length hσ
  rw [List.length_map, List.length_map] at l1 l2
  refine ⟨t.same _ _ hf, t.same _ _ hc, by omega, fun y c e => ?_, fun x y c e1 e2 => ?_, fun i y e => ?_⟩
  · rw [hcl] at e
    rcases cloFrom_mem (PySem.mem_of_lookup e) with h | ⟨h, _⟩
    · cases h
    · exact S.free _ h rfl
  · rw [hcl] at e1 e2
    exact t.inj x y c (clo_cm hfr e1) (clo_cm hfr e2)
  · have my : y ∈ fr := List.mem_of_getElem? e
    obtain ⟨c, hc⟩ := t.has y (hfree y my)
    have li : i < fr.length := (List.getElem?_eq_some_iff.mp e).1
    obtain ⟨j, hj⟩ : ∃ j, js[i]? = some j := ⟨_, List.getElem?_eq_getElem (by omega)⟩
    obtain ⟨v, hv⟩ : ∃ v, ws[i]? = some v := ⟨_, List.getElem?_eq_getElem (by omega)⟩
    have n1 : (js.map fun j => N[j]?)[i]? = some (some y) := by
      rw [hN, List.getElem?_map, e]
      rfl
    have n2 : (js.map fun j => σ[j]?)[i]? = some (some (some v)) := by
      rw [hσ, List.getElem?_map, hv]
      rfl
    rw [List.getElem?_map, hj] at n1 n2
    exact ⟨c, v, by rw [hcl]; exact clo_has hfr (PySem.mem_of_lookup (S.frk y my)) hc, hv, t.at_ j y c v (Option.some.inj n1) (hfree y my) hc (Option.some.inj n2)⟩
section
variable {X : Cx} {pins : List (Addr × Obj)} {σ : L2.St} {H : Hp} {s : Shared}
def frCells (l : List (Str × Addr)) : List Addr := l.filterMap fun p => l.lookup p.1
theorem mem_frCells {l : List (Str × Addr)} {b : Addr} (h : b ∈ frCells l) : ∃ x, l.lookup x = some b := by
  obtain ⟨p, _, e⟩ := List.mem_filterMap.mp h
  exact ⟨p.1, e⟩
theorem frCells_mem {l : List (Str × Addr)} {x : Str} {b : Addr} (h : l.lookup x = some b) : b ∈ frCells l := List.mem_filterMap.mpr ⟨(x, b), PySem.mem_of_lookup h, h⟩
theorem tel_run {k : Nat} {f : Addr} {fd : FuncData} {ps : List Str} {ds : List Value} {dvs : List V} {sp : Sp} {Q : VK} {us : List Value} {vs : List V} (F : FnOk X.prog X.w X.K X.mg X.base CX0 k f fd ps sp) (hr : Room k X.A) (hb : Binds X.K fd ps ds) (hd : Vals dvs ds) (hfn : ∀ x, X.fn x = true)
    (I : Inv X pins σ H s) (r : Vals vs us) (h : ∀ cs HT, Tel X.env.cells X.env.scope.names X.N σ H cs HT → sp (vs ++ dvs) HT (fun v H1 => (∀ b, b ∈ cs → H1 b = HT b) ∧ Q v (cut cs H1)) E0) : wpAny (model X.prog X.w) X.A (call (.ref f) us) (EP X pins σ Q) X.xe s := by
  let cs := frCells X.env.cells
  let HT : Hp := fun b => if b ∈ cs then (match s.heap.get? b with | some o => some (.ext fun h => h.get? b = some o) | Option.none => Option.none) else H b
  have big : ∀ b, b ∈ cs → X.s_0.heap.objs.size ≤ b := fun b hb => by
    obtain ⟨x, e⟩ := mem_frCells hb
    exact I.ok.cab x b (hfn x) e
  have no : ∀ b, b ∈ cs → H b = Option.none := fun b hb => by
    obtain ⟨x, e⟩ := mem_frCells hb
    exact I.freeC x b e
  have inT : ∀ b, b ∈ cs → ∃ v o, s.heap.get? b = some o ∧ o.data = .cell v ∧ HT b = some (.ext fun h => h.get? b = some o) := fun b hb => by
    obtain ⟨x, e⟩ := mem_frCells hb
    obtain ⟨v, o, e1, e2⟩ := I.cell x b e
    refine ⟨v, o, e1, e2, ?_⟩
    show (if b ∈ cs then _ else _) = _
    rw [if_pos hb, e1]
  have outT : ∀ b, b ∉ cs → HT b = H b := fun b hb => if_neg hb
  have nonT : ∀ b, b ∉ cs → H b = Option.none → HT b = Option.none := fun b hb e => (outT b hb).trans e
  have T : Tel X.env.cells X.env.scope.names X.N σ H cs HT := by
    refine ⟨no, fun b hb => ?_, outT, I.ok.inj, fun y h => I.ok.has _ (.inl h), fun i y c v h1 h2 h3 h4 => ?_⟩
    · obtain ⟨v, o, _, _, e⟩ := inT b hb
      exact ⟨_, e⟩
    · obtain ⟨v', o, e1, e2, e3⟩ := inT c (frCells_mem h3)
      obtain ⟨m, hn, hl⟩ := I.loc
      obtain ⟨u, ru, lk⟩ := hl i y v h1 h4 (.inr (.inl h2))
      refine ⟨_, e3, fun h hh => ⟨u, ru, o, hh, ?_⟩⟩
      rcases lk with ⟨z, _⟩ | ⟨_, c', hc', hcell⟩
      · have z' : X.env.scope.names.lookup y = some .local := z
        rw [h2] at z'
        cases z'
      · rw [h3] at hc'
        cases hc'
        obtain ⟨o', g1, g2⟩ := hcell
        rw [e1] at g1
        cases g1
        exact g2
  have ncs : ∀ b, b < X.s_0.heap.objs.size → b ∉ cs := fun b l m => Nat.not_lt.mpr (big b m) l
  have e0 := I.env0
  have notfr : ∀ b, b ∈ frs X.stack → b ∉ cs := fun b hb m => by
    rcases List.mem_cons.mp (I.stkSub b hb) with e | hb'
    · obtain ⟨x, ex⟩ := mem_frCells m
      exact I.cne x b ex e
    · obtain ⟨_, o, ho, _⟩ := I.ok.funs.mem hb'
      exact ncs b (Heap.lt_size ho) m
  have nonext : ∀ {b : Addr} {o : HO}, H b = some o → b ∉ cs := fun e m => by
    rw [no _ m] at e
    cases e
  have e1 : Env0 X.prog X.w X.K X.mg X.base X.A X.stack s HT := by
    refine ⟨e0.frames, e0.mod, fun b o q => ⟨(e0.bs b o q).1, nonT b (ncs b (Nat.lt_of_lt_of_le (Heap.lt_size q) I.ok.bsz)) (e0.bs b o q).2⟩, e0.bsz, e0.funs, fun b hb => nonT b (notfr b hb) (e0.frf b hb), fun b o e => ?_, e0.bare⟩
    by_cases hb : b ∈ cs
    · obtain ⟨v, o', g1, g2, g3⟩ := inT b hb
      rw [g3] at e
      cases e
      exact ⟨g1, ⟨o', g1⟩, fun h1 h2 z k => k _ z⟩
    · rw [outT b hb] at e
      refine (e0.hok b o e).stay (fun c u _ q => q) (fun c q => ?_) fun c xs q => ?_
      · rw [outT c (nonext q)]
        exact q
      · rw [outT c (nonext q)]
        exact q
  have hq0 := h cs HT T
  have r2 : Vals (vs ++ dvs) (us ++ ds) := r.append hd
  have hl : (us ++ ds).length = ps.length := by rw [← r2.length]; exact F.len _ _ _ _ hq0
  refine wpAny_call (codeAny_mono (F.run X.A X.stack s HT ⟨us, []⟩ (us ++ ds) (vs ++ dvs) _ E0 hr e1 (hb s us I.kIn hl) r2 hq0) fun r s' hq => ?_)
  cases r with
  | error e => exact False.elim hq
  | ok fl =>
    cases fl with
    | next => exact False.elim hq
    | brk => exact False.elim hq
    | cont => exact False.elim hq
    | ret u =>
      obtain ⟨v, H1, os, bare, un, hok1, rv, kc, q⟩ := hq
      have notin : ∀ {b : Addr} {o : HO}, H1 b = some o → (∀ φ, o ≠ .ext φ) → b ∉ cs := fun {b o} e n m => by
        obtain ⟨v, o', _, _, g3⟩ := inT b m
        rw [kc b m, g3] at e
        exact n _ (Option.some.inj e).symm
      have keepC : ∀ b o, b ∈ cs → s.heap.get? b = some o → s'.heap.get? b = some o := fun b o m e => by
        obtain ⟨v, o', g1, _, g3⟩ := inT b m
        rw [g1] at e
        cases e
        have := hok1 b _ ((kc b m).trans g3)
        exact this.1
      refine I.after ⟨v, cut cs H1, os, bare, ⟨fun b o a n h1 h2 => ?_, fun b o a n h1 h2 => ?_, fun b o a n h2 => ?_, un.there, fun b xs e => ?_, fun b o u e => ?_, fun b ps e => ?_⟩, fun b o e => ?_, rv, q⟩
      · by_cases m : b ∈ cs
        · exact keepC b o m a
        · exact un.keep b o a (nonT b m n) h1 h2
      · exact un.slot b o a (nonT b (notfr b h1) n) h1 h2
      · by_cases m : b ∈ cs
        · exact cut_in m
        · rw [cut_out m]
          exact un.free b o a (nonT b m n) h2
      · have m := nonext e
        rw [cut_out m]
        exact un.tups b xs ((outT b m).trans e)
      · have m := nonext e
        rw [cut_out m]
        exact un.frzs b o u ((outT b m).trans e)
      · have m := nonext e
        rw [cut_out m]
        exact un.tbls b ps ((outT b m).trans e)
      · by_cases m : b ∈ cs
        · rw [cut_in m] at e
          cases e
        · rw [cut_out m] at e
          refine (hok1 b o e).stay (fun c u _ q => q) (fun c q => ?_) fun c xs q => ?_
          · rw [cut_out (notin q (fun φ z => nomatch z))]
            exact q
          · rw [cut_out (notin q (fun φ z => nomatch z))]
            exact q
end
/-- f(..) while the cells are told -/
def tCallT (X : Cx) (sp : Sp) (dvs : List V) (t : TA) : TE := fun σ H Q => t σ H fun vs H1 => ∀ cs HT, Tel X.env.cells X.env.scope.names X.N σ H1 cs HT → sp (vs ++ dvs) HT (fun v H2 => (∀ b, b ∈ cs → H2 b = HT b) ∧ Q v (cut cs H2)) E0
theorem pe_callT {X : Cx} {k : Nat} {f : Addr} {fd : FuncData} {ps : List Str} {ds : List Value} {dvs : List V} {sp : Sp} {x : Str} {p pos : Pos} {e : Expr} {es : List Expr} {t : TA} (hfn : ∀ x, X.fn x = true) (F : FnOk X.prog X.w X.K X.mg X.base CX0 k f fd ps sp) (hr : Room k X.A) (hg : Gl X x) (hm : X.mg x = some (.ref f)) (hk : PySem.W.keepIn X.K (.ref f) = true) (hb : Binds X.K fd ps ds) (hd : Vals dvs ds)
    (ha : PA X (e :: es) t) (hdb : (x == ("__debug__" : Str)) = false := by decide) (he : starEach (e :: es) X.env = (false, eval e X.env) :: starEach es X.env := by rfl) (hpl : (backTo pos (starEach es X.env)).any (·.1) = false := by rfl) :
    PE X (.Call (.Name x p) (e :: es) [] pos) (tCallT X sp dvs t) := by
  refine ⟨fun pins s σ H Q I h => ?_⟩
  refine wpAny_Call_Name_kw (ld_glob I hg hm ?_ hdb)
  refine PySem.W.callWith_K (h₀ := X.base) I.ok.mod.kin hk (thn (ha.run pos pins s σ H _ I h) fun us s1 ⟨vs, H1, I1, r, q⟩ => ⟨I1.kIn, ?_⟩) he hpl
  exact tel_run F hr hb hd hfn I1 r q
section
variable {X : Cx} {pins : List (Addr × Obj)} {σ : L2.St} {H : Hp} {s : Shared}
/-- a lambda in a def that makes functions by name, too: the table knows the names by their places -/
theorem lam_toldP {T : List NTab} {nm : Nat → Nat → Str} {c P : Addr} {params : Arguments} {body : Expr} {scope : Scope} {pos : Pos} {E : Value → Shared → Prop} {Q : Value → Shared → Prop} (I : Inv X pins σ H s) (TB : TabB X.base X.mg c P) (hcode : X.env.code = .ref c)
    (hm : (P, nm) ∈ T) (hn : nm pos.line pos.col = X.env.qual ++ "<lambda>") (hu : ∀ p ∈ T, p.1 = P → p.2 = nm) (hT : TabsN T H) (hdef : defaultsOf params X.env = ([], [])) (hfree : ∀ y ∈ scope.names, y.2 = .free → ∃ c, X.env.cells.lookup y.1 = some c)
    (h : ∀ (f c' : Addr) (H1 : Hp) (s' : Shared), Inv X pins σ H1 s' → (∀ b o, H b = some o → b ≠ P → H1 b = some o) → (∀ b, H1 b = Option.none → H b = Option.none) → TabsN T H1 → H f = none → H1 f = some (LamO f ⟨X.env.qual ++ "<lambda>", params, body, scope, cloFrom X.env.cells scope.names [], c'⟩) → H1 c' = some (CodeO c' (X.env.qual ++ "<lambda>")) → Q (.ref f) s') :
    wpAny (model X.prog X.w) X.A (eval (.Lambda params body scope pos) X.env) Q E s := by
  obtain ⟨ps, hP, ht, ha⟩ := (show TabN H P nm from hT _ hm)
  have bP := TB.bm.keeps (h' := s.heap) I.bk
  have gP : s.heap.get? P = some { cls := .none, data := .fields ps } := I.hok P _ hP
  refine PySem.W.kla_eval hdef ?_
  cases cd : codeAmong pos ps.toList with
  | none =>
    refine PySem.W.kla_makeFunction (mg := X.mg) (c := c) (P := P) (ps := ps) (closure_ok hfree) I.ok.glob (I.mod.glob.keeps I.bk) hcode (TB.code.keeps I.bk) gP ht cd TB.gP bP fun c' ctv h' tk hx hge hlt hrec htb => ?_
    obtain ⟨c2, oc, vs, t, e2, hoc, hd, hv⟩ := hrec
    cases e2
    have nC : H c' = none := I.hok.fresh hge
    have I1 := inv_table (q := X.env.qual ++ "<lambda>") (t' := tk) (more := #[rawInt pos.line, rawInt pos.col, .ref c']) (h' := h') I hP hx htb hge ⟨oc, vs, t, hoc, hd, hv⟩
    have hE : ExtN H (upd (upd H P (.tbl (ps ++ #[rawInt pos.line, rawInt pos.col, .ref c']))) c' (CodeO c' (X.env.qual ++ "<lambda>"))) := fun b o e n => by
      rw [upd_ne (ne_of_none e nC), upd_ne (fun z => n ps (Option.some.inj (e.symm.trans (by rw [z]; exact hP))))]
      exact e
    have eL : (ps ++ #[rawInt pos.line, rawInt pos.col, .ref c']).toList = ps.toList ++ [rawInt pos.line, rawInt pos.col, .ref c'] := by simp
    have T1 : TabsN T (upd (upd H P (.tbl (ps ++ #[rawInt pos.line, rawInt pos.col, .ref c']))) c' (CodeO c' (X.env.qual ++ "<lambda>"))) := fun p hp => by
      by_cases hb : p.1 = P
      · rw [hu p hp hb, hb]
        refine ⟨_, by rw [upd_ne (ne_of_none hP nC), upd_same], by rw [eL]; exact PySem.TriplesOk_snoc _ _ _ _ ht, fun p' cv hcv => ?_⟩
        rw [eL] at hcv
        rcases among_app2 _ ht hcv with z | ⟨z, z1, z2⟩
        · obtain ⟨c0, e1, e2⟩ := ha p' cv z
          exact ⟨c0, e1, hE _ _ e2 codeO_ne⟩
        · refine ⟨c', z, ?_⟩
          rw [← z1, ← z2, hn]
          exact upd_same
      · obtain ⟨ps', a1, a2, a3⟩ := hT p hp
        refine ⟨ps', by rw [upd_ne (ne_of_none a1 nC), upd_ne hb]; exact a1, a2, fun p' cv hcv => ?_⟩
        obtain ⟨c0, e1, e2⟩ := a3 p' cv hcv
        exact ⟨c0, e1, hE _ _ e2 codeO_ne⟩
    have nF := I1.hok.fresh (Nat.le_refl h'.objs.size)
    have I2 := I1.laid (a := h'.objs.size) (o := LamO h'.objs.size ⟨X.env.qual ++ "<lambda>", params, body, scope, cloFrom X.env.cells scope.names [], c'⟩) (h' := h'.push (PySem.W.kla_obj "<lambda>" (X.env.qual ++ "<lambda>") params body scope (cloFrom X.env.cells scope.names []) ((X.mg "__name__").getD .none) c' ctv)) (t' := tk)
      (fun b u z => Heap.get?_push_of_some _ z) (Nat.le_refl _) (lamO_ok ⟨_, _, Heap.get?_push_size _ rfl⟩)
    have hX : ∀ b o, H b = some o → b ≠ P → (upd (upd H P (.tbl (ps ++ #[rawInt pos.line, rawInt pos.col, .ref c']))) c' (CodeO c' (X.env.qual ++ "<lambda>"))) b = some o := fun b o e n => by
      rw [upd_ne (ne_of_none e nC), upd_ne n]
      exact e
    refine h h'.objs.size c' _ _ I2 (fun b o e n => ?_) (fun b e => NdefX.upd_none (NdefX.upd_none (NdefX.upd_none e))) (T1.ext fun b o e => ?_) (I.hok.fresh (Nat.le_trans hge (Nat.le_of_lt hlt))) upd_same ?_
    · have e1 := hX b o e n
      exact (upd_ne (ne_of_none e1 nF)).trans e1
    · exact (upd_ne (ne_of_none e nF)).trans e
    · exact (upd_ne (Nat.ne_of_lt hlt)).trans upd_same
  | some cv =>
    obtain ⟨c', e, hco⟩ := ha pos cv cd
    subst e
    rw [hn] at hco
    refine PySem.W.kla_makeFunctionHit (mg := X.mg) (c := c) (P := P) (ps := ps) (closure_ok hfree) I.ok.glob (I.mod.glob.keeps I.bk) hcode (TB.code.keeps I.bk) gP ht cd bP fun ctv h' tk hx hsz => ?_
    have I0 : Inv X pins σ H { s with heap := h', toks := tk } := I.kept hx
    have nF : H h'.objs.size = none := I0.hok.fresh (Nat.le_refl _)
    have I2 := I0.laid (a := h'.objs.size) (o := LamO h'.objs.size ⟨X.env.qual ++ "<lambda>", params, body, scope, cloFrom X.env.cells scope.names [], c'⟩) (h' := h'.push (PySem.W.kla_obj "<lambda>" (X.env.qual ++ "<lambda>") params body scope (cloFrom X.env.cells scope.names []) ((X.mg "__name__").getD .none) c' ctv)) (t' := tk)
      (fun b u z => Heap.get?_push_of_some _ z) (Nat.le_refl _) (lamO_ok ⟨_, _, Heap.get?_push_size _ rfl⟩)
    refine h h'.objs.size c' _ _ I2 (fun b o e n => ?_) (fun b e => NdefX.upd_none e) (hT.ext fun b o e => ?_) nF upd_same ?_
    · exact (upd_ne (ne_of_none e nF)).trans e
    · exact (upd_ne (ne_of_none e nF)).trans e
    · exact (upd_ne (ne_of_none hco nF)).trans hco
end
def tLamP (T : List NTab) (P : Addr) (F : Addr → LF) : TE := fun σ H Q => TabsN T H ∧ ∀ (f c' : Addr) (H1 : Hp), (∀ b o, H b = some o → b ≠ P → H1 b = some o) → (∀ b, H1 b = Option.none → H b = Option.none) → TabsN T H1 → H f = none → H1 f = some (LamO f (F c')) → H1 c' = some (CodeO c' (F c').qual) → Q (.ref f) H1
theorem pe_lamP {X : Cx} {T : List NTab} {nm : Nat → Nat → Str} {c P : Addr} {params : Arguments} {body : Expr} {scope : Scope} {pos : Pos} (TB : TabB X.base X.mg c P) (hcode : X.env.code = .ref c) (hm : (P, nm) ∈ T) (hn : nm pos.line pos.col = X.env.qual ++ "<lambda>") (hu : ∀ p ∈ T, p.1 = P → p.2 = nm)
    (hdef : defaultsOf params X.env = ([], [])) (hfree : ∀ y ∈ scope.names, y.2 = .free → X.env.scope.names.lookup y.1 = some .cell ∨ X.env.scope.names.lookup y.1 = some .free) :
    PE X (.Lambda params body scope pos) (tLamP T P fun c' => ⟨X.env.qual ++ "<lambda>", params, body, scope, cloFrom X.env.cells scope.names [], c'⟩) := by
  refine ⟨fun pins s σ H Q I h => ?_⟩
  obtain ⟨hT, q⟩ := h
  exact lam_toldP I TB hcode hm hn hu hT hdef (fun y hy e => (hfree y hy e).elim (fun z => I.ok.has _ (.inl z)) fun z => I.ok.has _ (.inr z)) fun f c' H1 s' I1 e1 n1 t1 nf hf hc => ⟨.ref f, H1, I1, rfl, q f c' H1 e1 n1 t1 nf hf hc⟩
/-! ### f(e, ..), f a name that holds a function that was made in a def -/
def tActP (P : Program) (w : World) (K : PySem.W.Frag) (mg : Str → Option Value) (base : Heap) (CX : CXT) (k i : Nat) (E : L2.St → XK) (t : TA) : TE := fun σ H Q => ∃ f, σ[i]? = some (some (.ref f)) ∧ t σ H fun vs H1 => ∃ o sp, H1 f = some o ∧ FnHO f o ∧ FnR P w K mg base CX k f sp ∧ sp vs H1 Q (E σ)
theorem lamHO2 {f : Addr} {F : LF} : FnHO f (LamO f F) := lamHO
theorem pe_actP {X : Cx} {CX : CXT} {k i : Nat} {E : L2.St → XK} {x : Str} {e : Expr} {es : List Expr} {t : TA} {p pos : Pos} (hN : X.N[i]? = some x) (hv : Vis X.env.scope x) (hr : Room k X.A) (hx : ∀ σ, PassesAt CX X σ (E σ)) (ha : PA X (e :: es) t) (hd : (x == ("__debug__" : Str)) = false := by decide) (hcd : (x == ("__classdict__" : Str)) = false := by decide)
    (he : starEach (e :: es) X.env = (false, eval e X.env) :: starEach es X.env := by rfl) (hpl : (backTo pos (starEach es X.env)).any (·.1) = false := by rfl) : PE X (.Call (.Name x p) (e :: es) [] pos) (tActP X.prog X.w X.K X.mg X.base CX k i E t) := by
  refine ⟨fun pins s σ H Q I h => ?_⟩
  obtain ⟨f, hs, h⟩ := h
  refine wpAny_Call_Name_kw (thn ((pe_var (pos := p) hN hv hd hcd).run pins s σ H (fun v H1 => v = .ref f ∧ H1 = H) I ⟨.ref f, hs, rfl, rfl⟩) fun u s1 ⟨v, H1, I1, r1, ev, eH⟩ => ?_)
  subst ev
  rw [eH] at I1
  obtain rfl : u = Value.ref f := r1
  rw [he]
  refine PySem.W.callWith_of (P := PySem.W.FnAt f) (by show ((false || (backTo pos (starEach es X.env)).any (·.1)) || false) = false; rw [hpl]; rfl) PySem.W.keeps_F (PySem.Calls.evalArgs_plain (?_ : wpAny _ _ (spliced (backTo pos ((false, eval e X.env) :: starEach es X.env))) _ _ _))
  rw [← he]
  exact thn (ha.run pos pins s1 σ H _ I1 h) fun us s2 ⟨vs, H2, I2, r, o, sp, hf, ho, hF, q⟩ => ⟨ho _ _ _ _ I2.hok hf, run_fnE hF hr (hx σ) I2 r q⟩
/-! ### f( *values), f a name that holds a function: one of a def, or one of the module -/
def FnIs (K : PySem.W.Frag) (H : Hp) (f : Addr) : Prop := (∃ o, H f = some o ∧ FnHO f o) ∨ ∃ (oc : Value) (od : Option Addr) (fd : FuncData) (sl : Array (Option Value)), K.lookup f = some ⟨oc, od, .func fd, sl⟩
theorem FnIs.at_ {K : PySem.W.Frag} {P : Program} {w : World} {H : Hp} {h : Heap} {f : Addr} (g : FnIs K H f) (hok : HOk P w H h) (k : K.In h) : PySem.W.FnAt f h := by
  rcases g with ⟨o, e, z⟩ | ⟨oc, od, fd, sl, e⟩
  · exact z _ _ _ _ hok e
  · exact ⟨_, _, _, _, k _ _ e⟩
def tActG (P : Program) (w : World) (K : PySem.W.Frag) (mg : Str → Option Value) (base : Heap) (CX : CXT) (k i : Nat) (E : L2.St → XK) (te : TE) : TE := fun σ H Q => ∃ f, σ[i]? = some (some (.ref f)) ∧ te σ H fun y H1 => ∃ a xs sp, y = V.ref a ∧ (SqT K H1 a xs ∨ SqL K H1 a xs) ∧ FnIs K H1 f ∧
  FnR P w K mg base CX k f sp ∧ sp xs H1 Q (E σ)
theorem pe_actG {X : Cx} {CX : CXT} {k i : Nat} {E : L2.St → XK} {x : Str} {e : Expr} {te : TE} {p sp_ pos : Pos} (hN : X.N[i]? = some x) (hv : Vis X.env.scope x) (hr : Room k X.A) (hx : ∀ σ, PassesAt CX X σ (E σ)) (he : PE X e te) (hd : (x == ("__debug__" : Str)) = false := by decide) (hcd : (x == ("__classdict__" : Str)) = false := by decide)
    (hst : starEach [.Starred e sp_] X.env = [(true, eval e X.env)] := by rfl) : PE X (.Call (.Name x p) [.Starred e sp_] [] pos) (tActG X.prog X.w X.K X.mg X.base CX k i E te) := by
  refine ⟨fun pins s σ H Q I h => ?_⟩
  obtain ⟨f, hs, h⟩ := h
  refine wpAny_Call_Name_kw (thn ((pe_var (pos := p) hN hv hd hcd).run pins s σ H (fun v H1 => v = .ref f ∧ H1 = H) I ⟨.ref f, hs, rfl, rfl⟩) fun u s1 ⟨v, H1, I1, r1, ev, eH⟩ => ?_)
  subst ev
  rw [eH] at I1
  obtain rfl : u = Value.ref f := r1
  rw [show backTo pos (starEach [.Starred e sp_] X.env) = [(true, (do let v ← eval e X.env; standAt pos; pure v))] by rw [hst]; rfl]
  refine PySem.W.ks_call (P := PySem.W.FnAt f) rfl PySem.W.keeps_F (PySem.W.ks_lone ?_)
  refine thn (he.run pins s1 σ H _ I1 h) fun v s2 ⟨y, H2, I2, ry, a, xs, sp, ey, hxs, hf, hF, q⟩ => ?_
  subst ey
  obtain rfl : v = Value.ref a := ry
  exact StX.star_any I2 hxs fun us s3 I3 rv => ⟨hf.at_ I3.hok I3.kIn, run_fnE hF hr (hx σ) I3 rv q⟩
end Inf

set_option Elab.async false
set_option linter.all false
set_option maxRecDepth 100000
set_option maxHeartbeats 4000000
namespace Inf
open PySem PySem.Spec PyProof.Rows L2 NdefX LamX
/-! ### min(xs, default=d) -/
/-- what the walk has kept behind j items -/
def OldAt (P : Nat → Value → Prop) (bt : Nat → Nat → Bool) : Nat → Array Value → Prop
  | 0, old => old = #[]
  | j + 1, old => ∃ v, old = #[v, v] ∧ P (argBest bt j) v
/-- what it ends with -/
def EndAt (P : Nat → Value → Prop) (bt : Nat → Nat → Bool) (n : Nat) (d v : Value) : Prop := (n = 0 ∧ v = d) ∨ (0 < n ∧ P (argBest bt (n - 1)) v)
def kwD (d : Value) : List (Str × Value) := [(Str.ofString "default", d)]
theorem nameD : (toString "min" ++ toString ".loop" : String) = "min.loop" := by decide
theorem minD_loop {prog : Program} {w : World} {A : Around} {R : Result → Shared → Prop} {I : Addr} {fp wr : List Addr} {n : Nat} {P : Nat → Value → Prop} {St : Nat → Heap → Prop} (W : Walks prog w A.in1 I fp wr n P St) {bt : Nat → Nat → Bool} (hc : CmpOf prog w A.in1 .Lt P bt) {S : Addr} (hSf : S ∉ fp) (d : Value) :
    ∀ (k j : Nat) (s : Shared) (old : Array Value) (c : Nat), n = j + k → St j s.heap → OldAt P bt j old → s.heap.get? S = some { cls := .type "list", dict := none, data := .seq old c, slots := #[] } →
      (∀ v h' tk, EndAt P bt n d v → (∀ b o, b ∉ wr → b ≠ S → s.heap.get? b = some o → h'.get? b = some o) → R (.ok (.ret v)) { s with heap := h', toks := tk }) → codeAny (model prog w) A (.builtin "min.loop" ⟨[.ref I, .none, .ref S], kwD d⟩) R s := by
  have hSw : S ∉ wr := fun h => hSf (W.sub _ h)
  intro k
  induction k with
  | zero =>
    intro j s old c hk hst ho hS hR
    obtain rfl : n = j := hk
    refine codeAny_builtin F.entry_min_loop (?_ : wpAny _ _ _ _ _ _)
    rw [Around.under_plainId F.plain_min_loop _]
    refine wpAny_bind (wpAny_seqItems hS rfl (?_ : wpAny _ _ (tryCatch (pyNext (.ref I)) _ >>= _) _ _ _))
    refine wpAny_bind (wpAny_tryCatch (W.done s _ _ hst fun h' tk hk' => ?_))
    cases n with
    | zero =>
      obtain rfl : old = #[] := ho
      refine wpAny_bind (wpAny_rule (wpAny_pure (hR d h' tk (.inl ⟨rfl, rfl⟩) fun b o hb _ e => hk' b o hb e)))
    | succ j =>
      obtain ⟨v, rfl, hv⟩ := ho
      have hS' := hk' S _ hSw hS
      refine wpAny_bind (?_ : wpAny _ _ (updateSeq S fun _ => #[]) _ _ _)
      refine wpAny_updateSeq hS' rfl (wpAny_bind (wpAny_letGo (wpAny_pure (hR v _ tk (.inr ⟨Nat.succ_pos j, hv⟩) fun b o hb n e => ?_))))
      exact (Heap.get?_update_other _ _ (Ne.symm n)).trans (hk' b o hb e)
  | succ k ih =>
    intro j s old c hk hst ho hS hR
    refine codeAny_builtin F.entry_min_loop (?_ : wpAny _ _ _ _ _ _)
    rw [Around.under_plainId F.plain_min_loop _]
    refine wpAny_bind (wpAny_seqItems hS rfl (?_ : wpAny _ _ (tryCatch (pyNext (.ref I)) _ >>= _) _ _ _))
    refine wpAny_bind (wpAny_tryCatch (W.item j s _ _ (by omega) hst fun v h' tk hP hst' hk' => ?_))
    have hS' := hk' S _ hSw hS
    have off : ∀ (g : Array Value → Array Value) (b : Addr) (o : Obj), b ≠ S → h'.get? b = some o → (h'.update S (Obj.mapSeq g)).get? b = some o := fun g b o n e => (Heap.get?_update_other _ _ (Ne.symm n)).trans e
    cases j with
    | zero =>
      obtain rfl : old = #[] := ho
      refine wpAny_bind (wpAny_pure ?_)
      refine wpAny_bind (?_ : wpAny _ _ (updateSeq S fun _ => #[v, v]) _ _ _)
      refine wpAny_updateSeq hS' rfl ?_
      rw [nameD]
      refine wpAny_pure ⟨plainId_quiet F.plain_min_loop _, ih 1 _ #[v, v] _ (by omega) (W.frame _ _ _ hst' fun b hb o e => off _ b o (fun z => hSf (by rw [← z]; exact hb)) e) ⟨v, rfl, hP⟩ (Heap.get?_update_self _ hS' rfl) fun v' h'' tk'' he hk'' => ?_⟩
      exact hR v' h'' tk'' he fun b o hb n e => hk'' b o hb n (off _ b o n (hk' b o hb e))
    | succ j =>
      obtain ⟨vb, rfl, hPb⟩ := ho
      refine wpAny_bind (wpAny_pure ?_)
      refine wpAny_bind (wpAny_tryCatch (wpAny_holding (wpAny_bind (hc (j + 1) (argBest bt j) v vb _ _ _ hP hPb ?_))))
      refine wpAny_bind (wpAny_holding (wpAny_truthy_bool (wpAny_bind (wpAny_letGo (wpAny_pure ?_)))))
      cases hb : bt (j + 1) (argBest bt j) with
      | true =>
        rw [if_pos rfl]
        refine wpAny_bind (?_ : wpAny _ _ (updateSeq S fun _ => #[v, v]) _ _ _)
        refine wpAny_updateSeq hS' rfl (wpAny_bind (wpAny_letGo ?_))
        rw [nameD]
        refine wpAny_pure ⟨plainId_quiet F.plain_min_loop _, ih (j + 2) _ #[v, v] _ (by omega) (W.frame _ _ _ hst' fun b hb o e => off _ b o (fun z => hSf (by rw [← z]; exact hb)) e) ⟨v, rfl, by rw [argBest, hb]; exact hP⟩ (Heap.get?_update_self _ hS' rfl) fun v' h'' tk'' he hk'' => ?_⟩
        exact hR v' h'' tk'' he fun b o hb n e => hk'' b o hb n (off _ b o n (hk' b o hb e))
      | false =>
        rw [if_neg Bool.false_ne_true]
        refine wpAny_bind (wpAny_letGo ?_)
        rw [nameD]
        refine wpAny_pure ⟨plainId_quiet F.plain_min_loop _, ih (j + 2) _ #[vb, vb] c (by omega) hst' ⟨vb, rfl, by rw [argBest, hb]; exact hPb⟩ hS' fun v' h'' tk'' he hk'' => ?_⟩
        exact hR v' h'' tk'' he fun b o hb n e => hk'' b o hb n (hk' b o hb e)
theorem args_minD (a d : Value) : argsOk "min" ⟨[a], kwD d⟩ := by unfold argsOk; kernel_rfl
theorem call_minD {prog : Program} {w : World} {A : Around} {E : Value → Shared → Prop} {s : Shared} {l : Addr} {d : Value} {xs : Array (Int × Tok)} {Q : Value → Shared → Prop} (hh : A.handled = none) (hl : s.heap.IsList l (intItems xs))
    (h : ∀ v h' tk, EndAt (fun i v => (intItems xs)[i]? = some v) (fun i j => decide (numAt xs i < numAt xs j)) xs.size d v → (∀ b o, s.heap.get? b = some o → h'.get? b = some o) → Q v { s with heap := h', toks := tk }) :
    wpAny (model prog w) A (call (.builtin "min") [.ref l] (kwD d)) Q E s := by
  refine PyProof.Rows.kmk_tree PySem.F.kind_min PySem.F.plain_min PySem.F.entry_min (args_minD _ _) ?_
  refine wpAny_bind (m := Builtin.Builtins.bindParams "min" ["key", "default"] 0 ⟨[], kwD d⟩) (wpAny_of_eq (show Builtin.Builtins.bindParams "min" ["key", "default"] 0 ⟨[], kwD d⟩ = pure [none, some d] from rfl) (wpAny_bind (wpAny_pure ?_)))
  refine wpAny_bind (iter_intList hl fun s₂ e st hfp hne => ?_)
  subst e
  refine wpAny_bind (wpAny_newObj_type ?_)
  rw [nameD]
  have hlt : l < s.heap.objs.size := by
    obtain ⟨_, e, _⟩ := hl
    exact Heap.lt_size e
  refine wpAny_pure ⟨plainId_quiet F.plain_min_loop _, minD_loop (Walks.list (A := A.in1) hh _ l hne (intItems xs)) (CmpOf.ints_lt (numAt xs) (fun _ _ => intItems_at)) (fun hm => Nat.lt_irrefl _ (hfp _ hm)) d (intItems xs).size 0 _ #[] _ (Nat.zero_add _).symm ?_ rfl (Heap.get?_push_size _ rfl) fun v h' tk he hk => ?_⟩
  · exact (Walks.list (prog := prog) (w := w) (A := A.in1) hh _ l hne (intItems xs)).frame _ _ _ st fun b _ o e => Heap.get?_push_of_some _ e
  · refine h v h' tk (by simpa [intItems] using he) fun b o e => ?_
    have lb := Heap.lt_size e
    have sz : (s.heap.push { cls := .type "list_iterator", data := .fields #[.ref l, .int 0 0] }).objs.size = s.heap.objs.size + 1 := Heap.size_push ..
    refine hk b o (fun m => ?_) (fun z => ?_) (Heap.get?_push_of_some _ (Heap.get?_push_of_some _ e))
    · rw [List.mem_singleton.mp m] at lb
      exact Nat.lt_irrefl _ lb
    · have z : b = (s.heap.push { cls := .type "list_iterator", data := .fields #[.ref l, .int 0 0] }).objs.size := z
      rw [z, sz] at lb
      exact absurd lb (Nat.not_lt.mpr (Nat.le_succ _))
/-- min(xs, default=d) of a list of ints, any number of them -/
def rMinD (K : PySem.W.Frag) : List V → List V → Hp → VK → Prop := fun vs zs H Q => ∃ (a : Addr) (ns : List Int) (d : V), vs = [V.ref a] ∧ zs = [d] ∧ SqL K H a (ns.map V.int) ∧ (ns = [] → Q d H) ∧ ∀ m ∈ ns, (∀ y ∈ ns, m ≤ y) → Q (.int m) H
theorem cr_minD {X : Cx} (hc : X.calm = true) : CallRK X (.builtin "min") [Str.ofString "default"] (rMinD X.K) := by
  intro pins s σ H vs zs us ws Q I r rz h
  obtain ⟨a, ns, d, rfl, rfl, hs, q0, q1⟩ := h
  obtain rfl := Vals.ref1 r
  obtain ⟨wd, rfl, ed⟩ := vals1 rz
  obtain ⟨its, rv, hl, hz⟩ := I.list hs
  have hi := rv.ints
  obtain ⟨xs, e⟩ := hi.allInts.items
  have hn : numsOf (intItems xs).toList = ns := by rw [← e]; exact hi.numsOf
  rw [nums_intItems] at hn
  subst hn
  have hl2 := hl.isList
  rw [e] at hl2
  refine call_minD (d := wd) (I.ok.hd hc) hl2 fun v h' tk he hk => ?_
  have lx : (xs.toList.map (·.1)).length = xs.size := by rw [List.length_map, Array.length_toList]
  rcases he with ⟨h0, rfl⟩ | ⟨h0, he⟩
  · exact ⟨d, H, I.kept hk, ed, q0 (List.length_eq_zero_iff.mp (lx.trans h0))⟩
  · obtain ⟨t, rfl⟩ := intItems_at he
    obtain ⟨h1, h2⟩ := argBest_lt (numAt xs) (xs.size - 1)
    refine ⟨.int _, H, I.kept hk, ⟨t, rfl⟩, q1 _ ?_ fun y my => ?_⟩
    · rw [numAt_eq]
      exact PySem.getD_mem (by rw [lx]; omega)
    · obtain ⟨j, hj, rfl⟩ := mem_getD my
      rw [lx] at hj
      rw [← numAt_eq]
      exact h2 j (by omega)
end Inf

set_option Elab.async false
set_option linter.all false
set_option maxRecDepth 100000
set_option maxHeartbeats 4000000
namespace Inf
open PySem PySem.Spec PyProof.Rows
/-! ### {**d, k: v} -/
section
variable {prog : Program} {w : World} {K : Type} [DecidableEq K] {knd : KeyKind prog w K} {A : Around} {E : Value → Shared → Prop} {s : Shared}
theorem idx_list {es : Array DictEntry} {p : DictEntry → Bool} : es.findIdx? p = es.toList.findIdx? p := by
  obtain ⟨l⟩ := es
  simp
/-- what a stored pair makes of a dict, on either way -/
theorem put_hit {h : Heap} {d : Addr} {o : Obj} {es : Array DictEntry} {ep i : Nat} {kvs : List (K × Value)} {k : K} {v : Value} (ho : h.get? d = some o) (hc : o.ExactDict) (hd : o.data = .dict es ep) (hk : KeysOf knd es) (hp : Pairs knd es.toList kvs) (hn : (kvs.map (·.1)).Nodup) (hi : es.findIdx? (fun e => knd.is k e.key) = some i) :
    (h.update d (Obj.mapDict fun es => es.modify i fun e => { e with val := v })).DictOf knd d (stored kvs k v) := by
  have hl : es.toList.findIdx? (fun e => knd.is k e.key) = some i := idx_list.symm.trans hi
  have hx : kvs.findIdx? (fun kv => decide (kv.1 = k)) = some i := (hp.findIdx k).symm.trans hl
  have e : stored kvs k v = kvs.map fun kv => if kv.1 = k then (kv.1, v) else kv := by
    unfold stored
    exact if_pos (any_of_findIdx_some hx)
  have h1 := hp.modify hn hl v
  refine ⟨_, _, ep, Heap.get?_update_self _ ho (Obj.isFreed_of_dict (Obj.data_mapDict hd _)), hc.mapDict _, Obj.data_mapDict hd _, hk.modify _ _, ?_, ?_⟩
  · rw [e]
    obtain ⟨l⟩ := es
    simpa using h1
  · rw [e, keys_map_store]
    exact hn
theorem put_new {h : Heap} {d : Addr} {o : Obj} {es : Array DictEntry} {ep : Nat} {kvs : List (K × Value)} {k : K} {key v : Value} (hkey : knd.is k key = true) (ho : h.get? d = some o) (hc : o.ExactDict) (hd : o.data = .dict es ep) (hk : KeysOf knd es) (hp : Pairs knd es.toList kvs) (hn : (kvs.map (·.1)).Nodup) (hi : es.findIdx? (fun e => knd.is k e.key) = none) :
    (h.update d (Obj.mapDictKeys (·.push ⟨knd.hash k, key, v⟩))).DictOf knd d (stored kvs k v) := by
  have hx : kvs.findIdx? (fun kv => decide (kv.1 = k)) = none := (hp.findIdx k).symm.trans (idx_list.symm.trans hi)
  have hm : k ∉ kvs.map (·.1) := not_mem_of_findIdx_none hx
  have e : stored kvs k v = kvs ++ [(k, v)] := by
    unfold stored
    refine if_neg fun z => ?_
    obtain ⟨kv, m, q⟩ := List.any_eq_true.mp z
    exact hm (List.mem_map.mpr ⟨kv, m, of_decide_eq_true q⟩)
  have h1 := hp.append hkey (knd.hash k) v
  refine ⟨_, _, ep + 1, Heap.get?_update_self _ ho (Obj.isFreed_of_dict (Obj.data_mapDictKeys hd _)), hc.mapDictKeys _, Obj.data_mapDictKeys hd _, hk.push hkey _, ?_, ?_⟩
  · rw [e]
    obtain ⟨l⟩ := es
    simpa using h1
  · rw [e, List.map_append]
    refine List.nodup_append.mpr ⟨hn, List.nodup_cons.mpr ⟨(fun z => nomatch z), List.nodup_nil⟩, fun a ha b hb z => ?_⟩
    rw [z, List.mem_singleton.mp hb] at ha
    exact hm ha
theorem put_ok {d : Addr} {kvs : List (K × Value)} {k : K} {key v : Value} {Q : Unit → Shared → Prop} (hkey : knd.is k key = true) (hm : s.heap.DictOf knd d kvs) (hsz : kvs.length ≤ sizeLine)
    (hQ : ∀ h', h'.DictOf knd d (stored kvs k v) → Heap.SameBut d s.heap h' → Q () { s with heap := h' }) : wpAny (model prog w) A (dictPut d (knd.hash k) key v) Q E s := by
  obtain ⟨o, es, ep, ho, hc, hd, hk, hp, hn⟩ := hm
  have hes : es.size ≤ sizeLine := by
    have := hp.length
    rw [Array.length_toList] at this
    omega
  unfold dictPut
  refine wpAny_bind (wpAny_dictFind_of hkey ho hd hk ?_)
  cases hi : es.findIdx? fun e => knd.is k e.key with
  | some i => exact wpAny_updateDict ho hd (hQ _ (put_hit ho hc hd hk hp hn hi) (Heap.SameBut.update ..))
  | none => exact wpAny_updateDictKeys (hz := hes) ho hd (hQ _ (put_new hkey ho hc hd hk hp hn hi) (Heap.SameBut.update ..))
theorem ite_same {M : Model} {c : Prop} [Decidable c] {a b : Sem Unit} {Q : Unit → Shared → Prop} (hb : wpAny M A b Q E s) (ha : wpAny M A b Q E s → wpAny M A a Q E s) : wpAny M A (if c then a else b) Q E s := by
  by_cases z : c
  · rw [if_pos z]
    exact ha hb
  · rw [if_neg z]
    exact hb
theorem merge_ok {d o : Addr} {kvs more : List (K × Value)} {Q : Unit → Shared → Prop} (hdo : d ≠ o) (hoS : (o == sysModules) = false) (hd : s.heap.DictOf knd d kvs) (ho : s.heap.DictOf knd o more) (hsz : kvs.length + more.length ≤ sizeLine)
    (hQ : ∀ h', h'.DictOf knd d (merged kvs more) → Heap.SameBut d s.heap h' → Q () { s with heap := h' }) : wpAny (model prog w) A (mergeMapping d (.ref o) false) Q E s := by
  obtain ⟨od, esd, epd, hod, hcd, hdd, hkd, hpd, hnd⟩ := id hd
  obtain ⟨oo, eso, epo, hoo, hco, hdo', hko, hpo, hno⟩ := id ho
  have hlen : more.length = eso.size := by
    rw [← hpo.length, Array.length_toList]
  unfold mergeMapping
  refine wpAny_bind (wpAny_isInstance ho.typeIs isSubtype_dict_dict ?_)
  dsimp only
  rw [if_pos rfl]
  refine wpAny_bind (wpAny_specialOf ho.typeIs F.slot_dict_iter.lookup ?_)
  refine wpAny_bind (wpAny_pure ?_)
  rw [show (some (Value.builtin "dict.__iter__") == some (Value.builtin "dict.__iter__")) = true from beq_self_eq_true _]
  dsimp only
  rw [if_neg (by rw [hoS]; exact Bool.false_ne_true)]
  refine wpAny_bind (wpAny_dictEntries hod hdd ?_)
  refine ite_same ?_ fun loop => ?_
  · refine wpAny_bind (wpAny_dictEntries hoo hdo' (wpAny_bind (wpAny_dictEpoch hoo hdo' (wpAny_bind ?_))))
    refine wpAny_forIn_list _ (fun rest _ s' => ∃ h' i, s' = { s with heap := h' } ∧ rest = (List.range eso.size).drop i ∧ i ≤ eso.size ∧ h'.DictOf knd d (merged kvs (more.take i)) ∧ h'.get? o = some oo ∧ Heap.SameBut d s.heap h')
      _ ?_ ?_ _ _ ⟨s.heap, 0, rfl, rfl, Nat.zero_le _, hd, hoo, Heap.SameBut.refl _ _⟩
    · rintro x rest b s' ⟨h', i, rfl, hr, hi, hd', hoo', hs'⟩
      have hlt : i < eso.size := by
        refine Nat.lt_of_not_le fun z => ?_
        rw [List.drop_eq_nil_of_le (by rw [List.length_range]; exact z)] at hr
        cases hr
      rw [List.drop_eq_getElem_cons (by rw [List.length_range]; exact hlt)] at hr
      obtain ⟨hx, hrest⟩ := List.cons.inj hr
      rw [List.getElem_range] at hx
      subst hx
      have hml : x < more.length := by omega
      obtain ⟨hkey, hval⟩ := hpo.get? (e := eso[x]) (k := more[x].1) (v := more[x].2) (by rw [Array.getElem?_toList, Array.getElem?_eq_getElem hlt]) (List.getElem?_eq_getElem hml)
      obtain ⟨k', hkey', hhash⟩ := hko eso[x] (Array.getElem_mem hlt)
      have ek : k' = more[x].1 := knd.inj _ _ _ hkey' hkey
      refine wpAny_bind (wpAny_dictEntries hoo' hdo' ?_)
      rw [Array.getElem?_eq_getElem hlt]
      dsimp only
      rw [if_neg Bool.false_ne_true, hhash, ek]
      have hz : (merged kvs (more.take x)).length ≤ sizeLine := by
        have h1 := merged_length_le kvs (more.take x)
        rw [List.length_take] at h1
        omega
      refine wpAny_bind (wpAny_holding (put_ok hkey hd' hz fun h'' hd'' hs'' => ?_))
      have hoo'' : h''.get? o = some oo := (hs''.2 o (Ne.symm hdo)).trans hoo'
      refine wpAny_bind (wpAny_dictEpoch hoo'' hdo' ?_)
      rw [if_neg (by simp)]
      refine wpAny_pure ⟨h'', x + 1, rfl, hrest, hlt, ?_, hoo'', hs'.trans hs''⟩
      rw [merged_take_succ kvs more x more[x] (List.getElem?_eq_getElem hml), ← hval]
      exact hd''
    · rintro b s' ⟨h', i, rfl, hr, hi, hd', hoo', hs'⟩
      have hin : i = eso.size := by
        refine Nat.le_antisymm hi (Nat.le_of_not_lt fun z => ?_)
        rw [List.drop_eq_getElem_cons (by rw [List.length_range]; exact z)] at hr
        cases hr
      rw [hin, ← hlen, List.take_length] at hd'
      exact wpAny_pure (hQ h' hd' hs')
  · refine wpAny_bind (wpAny_dictEntries hoo hdo' (wpAny_bind (wpAny_of_eq (a := PUnit.unit) ?_ loop)))
    rw [← Array.forIn_toList]
    refine forIn_yield_id _ fun e he c => ?_
    obtain ⟨k, hkey, _⟩ := hko e (Array.mem_toList_iff.mp he)
    have := knd.byValue k _ hkey
    cases hek : e.key with
    | ref a =>
      rw [hek] at this
      cases this
    | _ => rfl
/-- {**m, k: v} -/
theorem star_ok {m tk tv : Sem Value} {Q : Value → Shared → Prop}
    (h : wpAny (model prog w) A m (fun mv s1 => ∃ o more, mv = .ref o ∧ s.heap.objs.size ≠ o ∧ (o == sysModules) = false ∧ more.length < sizeLine ∧ s1.heap.DictOf knd s.heap.objs.size [] ∧ s1.heap.DictOf knd o more ∧
      ∀ h', h'.DictOf knd s.heap.objs.size more → Heap.SameBut s.heap.objs.size s1.heap h' →
        wpAny (model prog w) A (subDict [(tk, tv)]) (fun b s2 => ∃ more2 k v, s.heap.objs.size ≠ b ∧ (b == sysModules) = false ∧ more2.length < sizeLine ∧ s2.heap.DictOf knd s.heap.objs.size more2 ∧ s2.heap.DictOf knd b [(k, v)] ∧
          ∀ h'', h''.DictOf knd s.heap.objs.size (stored more2 k v) → Heap.SameBut s.heap.objs.size s2.heap h'' → Q (.ref s.heap.objs.size) { s2 with heap := h'' }) E { s1 with heap := h' }) E
      { s with heap := s.heap.push { cls := .type "dict", data := .dict #[] } }) :
    wpAny (model prog w) A (dictDisplay [(none, m), (some tk, tv)]) Q E s := by
  unfold dictDisplay
  dsimp only
  refine wpAny_bind ?_
  rw [List.forIn_cons]
  dsimp only
  refine wpAny_bind (wpAny_bind ?_)
  rw [if_pos (show ([] : List (Sem Value × Sem Value)).isEmpty = true from rfl)]
  refine wpAny_pure ?_
  dsimp only
  refine wpAny_bind (wpAny_alloc ?_)
  refine wpAny_bind (wpAny_holding (wpAny_mono h (fun mv s1 h1 => ?_) fun _ _ e => e))
  obtain ⟨o, more, rfl, hdo, hoS, hz, hd, ho, q⟩ := h1
  have hn : (more.map (·.1)).Nodup := let ⟨_, _, _, _, _, _, _, _, hn⟩ := ho; hn
  refine wpAny_bind (wpAny_onRaise (wpAny_tryCatch (wpAny_onRaise (wpAny_holding (merge_ok hdo hoS hd ho (by rw [List.length_nil]; omega) fun h' hd' hs' => ?_)))))
  rw [merged_nil_of_nodup more hn] at hd'
  refine wpAny_pure ?_
  dsimp only
  rw [List.forIn_cons]
  dsimp only
  rw [if_neg (by simp)]
  refine wpAny_bind (wpAny_pure ?_)
  dsimp only
  rw [List.forIn_nil]
  refine wpAny_pure ?_
  dsimp only
  refine wpAny_bind ?_
  rw [if_neg (by simp)]
  refine wpAny_bind (wpAny_holding (wpAny_mono (q h' hd' hs') (fun b s2 h2 => ?_) fun _ _ e => e))
  obtain ⟨more2, k, v, hdb, hbS, hz2, hd2, hb2, q2⟩ := h2
  refine wpAny_bind (wpAny_onRaise (wpAny_holding (merge_ok hdb hbS hd2 hb2 (by rw [List.length_singleton]; omega) fun h'' hd'' hs'' => ?_)))
  refine wpAny_pure ?_
  dsimp only
  exact wpAny_pure (q2 h'' hd'' hs'')
end
section
open L2
variable {X : Cx} {pos : Pos}
/-- {**e, k: v}: a new dict, and one more for the pair -/
def tStar (te tk tv : TE) : TE := fun σ H Q => ∀ p, H p = none → te σ (upd H p (.dK [])) fun x H1 => ∃ (a : Addr) (kvs : List (Key × V)), x = .ref a ∧ a ≠ p ∧ H1 p = some (.dK []) ∧ Rd H1 a (.dK kvs) ∧ kvs.length < sizeLine ∧
  ∀ b, upd H1 p (.dK kvs) b = none → tk σ (upd (upd H1 p (.dK kvs)) b (.dK [])) fun y H2 => tv σ H2 fun z H3 => ∃ k z', [(y, z)] = [(kV k, z')] ∧ p ≠ b ∧ H3 p = some (.dK kvs) ∧ H3 b = some (.dK []) ∧ Q (.ref p) (upd (upd H3 b (.dK [(k, z')])) p (.dK (putK kvs k z')))
theorem pe_dstar {e k v : Expr} {te tk tv : TE} (he : PE X e te) (hk : PE X k tk) (hv : PE X v tv) : PE X (.Dict [none, some k] [e, v] pos) (tStar te tk tv) := by
  refine ⟨fun pins s σ H Q I q => ?_⟩
  rw [arm_eval_Dict]
  show wpAny _ _ (do standAt pos; dictDisplay [(none, do let x ← eval e X.env; standAt pos; pure x), (some (eval k X.env), do let x ← eval v X.env; standAt pos; pure x)]) _ _ _
  refine wpAny_bind (wpAny_standAt (star_ok (knd := mixKind X.prog X.w) ?_))
  have hn := I.hok.fresh (Nat.le_refl s.heap.objs.size)
  have I1 := I.laid (a := s.heap.objs.size) (o := .dK []) (h' := s.heap.push { cls := .type "dict", data := .dict #[] }) (t' := s.toks) (fun _ _ q => Heap.get?_push_of_some _ q) (Nat.le_refl _) (dk_empty s.heap I.big)
  refine wpAny_bind (thn (he.run pins _ σ _ _ I1 (q _ hn)) fun u s1 ⟨x, H1, I2, rx, a, kvs, ex, na, hp, hr, hz, q2⟩ => ?_)
  subst ex
  obtain rfl : u = .ref a := rx
  obtain ⟨z, lo, vs, rel, dd⟩ := dk_rd I2.hok hr
  obtain ⟨z0, lo0, vs0, r0, dd0⟩ := dk_of I2.hok hp
  cases r0
  have hl : vs.length < sizeLine := by rw [← rel.length]; exact hz
  refine wpAny_bind (wpAny_standAt (wpAny_pure ⟨a, vs, rfl, Ne.symm na, lo, hl, dd0, dd, fun h' d' hs => ?_⟩))
  have he0 : ∃ q, h'.get? s.heap.objs.size = some q := let ⟨q, _, _, hq, _⟩ := d'; ⟨q, hq⟩
  have I3 := d_write (t' := s1.toks) I2 (by rw [hp]; exact True.intro) hs he0 (dk_new z lo0 rel d')
  have I4 := I3.laid (a := h'.objs.size) (o := .dK []) (h' := h'.push { cls := .type "dict", data := .dict #[] }) (t' := s1.toks) (fun _ _ q => Heap.get?_push_of_some _ q) (Nat.le_refl _) (dk_empty h' I3.big)
  refine wpAny_subDict (knd := mixKind X.prog X.w) (Nat.le_of_ble_eq_true rfl) ?_
  refine thn ((pps_cons hk hv pps_nil).run pins _ σ _ (fun ps H3 => ∃ k z', ps = [(kV k, z')] ∧ s.heap.objs.size ≠ h'.objs.size ∧ H3 s.heap.objs.size = some (.dK kvs) ∧ H3 h'.objs.size = some (.dK []) ∧ Q (.ref s.heap.objs.size) (upd (upd H3 h'.objs.size (.dK [(k, z')])) s.heap.objs.size (.dK (putK kvs k z')))) I4 (q2 _ (I3.hok.fresh (Nat.le_refl _)))) fun ws s2 ⟨ps, H3, I5, rel2, k, z', eps, npb, hp3, hb3, q3⟩ => ?_
  subst eps
  obtain ⟨rs, c, rk⟩ := carries_of (P := X.prog) (w := X.w) (kvs := [(k, z')]) rel2
  obtain ⟨zb, hdb, vsb, rb, ddb⟩ := dk_of I5.hok hb3
  cases rb
  refine ⟨rs, c, ddb, fun h2 d2 hs2 => ?_⟩
  obtain ⟨zp, hdp, vsp, rp, ddp⟩ := dk_of I5.hok hp3
  cases rk with
  | @cons p1 q1 ps1 qs1 hpq t1 =>
    cases t1
    obtain ⟨kq, wq⟩ := q1
    obtain ⟨ek, rw'⟩ := hpq
    have ek : k = kq := ek
    subst ek
    have ddp2 : h2.DictOf (mixKind X.prog X.w) s.heap.objs.size vsp := ddp.sameBut hs2 npb
    have he2 : ∃ q, h2.get? h'.objs.size = some q := let ⟨q, _, _, hq, _⟩ := d2; ⟨q, hq⟩
    have I6 := d_write (t' := s2.toks + ws.length) I5 (by rw [hb3]; exact True.intro) hs2 he2 (dk_new (kvs := [(k, z')]) (vs := [(k, wq)]) (by rw [sizeLine_eq, List.length_singleton]; omega) hdb (.cons ⟨rfl, rw'⟩ .nil) d2)
    have hp6 : upd H3 h'.objs.size (.dK [(k, z')]) s.heap.objs.size = some (.dK kvs) := by
      rw [upd_ne npb]
      exact hp3
    refine ⟨vsp, k, wq, npb, hdb, by rw [← rp.length]; exact hz, ddp2, d2, fun h3 d3 hs3 => ⟨.ref s.heap.objs.size, _, ?_, rfl, q3⟩⟩
    have he3 : ∃ q, h3.get? s.heap.objs.size = some q := let ⟨q, _, _, hq, _⟩ := d3; ⟨q, hq⟩
    have hz3 : (putK kvs k z').length ≤ sizeLine := Nat.le_trans (length_putK _ _ _) hz
    exact d_write (t' := s2.toks + ws.length) I6 (by rw [hp6]; exact True.intro) hs3 he3 (dk_new hz3 hdp (rp.put k rw') d3)
end
end Inf

set_option Elab.async false
set_option linter.all false
set_option maxRecDepth 100000
set_option maxHeartbeats 4000000
namespace Inf
open PySem PySem.Spec PyProof.Rows L2
/-! ### next(iter(d), None) -/
section
variable {prog : Program} {w : World} {K : Type} [DecidableEq K] {knd : PySem.KeyKind prog w K} {A : Around} {E : Value → Shared → Prop} {s : Shared} {d it : Addr} {kvs : List (K × Value)} {ep : Nat} {v : Value}
theorem itr_ok {Q : Value → Shared → Prop} (lo : (d == sysModules) = false) (hm : s.heap.DictAt knd d kvs ep)
    (h : ∀ o, (s.heap.push o).IsKeyIter s.heap.objs.size d 0 kvs.length ep → Q (.ref s.heap.objs.size) { s with heap := s.heap.push o }) : wpAny (model prog w) A (call (.builtin "iter") [.ref d]) Q E s := by
  refine Calls.call_function_entry (by decide +kernel) (by decide +kernel) PySem.W.kdk_entry_iter (PySem.W.kdk_args_iter _) ?_
  unfold Builtin.«iter»
  refine wpAny_bind (m := someArgs "iter" 1 2 _) (wpAny_of_eq (a := [Value.ref d]) (by first | rfl | kernel_rfl!) ?_)
  show wpAny _ _ (pyIter (.ref d) >>= _) _ _ _
  refine wpAny_bind (wpAny_pyIter_dict lo hm ?_)
  exact wpAny_pure ⟨_, rfl, h _ ⟨_, Heap.get?_push_size _ rfl, rfl, rfl⟩⟩
theorem nxt_ok {Q : Value → Shared → Prop} (hh : A.handled = none) (hit : s.heap.IsKeyIter it d 0 kvs.length ep) (hm : s.heap.DictAt knd d kvs ep)
    (h : ∀ u h', (match kvs with | [] => u = v | kv :: _ => knd.is kv.1 u = true) → Heap.ExtBut it s.heap h' → Q u { s with heap := h' }) : wpAny (model prog w) A (call (.builtin "next") [.ref it, v]) Q E s := by
  refine Calls.call_function_entry (by decide +kernel) (by decide +kernel) PySem.W.kdk_entry_next (PySem.W.kdk_args_next2 _ _) ?_
  unfold Builtin.«next»
  refine wpAny_bind (m := someArgs "next" 1 2 _) (wpAny_of_eq (a := [Value.ref it, v]) (by first | rfl | kernel_rfl!) ?_)
  dsimp only
  refine wpAny_bind (wpAny_specialOf (name := Str.ofString "__next__") hit.typeIs PySem.F.slot_dict_keyiterator_next.lookup ?_)
  refine wpAny_ite_split (fun hab => absurd hab (by decide)) (fun _ => ?_)
  match kvs, hit, hm, h with
  | [], hit, hm, h => exact wpAny_bind (wpAny_pyNext_dict_end (A := A.in1) hh hit hm rfl fun h' k => wpAny_pure ⟨_, rfl, h _ _ rfl k⟩)
  | kv :: r, hit, hm, h => exact wpAny_bind (wpAny_pyNext_dict_item (k := kv.1) (v := kv.2) hit hm rfl fun key h' hk _ sb => wpAny_pure ⟨_, rfl, h _ _ hk sb.extBut⟩)
end
section
variable {X : Cx} {e : Expr} {te : TE}
def fstV (kvs : List (Key × V)) : V := match kvs with
  | [] => .non
  | kv :: _ => kV kv.1
/-- the first key of a dict, None without one -/
def tFirst (te : TE) : TE := fun σ H Q => te σ H fun x H1 => ∃ (a : Addr) (kvs : List (Key × V)), x = .ref a ∧ Rd H1 a (.dK kvs) ∧ Q (fstV kvs) H1
theorem key_rel {k : Key} {u : Value} (h : keyIs k u = true) : RelV (kV k) u := by
  rcases keyIs_shape h with ⟨i, t, ek, ev⟩ | ⟨z, t, ek, ev⟩
  · subst ek
    exact ⟨t, ev⟩
  · subst ek
    exact ⟨t, ev⟩
theorem pe_first {p p2 p3 pos pos2 : Pos} {j : Nat} (hc : X.calm = true) (hgi : Gl X "iter") (hmi : X.mg "iter" = none) (hgn : Gl X "next") (hmn : X.mg "next" = none) (he : PE X e te)
    (hs : starEach [e] X.env = (false, eval e X.env) :: starEach [] X.env := by rfl)
    (hs2 : ∀ a b : Expr, starEach [.Call a [e] [] pos2, b] X.env = (false, eval (.Call a [e] [] pos2) X.env) :: starEach [b] X.env := by intros; rfl) :
    PE X (.Call (.Name "next" p) [.Call (.Name "iter" p2) [e] [] pos2, .Constant .none j p3] [] pos) (tFirst te) := by
  refine ⟨fun pins s σ H Q I h => ?_⟩
  refine wpAny_Call_Name_kw (ld_blt (u := .builtin "next") I hgn hmn (by first | rfl | decide +kernel) ?_ (by decide) (by decide))
  refine PyProof.Rows.callWith_builtin1 ?_ (hs2 _ _) rfl
  rw [hs2]
  show wpAny _ _ (spliced ((false, eval (.Call (.Name "iter" p2) [e] [] pos2) X.env) :: [(false, eval (.Constant .none j p3) X.env)])) _ _ s
  refine Calls.spliced_cons ?_
  refine wpAny_Call_Name_kw (ld_blt (u := .builtin "iter") I hgi hmi (by first | rfl | decide +kernel) ?_ (by decide) (by decide))
  refine PyProof.Rows.callWith_builtin1 ?_ hs rfl
  rw [hs]
  show wpAny _ _ (spliced [(false, eval e X.env)]) _ _ s
  refine Calls.spliced_cons (thn (he.run pins s σ H _ I h) fun u s1 ⟨x, H1, I1, r1, a, kvs, ex, hr, q⟩ => Calls.spliced_nil ?_)
  subst ex
  obtain rfl : u = .ref a := r1
  obtain ⟨z, lo, vs, rel, dd⟩ := dk_rd I1.hok hr
  obtain ⟨ep, hat⟩ := dd.dictAt
  refine itr_ok lo hat fun o hit => ?_
  have hat2 : (s1.heap.push o).DictAt (mixKind X.prog X.w) a vs ep := let ⟨o', es, ho, r⟩ := hat; ⟨o', es, Heap.get?_push_of_some _ ho, r⟩
  refine Calls.spliced_cons (Constant_none (Calls.spliced_nil ?_))
  refine nxt_ok (I1.ok.hd hc) hit hat2 fun u h' hu k => ?_
  have I2 : L2.Inv X pins σ H1 { s1 with heap := h' } := I1.kept (t' := s1.toks) fun b w' e => k b w' (fun z => by
    rw [z] at e
    exact absurd (Heap.lt_size e) (Nat.lt_irrefl _)) (Heap.get?_push_of_some _ e)
  refine ⟨fstV kvs, H1, I2, ?_, q⟩
  cases rel with
  | nil => exact hu
  | @cons a1 b1 _ _ hh t =>
    show L2.RelV (kV a1.1) u
    rw [hh.1]
    exact key_rel hu
end
end Inf

set_option Elab.async false
set_option linter.all false
set_option maxRecDepth 100000
set_option maxHeartbeats 4000000
namespace Inf
open PySem PySem.Spec PyProof.Rows L2 NdefX LamX
/-! ### o.m(..) while the def's cells are told -/
def tMethT (X : Cx) (C : Addr) (m : Str) (sp : Sp) (dvs : List V) (ta : TE) (t : TA) : TE := fun σ H Q => ta σ H fun x H1 => ∃ a dx fs, x = .ref a ∧ H1 a = some (.ins C dx fs) ∧ fs.lookup m = none ∧
  t σ H1 fun vs H2 => ∀ cs HT, Tel X.env.cells X.env.scope.names X.N σ H2 cs HT → sp (x :: (vs ++ dvs)) HT (fun v H3 => (∀ b, b ∈ cs → H3 b = HT b) ∧ Q v (cut cs H3)) E0
section
variable {X : Cx} {k : Nat} {C f : Addr} {m : Str} {fd : FuncData} {ps : List Str} {ds : List Value} {dvs : List V} {sp : Sp} {o e : Expr} {es : List Expr} {ta : TE} {t : TA} {apos pos : Pos} {pl : Sem Bool}
theorem pe_methT (hfn : ∀ x, X.fn x = true) (he : PE X o ta) (c : Cls X.K C) (hm : Meth X.K C m f) (F : FnOk X.prog X.w X.K X.mg X.base CX0 k f fd ps sp) (hr : Room k X.A) (hb : Binds X.K fd ps ds) (hd : Vals dvs ds) (ha : PA X (e :: es) t)
    (hst : starEach (e :: es) X.env = (false, eval e X.env) :: starEach es X.env := by rfl) (hpl : (backTo pos (starEach es X.env)).any (·.1) = false := by rfl)
    (ht : eval (.Call (.Attribute o m apos) (e :: es) [] pos) X.env = (do
      let ov ← eval o X.env
      standAt apos.atName
      let (f, first) ← holding [ov] (getMethod ov m pl)
      callWith pos f first (backTo pos (starEach (e :: es) X.env)) (backToKw pos (keywordEach [] X.env))) := by rfl) :
    PE X (.Call (.Attribute o m apos) (e :: es) [] pos) (tMethT X C m sp dvs ta t) := by
  refine ⟨fun pins s σ H Q I h => ?_⟩
  refine PySem.W.methodCall_KW (pl := pl) (thn (he.run pins s σ H _ I h) fun u s1 ⟨x, H1, I1, rx, a, dx, fs, ex, ea, l, q⟩ => ?_) ht
  subst ex
  obtain rfl : u = Value.ref a := rx
  refine getmeth_ok I1 ea c hm l ?_
  refine PySem.W.callWith_K (first := [.ref a]) (h₀ := X.base) I.ok.mod.kin hm.kp (thn (ha.run pos pins s1 σ H1 _ I1 q) fun us s2 ⟨vs, H2, I2, r, q2⟩ => ⟨I2.kIn, ?_⟩) hst hpl
  exact tel_run (us := .ref a :: us) (vs := .ref a :: vs) F hr hb hd hfn I2 (.cons rfl r) q2
theorem pe_methT0 (hfn : ∀ x, X.fn x = true) (he : PE X o ta) (c : Cls X.K C) (hm : Meth X.K C m f) (F : FnOk X.prog X.w X.K X.mg X.base CX0 k f fd ps sp) (hr : Room k X.A) (hb : Binds X.K fd ps ds) (hd : Vals dvs ds)
    (ht : eval (.Call (.Attribute o m apos) [] [] pos) X.env = (do
      let ov ← eval o X.env
      standAt apos.atName
      let (f, first) ← holding [ov] (getMethod ov m pl)
      callWith pos f first (backTo pos (starEach [] X.env)) (backToKw pos (keywordEach [] X.env))) := by rfl) :
    PE X (.Call (.Attribute o m apos) [] [] pos) (tMethT X C m sp dvs ta tNil) := by
  refine ⟨fun pins s σ H Q I h => ?_⟩
  refine PySem.W.methodCall_KW (pl := pl) (thn (he.run pins s σ H _ I h) fun u s1 ⟨x, H1, I1, rx, a, dx, fs, ex, ea, l, q⟩ => ?_) ht
  subst ex
  obtain rfl : u = Value.ref a := rx
  refine getmeth_ok I1 ea c hm l ?_
  exact PySem.W.callWith_K0 (first := [.ref a]) I1.kIn hm.kp (tel_run (us := [.ref a]) (vs := [.ref a]) F hr hb hd hfn I1 (.cons rfl .nil) q)
end
end Inf

set_option Elab.async false
set_option linter.all false
set_option maxRecDepth 100000
set_option maxHeartbeats 4000000
namespace Inf
open PySem PySem.Spec PyProof.Rows L2
/-! ### d.setdefault(t, x), t a tuple of ints and texts -/
def rSetT : V → List V → Hp → VK → Prop := fun x xs H Q => ∃ (a : Addr) (kvs : List (List L2.Key × V)) (k : List L2.Key) (b : Addr) (d : V), x = .ref a ∧ xs = [.ref b, d] ∧ H a = some (.dT kvs) ∧ H b = some (.tup (k.map kV)) ∧ kvs.length < sizeLine ∧
  (∀ v, valV kvs k = some v → Q v H) ∧ (valV kvs k = none → Q d (upd H a (.dT (putK kvs k d))))
theorem relO_some {o : Option V} {u : Value} (r : RelO o (some u)) : ∃ v, o = some v ∧ RelV v u := by
  cases o with
  | none => exact (show False from r).elim
  | some v => exact ⟨v, rfl, r⟩
theorem relO_none {o : Option V} (r : RelO o none) : o = none := by
  cases o with
  | none => rfl
  | some v => exact (show False from r).elim
theorem mt_setT {X : Cx} (hu : X.A.units + 1 < cLine) : MtR X "dict.setdefault" rSetT := by
  intro pins s σ H x xs v us Q I rx rxs h
  obtain ⟨a, kvs, k, b, d, rfl, rfl, ha, hb, hl, q1, q2⟩ := h
  cases rx
  obtain ⟨u1, u2, rfl, r1, r2⟩ := vals2 rxs
  cases r1
  obtain ⟨z, hd, xs', rel, dd⟩ := dt_of I.hok ha
  have hz : xs'.length ≤ sizeLine := by rw [← Paired.length rel]; exact z
  have hl2 : (putK kvs k d).length ≤ sizeLine := by
    have := length_putK kvs k d
    omega
  have rv := rel.val k
  refine call_setdefault_heap (hsz := hz) (tupleKind_room_in1 hu) (key_of I.hok hb) hd dd (fun p hp => ?_) fun hn h' dd' hs => ?_
  · rw [hp] at rv
    obtain ⟨v0, ev, r0⟩ := relO_some rv
    show EP X pins σ Q p.2 _
    exact ⟨v0, H, I.tok _, r0, q1 v0 ev⟩
  · rw [hn] at rv
    obtain ⟨o, es, ep, hq, h2, h3, h4, _, h5⟩ := dd'
    show EP X pins σ Q u2 _
    refine ⟨d, _, d_write (ob := .dT (putK kvs k d)) I (by rw [ha]; exact True.intro) hs ⟨o, hq⟩ ⟨hl2, hd, _, (rel.put k hb r2).keeps (fun c ys ec => ?_), o, es, ep, hq, h2, h3, h4, h5⟩, r2, q2 (relO_none rv)⟩
    rw [upd_ne (ne_of ec ha (fun z => nomatch z))]
    exact ec
end Inf

set_option Elab.async false
set_option linter.all false
set_option maxRecDepth 100000
set_option maxHeartbeats 4000000
namespace Inf
open PySem PySem.Spec PyProof.Rows L2
/-! ### f(), f a local name that holds a function -/
def tActZ (P : Program) (w : World) (K : PySem.W.Frag) (mg : Str → Option Value) (base : Heap) (CX : CXT) (k i : Nat) (E : L2.St → XK) : TE := fun σ H Q => ∃ f o sp, σ[i]? = some (some (.ref f)) ∧ H f = some o ∧ FnHO f o ∧ FnR P w K mg base CX k f sp ∧ sp [] H Q (E σ)
theorem pe_actZ {X : Cx} {CX : CXT} {k i : Nat} {E : L2.St → XK} {x : Str} {p pos : Pos} (hN : X.N[i]? = some x) (hv : Vis X.env.scope x) (hr : Room k X.A) (hx : ∀ σ, PassesAt CX X σ (E σ)) (hd : (x == ("__debug__" : Str)) = false := by decide) (hcd : (x == ("__classdict__" : Str)) = false := by decide) :
    PE X (.Call (.Name x p) [] [] pos) (tActZ X.prog X.w X.K X.mg X.base CX k i E) := by
  refine ⟨fun pins s σ H Q I h => ?_⟩
  obtain ⟨f, o, sp, hs, hf, ho, hF, q⟩ := h
  refine wpAny_Call_Name_kw (thn ((pe_var (pos := p) hN hv hd hcd).run pins s σ H (fun v H1 => v = .ref f ∧ H1 = H) I ⟨.ref f, hs, rfl, rfl⟩) fun u s1 ⟨v, H1, I1, r1, ev, eH⟩ => ?_)
  subst ev
  rw [eH] at I1
  obtain rfl : u = Value.ref f := r1
  refine PySem.W.callWith_of (P := PySem.W.FnAt f) (by rfl) PySem.W.keeps_F (PyProof.Rows.evalArgs_empty ?_)
  exact ⟨ho _ _ _ _ I1.hok hf, run_fnE hF hr (hx σ) I1 .nil q⟩
end Inf


set_option Elab.async false
set_option linter.all false
set_option maxRecDepth 100000
set_option maxHeartbeats 4000000
namespace Ob
open PySem PySem.Spec PyProof.Rows L2
/-! ### a def whose code object is named: it makes functions -/
structure FunT (K : PySem.W.Frag) (x qual : Str) (st : Stmt) (f : Addr) (fd : FuncData) (c : Addr) : Prop where
  ex : ∃ (oc : Value) (od : Option Addr) (kV doc pm : Value) (an : Option Addr) (ct : Value) (osl : Array (Option Value)),
    fd = PySem.W.fnOf x qual (defArgs st) (defBody st) (defScope st) .none kV doc pm an (.ref c) ct ∧ K.lookup f = some ⟨oc, od, .func fd, osl⟩ ∧ PySem.W.codeIn K (.ref c) qual = true
  kp : PySem.W.keepIn K (.ref f) = true
theorem FunT.ok {P : Program} {w : World} {K : PySem.W.Frag} {mg : Str → Option Value} {base : Heap} {x qual : Str} {st : Stmt} {f c : Addr} {fd : FuncData} {CX : CXT} {N ps : List Str} {k : Nat} {sp : Sp} (F : FunT K x qual st f fd c) (S : FnScope N ps (defScope st)) (len : ∀ vs H Q E, sp vs H Q E → vs.length = ps.length)
    (hbody : ∀ (A : Around) (outer : List Env) (s : Shared) (H : Hp) (vs : List V) (Q : VK) (E : XK), Room k (A.deeper (envOfC qual (defScope st) s.heap.objs.size f (.ref c))) → sp vs H Q E →
      ∃ t, PSs (cxOf CX P w K mg base N qual (defScope st) f (.ref c) A outer s H E) (defBody st) t ∧ t { nx := fun _ H' => Q .non H', rt := Q } (L2.start N vs) H) : FnOk P w K mg base CX (k + 1) f fd ps sp := by
  obtain ⟨oc, od, kV, doc, pm, an, ct, osl, rfl, lk, hcd⟩ := F.ex
  exact fn_of lk hcd S len fun A outer s H vs Q E hr hsp => hbody A outer s H vs Q E hr hsp
theorem FunT.okC {P : Program} {w : World} {K : PySem.W.Frag} {mg : Str → Option Value} {base : Heap} {x qual : Str} {st : Stmt} {f c : Addr} {fd : FuncData} {N ps : List Str} {k : Nat} {sp : Sp} (F : FunT K x qual st f fd c) (S : FnScope N ps (defScope st)) (len : ∀ vs H Q E, sp vs H Q E → vs.length = ps.length)
    (hbody : ∀ (A : Around) (outer : List Env) (s : Shared) (H : Hp) (vs : List V) (Q : VK) (E : XK), Room k (A.deeper (envOfC qual (defScope st) s.heap.objs.size f (.ref c))) → sp vs H Q E →
      ∃ t, Inf.PSsR (cxOf CX0 P w K mg base N qual (defScope st) f (.ref c) A outer s H E).nox (defBody st) t ∧
        t (fun σ v H' => ∀ H'', Inf.Fin (envOfC qual (defScope st) s.heap.objs.size f (.ref c)).cells (defScope st).names N σ H' H'' → Q v H'') (L2.start N vs) H) : FnOk P w K mg base CX0 (k + 1) f fd ps sp := by
  obtain ⟨oc, od, kV, doc, pm, an, ct, osl, rfl, lk, hcd⟩ := F.ex
  exact Inf.okC_of lk hcd S len hbody
theorem all_cons {α : Type} {P : α → Prop} {a : α} {l : List α} (h : P a) (t : ∀ x ∈ l, P x) : ∀ x ∈ a :: l, P x := fun x m => (List.mem_cons.mp m).elim (fun e => by rw [e]; exact h) (t x)

/-! ### the text -/
def topS (i : Nat) : Stmt := PySem.Challenge.pw_oncebuilt_k72_plans_of_histories.main.body.getD i (.Pass ⟨0, 0, 0, 0⟩)
abbrev s_plan_pushes : Stmt := topS 5
abbrev n_plan_pushes : List Str := ["numbers", "number"]
theorem sc_plan_pushes : FnScope n_plan_pushes ["numbers"] (defScope s_plan_pushes) := ⟨rfl, rfl, rfl, by decide +kernel, rfl, by decide +kernel, by decide +kernel⟩
abbrev s_plan_pops : Stmt := topS 6
abbrev n_plan_pops : List Str := ["numbers", "number"]
theorem sc_plan_pops : FnScope n_plan_pops ["numbers"] (defScope s_plan_pops) := ⟨rfl, rfl, rfl, by decide +kernel, rfl, by decide +kernel, by decide +kernel⟩
abbrev s_pieces : Stmt := topS 9
abbrev n_pieces : List Str := ["begin", "end", "found", "first", "size"]
theorem sc_pieces : FnScope n_pieces ["begin", "end"] (defScope s_pieces) := ⟨rfl, rfl, rfl, by decide +kernel, rfl, by decide +kernel, by decide +kernel⟩
abbrev s_piece_size : Stmt := topS 10
abbrev n_piece_size : List Str := ["first", "room", "fitting"]
theorem sc_piece_size : FnScope n_piece_size ["first", "room"] (defScope s_piece_size) := ⟨rfl, rfl, rfl, by decide +kernel, rfl, by decide +kernel, by decide +kernel⟩
abbrev s_lowest_power : Stmt := topS 11
abbrev n_lowest_power : List Str := ["number"]
theorem sc_lowest_power : FnScope n_lowest_power ["number"] (defScope s_lowest_power) := ⟨rfl, rfl, rfl, by decide +kernel, rfl, by decide +kernel, by decide +kernel⟩
abbrev s_greatest_power : Stmt := topS 12
abbrev n_greatest_power : List Str := ["number"]
theorem sc_greatest_power : FnScope n_greatest_power ["number"] (defScope s_greatest_power) := ⟨rfl, rfl, rfl, by decide +kernel, rfl, by decide +kernel, by decide +kernel⟩
abbrev s_is_integer : Stmt := topS 13
abbrev n_is_integer : List Str := ["value"]
theorem sc_is_integer : FnScope n_is_integer ["value"] (defScope s_is_integer) := ⟨rfl, rfl, rfl, by decide +kernel, rfl, by decide +kernel, by decide +kernel⟩
abbrev s_check_integer : Stmt := topS 14
abbrev n_check_integer : List Str := ["value"]
theorem sc_check_integer : FnScope n_check_integer ["value"] (defScope s_check_integer) := ⟨rfl, rfl, rfl, by decide +kernel, rfl, by decide +kernel, by decide +kernel⟩
abbrev s_check_number : Stmt := topS 15
abbrev n_check_number : List Str := ["value"]
theorem sc_check_number : FnScope n_check_number ["value"] (defScope s_check_number) := ⟨rfl, rfl, rfl, by decide +kernel, rfl, by decide +kernel, by decide +kernel⟩
abbrev s_plan_answers : Stmt := topS 18
abbrev n_plan_answers : List Str := ["history", "ends", "asked", "entries", "entry"]
theorem sc_plan_answers : FnScope n_plan_answers ["history"] (defScope s_plan_answers) := ⟨rfl, rfl, rfl, by decide +kernel, rfl, by decide +kernel, by decide +kernel⟩
abbrev s_present_ends : Stmt := topS 19
abbrev n_present_ends : List Str := ["history", "ends", "present", "at", "entry", "index"]
theorem sc_present_ends : FnScope n_present_ends ["history"] (defScope s_present_ends) := ⟨rfl, rfl, rfl, by decide +kernel, rfl, by decide +kernel, by decide +kernel⟩
abbrev s_is_entry : Stmt := topS 20
abbrev n_is_entry : List Str := ["entry", "present", "word", "passed"]
theorem sc_is_entry : FnScope n_is_entry ["entry", "present"] (defScope s_is_entry) := ⟨rfl, rfl, rfl, by decide +kernel, rfl, by decide +kernel, by decide +kernel⟩
abbrev s_members_by_nodes : Stmt := topS 21
abbrev n_members_by_nodes : List Str := ["ends", "nodes", "index", "end", "piece"]
theorem sc_members_by_nodes : FnScope n_members_by_nodes ["ends"] (defScope s_members_by_nodes) := ⟨rfl, rfl, rfl, by decide +kernel, rfl, by decide +kernel, by decide +kernel⟩
abbrev s_walk_size : Stmt := topS 22
abbrev n_walk_size : List Str := ["length", "size"]
theorem sc_walk_size : FnScope n_walk_size ["length"] (defScope s_walk_size) := ⟨rfl, rfl, rfl, by decide +kernel, rfl, by decide +kernel, by decide +kernel⟩
abbrev s_visit : Stmt := topS 23
abbrev n_visit : List Str := ["entries", "nodes", "asked", "first", "size", "inserted", "half"]
theorem sc_visit : FnScope n_visit ["entries", "nodes", "asked", "first", "size"] (defScope s_visit) := ⟨rfl, rfl, rfl, by decide +kernel, rfl, by decide +kernel, by decide +kernel⟩
abbrev s_l_bag : Stmt := topS 25
abbrev n_l_bag : List Str := ["_law_script", "_law_at", "_law_cell", "_law_great", "_law_primes"]
theorem sc_l_bag : FnScope n_l_bag ["_law_script", "_law_at"] (defScope s_l_bag) := ⟨rfl, rfl, rfl, by decide +kernel, rfl, by decide +kernel, by decide +kernel⟩
abbrev s_l_take : Stmt := topS 26
abbrev n_l_take : List Str := ["_law_bag_here", "_law_many", "_law_digit"]
theorem sc_l_take : FnScope n_l_take ["_law_bag_here", "_law_many"] (defScope s_l_take) := ⟨rfl, rfl, rfl, by decide +kernel, rfl, by decide +kernel, by decide +kernel⟩
abbrev s_l_history : Stmt := topS 27
abbrev n_l_history : List Str := ["_law_bag_here", "_law_most", "_law_history_here", "_law_present", "_law_turn", "_law_road", "_law_thing"]
theorem sc_l_history : FnScope n_l_history ["_law_bag_here", "_law_most"] (defScope s_l_history) := ⟨rfl, rfl, rfl, by decide +kernel, rfl, by decide +kernel, by decide +kernel⟩
abbrev s_l_ends : Stmt := topS 28
abbrev n_l_ends : List Str := ["_law_history_here", "_law_found", "_law_at", "_law_entry", "_law_gone", "_law_other", "_law_place"]
theorem sc_l_ends : FnScope n_l_ends ["_law_history_here"] (defScope s_l_ends) := ⟨rfl, rfl, rfl, by decide +kernel, rfl, by decide +kernel, by decide +kernel⟩
abbrev s_l_split : Stmt := topS 29
abbrev n_l_split : List Str := ["_law_first", "_law_end", "_law_found", "_law_sizes", "_law_k"]
theorem sc_l_split : FnScope n_l_split ["_law_first", "_law_end"] (defScope s_l_split) := ⟨rfl, rfl, rfl, by decide +kernel, rfl, by decide +kernel, by decide +kernel⟩
abbrev s_l_visit : Stmt := topS 30
abbrev n_l_visit : List Str := ["_law_history_here", "_law_parts", "_law_first", "_law_size", "_law_here", "_law_found", "_law_half", "_law_entry", "_law_index", "_law_some"]
theorem sc_l_visit : FnScope n_l_visit ["_law_history_here", "_law_parts", "_law_first", "_law_size"] (defScope s_l_visit) := ⟨rfl, rfl, rfl, by decide +kernel, rfl, by decide +kernel, by decide +kernel⟩
abbrev s_law : Stmt := topS 31
abbrev n_law : List Str := ["_law_script", "_law_at", "_law_bag_here", "_law_history_here", "_law_size", "_law_parts", "_law_due", "_law_shown", "_law_turn", "_law_told", "_law_end", "_law_index"]
theorem sc_law : FnScope n_law ["_law_script"] (defScope s_law) := ⟨rfl, rfl, rfl, by decide +kernel, rfl, by decide +kernel, by decide +kernel⟩
structure Txt (K : PySem.W.Frag) (mg : Str → Option Value) where
  f_plan_pushes : Addr
  d_plan_pushes : FuncData
  F_plan_pushes : Fun K "plan_pushes" "plan_pushes" s_plan_pushes f_plan_pushes d_plan_pushes
  b_plan_pushes : Binds K d_plan_pushes ["numbers"] []
  g_plan_pushes : mg "plan_pushes" = some (.ref f_plan_pushes)
  f_plan_pops : Addr
  d_plan_pops : FuncData
  F_plan_pops : Fun K "plan_pops" "plan_pops" s_plan_pops f_plan_pops d_plan_pops
  b_plan_pops : Binds K d_plan_pops ["numbers"] []
  g_plan_pops : mg "plan_pops" = some (.ref f_plan_pops)
  f_pieces : Addr
  d_pieces : FuncData
  F_pieces : Fun K "pieces" "pieces" s_pieces f_pieces d_pieces
  b_pieces : Binds K d_pieces ["begin", "end"] []
  g_pieces : mg "pieces" = some (.ref f_pieces)
  f_piece_size : Addr
  d_piece_size : FuncData
  F_piece_size : Fun K "piece_size" "piece_size" s_piece_size f_piece_size d_piece_size
  b_piece_size : Binds K d_piece_size ["first", "room"] []
  g_piece_size : mg "piece_size" = some (.ref f_piece_size)
  f_lowest_power : Addr
  d_lowest_power : FuncData
  F_lowest_power : Fun K "lowest_power" "lowest_power" s_lowest_power f_lowest_power d_lowest_power
  b_lowest_power : Binds K d_lowest_power ["number"] []
  g_lowest_power : mg "lowest_power" = some (.ref f_lowest_power)
  f_greatest_power : Addr
  d_greatest_power : FuncData
  F_greatest_power : Fun K "greatest_power" "greatest_power" s_greatest_power f_greatest_power d_greatest_power
  b_greatest_power : Binds K d_greatest_power ["number"] []
  g_greatest_power : mg "greatest_power" = some (.ref f_greatest_power)
  f_is_integer : Addr
  d_is_integer : FuncData
  F_is_integer : Fun K "is_integer" "is_integer" s_is_integer f_is_integer d_is_integer
  b_is_integer : Binds K d_is_integer ["value"] []
  g_is_integer : mg "is_integer" = some (.ref f_is_integer)
  f_check_integer : Addr
  d_check_integer : FuncData
  F_check_integer : Fun K "check_integer" "check_integer" s_check_integer f_check_integer d_check_integer
  b_check_integer : Binds K d_check_integer ["value"] []
  g_check_integer : mg "check_integer" = some (.ref f_check_integer)
  f_check_number : Addr
  d_check_number : FuncData
  F_check_number : Fun K "check_number" "check_number" s_check_number f_check_number d_check_number
  b_check_number : Binds K d_check_number ["value"] []
  g_check_number : mg "check_number" = some (.ref f_check_number)
  f_plan_answers : Addr
  d_plan_answers : FuncData
  F_plan_answers : Fun K "plan_answers" "plan_answers" s_plan_answers f_plan_answers d_plan_answers
  b_plan_answers : Binds K d_plan_answers ["history"] []
  g_plan_answers : mg "plan_answers" = some (.ref f_plan_answers)
  f_present_ends : Addr
  d_present_ends : FuncData
  F_present_ends : Fun K "present_ends" "present_ends" s_present_ends f_present_ends d_present_ends
  b_present_ends : Binds K d_present_ends ["history"] []
  g_present_ends : mg "present_ends" = some (.ref f_present_ends)
  f_is_entry : Addr
  d_is_entry : FuncData
  F_is_entry : Fun K "is_entry" "is_entry" s_is_entry f_is_entry d_is_entry
  b_is_entry : Binds K d_is_entry ["entry", "present"] []
  g_is_entry : mg "is_entry" = some (.ref f_is_entry)
  f_members_by_nodes : Addr
  d_members_by_nodes : FuncData
  F_members_by_nodes : Fun K "members_by_nodes" "members_by_nodes" s_members_by_nodes f_members_by_nodes d_members_by_nodes
  b_members_by_nodes : Binds K d_members_by_nodes ["ends"] []
  g_members_by_nodes : mg "members_by_nodes" = some (.ref f_members_by_nodes)
  f_walk_size : Addr
  d_walk_size : FuncData
  F_walk_size : Fun K "walk_size" "walk_size" s_walk_size f_walk_size d_walk_size
  b_walk_size : Binds K d_walk_size ["length"] []
  g_walk_size : mg "walk_size" = some (.ref f_walk_size)
  f_visit : Addr
  d_visit : FuncData
  F_visit : Fun K "visit" "visit" s_visit f_visit d_visit
  b_visit : Binds K d_visit ["entries", "nodes", "asked", "first", "size"] []
  g_visit : mg "visit" = some (.ref f_visit)
  f_l_bag : Addr
  d_l_bag : FuncData
  F_l_bag : Fun K "_law_bag" "_law_bag" s_l_bag f_l_bag d_l_bag
  b_l_bag : Binds K d_l_bag ["_law_script", "_law_at"] []
  g_l_bag : mg "_law_bag" = some (.ref f_l_bag)
  f_l_take : Addr
  d_l_take : FuncData
  F_l_take : Fun K "_law_take" "_law_take" s_l_take f_l_take d_l_take
  b_l_take : Binds K d_l_take ["_law_bag_here", "_law_many"] []
  g_l_take : mg "_law_take" = some (.ref f_l_take)
  f_l_history : Addr
  d_l_history : FuncData
  F_l_history : Fun K "_law_history" "_law_history" s_l_history f_l_history d_l_history
  b_l_history : Binds K d_l_history ["_law_bag_here", "_law_most"] []
  g_l_history : mg "_law_history" = some (.ref f_l_history)
  f_l_ends : Addr
  d_l_ends : FuncData
  F_l_ends : Fun K "_law_ends" "_law_ends" s_l_ends f_l_ends d_l_ends
  b_l_ends : Binds K d_l_ends ["_law_history_here"] []
  g_l_ends : mg "_law_ends" = some (.ref f_l_ends)
  f_l_split : Addr
  d_l_split : FuncData
  F_l_split : Fun K "_law_split" "_law_split" s_l_split f_l_split d_l_split
  b_l_split : Binds K d_l_split ["_law_first", "_law_end"] []
  g_l_split : mg "_law_split" = some (.ref f_l_split)
  f_l_visit : Addr
  d_l_visit : FuncData
  F_l_visit : Fun K "_law_visit" "_law_visit" s_l_visit f_l_visit d_l_visit
  b_l_visit : Binds K d_l_visit ["_law_history_here", "_law_parts", "_law_first", "_law_size"] []
  g_l_visit : mg "_law_visit" = some (.ref f_l_visit)
  z_abs : mg "abs" = none
  z_any : mg "any" = none
  z_bool : mg "bool" = none
  z_enumerate : mg "enumerate" = none
  z_int : mg "int" = none
  z_isinstance : mg "isinstance" = none
  z_len : mg "len" = none
  z_list : mg "list" = none
  z_max : mg "max" = none
  z_min : mg "min" = none
  z_range : mg "range" = none
  z_repr : mg "repr" = none
  z_reversed : mg "reversed" = none
  z_str : mg "str" = none
  z_tuple : mg "tuple" = none
  u_GREATEST : Value
  v_GREATEST : mg "GREATEST" = some u_GREATEST
  r_GREATEST : RelV (V.int (10 ^ (30 : Nat))) u_GREATEST
  c_WORDS : Addr
  g_WORDS : mg "WORDS" = some (.ref c_WORDS)
  s_WORDS : ∀ H : Hp, SqT K H c_WORDS [V.str "add", V.str "remove", V.str "ask"]

theorem log_lo {n : Nat} (h : n ≠ 0) : 2 ^ n.log2 ≤ n := Nat.log2_self_le h
theorem log_hi {n : Nat} : n < 2 ^ (n.log2 + 1) := Nat.lt_log2_self
theorem log_lt {n f : Nat} (h : n ≠ 0) (hf : n < 2 ^ f) : n.log2 < f := (Nat.log2_lt h).mpr hf
theorem rest_lt {n : Nat} (h : n ≠ 0) : n - 2 ^ n.log2 < 2 ^ n.log2 := by
  have a := log_hi (n := n)
  have b := log_lo h
  rw [Nat.pow_succ] at a
  omega
theorem rest_lt' {n f : Nat} (h : n ≠ 0) (hf : n < 2 ^ (f + 1)) : n - 2 ^ n.log2 < 2 ^ f := by
  have a := rest_lt h
  have b := log_lt h hf
  have c : 2 ^ n.log2 ≤ 2 ^ f := Nat.pow_le_pow_right (by decide) (by omega)
  omega
/-- the lowest power -/
def low (n : Nat) : Nat := if h : n = 0 then 1 else if n % 2 = 0 then 2 * low (n / 2) else 1
termination_by n
decreasing_by omega
theorem low_even {n : Nat} (h : n ≠ 0) (e : n % 2 = 0) : low n = 2 * low (n / 2) := by
  rw [low, dif_neg h, if_pos e]
theorem low_odd {n : Nat} (e : n % 2 = 1) : low n = 1 := by
  rw [low, dif_neg (by omega), if_neg (by omega)]
theorem low_is : ∀ (j n : Nat), n ≠ 0 → n % 2 ^ j = 0 → ¬ n % 2 ^ (j + 1) = 0 → low n = 2 ^ j
  | 0, n, h, _, e => by
    rw [Nat.zero_add, Nat.pow_one] at e
    exact low_odd (by omega)
  | j + 1, n, h, a, b => by
    have e2 : n % 2 = 0 := by
      rw [Nat.pow_succ] at a
      have := Nat.mod_mod_of_dvd n (show 2 ∣ 2 ^ j * 2 from ⟨2 ^ j, Nat.mul_comm _ _⟩)
      rw [a] at this
      omega
    obtain ⟨m, rfl⟩ : ∃ m, n = 2 * m := ⟨n / 2, by omega⟩
    have hm : m ≠ 0 := by omega
    rw [low_even h e2, Nat.mul_div_cancel_left _ (by decide), Nat.pow_succ, Nat.mul_comm]
    have a' : m % 2 ^ j = 0 := by
      rw [Nat.pow_succ, Nat.mul_comm (2 ^ j) 2, Nat.mul_mod_mul_left] at a
      omega
    have b' : ¬ m % 2 ^ (j + 1) = 0 := fun z => by
      rw [Nat.pow_succ, Nat.mul_comm (2 ^ (j + 1)) 2, Nat.mul_mod_mul_left, z] at b
      exact b rfl
    rw [low_is j m hm a' b']
theorem low_pow (j : Nat) : low (2 ^ j) = 2 ^ j := by
  refine low_is j _ (Nat.pos_iff_ne_zero.mp (Nat.two_pow_pos j)) (Nat.mod_self _) fun z => ?_
  rw [Nat.mod_eq_of_lt (Nat.pow_lt_pow_right (by decide) (by omega))] at z
  have := Nat.two_pow_pos j
  omega

theorem ifT {c : Bool} {A B : Prop} (hc : c = true) (h : A) : if c = true then A else B := by
  rw [if_pos hc]
  exact h
theorem ifF {c : Bool} {A B : Prop} (hc : c = false) (h : B) : if c = true then A else B := by
  rw [hc, if_neg Bool.false_ne_true]
  exact h
theorem dF {p : Prop} [Decidable p] (h : ¬ p) : decide p = false := decide_eq_false h
theorem dT {p : Prop} [Decidable p] (h : p) : decide p = true := decide_eq_true h
theorem bits_nat {n : Nat} (h : n ≠ 0) : (Builtin.Int.intBits (n : Int) : Nat) = n.log2 + 1 := by
  unfold Builtin.Int.intBits
  rw [if_neg (show ¬ ((n : Int) == 0) = true by simpa using (show (n : Int) ≠ 0 by omega))]
  rfl
theorem gp_eq {n : Nat} (h : n ≠ 0) : (1 : Int) * 2 ^ (((Builtin.Int.intBits (n : Int) : Nat) : Int) - 1).toNat = ((2 ^ n.log2 : Nat) : Int) := by
  rw [bits_nat h, show (((n.log2 + 1 : Nat) : Int) - 1).toNat = n.log2 by omega, Int.one_mul]
  exact (PySem.W.kbt_cast _).symm
theorem gp_ok {n : Nat} (h : n ≠ 0) (hn : n < 2 ^ 200) : CShl 1 (((Builtin.Int.intBits (n : Int) : Nat) : Int) - 1) := by
  have a := log_lt h hn
  rw [bits_nat h, show (((n.log2 + 1 : Nat) : Int) - 1) = (n.log2 : Int) by omega]
  exact shl_ok (n := 1) (by decide) (by omega)
theorem nat_cast_lt {a : Nat} {n : Nat} (h : n < 2 ^ a) : (n : Int).natAbs < 2 ^ a := h
theorem pow_nat (k : Nat) : (2 : Int) ^ k = ((2 ^ k : Nat) : Int) := (PySem.W.kbt_cast k).symm
theorem p10 : (10 : Int) ^ Int.toNat 30 = ((10 ^ 30 : Nat) : Int) := by decide +kernel
theorem le6 : 6 ≤ sizeLine := by decide
theorem p100 : (10 ^ 30 : Nat) < 2 ^ 100 := by decide +kernel
def intAt (σ : L2.St) (i : Nat) : Nat := match σ[i]? with
  | some (some (V.int r)) => r.toNat
  | _ => 0
theorem le2 : 2 ≤ sizeLine := by decide
theorem cdiv_nat (a b : Nat) : ((a : Int) / (b : Int)) = ((a / b : Nat) : Int) := rfl

/-! ### heaps -/
theorem same_put {H H1 : Hp} {p : Addr} {o : HO} (h : Same H H1) (n : H p = none) : Same H (upd H1 p o) := fun b u e => by
  rw [upd_ne (ne_of_none e n)]
  exact h b u e
theorem same_new {H : Hp} {p : Addr} {o : HO} (n : H p = none) : Same H (upd H p o) := same_put (Same.refl H) n
theorem same_no {H H1 : Hp} {p : Addr} (h : Same H H1) (n : H1 p = none) : H p = none := h.free n
/-- all but p is as it was -/
def But (p : Addr) (H H' : Hp) : Prop := ∀ b o, H b = some o → b ≠ p → H' b = some o
theorem but_refl (p : Addr) (H : Hp) : But p H H := fun _ _ h _ => h
theorem but_trans {p : Addr} {H H1 H2 : Hp} (a : But p H H1) (b : But p H1 H2) : But p H H2 := fun c o h n => b c o (a c o h n) n
theorem but_of_same {p : Addr} {H H1 : Hp} (a : Same H H1) : But p H H1 := fun c o h _ => a c o h
theorem but_upd (p : Addr) (H : Hp) (o : HO) : But p H (upd H p o) := fun b u e n => by
  rw [upd_ne n]
  exact e
theorem but_fresh {p : Addr} {H0 H H1 : Hp} (s : Same H0 H) (n : H0 p = none) (b : But p H H1) : Same H0 H1 := fun c o e => b c o (s c o e) (ne_of_none e n)
/-! ### a bag of digits -/
def Bag (H : Hp) (p : Addr) : Prop := ∃ g m c : Int, H p = some (.lst [.int g, .int m, .int c]) ∧ 0 ≤ g ∧ 0 ≤ m ∧ m < 2147483648
theorem fm0 {a b : Int} (h : 0 < b) : 0 ≤ a.fmod b := by
  rw [Int.fmod_eq_emod_of_nonneg a (by omega)]
  exact Int.emod_nonneg a (by omega)
theorem fm1 {a b : Int} (h : 0 < b) : a.fmod b < b := by
  rw [Int.fmod_eq_emod_of_nonneg a (by omega)]
  exact Int.emod_lt_of_pos a h
theorem nz1 : (2147483647 : Int) ≠ 0 := by decide
theorem nz2 : (2147483629 : Int) ≠ 0 := by decide
section
variable {P : Program} {w : World} {K : PySem.W.Frag} {mg : Str → Option Value} {base : Heap}
def spTake : Sp := fun vs H Q _ => ∃ (p : Addr) (n : Int), vs = [.ref p, .int n] ∧ Bag H p ∧ 0 < n ∧ n.natAbs < 2 ^ 200 ∧
  ∀ r H', 0 ≤ r → r < n → Bag H' p → But p H H' → Q (.int r) H'
theorem ok_take (T : Txt K mg) : FnOk P w K mg base CX0 1 T.f_l_take T.d_l_take ["_law_bag_here", "_law_many"] spTake := by
  refine T.F_l_take.ok sc_l_take (fun vs H Q E h => ?_) (fun cdv A outer s H vs Q E hr h => ?_)
  · obtain ⟨p, n, rfl, _⟩ := h
    rfl
  · obtain ⟨p, n, rfl, ⟨g, m, c, hb, g0, m0, m1⟩, n0, n1, q⟩ := h
    refine ⟨_, (pss_cons (ps_if (pt_cmpR op_gt (pe_ix (r := rIxL K) ix_list (pv 0) pe_int (fun _ _ => rfl)) pe_int (nomark _)) (pss_cons (ps_set (i := 2) sc_l_take.nd rfl (.inl rfl) (pe_op op_modN (pe_ix (r := rIxL K) ix_list (pv 0) pe_int (fun _ _ => rfl)) (pv 1)))
        (pss_cons (ps_asg (pe_op op_fdivW (pe_ix (r := rIxL K) ix_list (pv 0) pe_int (fun _ _ => rfl)) (pv 1)) (pg_sub (pv 0) pe_int set_list))
        (pss_one (ps_ret (pv 2))))) pss_nil)
      (pss_cons (ps_asg (pe_op op_add (pe_ix (r := rIxL K) ix_list (pv 0) pe_int (fun _ _ => rfl)) pe_int) (pg_sub (pv 0) pe_int set_list))
      (pss_cons (ps_asg (pe_op op_modN (pe_op op_add (pe_op op_add (pe_op op_mul (pe_ix (r := rIxL K) ix_list (pv 0) pe_int (fun _ _ => rfl)) pe_int) (pe_op op_mul pe_int (pe_ix (r := rIxL K) ix_list (pv 0) pe_int (fun _ _ => rfl)))) pe_int) pe_int) (pg_sub (pv 0) pe_int set_list))
      (pss_one (ps_ret (pe_op op_modN (pe_op op_modN (pe_op op_pow (pe_op op_fdivW (pe_ix (r := rIxL K) ix_list (pv 0) pe_int (fun _ _ => rfl)) pe_int) pe_int) pe_int) (pv 1))))))), ?_⟩
    have hB : SqL K H p [.int g, .int m, .int c] := .inl (.inl hb)
    refine ⟨_, rfl, p, _, 0, .int g, rfl, rfl, hB, atI_nat (j := 0) rfl, _, _, rfl, rfl, _, rfl, ite2 (fun e => ?_) (fun e => ?_)⟩
    · refine ⟨_, rfl, p, _, 0, .int g, rfl, rfl, hB, atI_nat (j := 0) rfl, _, rfl, _, _, rfl, rfl, (by omega), ?_⟩
      refine ⟨_, rfl, p, _, 0, .int g, rfl, rfl, hB, atI_nat (j := 0) rfl, _, rfl, _, _, rfl, rfl, wide_div n0 n1 (by decide) (by decide), ?_⟩
      refine ⟨_, rfl, p, _, _, 0, rfl, rfl, hb, rfl, ?_⟩
      refine ⟨_, rfl, ?_⟩
      exact q _ _ (fm0 n0) (fm1 n0) ⟨g / n, m, c, upd_same, Int.ediv_nonneg g0 (by omega), m0, m1⟩ (but_upd _ _ _)
    · refine ⟨_, rfl, p, _, 2, .int c, rfl, rfl, hB, atI_nat (j := 2) rfl, _, _, rfl, rfl, ?_⟩
      refine ⟨_, rfl, p, _, _, 2, rfl, rfl, hb, rfl, ?_⟩
      have h2 : upd H p (.lst [.int g, .int m, .int (c + 1)]) p = some (.lst [.int g, .int m, .int (c + 1)]) := upd_same
      have hB2 : SqL K (upd H p (.lst [.int g, .int m, .int (c + 1)])) p [.int g, .int m, .int (c + 1)] := .inl (.inl h2)
      refine ⟨_, rfl, p, _, 1, .int m, rfl, rfl, hB2, atI_nat (j := 1) rfl, _, _, rfl, rfl, .inr ⟨by decide, by decide⟩, _, rfl, p, _, 2, .int (c + 1), rfl, rfl, hB2, atI_nat (j := 2) rfl, _, _, rfl, rfl, .inl ⟨by decide, by decide⟩, _, _, rfl, rfl, _, _, rfl, rfl, _, _, rfl, rfl, nz1, ?_⟩
      refine ⟨_, rfl, p, _, _, 1, rfl, rfl, h2, rfl, ?_⟩
      have m0' := fm0 (a := m * 48271 + 6661 * (c + 1) + 17) (show (0 : Int) < 2147483647 by decide)
      have m1' := fm1 (a := m * 48271 + 6661 * (c + 1) + 17) (show (0 : Int) < 2147483647 by decide)
      refine ⟨_, rfl, p, _, 1, _, rfl, rfl, .inl (.inl upd_same), atI_nat (j := 1) rfl, _, _, rfl, rfl, ⟨by decide, by decide⟩, _, _, rfl, rfl, ⟨by decide, by decide, ?_⟩, _, _, rfl, rfl, nz2, _, rfl, _, _, rfl, rfl, (by omega), ?_⟩
      · omega
      exact q _ _ (fm0 n0) (fm1 n0) ⟨g, _, c + 1, upd_same, g0, m0', by omega⟩ (but_trans (but_upd _ _ _) (but_upd _ _ _))
theorem le3 : 3 ≤ sizeLine := by decide
theorem nz3 : (8 : Int) ≠ 0 := by decide
theorem primes_at (k : Nat) : ∃ v : Int, 0 < v ∧ v < 2147483648 ∧ atI [V.int 2147483629, V.int 2147483587, V.int 2147483579, V.int 2147483563, V.int 2147483549, V.int 2147483543, V.int 2147483497, V.int 2147483489] ((k : Int).fmod 8) = some (.int v) := by
  have e : (k : Int).fmod 8 = ((k % 8 : Nat) : Int) := by
    rw [Int.fmod_eq_emod_of_nonneg _ (by decide)]
    rfl
  have h : k % 8 < 8 := Nat.mod_lt _ (by decide)
  rw [e]
  generalize k % 8 = j at h
  match j, h with
  | 0, _ => exact ⟨_, by decide, by decide, atI_nat (j := 0) rfl⟩
  | 1, _ => exact ⟨_, by decide, by decide, atI_nat (j := 1) rfl⟩
  | 2, _ => exact ⟨_, by decide, by decide, atI_nat (j := 2) rfl⟩
  | 3, _ => exact ⟨_, by decide, by decide, atI_nat (j := 3) rfl⟩
  | 4, _ => exact ⟨_, by decide, by decide, atI_nat (j := 4) rfl⟩
  | 5, _ => exact ⟨_, by decide, by decide, atI_nat (j := 5) rfl⟩
  | 6, _ => exact ⟨_, by decide, by decide, atI_nat (j := 6) rfl⟩
  | 7, _ => exact ⟨_, by decide, by decide, atI_nat (j := 7) rfl⟩
  | n + 8, h => exact absurd h (by omega)
def spBag (K : PySem.W.Frag) : Sp := fun vs H Q _ => ∃ (a : Addr) (ns : List Int) (k : Nat), vs = [.ref a, .int (k : Int)] ∧ SqL K H a (ns.map V.int) ∧ k ≤ 1000 ∧
  ∀ p H', H p = none → Same H H' → Bag H' p → Q (.ref p) H'
theorem ok_bag (T : Txt K mg) : FnOk P w K mg base CX0 1 T.f_l_bag T.d_l_bag ["_law_script", "_law_at"] (spBag K) := by
  refine T.F_l_bag.ok sc_l_bag (fun vs H Q E h => ?_) (fun cdv A outer s H vs Q E hr h => ?_)
  · obtain ⟨a, ns, k, rfl, _⟩ := h
    rfl
  · obtain ⟨a, ns, k, rfl, hS, hk, q⟩ := h
    refine ⟨_, (pss_cons (ps_set (i := 2) sc_l_bag.nd rfl (.inl rfl) pe_int)
      (C8.pss_cut (ps_if (pt_cmpR op_lt (pv 1) (pe_callB call_len_seq (by rfl) T.z_len (by decide +kernel) (pa_cons (pv 0) pa_nil)) (nomark _)) (pss_one (ps_set (i := 2) sc_l_bag.nd rfl (.inl rfl) (pe_ix (r := rIxL K) ix_list (pv 0) (pv 1) (fun _ _ => rfl)))) pss_nil)
      (pss_cons (ps_set (i := 3) sc_l_bag.nd rfl (.inl rfl) pe_int)
      (C8.pss_cut (ps_if (pt_cmpR op_ge (pe_callB call_abs (by rfl) T.z_abs (by decide +kernel) (pa_cons (pv 2) pa_nil)) (pe_op op_pow pe_int pe_int) (nomark _)) (pss_one (ps_set (i := 3) sc_l_bag.nd rfl (.inl rfl) (pe_callB call_abs (by rfl) T.z_abs (by decide +kernel) (pa_cons (pv 2) pa_nil)))) pss_nil)
      (pss_cons (ps_set (i := 4) sc_l_bag.nd rfl (.inl rfl) (pe_lst (pa_cons pe_int (pa_cons pe_int (pa_cons pe_int (pa_cons pe_int (pa_cons pe_int (pa_cons pe_int (pa_cons pe_int (pa_cons pe_int pa_nil))))))))))
      (pss_one (ps_ret (pe_lst (pa_cons (pv 3) (pa_cons (pe_op op_modN (pe_op op_pow (pe_op op_add (pe_op op_add (pe_op op_modN (pv 2) pe_int) (pe_op op_mul pe_int (pv 1))) pe_int) pe_int) (pe_ix (r := rIxL K) ix_list (pv 4) (pe_op op_modN (pv 1) pe_int) (fun _ _ => rfl))) (pa_cons pe_int pa_nil))))))))))), ?_⟩
    refine ⟨fun σ' H' => H' = H ∧ ∃ c : Int, σ' = [some (.ref a), some (.int (k : Int)), some (.int c), none, none], ?_, fun σ' H' hM => ?_⟩
    · refine ⟨_, rfl, _, rfl, a, _, rfl, .inl hS, _, _, rfl, rfl, _, rfl, ite2 (fun e => ?_) (fun e => ?_)⟩
      · have e2 := of_decide_eq_true e
        have e3 : k < ns.length := by
          rw [List.length_map] at e2
          omega
        have e4 : (ns.map V.int)[k]? = some (.int ns[k]) := by
          rw [List.getElem?_map, List.getElem?_eq_getElem e3]
          rfl
        exact ⟨_, rfl, _, rfl, a, _, _, _, rfl, rfl, hS, atI_nat e4, rfl, _, rfl⟩
      · exact ⟨rfl, _, rfl⟩
    · obtain ⟨rfl, c, rfl⟩ := hM
      refine ⟨fun σ'' H'' => H'' = H' ∧ ∃ g : Int, σ'' = [some (.ref a), some (.int (k : Int)), some (.int c), some (.int g), none] ∧ 0 ≤ g, ?_, fun σ'' H'' hM => ?_⟩
      · refine ⟨_, rfl, _, rfl, _, _, rfl, rfl, ⟨by decide, by decide, by decide⟩, _, _, rfl, rfl, _, rfl, ite2 (fun e => ?_) (fun e => ?_)⟩
        · refine ⟨_, rfl, _, rfl, rfl, _, rfl, ?_⟩
          split <;> omega
        · exact ⟨rfl, _, rfl, by decide⟩
      · obtain ⟨rfl, g, rfl, g0⟩ := hM
        refine ⟨by decide, fun o no => ?_⟩
        obtain ⟨v, v0, v1, hv⟩ := primes_at k
        have h0 := fm0 (a := c) (show (0 : Int) < 2147483647 by decide)
        have h1 := fm1 (a := c) (show (0 : Int) < 2147483647 by decide)
        refine ⟨_, rfl, _, rfl, _, _, rfl, rfl, nz1, _, rfl, _, _, rfl, rfl, .inl ⟨by decide, by decide⟩, _, _, rfl, rfl, _, _, rfl, rfl, _, _, rfl, rfl, ⟨by decide, by decide, by omega⟩, _, rfl, _, rfl, _, _, rfl, rfl, nz3, o, _, _, _, rfl, rfl, .inl (.inl upd_same), hv, _, _, rfl, rfl, by omega, ?_⟩
        refine ⟨le3, fun p np => ?_⟩
        have np' : H'' p = none := (same_new no).free np
        exact q _ _ np' (same_put (same_new no) np') ⟨g, _, 0, upd_same, g0, fm0 v0, by have := fm1 (a := (c.fmod 2147483647 + 104717 * (k : Int) + 13) ^ Int.toNat 5) v0; omega⟩
end
theorem but_put {p q : Addr} {H H1 : Hp} {o : HO} (b : But p H H1) (n : H1 q = none) : But p H (upd H1 q o) := fun c u e nc => by
  have e1 := b c u e nc
  rw [upd_ne (ne_of_none e1 n)]
  exact e1
theorem bag_put {p q : Addr} {H : Hp} {o : HO} (b : Bag H p) (n : H q = none) : Bag (upd H q o) p := by
  obtain ⟨g, m, c, e, r⟩ := b
  exact ⟨g, m, c, by rw [upd_ne (ne_of_none e n)]; exact e, r⟩
theorem bag_same {p : Addr} {H H1 : Hp} (b : Bag H p) (s : Same H H1) : Bag H1 p := by
  obtain ⟨g, m, c, e, r⟩ := b
  exact ⟨g, m, c, s _ _ e, r⟩
theorem bag_ne {p q : Addr} {H : Hp} (b : Bag H p) (n : H q = none) : q ≠ p := by
  obtain ⟨g, m, c, e, r⟩ := b
  exact (ne_of_none e n).symm

theorem wPA : ("push" : Str) ≠ "ask" := by decide +kernel
theorem wOA : ("pop" : Str) ≠ "ask" := by decide +kernel
end Ob

set_option Elab.async false
set_option linter.all false
set_option maxRecDepth 100000
set_option maxHeartbeats 1000000
namespace Ob
open PySem PySem.Spec PyProof.Rows L2
open LamX (Tabs TabB TabS ExtN)

/-- nothing stands there -/
structure Fr (H : Hp) (p : Addr) : Prop where
  h : H p = none
theorem neN {H : Hp} {a b : Addr} {o : HO} (h' : Fr H b) (h : H a = some o) : a ≠ b := ne_of_none h h'.h
theorem neN' {H : Hp} {a b : Addr} {o : HO} (h' : Fr H a) (h : H b = some o) : a ≠ b := (ne_of_none h h'.h).symm
theorem atNew {H : Hp} {a p : Addr} {o u : HO} (n : Fr H p) (h : H a = some o) : upd H p u a = some o := (upd_ne (ne_of_none h n.h)).trans h
theorem atNe {H : Hp} {a p : Addr} {o u : HO} (n : a ≠ p) (h : H a = some o) : upd H p u a = some o := (upd_ne n).trans h
theorem atSame {H H1 : Hp} {a : Addr} {o : HO} (s : Same H H1) (h : H a = some o) : H1 a = some o := s _ _ h
/-- all is kept but what stands in cs -/
structure Kp (cs : List Addr) (H H' : Hp) : Prop where
  at_ : ∀ b o, H b = some o → b ∉ cs → H' b = some o
theorem kp_refl (cs : List Addr) (H : Hp) : Kp cs H H := ⟨fun _ _ e _ => e⟩
theorem kp_trans {cs : List Addr} {H H1 H2 : Hp} (a : Kp cs H H1) (b : Kp cs H1 H2) : Kp cs H H2 := ⟨fun c o e n => b.at_ c o (a.at_ c o e n) n⟩
theorem kp_up {cs : List Addr} {H H1 : Hp} {a : Addr} {o : HO} (m : a ∈ cs) (h : Kp cs H H1) : Kp cs H (upd H1 a o) := ⟨fun b u e n => by
  rw [upd_ne (show b ≠ a from fun z => n (by rw [z]; exact m))]
  exact h.at_ b u e n⟩
theorem kp_new {cs : List Addr} {H H1 : Hp} {a : Addr} {o : HO} (m : Fr H1 a) (h : Kp cs H H1) : Kp cs H (upd H1 a o) := ⟨fun b u e n => by
  rw [upd_ne (ne_of_none (h.at_ b u e n) m.h)]
  exact h.at_ b u e n⟩
theorem kp_newF {cs : List Addr} {H H1 : Hp} {a : Addr} {o : HO} (m : Fr H a) (h : Kp cs H H1) : Kp cs H (upd H1 a o) := ⟨fun b u e n => by
  rw [upd_ne (ne_of_none e m.h)]
  exact h.at_ b u e n⟩
theorem kp_same {cs : List Addr} {H H1 : Hp} (s : Same H H1) : Kp cs H H1 := ⟨fun b o e _ => s b o e⟩
theorem kp_more {cs ds : List Addr} {H H1 : Hp} (h : Kp cs H H1) (m : ∀ a ∈ cs, a ∈ ds) : Kp ds H H1 := ⟨fun b o e n => h.at_ b o e fun z => n (m b z)⟩
/-- what is changed is new, as H sees it -/
theorem kp_fresh {cs ds : List Addr} {H H1 H2 : Hp} (a : Kp cs H H1) (b : Kp ds H1 H2) (n : ∀ x ∈ ds, x ∈ cs ∨ Fr H x) : Kp cs H H2 := ⟨fun x o e m => b.at_ x o (a.at_ x o e m) fun z => (n x z).elim m fun f => ne_of_none e f.h rfl⟩
theorem atKp {cs : List Addr} {H H1 : Hp} {a : Addr} {o : HO} (s : Kp cs H H1) (n : a ∉ cs) (h : H a = some o) : H1 a = some o := s.at_ _ _ h n
theorem not_nil {a : Addr} : a ∉ ([] : List Addr) := fun z => nomatch z
theorem not_cons {a b : Addr} {l : List Addr} (h : a ≠ b) (t : a ∉ l) : a ∉ b :: l := fun z => (List.mem_cons.mp z).elim h t
theorem not_app {a : Addr} {l m : List Addr} (h : a ∉ l) (t : a ∉ m) : a ∉ l ++ m := fun z => (List.mem_append.mp z).elim h t
theorem sqlOf {K : PySem.W.Frag} {H : Hp} {a : Addr} {xs : List V} (h : H a = some (.lst xs)) : SqL K H a xs := .inl (.inl h)
theorem sqtOf {K : PySem.W.Frag} {H : Hp} {a : Addr} {xs : List V} (h : H a = some (.tup xs)) : SqT K H a xs := .inl (.inl h)
theorem sqlSame {K : PySem.W.Frag} {H H1 : Hp} {a : Addr} {xs : List V} (s : Same H H1) (h : SqL K H a xs) : SqL K H1 a xs := s.seq h
theorem neO {H : Hp} {a b : Addr} {x y : HO} (ha : H a = some x) (hb : H b = some y) (n : x ≠ y) : a ≠ b := fun z => by
  rw [z, hb] at ha
  exact n (Option.some.inj ha).symm
theorem noneOf {H H1 : Hp} {p : Addr} (h : Fr H1 p) (k : ∀ o, H p = some o → ∃ u, H1 p = some u) : Fr H p := ⟨by
  cases e : H p with
  | none => rfl
  | some o =>
    obtain ⟨u, z⟩ := k o e
    rw [h.h] at z
    cases z⟩
theorem same_newF {H : Hp} {p : Addr} {o : HO} (n : Fr H p) : Same H (upd H p o) := same_new n.h
theorem same_putF {H H1 : Hp} {p : Addr} {o : HO} (n : Fr H1 p) (h : Same H H1) : Same H (upd H1 p o) := h.trans (same_new n.h)
theorem same_putG {H H1 : Hp} {p : Addr} {o : HO} (n : Fr H p) (h : Same H H1) : Same H (upd H1 p o) := same_put h n.h
theorem memA {a : Addr} {l : List Addr} : a ∈ a :: l := List.mem_cons_self ..
theorem memB {a b : Addr} {l : List Addr} (h : a ∈ l) : a ∈ b :: l := List.mem_cons_of_mem _ h
theorem memL {a : Addr} {l m : List Addr} (h : a ∈ l) : a ∈ l ++ m := List.mem_append.mpr (.inl h)
theorem memR {a : Addr} {l m : List Addr} (h : a ∈ m) : a ∈ l ++ m := List.mem_append.mpr (.inr h)
theorem kp_transR {cs : List Addr} {H H1 H2 : Hp} (b : Kp cs H1 H2) (a : Kp cs H H1) : Kp cs H H2 := kp_trans a b
theorem kp_sameR {cs : List Addr} {H H1 H2 : Hp} (b : Same H1 H2) (a : Kp cs H H1) : Kp cs H H2 := kp_trans a (kp_same b)
theorem kp_freshR {cs ds : List Addr} {H H1 H2 : Hp} (b : Kp ds H1 H2) (n : ∀ x ∈ ds, x ∈ cs ∨ Fr H x) (a : Kp cs H H1) : Kp cs H H2 := kp_fresh a b n
theorem same_transR {H H1 H2 : Hp} (b : Same H1 H2) (a : Same H H1) : Same H H2 := a.trans b
theorem subNil {P : Addr → Prop} : ∀ x ∈ ([] : List Addr), P x := fun _ h => nomatch h
theorem subCons {P : Addr → Prop} {a : Addr} {l : List Addr} (h : P a) (t : ∀ x ∈ l, P x) : ∀ x ∈ a :: l, P x := fun x m => (List.mem_cons.mp m).elim (fun e => by rw [e]; exact h) (t x)
theorem subApp {P : Addr → Prop} {l m : List Addr} (h : ∀ x ∈ l, P x) (t : ∀ x ∈ m, P x) : ∀ x ∈ l ++ m, P x := fun x e => (List.mem_append.mp e).elim (h x) (t x)
theorem sqtAll {K : PySem.W.Frag} {H : Hp} {a : Addr} {xs : List V} (h : ∀ H, SqT K H a xs) : SqT K H a xs := h H
theorem sqtSame {K : PySem.W.Frag} {H H1 : Hp} {a : Addr} {xs : List V} (s : Same H H1) (h : SqT K H a xs) : SqT K H1 a xs := by
  rcases h with (h | ⟨o, h⟩) | h
  · exact .inl (.inl (s _ _ h))
  · exact .inl (.inr ⟨o, s _ _ h⟩)
  · exact .inr h
theorem frUp {H : Hp} {a p : Addr} {o : HO} (n : p ≠ a) (h : Fr H p) : Fr (upd H a o) p := ⟨by rw [upd_ne n]; exact h.h⟩
theorem bag_putF {p q : Addr} {H : Hp} {o : HO} (n : Fr H q) (b : Bag H p) : Bag (upd H q o) p := bag_put b n.h
theorem bag_kpR {p : Addr} {cs : List Addr} {H H1 : Hp} (k : Kp cs H H1) (n : p ∉ cs) (h : Bag H p) : Bag H1 p := by
  obtain ⟨g, m, c, e, z⟩ := h
  exact ⟨g, m, c, k.at_ _ _ e n, z⟩

/-- a promise that a run does not open by itself -/
structure Bx (p : Prop) : Prop where
  h : p
def bx (sp : Sp) : Sp := fun vs H Q E => Bx (sp vs H Q E)
theorem fnBx {P : Program} {w : World} {K : PySem.W.Frag} {mg : Str → Option Value} {base : Heap} {CX : CXT} {k : Nat} {f : Addr} {fd : FuncData} {ps : List Str} {sp : Sp} (F : FnOk P w K mg base CX k f fd ps sp) : FnOk P w K mg base CX k f fd ps (bx sp) := F.imp fun _ _ _ _ h => h.h

set_option hygiene false in
local macro_rules
  | `(tactic| kp_flats) => `(tactic| first
    | assumption
    | exact upd_same
    | (apply atNew; assumption; kp_flats)
    | (apply atNe; (next => kbo_bools); kp_flats)
    | (apply atSame; assumption; kp_flats)
    | (apply atKp; assumption; (next => kaf_pre); kp_flats))
set_option hygiene false in
local macro_rules
  | `(tactic| kaf_pre) => `(tactic| first
    | assumption
    | exact not_nil
    | (apply not_cons; (next => kbo_bools); kaf_pre)
    | (apply not_app; (next => kaf_pre); kaf_pre))
set_option hygiene false in
local macro_rules
  | `(tactic| kbo_bools) => `(tactic| first
    | assumption
    | (apply Ne.symm; assumption)
    | (apply neN; assumption; kp_flats)
    | (apply neN'; assumption; kp_flats))
set_option hygiene false in
local macro_rules
  | `(tactic| o_reads) => `(tactic| first
    | with_reducible rfl
    | assumption
    | rfl
    | kp_flats
    | (show SqL _ _ _ _; first | assumption | (apply sqlOf; kp_flats) | (apply sqlSame; assumption; o_reads))
    | (show SqT _ _ _ _; first | assumption | (apply sqtOf; kp_flats) | (apply sqtAll; assumption) | (apply sqtSame; assumption; o_reads))
    | (show Cls _ _; first | skip)
    | (show NoAttr _ _ _; first | skip)
    | (apply Or.inl; o_reads)
    | (apply Or.inr; o_reads)
    | (apply And.intro; (next => o_reads); o_reads)
    | (apply Exists.intro; o_reads)
    | exact Nat.le_of_ble_eq_true rfl
    | exact Nat.succ_ne_zero _
    | (show Fr _ _; kba_ints)
    | (show Same _ _; kd_subs)
    | (show Kp _ _ _; kxs_still)
    | (show (_ : Nat) ≤ _; simp only [List.length_append, List.length_map, List.length_cons, List.length_nil, List.length_take, List.length_drop, List.length_replicate, List.length_range, sizeLine_eq]; omega)
    | (show _ = none; apply Fr.h; kba_ints)
    | (show Bag _ _; first | assumption | (apply bag_putF; assumption; o_reads) | (apply bag_neF; (next => kbo_bools); o_reads) | (apply bag_kpR; assumption; (next => kaf_pre); o_reads))
    | omega
    | decide)
local macro_rules
  | `(tactic| o_readsAll) => `(tactic| repeat (first
    | (refine fun (pNew : Addr) (nNew : _ = none) => ?_; replace nNew := Fr.mk nNew)
    | (refine fun (xNew dNew : Addr) (nNew : _ = none) (mNew : _ = none) (eNew : dNew ≠ xNew) => ?_; replace nNew := Fr.mk nNew; replace mNew := Fr.mk mNew)
    | (apply And.intro; next => o_reads)
    | apply Exists.intro (α := V)
    | apply Exists.intro (α := Addr)
    | apply Exists.intro (α := Int)
    | apply Exists.intro (α := Bool)
    | apply Exists.intro (α := List V)
    | apply Exists.intro (α := List Nat)
    | apply Exists.intro (α := List (Str × V))
    | apply Exists.intro (α := List _)
    | apply Exists.intro (α := Str)
    | apply Exists.intro (α := HO)
    | apply Exists.intro (α := Sp)
    | apply Exists.intro (α := VK)))
set_option hygiene false in
local macro_rules
  | `(tactic| kba_ints) => `(tactic| first
    | assumption
    | (apply frUp; (first | assumption | (apply Ne.symm; assumption)); kba_ints)
    | (apply noneOf; assumption; intro oF eF; apply Exists.intro; kp_flats)
    | (apply frUp; (next => kbo_bools); kba_ints))
set_option hygiene false in
local macro_rules
  | `(tactic| kxs_still) => `(tactic| first
    | assumption
    | exact kp_refl _ _
    | (apply kp_newF; assumption; kxs_still)
    | (apply kp_new; assumption; kxs_still)
    | (apply kp_up; (next => o_fieldsN); kxs_still)
    | (apply kp_new; (next => kba_ints); kxs_still)
    | (apply kp_sameR; assumption; kxs_still)
    | (apply kp_transR; assumption; kxs_still)
    | (apply kp_freshR; assumption; (next => kaf_suf); kxs_still))
set_option hygiene false in
local macro_rules
  | `(tactic| kaf_suf) => `(tactic| first
    | assumption
    | exact subNil
    | (apply subCons; (first | (apply Or.inl; o_fieldsN) | (apply Or.inr; kba_ints)); kaf_suf)
    | (apply subApp; (next => kaf_suf); kaf_suf))
set_option hygiene false in
local macro_rules
  | `(tactic| o_fieldsN) => `(tactic| first
    | assumption
    | exact memA
    | (apply memB; o_fieldsN)
    | (apply memL; o_fieldsN)
    | (apply memR; o_fieldsN))
set_option hygiene false in
local macro_rules
  | `(tactic| kd_subs) => `(tactic| first
    | assumption
    | exact Same.refl _
    | (apply same_putF; assumption; kd_subs)
    | (apply same_putG; assumption; kd_subs)
    | (apply same_putF; (next => kba_ints); kd_subs)
    | (apply same_transR; assumption; kd_subs))

set_option pp.maxSteps 900
/-! ### the size of a walk -/
section
variable {P : Program} {w : World} {K : PySem.W.Frag} {mg : Str → Option Value} {base : Heap}
def spWs : Sp := fun vs H Q _ => ∃ n : Nat, vs = [.int (n : Int)] ∧ n ≤ 100000 ∧ ∀ j : Nat, n ≤ 2 ^ j → (j = 0 ∨ 2 ^ (j - 1) < n) → Q (.int ((2 ^ j : Nat) : Int)) H
theorem ok_ws (T : Txt K mg) : FnOk P w K mg base CX0 1 T.f_walk_size T.d_walk_size ["length"] spWs := by
  refine T.F_walk_size.ok sc_walk_size (fun vs H Q E h => ?_) (fun cdv A outer s H vs Q E hr h => ?_)
  · obtain ⟨n, rfl, _⟩ := h
    rfl
  · obtain ⟨n, rfl, hn, q⟩ := h
    refine ⟨_, (pss_cons (ps_set (i := 1) sc_walk_size.nd rfl (.inl rfl) pe_int)
      (pss_cons (ps_while PassesOwn.never (pt_cmpR op_lt (pv 1) (pv 0) (nomark _)) (pss_one (ps_aug (i := 1) sc_walk_size.nd rfl (.inl rfl) pe_int iop_mul)))
      (pss_one (ps_ret (pv 1))))), ?_⟩
    refine while_by (fun σ H' => ∃ j : Nat, σ = [some (.int (n : Int)), some (.int ((2 ^ j : Nat) : Int))] ∧ (j = 0 ∨ 2 ^ (j - 1) < n) ∧ H' = H) (fun σ _ => n - intAt σ 1) ⟨0, rfl, .inl rfl, rfl⟩ ?_ ?_
    · rintro σ H' ⟨j, rfl, hj, rfl⟩
      refine ⟨_, rfl, _, rfl, _, _, rfl, rfl, _, rfl, ite2 (fun e => ?_) (fun e => ?_)⟩
      · have e1 := of_decide_eq_true e
        have e2 : 2 ^ j < n := by omega
        refine ⟨_, rfl, _, _, rfl, rfl, ?_, ⟨j + 1, ?_, .inr e2, rfl⟩, ?_⟩
        · exact .inr ⟨by decide, by decide⟩
        · show [some (V.int (n : Int)), some (V.int (((2 ^ j : Nat) : Int) * 2))] = _
          rw [Nat.pow_succ, Int.natCast_mul]
          rfl
        · show n - (((2 ^ j : Nat) : Int) * 2).toNat < n - (((2 ^ j : Nat) : Int)).toNat
          have := Nat.two_pow_pos j
          omega
      · have e1 : ¬ ((2 ^ j : Nat) : Int) < (n : Int) := fun z => e (decide_eq_true z)
        show ∃ _, _
        exact ⟨_, rfl, q j (by omega) hj⟩
    · rintro σ H' Q1 Q2 m ⟨x, hx, y, hy, i, j, e1, e2, c, e3, q⟩
      exact ⟨x, hx, y, hy, i, j, e1, e2, c, e3, m _ _ q⟩
end
end Ob

set_option Elab.async false
set_option linter.all false
set_option maxRecDepth 100000
set_option maxHeartbeats 1000000
namespace Ob
open PySem PySem.Spec PyProof.Rows L2
open LamX (Tabs TabB TabS ExtN)

set_option hygiene false in
local macro_rules
  | `(tactic| kp_flats) => `(tactic| first
    | assumption
    | exact upd_same
    | (apply atNew; assumption; kp_flats)
    | (apply atNe; (next => kbo_bools); kp_flats)
    | (apply atSame; assumption; kp_flats)
    | (apply atKp; assumption; (next => kaf_pre); kp_flats))
set_option hygiene false in
local macro_rules
  | `(tactic| kaf_pre) => `(tactic| first
    | assumption
    | exact not_nil
    | (apply not_cons; (next => kbo_bools); kaf_pre)
    | (apply not_app; (next => kaf_pre); kaf_pre))
set_option hygiene false in
local macro_rules
  | `(tactic| kbo_bools) => `(tactic| first
    | assumption
    | (apply Ne.symm; assumption)
    | (apply neN; assumption; kp_flats)
    | (apply neN'; assumption; kp_flats))
set_option hygiene false in
local macro_rules
  | `(tactic| o_reads) => `(tactic| first
    | with_reducible rfl
    | assumption
    | rfl
    | kp_flats
    | (show SqL _ _ _ _; first | assumption | (apply sqlOf; kp_flats) | (apply sqlSame; assumption; o_reads))
    | (show SqT _ _ _ _; first | assumption | (apply sqtOf; kp_flats) | (apply sqtAll; assumption) | (apply sqtSame; assumption; o_reads))
    | (show Cls _ _; first | skip)
    | (show NoAttr _ _ _; first | skip)
    | (apply Or.inl; o_reads)
    | (apply Or.inr; o_reads)
    | (apply And.intro; (next => o_reads); o_reads)
    | (apply Exists.intro; o_reads)
    | exact Nat.le_of_ble_eq_true rfl
    | exact Nat.succ_ne_zero _
    | (show Fr _ _; kba_ints)
    | (show Same _ _; kd_subs)
    | (show Kp _ _ _; kxs_still)
    | (show (_ : Nat) ≤ _; simp only [List.length_append, List.length_map, List.length_cons, List.length_nil, List.length_take, List.length_drop, List.length_replicate, List.length_range, sizeLine_eq]; omega)
    | (show _ = none; apply Fr.h; kba_ints)
    | (show Bag _ _; first | assumption | (apply bag_putF; assumption; o_reads) | (apply bag_neF; (next => kbo_bools); o_reads) | (apply bag_kpR; assumption; (next => kaf_pre); o_reads))
    | omega
    | decide)
local macro_rules
  | `(tactic| o_readsAll) => `(tactic| repeat (first
    | (refine fun (pNew : Addr) (nNew : _ = none) => ?_; replace nNew := Fr.mk nNew)
    | (refine fun (xNew dNew : Addr) (nNew : _ = none) (mNew : _ = none) (eNew : dNew ≠ xNew) => ?_; replace nNew := Fr.mk nNew; replace mNew := Fr.mk mNew)
    | (apply And.intro; next => o_reads)
    | apply Exists.intro (α := V)
    | apply Exists.intro (α := Addr)
    | apply Exists.intro (α := Int)
    | apply Exists.intro (α := Bool)
    | apply Exists.intro (α := List V)
    | apply Exists.intro (α := List Nat)
    | apply Exists.intro (α := List (Str × V))
    | apply Exists.intro (α := List _)
    | apply Exists.intro (α := Str)
    | apply Exists.intro (α := HO)
    | apply Exists.intro (α := Sp)
    | apply Exists.intro (α := VK)))
set_option hygiene false in
local macro_rules
  | `(tactic| kba_ints) => `(tactic| first
    | assumption
    | (apply frUp; (first | assumption | (apply Ne.symm; assumption)); kba_ints)
    | (apply noneOf; assumption; intro oF eF; apply Exists.intro; kp_flats)
    | (apply frUp; (next => kbo_bools); kba_ints))
set_option hygiene false in
local macro_rules
  | `(tactic| kxs_still) => `(tactic| first
    | assumption
    | exact kp_refl _ _
    | (apply kp_newF; assumption; kxs_still)
    | (apply kp_new; assumption; kxs_still)
    | (apply kp_up; (next => o_fieldsN); kxs_still)
    | (apply kp_new; (next => kba_ints); kxs_still)
    | (apply kp_sameR; assumption; kxs_still)
    | (apply kp_transR; assumption; kxs_still)
    | (apply kp_freshR; assumption; (next => kaf_suf); kxs_still))
set_option hygiene false in
local macro_rules
  | `(tactic| kaf_suf) => `(tactic| first
    | assumption
    | exact subNil
    | (apply subCons; (first | (apply Or.inl; o_fieldsN) | (apply Or.inr; kba_ints)); kaf_suf)
    | (apply subApp; (next => kaf_suf); kaf_suf))
set_option hygiene false in
local macro_rules
  | `(tactic| o_fieldsN) => `(tactic| first
    | assumption
    | exact memA
    | (apply memB; o_fieldsN)
    | (apply memL; o_fieldsN)
    | (apply memR; o_fieldsN))
set_option hygiene false in
local macro_rules
  | `(tactic| kd_subs) => `(tactic| first
    | assumption
    | exact Same.refl _
    | (apply same_putF; assumption; kd_subs)
    | (apply same_putG; assumption; kd_subs)
    | (apply same_putF; (next => kba_ints); kd_subs)
    | (apply same_transR; assumption; kd_subs))

def Mu (H : Hp) (cs : List Addr) : Prop := ∀ a ∈ cs, ∃ o, H a = some o ∧ (∀ xs, o ≠ .tup xs) ∧ ∀ φ, o ≠ .ext φ
theorem Mu.tup {H : Hp} {cs : List Addr} {t : Addr} {xs : List V} (n : Mu H cs) (h : H t = some (.tup xs)) : t ∉ cs := fun m => by
  obtain ⟨o, e, k, _⟩ := n t m
  rw [h] at e
  exact k xs (Option.some.inj e).symm
theorem Mu.ext {H : Hp} {cs : List Addr} {t : Addr} {φ : Heap → Prop} (n : Mu H cs) (h : H t = some (.ext φ)) : t ∉ cs := fun m => by
  obtain ⟨o, e, _, k⟩ := n t m
  rw [h] at e
  exact k φ (Option.some.inj e).symm
theorem Mu.fr {H : Hp} {cs : List Addr} {a : Addr} (n : Mu H cs) (f : Fr H a) : a ∉ cs := fun m => by
  obtain ⟨o, e, _⟩ := n a m
  rw [f.h] at e
  cases e
theorem Mu.sub {H : Hp} {cs ds : List Addr} (n : Mu H cs) (s : ∀ a ∈ ds, a ∈ cs) : Mu H ds := fun a m => n a (s a m)
theorem mu_nil {H : Hp} : Mu H [] := fun _ m => nomatch m
theorem mu_cons {H : Hp} {a : Addr} {o : HO} {l : List Addr} (e : H a = some o) (k : ∀ xs, o ≠ .tup xs) (k2 : ∀ φ, o ≠ .ext φ) (t : Mu H l) : Mu H (a :: l) := fun x m => (List.mem_cons.mp m).elim (fun z => by rw [z]; exact ⟨o, e, k, k2⟩) (t x)
theorem mu_lst {H : Hp} {a : Addr} {xs : List V} {l : List Addr} (e : H a = some (.lst xs)) (t : Mu H l) : Mu H (a :: l) := mu_cons e (fun _ z => nomatch z) (fun _ z => nomatch z) t
theorem mu_ins {H : Hp} {a C dx : Addr} {fs : List (Str × V)} {l : List Addr} (e : H a = some (.ins C dx fs)) (t : Mu H l) : Mu H (a :: l) := mu_cons e (fun _ z => nomatch z) (fun _ z => nomatch z) t
theorem mu_app {H : Hp} {l m : List Addr} (a : Mu H l) (b : Mu H m) : Mu H (l ++ m) := fun x h => (List.mem_append.mp h).elim (a x) (b x)
/-- what does not change stays; what changes is told again -/
theorem Mu.kp {H H1 : Hp} {cs ds : List Addr} (n : Mu H cs) (k : Kp ds H H1) (m : Mu H1 ds) : Mu H1 cs := fun a ha => by
  by_cases e : a ∈ ds
  · exact m a e
  · obtain ⟨o, h1, h2⟩ := n a ha
    exact ⟨o, k.at_ _ _ h1 e, h2⟩
theorem Mu.same {H H1 : Hp} {cs : List Addr} (n : Mu H cs) (s : Same H H1) : Mu H1 cs := fun a m => (n a m).imp fun _ z => ⟨s _ _ z.1, z.2⟩
theorem kp_tup {cs : List Addr} {H H1 : Hp} (k : Kp cs H H1) (n : Mu H cs) {t : Addr} {xs : List V} (h : H t = some (.tup xs)) : H1 t = some (.tup xs) := k.at_ _ _ h (n.tup h)

set_option pp.maxSteps 900
/-! ### the entries of a walk -/
abbrev nV (k : Nat) : V := .int (k : Int)
def WEnt (H : Hp) (x : V) (e : Str × Nat) : Prop := ∃ p : Addr, x = .ref p ∧ H p = some (.tup [.str e.1, .int (e.2 : Int)])
theorem WEnt.kp {H H1 : Hp} {x : V} {e : Str × Nat} {cs : List Addr} (h : WEnt H x e) (k : Kp cs H H1) (m : Mu H cs) : WEnt H1 x e := by
  obtain ⟨p, h1, h2⟩ := h
  exact ⟨p, h1, kp_tup k m h2⟩
structure WLog (H : Hp) (xs : List V) (es : List (Str × Nat)) : Prop where
  len : xs.length = es.length
  at_ : ∀ (q : Nat) (x : V) (e : Str × Nat), xs[q]? = some x → es[q]? = some e → WEnt H x e
theorem WLog.kp {H H1 : Hp} {xs : List V} {es : List (Str × Nat)} {cs : List Addr} (h : WLog H xs es) (k : Kp cs H H1) (m : Mu H cs) : WLog H1 xs es := ⟨h.len, fun q x e a b => (h.at_ q x e a b).kp k m⟩
theorem WLog.nil {H : Hp} : WLog H [] [] := ⟨rfl, fun q x e z => by cases q <;> cases z⟩
theorem WLog.app {H : Hp} {xs ys : List V} {es fs : List (Str × Nat)} (h : WLog H xs es) (g : WLog H ys fs) : WLog H (xs ++ ys) (es ++ fs) := by
  refine ⟨by rw [List.length_append, List.length_append, h.len, g.len], fun q x e a b => ?_⟩
  by_cases c : q < xs.length
  · rw [List.getElem?_append_left c] at a
    rw [List.getElem?_append_left (by rw [← h.len]; exact c)] at b
    exact h.at_ q x e a b
  · rw [List.getElem?_append_right (by omega)] at a
    rw [List.getElem?_append_right (by rw [← h.len]; omega), ← h.len] at b
    exact g.at_ _ x e a b
theorem WLog.one {H : Hp} {x : V} {e : Str × Nat} (h : WEnt H x e) : WLog H [x] [e] := ⟨rfl, fun q y d a b => by
  match q, a, b with
  | 0, a, b =>
    cases a
    cases b
    exact h
  | q + 1, a, _ => cases q <;> cases a⟩
theorem wstep {H0 H1 : Hp} {D t : Addr} {ys : List V} {es : List (Str × Nat)} {e : Str × Nat} (fD : Fr H0 D) (s : Same H0 H1) (eD : H1 D = some (.lst ys)) (wl : WLog H1 ys es) (nt : H1 t = none) :
    upd H1 t (.tup [.str e.1, .int (e.2 : Int)]) D = some (.lst ys) ∧ Same H0 (upd (upd H1 t (.tup [.str e.1, .int (e.2 : Int)])) D (.lst (ys ++ [.ref t]))) ∧ ∃ zs, upd (upd H1 t (.tup [.str e.1, .int (e.2 : Int)])) D (.lst (ys ++ [.ref t])) D = some (.lst zs) ∧ WLog (upd (upd H1 t (.tup [.str e.1, .int (e.2 : Int)])) D (.lst (ys ++ [.ref t]))) zs (es ++ [e]) := by
  have ft := Fr.mk nt
  have st : Same H1 (upd H1 t (.tup [.str e.1, .int (e.2 : Int)])) := same_newF ft
  have eD2 := st _ _ eD
  have mD : Mu (upd H1 t (.tup [.str e.1, .int (e.2 : Int)])) [D] := mu_lst eD2 mu_nil
  have kD : Kp [D] (upd H1 t (.tup [.str e.1, .int (e.2 : Int)])) (upd (upd H1 t (.tup [.str e.1, .int (e.2 : Int)])) D (.lst (ys ++ [.ref t]))) := kp_up memA (kp_refl _ _)
  exact ⟨eD2, same_putG fD (s.trans st), _, upd_same, ((wl.kp (kp_same (cs := []) st) mu_nil).kp kD mD).app (WLog.one (WEnt.kp ⟨t, rfl, upd_same⟩ kD mD))⟩
theorem take_map {α β : Type} (f : α → β) {l : List α} {i : Nat} {x : α} (h : l[i]? = some x) : (l.take (i + 1)).map f = (l.take i).map f ++ [f x] := by
  rw [List.take_succ, h, List.map_append]
  rfl
section
variable {P : Program} {w : World} {K : PySem.W.Frag} {mg : Str → Option Value} {base : Heap}
def spPush : Sp := fun vs H Q _ => ∃ (a : Addr) (ns : List Nat), vs = [.ref a] ∧ H a = some (.lst (ns.map nV)) ∧ ns.length < 4000000 ∧ ∀ p xs H', Fr H p → Same H H' → H' p = some (.lst xs) → WLog H' xs (ns.map fun i => ("push", i)) → Q (.ref p) H'
theorem ok_push (T : Txt K mg) : FnOk P w K mg base CX0 1 T.f_plan_pushes T.d_plan_pushes ["numbers"] spPush := by
  refine T.F_plan_pushes.ok sc_plan_pushes (fun vs H Q E h => ?_) (fun cdv A outer s H vs Q E hr h => ?_)
  · obtain ⟨a, ns, rfl, _⟩ := h
    rfl
  · obtain ⟨a, ns, rfl, ha, hn, q⟩ := h
    refine ⟨_, (pss_one (ps_ret (pe_lc (own := [("number", 1)]) (g := gName 1) (tt := tYes) rfl sc_plan_pushes.nd (pi_list (pv 0)) (blkOk_by (N := n_plan_pushes) (sc := defScope s_plan_pushes) (by decide +kernel)) (fun _ _ _ _ _ => (pg_name (i := 1) sc_plan_pushes.nd rfl (.inl rfl))) (fun _ _ _ _ _ => pts_nil) (fun _ _ _ _ _ => (pe_tup (pa_cons pe_str (pa_cons (pv 1) pa_nil))))))), ?_⟩
    refine ⟨_, rfl, a, rfl, ⟨_, sqlOf ha⟩, fun D nD => ?_⟩
    have fD := Fr.mk nD
    refine lc_it (walk_list (K := K) (a := a) (xs := ns.map nV)) (fun i H' => Same H H' ∧ ∃ ys, H' D = some (.lst ys) ∧ WLog H' ys ((ns.take i).map fun i => (("push" : Str), i))) ⟨same_newF fD, [], upd_same, WLog.nil⟩ (fun i H' _ z => sqlOf (z.1 _ _ ha)) ?_ ?_
    · rintro i x H1 H2 hi ⟨s1, ys, eD, wl⟩ ⟨rfl, hx⟩
      have li := List.length_map (as := ns) nV
      obtain ⟨n, hn', rfl⟩ : ∃ n : Nat, ns[i]? = some n ∧ x = .int (n : Int) := by
        rw [List.getElem?_map] at hx
        obtain ⟨n, h1, h2⟩ := Option.map_eq_some_iff.mp hx
        exact ⟨n, h1, h2.symm⟩
      refine ⟨rfl, ?_⟩
      unfold tYes
      refine ifT rfl ?_
      refine ⟨_, rfl, le2, fun t nt => ?_⟩
      obtain ⟨z1, z2, z3⟩ := wstep (e := ("push", n)) fD s1 eD wl nt
      refine ⟨ys, z1, ?_, z2, ?_⟩
      · rw [wl.len, List.length_map, sizeLine_eq]
        have := List.length_take_le i ns
        omega
      · rw [take_map (fun i => (("push" : Str), i)) hn']
        exact z3
    · rintro H1 ⟨s1, ys, eD, wl⟩
      have hl : ns.length = ns.length := rfl
      rw [List.length_map, ← hl, List.take_length] at wl
      exact q _ _ _ fD s1 eD wl
def spPops : Sp := fun vs H Q _ => ∃ (a : Addr) (ns : List Nat), vs = [.ref a] ∧ H a = some (.lst (ns.map nV)) ∧ ns.length < 4000000 ∧ ∀ p xs H', Fr H p → Same H H' → H' p = some (.lst xs) → WLog H' xs (ns.reverse.map fun i => ("pop", i)) → Q (.ref p) H'
theorem ok_pops (T : Txt K mg) : FnOk P w K mg base CX0 1 T.f_plan_pops T.d_plan_pops ["numbers"] spPops := by
  refine T.F_plan_pops.ok sc_plan_pops (fun vs H Q E h => ?_) (fun cdv A outer s H vs Q E hr h => ?_)
  · obtain ⟨a, ns, rfl, _⟩ := h
    rfl
  · obtain ⟨a, ns, rfl, ha, hn, q⟩ := h
    refine ⟨_, (pss_one (ps_ret (pe_lc (own := [("number", 1)]) (g := gName 1) (tt := tYes) rfl sc_plan_pops.nd (RT.pi_revA (by rfl) T.z_reversed (pv 0)) (blkOk_by (N := n_plan_pops) (sc := defScope s_plan_pops) (by decide +kernel)) (fun _ _ _ _ _ => (pg_name (i := 1) sc_plan_pops.nd rfl (.inl rfl))) (fun _ _ _ _ _ => pts_nil) (fun _ _ _ _ _ => (pe_tup (pa_cons pe_str (pa_cons (pv 1) pa_nil))))))), ?_⟩
    refine ⟨_, rfl, a, _, rfl, .inl ⟨sqlOf ha, fun D nD => ?_⟩⟩
    have fD := Fr.mk nD
    refine lc_it (walk_rev (K := K) (a := a) (xs := ns.map nV)) (fun i H' => Same H H' ∧ ∃ ys, H' D = some (.lst ys) ∧ WLog H' ys ((ns.reverse.take i).map fun i => (("pop" : Str), i))) ⟨same_newF fD, [], upd_same, WLog.nil⟩ (fun i H' _ z => sqlOf (z.1 _ _ ha)) ?_ ?_
    · rintro i x H1 H2 hi ⟨s1, ys, eD, wl⟩ ⟨rfl, hx⟩
      have li := List.length_map (as := ns) nV
      obtain ⟨n, hn', rfl⟩ : ∃ n : Nat, ns.reverse[i]? = some n ∧ x = .int (n : Int) := by
        rw [List.getElem?_map] at hx
        obtain ⟨n, h1, h2⟩ := Option.map_eq_some_iff.mp hx
        rw [li] at h1 hi
        exact ⟨n, by rw [List.getElem?_reverse hi]; exact h1, h2.symm⟩
      refine ⟨rfl, ?_⟩
      unfold tYes
      refine ifT rfl ?_
      refine ⟨_, rfl, le2, fun t nt => ?_⟩
      obtain ⟨z1, z2, z3⟩ := wstep (e := ("pop", n)) fD s1 eD wl nt
      refine ⟨ys, z1, ?_, z2, ?_⟩
      · rw [wl.len, List.length_map, sizeLine_eq]
        have := List.length_take_le i ns.reverse
        rw [li] at hi
        omega
      · rw [take_map (fun i => (("pop" : Str), i)) hn']
        exact z3
    · rintro H1 ⟨s1, ys, eD, wl⟩
      have hl : ns.reverse.length = ns.length := List.length_reverse
      rw [List.length_map, ← hl, List.take_length] at wl
      exact q _ _ _ fD s1 eD wl
end
end Ob

set_option Elab.async false
set_option linter.all false
set_option maxRecDepth 100000
set_option maxHeartbeats 1000000
namespace Ob
open PySem PySem.Spec PyProof.Rows L2
open LamX (Tabs TabB TabS ExtN)

set_option hygiene false in
local macro_rules
  | `(tactic| kp_flats) => `(tactic| first
    | assumption
    | exact upd_same
    | (apply atNew; assumption; kp_flats)
    | (apply atNe; (next => kbo_bools); kp_flats)
    | (apply atSame; assumption; kp_flats)
    | (apply atKp; assumption; (next => kaf_pre); kp_flats))
set_option hygiene false in
local macro_rules
  | `(tactic| kaf_pre) => `(tactic| first
    | assumption
    | exact not_nil
    | (apply not_cons; (next => kbo_bools); kaf_pre)
    | (apply not_app; (next => kaf_pre); kaf_pre))
set_option hygiene false in
local macro_rules
  | `(tactic| kbo_bools) => `(tactic| first
    | assumption
    | (apply Ne.symm; assumption)
    | (apply neN; assumption; kp_flats)
    | (apply neN'; assumption; kp_flats))
set_option hygiene false in
local macro_rules
  | `(tactic| o_reads) => `(tactic| first
    | with_reducible rfl
    | assumption
    | rfl
    | kp_flats
    | (show SqL _ _ _ _; first | assumption | (apply sqlOf; kp_flats) | (apply sqlSame; assumption; o_reads))
    | (show SqT _ _ _ _; first | assumption | (apply sqtOf; kp_flats) | (apply sqtAll; assumption) | (apply sqtSame; assumption; o_reads))
    | (show Cls _ _; first | skip)
    | (show NoAttr _ _ _; first | skip)
    | (apply Or.inl; o_reads)
    | (apply Or.inr; o_reads)
    | (apply And.intro; (next => o_reads); o_reads)
    | (apply Exists.intro; o_reads)
    | exact Nat.le_of_ble_eq_true rfl
    | exact Nat.succ_ne_zero _
    | (show Fr _ _; kba_ints)
    | (show Same _ _; kd_subs)
    | (show Kp _ _ _; kxs_still)
    | (show (_ : Nat) ≤ _; simp only [List.length_append, List.length_map, List.length_cons, List.length_nil, List.length_take, List.length_drop, List.length_replicate, List.length_range, sizeLine_eq]; omega)
    | (show _ = none; apply Fr.h; kba_ints)
    | (show Bag _ _; first | assumption | (apply bag_putF; assumption; o_reads) | (apply bag_neF; (next => kbo_bools); o_reads) | (apply bag_kpR; assumption; (next => kaf_pre); o_reads))
    | omega
    | decide)
local macro_rules
  | `(tactic| o_readsAll) => `(tactic| repeat (first
    | (refine fun (pNew : Addr) (nNew : _ = none) => ?_; replace nNew := Fr.mk nNew)
    | (refine fun (xNew dNew : Addr) (nNew : _ = none) (mNew : _ = none) (eNew : dNew ≠ xNew) => ?_; replace nNew := Fr.mk nNew; replace mNew := Fr.mk mNew)
    | (apply And.intro; next => o_reads)
    | apply Exists.intro (α := V)
    | apply Exists.intro (α := Addr)
    | apply Exists.intro (α := Int)
    | apply Exists.intro (α := Bool)
    | apply Exists.intro (α := List V)
    | apply Exists.intro (α := List Nat)
    | apply Exists.intro (α := List (Str × V))
    | apply Exists.intro (α := List _)
    | apply Exists.intro (α := Str)
    | apply Exists.intro (α := HO)
    | apply Exists.intro (α := Sp)
    | apply Exists.intro (α := VK)))
set_option hygiene false in
local macro_rules
  | `(tactic| kba_ints) => `(tactic| first
    | assumption
    | (apply frUp; (first | assumption | (apply Ne.symm; assumption)); kba_ints)
    | (apply noneOf; assumption; intro oF eF; apply Exists.intro; kp_flats)
    | (apply frUp; (next => kbo_bools); kba_ints))
set_option hygiene false in
local macro_rules
  | `(tactic| kxs_still) => `(tactic| first
    | assumption
    | exact kp_refl _ _
    | (apply kp_newF; assumption; kxs_still)
    | (apply kp_new; assumption; kxs_still)
    | (apply kp_up; (next => o_fieldsN); kxs_still)
    | (apply kp_new; (next => kba_ints); kxs_still)
    | (apply kp_sameR; assumption; kxs_still)
    | (apply kp_transR; assumption; kxs_still)
    | (apply kp_freshR; assumption; (next => kaf_suf); kxs_still))
set_option hygiene false in
local macro_rules
  | `(tactic| kaf_suf) => `(tactic| first
    | assumption
    | exact subNil
    | (apply subCons; (first | (apply Or.inl; o_fieldsN) | (apply Or.inr; kba_ints)); kaf_suf)
    | (apply subApp; (next => kaf_suf); kaf_suf))
set_option hygiene false in
local macro_rules
  | `(tactic| o_fieldsN) => `(tactic| first
    | assumption
    | exact memA
    | (apply memB; o_fieldsN)
    | (apply memL; o_fieldsN)
    | (apply memR; o_fieldsN))
set_option hygiene false in
local macro_rules
  | `(tactic| kd_subs) => `(tactic| first
    | assumption
    | exact Same.refl _
    | (apply same_putF; assumption; kd_subs)
    | (apply same_putG; assumption; kd_subs)
    | (apply same_putF; (next => kba_ints); kd_subs)
    | (apply same_transR; assumption; kd_subs))

set_option pp.maxSteps 900
/-! ### a visit to a node -/
def pushW (ns : List Nat) : List (Str × Nat) := ns.map fun i => ("push", i)
def popW (ns : List Nat) : List (Str × Nat) := ns.reverse.map fun i => ("pop", i)
def askedIn (bs : List Bool) (f s : Nat) : Bool := ((bs.drop f).take s).any id
def walkW (N : Nat → Nat → List Nat) (bs : List Bool) : Nat → Nat → List (Str × Nat)
  | 0, f => if askedIn bs f 1 = true then pushW (N f 1) ++ [(("ask" : Str), f)] ++ popW (N f 1) else []
  | k + 1, f => if askedIn bs f (2 ^ (k + 1)) = true then pushW (N f (2 ^ (k + 1))) ++ (walkW N bs k f ++ walkW N bs k (f + 2 ^ k)) ++ popW (N f (2 ^ (k + 1))) else []
def midW (N : Nat → Nat → List Nat) (bs : List Bool) : Nat → Nat → List (Str × Nat)
  | 0, f => [("ask", f)]
  | k + 1, f => walkW N bs k f ++ walkW N bs k (f + 2 ^ k)
theorem walkW_eq {N : Nat → Nat → List Nat} {bs : List Bool} {k f : Nat} : walkW N bs k f = if askedIn bs f (2 ^ k) = true then pushW (N f (2 ^ k)) ++ midW N bs k f ++ popW (N f (2 ^ k)) else [] := by
  cases k with
  | zero => rfl
  | succ k => rfl
/-- the members by the nodes of a walk, in a dict -/
def NodesAt (H : Hp) (kvs : List (List Key × V)) (N : Nat → Nat → List Nat) : Prop := ∀ f s : Nat, (N f s).length < 4000000 ∧ ((valV kvs [.inl (f : Int), .inl (s : Int)] = none ∧ N f s = []) ∨ ∃ a, valV kvs [.inl (f : Int), .inl (s : Int)] = some (.ref a) ∧ H a = some (.lst ((N f s).map nV)))
theorem NodesAt.kp {H H1 : Hp} {kvs : List (List Key × V)} {N : Nat → Nat → List Nat} {cs : List Addr} (h : NodesAt H kvs N) (k : Kp cs H H1) (n : ∀ f s a, valV kvs [.inl ((f : Nat) : Int), .inl ((s : Nat) : Int)] = some (.ref a) → a ∉ cs) : NodesAt H1 kvs N := fun f s => by
  obtain ⟨h0, h1⟩ := h f s
  exact ⟨h0, h1.imp id fun ⟨a, e, ea⟩ => ⟨a, e, k.at_ _ _ ea (n f s a e)⟩⟩
theorem cut_range {xs : List V} {f s : Nat} : cutV xs (some (f : Int)) (some ((f : Int) + (s : Int))) = (xs.drop f).take s := by
  unfold cutV
  have e1 : HT.sIx xs.length 0 (some (f : Int)) = min f xs.length := by
    simp [HT.sIx]
    try omega
  have e2 : HT.sIx xs.length xs.length (some ((f : Int) + (s : Int))) = min (f + s) xs.length := by
    simp [HT.sIx]
    rw [if_neg (by omega), show ((f : Int) + (s : Int)).toNat = f + s by omega]
  rw [e1, e2]
  by_cases h : f ≤ xs.length
  · rw [Nat.min_eq_left h]
    refine List.take_eq_take_iff.mpr ?_
    rw [List.length_drop]
    omega
  · rw [Nat.min_eq_right (show xs.length ≤ f by omega), List.drop_eq_nil_of_le (Nat.le_refl xs.length), List.drop_eq_nil_of_le (show xs.length ≤ f by omega), List.take_nil, List.take_nil]
section
variable {P : Program} {w : World} {K : PySem.W.Frag} {mg : Str → Option Value} {base : Heap}
def spVis : Nat → Sp
  | 0 => fun _ _ _ _ => False
  | k + 1 => fun vs H Q _ => ∃ (en nd ak : Addr) (f : Nat) (xs0 : List V) (kvs : List (List Key × V)) (bs : List Bool) (N : Nat → Nat → List Nat), vs = [.ref en, .ref nd, .ref ak, .int (f : Int), .int ((2 ^ k : Nat) : Int)] ∧ H en = some (.lst xs0) ∧ H nd = some (.dT kvs) ∧ H ak = some (.lst (bs.map V.bl)) ∧ NodesAt H kvs N ∧
    (∀ f s a, valV kvs [.inl ((f : Nat) : Int), .inl ((s : Nat) : Int)] = some (.ref a) → a ≠ en) ∧ ak ≠ en ∧ f + 2 ^ k ≤ 2 ^ 20 ∧ bs.length ≤ 2 ^ 20 ∧ xs0.length + (walkW N bs k f).length < 2 ^ 24 ∧
    ∀ ys H', Kp [en] H H' → H' en = some (.lst (xs0 ++ ys)) → WLog H' ys (walkW N bs k f) → Q .non H'
theorem ok_visit (T : Txt K mg) : ∀ k, FnOk P w K mg base CX0 (k + 2) T.f_visit T.d_visit ["entries", "nodes", "asked", "first", "size"] (spVis k)
  | 0 => ⟨fun _ _ _ _ h => h.elim, fun _ _ _ _ _ _ _ _ _ _ _ _ _ h => h.elim⟩
  | k + 1 => by
    have G_visit := ok_visit T k
    have G_plan_pushes := ok_push (P := P) (w := w) (base := base) T
    have G_plan_pops := ok_pops (P := P) (w := w) (base := base) T
    refine T.F_visit.ok sc_visit (fun vs H Q E h => ?_) (fun cdv A outer s H vs Q E hr h => ?_)
    · obtain ⟨en, nd, ak, f, xs0, kvs, bs, N, rfl, _⟩ := h
      rfl
    · obtain ⟨en, nd, ak, f, xs0, kvs, bs, N, rfl, he, hn, ha, hN, hne, nae, hf, hb, hx, q⟩ := h
      refine ⟨_, (pss_cons (ps_if (pt_not (pt_truth (pe_callB (cr_any rfl) (by rfl) T.z_any (by decide +kernel) (pa_cons (pe_slice sl_list (pv 2) (po_some (pv 3)) (po_some (pe_op op_add (pv 3) (pv 4)))) pa_nil)) (by intro _; rfl))) (pss_one ps_retN) pss_nil)
      (pss_cons (ps_set (i := 5) sc_visit.nd rfl (.inl rfl) (pe_dget2 (hu_of hr) (pv 1) (pe_tup (pa_cons (pv 3) (pa_cons (pv 4) pa_nil))) (pe_lst pa_nil) ⟨rfl, rfl, rfl, rfl⟩))
      (pss_cons (ps_expr (pe_bm PySem.F.plainAttrs_list PySem.F.slot_list_extend PySem.F.type_list_extend mt_extend (pv 0) (pa_cons (pe_call G_plan_pushes (hr.mono (by omega)) rfl T.g_plan_pushes T.F_plan_pushes.kp T.b_plan_pushes .nil pass0 (pa_cons (pv 5) pa_nil)) pa_nil)))
      (C8.pss_cut (ps_if (pt_cmpR op_eq (pv 4) pe_int (nomark _)) (pss_one (ps_expr (pe_bm PySem.F.plainAttrs_list PySem.F.slot_list_append PySem.F.type_list_append mt_append (pv 0) (pa_cons (pe_tup (pa_cons pe_str (pa_cons (pv 3) pa_nil))) pa_nil)))) (pss_cons (ps_set (i := 6) sc_visit.nd rfl (.inl rfl) (pe_op op_fdivW (pv 4) pe_int))
        (pss_cons (ps_expr (pe_call G_visit (hr.mono (by omega)) rfl T.g_visit T.F_visit.kp T.b_visit .nil pass0 (pa_cons (pv 0) (pa_cons (pv 1) (pa_cons (pv 2) (pa_cons (pv 3) (pa_cons (pv 6) pa_nil)))))))
        (pss_one (ps_expr (pe_call G_visit (hr.mono (by omega)) rfl T.g_visit T.F_visit.kp T.b_visit .nil pass0 (pa_cons (pv 0) (pa_cons (pv 1) (pa_cons (pv 2) (pa_cons (pe_op op_add (pv 3) (pv 6)) (pa_cons (pv 6) pa_nil)))))))))))
      (pss_one (ps_expr (pe_bm PySem.F.plainAttrs_list PySem.F.slot_list_extend PySem.F.type_list_extend mt_extend (pv 0) (pa_cons (pe_call G_plan_pops (hr.mono (by omega)) rfl T.g_plan_pops T.F_plan_pops.kp T.b_plan_pops .nil pass0 (pa_cons (pv 5) pa_nil)) pa_nil)))))))), ?_⟩
      refine ⟨_, rfl, _, rfl, f, rfl, _, rfl, _, rfl, _, _, rfl, rfl, f + (2 ^ k : Nat), rfl, ak, _, rfl, sqlOf ha, fun p np => ⟨p, ((bs.drop f).take (2 ^ k)), rfl, sqlOf ?_, askedIn bs f (2 ^ k), rfl, ?_⟩⟩
      · rw [upd_same, cut_range, List.map_take, List.map_drop]
      rw [walkW_eq] at hx q
      have s1 : Same H (upd H p (.lst (cutV (bs.map V.bl) (some (f : Int)) (some ((f : Int) + ((2 ^ k : Nat) : Int)))))) := same_newF (Fr.mk np)
      generalize upd H p (.lst (cutV (bs.map V.bl) (some (f : Int)) (some ((f : Int) + ((2 ^ k : Nat) : Int))))) = H1 at s1 ⊢
      have he1 := s1 _ _ he
      by_cases c : askedIn bs f (2 ^ k) = true
      · rw [if_pos c] at hx q
        refine ifF (by rw [c]; rfl) ⟨_, rfl, nd, rfl, .inr ⟨kvs, .inl (s1 _ _ hn)⟩, _, rfl, _, rfl, le2, fun b nb => ⟨Nat.zero_le _, fun z nz => ⟨_, DGet.t (k := [.inl (f : Int), .inl ((2 ^ k : Nat) : Int)]) (atNew (Fr.mk nz) (atNew (Fr.mk nb) (s1 _ _ hn))) (atNew (Fr.mk nz) upd_same), ?_⟩⟩⟩
        have s3 : Same H (upd (upd H1 b (.tup [.int (f : Int), .int ((2 ^ k : Nat) : Int)])) z (.lst [])) := (s1.trans (same_newF (Fr.mk nb))).trans (same_newF (Fr.mk nz))
        have ez : upd (upd H1 b (.tup [.int (f : Int), .int ((2 ^ k : Nat) : Int)])) z (.lst []) z = some (.lst []) := upd_same
        have nzen : z ≠ en := fun e => by
          rw [e, upd_ne (ne_of_none he1 nb), he1] at nz
          cases nz
        show (gName 5) _ _ (upd (upd H1 b (.tup [.int (f : Int), .int ((2 ^ k : Nat) : Int)])) z (.lst [])) _
        generalize upd (upd H1 b (.tup [.int (f : Int), .int ((2 ^ k : Nat) : Int)])) z (.lst []) = H3 at s3 ez ⊢
        obtain ⟨hl, hcase⟩ := hN f (2 ^ k)
        obtain ⟨ia, eia, hia, nia⟩ : ∃ ia, (valV kvs [.inl (f : Int), .inl ((2 ^ k : Nat) : Int)]).getD (.ref z) = .ref ia ∧ H3 ia = some (.lst ((N f (2 ^ k)).map nV)) ∧ ia ≠ en := by
          rcases hcase with ⟨e1, e2⟩ | ⟨a, e1, e2⟩
          · exact ⟨z, by rw [e1]; rfl, by rw [e2]; exact ez, nzen⟩
          · exact ⟨a, by rw [e1]; rfl, s3 _ _ e2, hne _ _ _ e1⟩
        rw [eia]
        have he3 := s3 _ _ he
        have lp : (pushW (N f (2 ^ k))).length = (N f (2 ^ k)).length := List.length_map ..
        have lq : (popW (N f (2 ^ k))).length = (N f (2 ^ k)).length := by
          unfold popW
          rw [List.length_map, List.length_reverse]
        rw [List.length_append, List.length_append, lp, lq] at hx
        refine ⟨_, rfl, .inl ⟨rfl, _, sqlOf he3⟩, _, rfl, ia, _, rfl, hia, hl, fun p xs H4 fp s4 ep wl => ⟨en, p, _, _, rfl, rfl, s4 _ _ he3, ep, ?_, ?_⟩⟩
        · have := wl.len
          rw [List.length_map] at this
          rw [sizeLine_eq]
          omega
        have m4 : Mu H4 [en] := mu_lst (s4 _ _ he3) mu_nil
        have k5 : Kp [en] H4 (upd H4 en (.lst (xs0 ++ xs))) := kp_up memA (kp_refl _ _)
        have k05 : Kp [en] H (upd H4 en (.lst (xs0 ++ xs))) := kp_trans (kp_same (s3.trans s4)) k5
        have e5 : upd H4 en (.lst (xs0 ++ xs)) en = some (.lst (xs0 ++ xs)) := upd_same
        have wl5 := wl.kp k5 m4
        have hia5 := k5.at_ _ _ (s4 _ _ hia) (not_cons nia not_nil)
        show C8.tCut _ _ _ _ (upd H4 en (.lst (xs0 ++ xs)))
        generalize upd H4 en (.lst (xs0 ++ xs)) = H5 at k05 e5 wl5 hia5 ⊢
        have hN5 := hN.kp k05 (fun f s a e => not_cons (hne f s a e) not_nil)
        refine ⟨fun σ H' => ∃ zs y6, σ = [some (.ref en), some (.ref nd), some (.ref ak), some (.int (f : Int)), some (.int ((2 ^ k : Nat) : Int)), some (.ref ia), y6] ∧ Kp [en] H H' ∧ H' en = some (.lst (xs0 ++ zs)) ∧ WLog H' zs (pushW (N f (2 ^ k)) ++ midW N bs k f) ∧ H' ia = some (.lst ((N f (2 ^ k)).map nV)), ?_, ?_⟩
        · have hlx := wl.len
          rw [List.length_map] at hlx
          have nne : nd ≠ en := fun z => by
            rw [z, he] at hn
            cases hn
          have m5 : Mu H5 [en] := mu_lst e5 mu_nil
          cases k with
          | zero =>
            refine ⟨_, rfl, rfl, _, rfl, ifT rfl ⟨_, rfl, .inl ⟨rfl, _, sqlOf e5⟩, _, rfl, le2, fun t nt => ⟨en, _, _, rfl, rfl, atNew (Fr.mk nt) e5, ?_, ?_⟩⟩⟩
            · rw [List.length_append, sizeLine_eq]
              have : (midW N bs 0 f).length = 1 := rfl
              omega
            have ft := Fr.mk nt
            have s6 := same_newF (o := .tup [.str (Str.ofString "ask"), .int (f : Int)]) ft
            have e6 := s6 _ _ e5
            have m6 : Mu (upd H5 t (.tup [.str (Str.ofString "ask"), .int (f : Int)])) [en] := mu_lst e6 mu_nil
            have k6 : Kp [en] (upd H5 t (.tup [.str (Str.ofString "ask"), .int (f : Int)])) (upd (upd H5 t (.tup [.str (Str.ofString "ask"), .int (f : Int)])) en (.lst (xs0 ++ xs ++ [.ref t]))) := kp_up memA (kp_refl _ _)
            exact ⟨xs ++ [.ref t], _, rfl, kp_trans k05 (kp_trans (kp_same s6) k6), by rw [upd_same, List.append_assoc], (((wl5.kp (kp_same (cs := []) s6) mu_nil)).kp k6 m6).app (WLog.one (WEnt.kp ⟨t, rfl, upd_same⟩ k6 m6)), k6.at_ _ _ (s6 _ _ hia5) (not_cons nia not_nil)⟩
          | succ j =>
            have h2 : (2 : Nat) ^ (j + 1) = 2 ^ j + 2 ^ j := by rw [Nat.pow_succ]; omega
            have hp := Nat.two_pow_pos j
            refine ⟨_, rfl, rfl, _, rfl, ifF ?_ ?_⟩
            · exact decide_eq_false fun z => by
                injection z with z
                omega
            refine ⟨_, rfl, _, _, rfl, rfl, ?_, ?_⟩
            · exact ⟨by decide, by decide +kernel⟩
            have eh : (((2 ^ (j + 1) : Nat) : Int) / 2) = ((2 ^ j : Nat) : Int) := by omega
            have hm : midW N bs (j + 1) f = walkW N bs j f ++ walkW N bs j (f + 2 ^ j) := rfl
            rw [hm, List.length_append] at hx
            refine ⟨_, rfl, _, rfl, _, rfl, _, rfl, _, rfl, en, nd, ak, f, xs0 ++ xs, kvs, bs, N, ?_, e5, k05.at_ _ _ hn (not_cons nne not_nil), k05.at_ _ _ ha (not_cons nae not_nil), hN5, hne, nae, by omega, hb, ?_, fun ys1 H6 k6 e6 w6 => ?_⟩
            · show [_, _, _, _, V.int _] = _
              rw [eh]
            · rw [List.length_append]
              omega
            have k06 := kp_trans k05 k6
            have m6 : Mu H6 [en] := mu_lst e6 mu_nil
            have l6 := w6.len
            refine ⟨_, rfl, _, rfl, _, rfl, _, rfl, _, rfl, _, _, rfl, rfl, _, rfl, en, nd, ak, f + 2 ^ j, xs0 ++ xs ++ ys1, kvs, bs, N, ?_, e6, k06.at_ _ _ hn (not_cons nne not_nil), k06.at_ _ _ ha (not_cons nae not_nil), hN.kp k06 (fun f s a e => not_cons (hne f s a e) not_nil), hne, nae, by omega, hb, ?_, fun ys2 H7 k7 e7 w7 => ?_⟩
            · show [_, _, _, V.int ((f : Int) + (((2 ^ (j + 1) : Nat) : Int) / 2)), V.int (((2 ^ (j + 1) : Nat) : Int) / 2)] = _
              rw [eh, Int.natCast_add]
            · rw [List.length_append, List.length_append]
              omega
            exact ⟨xs ++ ys1 ++ ys2, _, rfl, kp_trans k06 k7, by rw [e7, List.append_assoc, List.append_assoc, List.append_assoc], by
              rw [hm, ← List.append_assoc]
              exact ((wl5.kp k6 m5).app w6 |>.kp k7 m6).app w7, k7.at_ _ _ (k6.at_ _ _ hia5 (not_cons nia not_nil)) (not_cons nia not_nil)⟩
        · rintro σ H6 ⟨zs, y6, rfl, k06, e6, wl6, hia6⟩
          have l6 := wl6.len
          rw [List.length_append, lp] at l6
          refine ⟨_, rfl, .inl ⟨rfl, _, sqlOf e6⟩, _, rfl, ia, _, rfl, hia6, hl, fun p xs2 H7 fp s7 ep wl7 => ⟨en, p, _, _, rfl, rfl, s7 _ _ e6, ep, ?_, ?_⟩⟩
          · have := wl7.len
            rw [List.length_map, List.length_reverse] at this
            rw [sizeLine_eq, List.length_append]
            omega
          have e7 := s7 _ _ e6
          have m7 : Mu H7 [en] := mu_lst e7 mu_nil
          have k8 : Kp [en] H7 (upd H7 en (.lst (xs0 ++ zs ++ xs2))) := kp_up memA (kp_refl _ _)
          exact q (zs ++ xs2) _ (kp_trans k06 (kp_trans (kp_same s7) k8)) (by rw [upd_same, List.append_assoc]) (((wl6.kp (kp_same (cs := []) s7) mu_nil).kp k8 m7).app (wl7.kp k8 m7))
      · rw [if_neg c] at hx q
        refine ifT (by rw [Bool.eq_false_iff.mpr c]; rfl) ?_
        refine q [] _ (kp_same s1) ?_ WLog.nil
        rw [List.append_nil]
        exact he1
end
end Ob

set_option Elab.async false
set_option linter.all false
set_option maxRecDepth 100000
set_option maxHeartbeats 1000000
namespace Ob
open PySem PySem.Spec PyProof.Rows L2
open LamX (Tabs TabB TabS ExtN)

set_option hygiene false in
local macro_rules
  | `(tactic| kp_flats) => `(tactic| first
    | assumption
    | exact upd_same
    | (apply atNew; assumption; kp_flats)
    | (apply atNe; (next => kbo_bools); kp_flats)
    | (apply atSame; assumption; kp_flats)
    | (apply atKp; assumption; (next => kaf_pre); kp_flats))
set_option hygiene false in
local macro_rules
  | `(tactic| kaf_pre) => `(tactic| first
    | assumption
    | exact not_nil
    | (apply not_cons; (next => kbo_bools); kaf_pre)
    | (apply not_app; (next => kaf_pre); kaf_pre))
set_option hygiene false in
local macro_rules
  | `(tactic| kbo_bools) => `(tactic| first
    | assumption
    | (apply Ne.symm; assumption)
    | (apply neN; assumption; kp_flats)
    | (apply neN'; assumption; kp_flats))
set_option hygiene false in
local macro_rules
  | `(tactic| o_reads) => `(tactic| first
    | with_reducible rfl
    | assumption
    | rfl
    | kp_flats
    | (show SqL _ _ _ _; first | assumption | (apply sqlOf; kp_flats) | (apply sqlSame; assumption; o_reads))
    | (show SqT _ _ _ _; first | assumption | (apply sqtOf; kp_flats) | (apply sqtAll; assumption) | (apply sqtSame; assumption; o_reads))
    | (show Cls _ _; first | skip)
    | (show NoAttr _ _ _; first | skip)
    | (apply Or.inl; o_reads)
    | (apply Or.inr; o_reads)
    | (apply And.intro; (next => o_reads); o_reads)
    | (apply Exists.intro; o_reads)
    | exact Nat.le_of_ble_eq_true rfl
    | exact Nat.succ_ne_zero _
    | (show Fr _ _; kba_ints)
    | (show Same _ _; kd_subs)
    | (show Kp _ _ _; kxs_still)
    | (show (_ : Nat) ≤ _; simp only [List.length_append, List.length_map, List.length_cons, List.length_nil, List.length_take, List.length_drop, List.length_replicate, List.length_range, sizeLine_eq]; omega)
    | (show _ = none; apply Fr.h; kba_ints)
    | (show Bag _ _; first | assumption | (apply bag_putF; assumption; o_reads) | (apply bag_neF; (next => kbo_bools); o_reads) | (apply bag_kpR; assumption; (next => kaf_pre); o_reads))
    | omega
    | decide)
local macro_rules
  | `(tactic| o_readsAll) => `(tactic| repeat (first
    | (refine fun (pNew : Addr) (nNew : _ = none) => ?_; replace nNew := Fr.mk nNew)
    | (refine fun (xNew dNew : Addr) (nNew : _ = none) (mNew : _ = none) (eNew : dNew ≠ xNew) => ?_; replace nNew := Fr.mk nNew; replace mNew := Fr.mk mNew)
    | (apply And.intro; next => o_reads)
    | apply Exists.intro (α := V)
    | apply Exists.intro (α := Addr)
    | apply Exists.intro (α := Int)
    | apply Exists.intro (α := Bool)
    | apply Exists.intro (α := List V)
    | apply Exists.intro (α := List Nat)
    | apply Exists.intro (α := List (Str × V))
    | apply Exists.intro (α := List _)
    | apply Exists.intro (α := Str)
    | apply Exists.intro (α := HO)
    | apply Exists.intro (α := Sp)
    | apply Exists.intro (α := VK)))
set_option hygiene false in
local macro_rules
  | `(tactic| kba_ints) => `(tactic| first
    | assumption
    | (apply frUp; (first | assumption | (apply Ne.symm; assumption)); kba_ints)
    | (apply noneOf; assumption; intro oF eF; apply Exists.intro; kp_flats)
    | (apply frUp; (next => kbo_bools); kba_ints))
set_option hygiene false in
local macro_rules
  | `(tactic| kxs_still) => `(tactic| first
    | assumption
    | exact kp_refl _ _
    | (apply kp_newF; assumption; kxs_still)
    | (apply kp_new; assumption; kxs_still)
    | (apply kp_up; (next => o_fieldsN); kxs_still)
    | (apply kp_new; (next => kba_ints); kxs_still)
    | (apply kp_sameR; assumption; kxs_still)
    | (apply kp_transR; assumption; kxs_still)
    | (apply kp_freshR; assumption; (next => kaf_suf); kxs_still))
set_option hygiene false in
local macro_rules
  | `(tactic| kaf_suf) => `(tactic| first
    | assumption
    | exact subNil
    | (apply subCons; (first | (apply Or.inl; o_fieldsN) | (apply Or.inr; kba_ints)); kaf_suf)
    | (apply subApp; (next => kaf_suf); kaf_suf))
set_option hygiene false in
local macro_rules
  | `(tactic| o_fieldsN) => `(tactic| first
    | assumption
    | exact memA
    | (apply memB; o_fieldsN)
    | (apply memL; o_fieldsN)
    | (apply memR; o_fieldsN))
set_option hygiene false in
local macro_rules
  | `(tactic| kd_subs) => `(tactic| first
    | assumption
    | exact Same.refl _
    | (apply same_putF; assumption; kd_subs)
    | (apply same_putG; assumption; kd_subs)
    | (apply same_putF; (next => kba_ints); kd_subs)
    | (apply same_transR; assumption; kd_subs))

set_option pp.maxSteps 900
/-! ### the lowest power by the and of both signs -/
theorem and_parts (a b : Nat) : a &&& b = 2 * (a / 2 &&& b / 2) + (a % 2 &&& b % 2) := by
  have h1 : (a &&& b) / 2 = a / 2 &&& b / 2 := Nat.and_div_two
  have h2 : (a &&& b) % 2 = a % 2 &&& b % 2 := by
    have := Nat.and_mod_two_pow (a := a) (b := b) (n := 1)
    simpa using this
  omega
theorem low_and : ∀ n : Nat, n ≠ 0 → n - (n &&& (n - 1)) = low n := by
  intro n
  induction n using Nat.strongRecOn with
  | ind n ih =>
    intro h
    by_cases e : n % 2 = 0
    · obtain ⟨m, rfl⟩ : ∃ m, n = 2 * m := ⟨n / 2, by omega⟩
      have hm : m ≠ 0 := by omega
      have i := ih m (by omega) hm
      rw [low_even h e, and_parts, show 2 * m / 2 = m by omega, show (2 * m - 1) / 2 = m - 1 by omega, show 2 * m % 2 = 0 by omega, Nat.zero_and, ← i]
      omega
    · rw [low_odd (by omega), and_parts, show (n - 1) / 2 = n / 2 by omega, show (n - 1) % 2 = 0 by omega, Nat.and_zero, Nat.and_self]
      omega
theorem low_bits {n : Nat} (h : n ≠ 0) : Builtin.bitAnd (n : Int) (-(n : Int)) = (low n : Int) := by
  have e1 : (Builtin.bitNot (-(n : Int))).toNat = n - 1 := by
    show (-(-(n : Int)) - 1).toNat = n - 1
    omega
  have e2 : n &&& (n - 1) ≤ n := Nat.and_le_left
  rw [bitAnd_pn (by omega) (by omega), e1, Int.toNat_natCast, ← low_and n h]
  omega
theorem low_spec : ∀ n : Nat, n ≠ 0 → ∃ e, low n = 2 ^ e ∧ n % 2 ^ e = 0 ∧ n % 2 ^ (e + 1) ≠ 0 := by
  intro n
  induction n using Nat.strongRecOn with
  | ind n ih =>
    intro h
    by_cases e : n % 2 = 0
    · obtain ⟨m, rfl⟩ : ∃ m, n = 2 * m := ⟨n / 2, by omega⟩
      have hm : m ≠ 0 := by omega
      obtain ⟨k, e1, e2, e3⟩ := ih m (by omega) hm
      refine ⟨k + 1, ?_, ?_, ?_⟩
      · rw [low_even h e, show 2 * m / 2 = m by omega, e1, Nat.pow_succ, Nat.mul_comm]
      · rw [Nat.pow_succ, Nat.mul_comm (2 ^ k) 2, Nat.mul_mod_mul_left, e2]
      · rw [Nat.pow_succ, Nat.mul_comm (2 ^ (k + 1)) 2, Nat.mul_mod_mul_left]
        omega
    · exact ⟨0, low_odd (by omega), Nat.mod_one _, by rw [Nat.zero_add, Nat.pow_one]; omega⟩
/-! ### pieces -/
def szP (a r : Nat) : Nat := if a = 0 then 2 ^ r.log2 else min (2 ^ r.log2) (low a)
def pcF : Nat → Nat → Nat → List (Nat × Nat)
  | 0, _, _ => []
  | f + 1, a, r => if r = 0 then [] else (a, szP a r) :: pcF f (a + szP a r) (r - szP a r)
def enough (k a r : Nat) : Prop := ∃ m, r < 2 ^ m ∧ (((a = 0 ∨ a % 2 ^ m = 0) ∧ m ≤ k) ∨ ∃ j, a ≠ 0 ∧ a % 2 ^ j = 0 ∧ j ≤ 100 ∧ (100 - j) + m + 1 ≤ k)
theorem mod_le {a i j : Nat} (h : a % 2 ^ j = 0) (l : i ≤ j) : a % 2 ^ i = 0 := by
  have d : 2 ^ i ∣ 2 ^ j := Nat.pow_dvd_pow 2 l
  exact Nat.mod_eq_zero_of_dvd (Nat.dvd_trans d (Nat.dvd_of_mod_eq_zero h))
theorem mod_add {a b i : Nat} (h : a % 2 ^ i = 0) (h2 : b % 2 ^ i = 0) : (a + b) % 2 ^ i = 0 := by
  rw [Nat.add_mod, h, h2]
  simp
theorem odd_up {a e : Nat} (h : a % 2 ^ e = 0) (h2 : a % 2 ^ (e + 1) ≠ 0) : (a + 2 ^ e) % 2 ^ (e + 1) = 0 := by
  obtain ⟨q, rfl⟩ := Nat.dvd_of_mod_eq_zero h
  have hp := Nat.two_pow_pos e
  rw [Nat.pow_succ, Nat.mul_mod_mul_left] at h2
  have h3 : q % 2 = 1 := by
    rcases Nat.mod_two_eq_zero_or_one q with z | z
    · rw [z] at h2
      exact absurd rfl h2
    · exact z
  rw [show 2 ^ e * q + 2 ^ e = 2 ^ e * (q + 1) by rw [Nat.mul_add, Nat.mul_one], Nat.pow_succ, Nat.mul_mod_mul_left, show (q + 1) % 2 = 0 by omega, Nat.mul_zero]
theorem szP_le {a r : Nat} (h : r ≠ 0) : szP a r ≤ r := by
  have l2 := log_lo h
  unfold szP
  split
  · exact l2
  · exact Nat.le_trans (Nat.min_le_left _ _) l2
theorem enough_step {k a r : Nat} (h : enough k a r) (hr : r ≠ 0) (hb : a + r ≤ 2 ^ 100) :
    ∃ k', k = k' + 1 ∧ enough k' (a + szP a r) (r - szP a r) ∧ szP a r ≤ r ∧ 0 < szP a r ∧ ∃ j, szP a r = 2 ^ j ∧ a % 2 ^ j = 0 := by
  obtain ⟨m, hm, hc⟩ := h
  have lo := log_lo hr
  have rl := rest_lt hr
  have ll := log_lt hr hm
  have hp := Nat.two_pow_pos r.log2
  rcases hc with ⟨hz, hk⟩ | ⟨j, ha, hj, hj1, hk⟩
  · have es : szP a r = 2 ^ r.log2 := by
      unfold szP
      by_cases z : a = 0
      · rw [if_pos z]
      · rw [if_neg z]
        obtain ⟨e, e1, e2, e3⟩ := low_spec a z
        rw [e1]
        rcases hz with hz | hz
        · exact absurd hz z
        · have : m ≤ e := by
            refine Nat.le_of_not_lt fun q => e3 (mod_le hz (by omega))
          exact Nat.min_eq_left (Nat.pow_le_pow_right (by decide) (by omega))
    have ad : a % 2 ^ r.log2 = 0 := by
      rcases hz with hz | hz
      · rw [hz]
        exact Nat.zero_mod _
      · exact mod_le hz (by omega)
    rw [es]
    exact ⟨k - 1, by omega, ⟨r.log2, rl, .inl ⟨.inr (mod_add ad (Nat.mod_self _)), by omega⟩⟩, lo, hp, _, rfl, ad⟩
  · obtain ⟨e, e1, e2, e3⟩ := low_spec a ha
    have hje : j ≤ e := Nat.le_of_not_lt fun q => e3 (mod_le hj (by omega))
    by_cases c : 2 ^ e ≤ 2 ^ r.log2
    · have es : szP a r = 2 ^ e := by
        unfold szP
        rw [if_neg ha, e1]
        exact Nat.min_eq_right c
      rw [es]
      have he : e < 100 := by
        have h1 : 2 ^ e < 2 ^ 100 := by omega
        exact (Nat.pow_lt_pow_iff_right (by decide)).mp h1
      have hpe := Nat.two_pow_pos e
      exact ⟨k - 1, by omega, ⟨m, by omega, .inr ⟨e + 1, by omega, odd_up e2 e3, by omega, by omega⟩⟩, by omega, hpe, _, rfl, e2⟩
    · have es : szP a r = 2 ^ r.log2 := by
        unfold szP
        rw [if_neg ha, e1]
        exact Nat.min_eq_left (by omega)
      have hle : r.log2 ≤ e := by
        refine Nat.le_of_not_lt fun q => c (Nat.pow_le_pow_right (by decide) (by omega))
      rw [es]
      exact ⟨k - 1, by omega, ⟨r.log2, rl, .inl ⟨.inr (mod_add (mod_le e2 hle) (Nat.mod_self _)), by omega⟩⟩, lo, hp, _, rfl, mod_le e2 hle⟩
theorem enough_all {a r : Nat} (h : a + r ≤ 10 ^ 30) : enough 201 a r := by
  have h1 : (10 ^ 30 : Nat) < 2 ^ 100 := by decide +kernel
  by_cases z : a = 0
  · exact ⟨100, by omega, .inl ⟨.inl z, by decide⟩⟩
  · exact ⟨100, by omega, .inr ⟨0, z, Nat.mod_one _, by decide, by decide⟩⟩
theorem pcF_zero (f a : Nat) : pcF f a 0 = [] := by
  cases f with
  | zero => rfl
  | succ f => exact if_pos rfl
theorem pcF_pos {f a r : Nat} (h : r ≠ 0) : pcF (f + 1) a r = (a, szP a r) :: pcF f (a + szP a r) (r - szP a r) := if_neg h
theorem pcF_len : ∀ (f a r : Nat), (pcF f a r).length ≤ f
  | 0, _, _ => Nat.le_refl _
  | f + 1, a, r => by
    by_cases h : r = 0
    · subst h
      rw [pcF_zero]
      exact Nat.zero_le _
    · rw [pcF_pos h, List.length_cons]
      have := pcF_len f (a + szP a r) (r - szP a r)
      omega
/-- a right list of pieces from a on, to b -/
def okP : Nat → List (Nat × Nat) → Nat → Prop
  | a, [], b => a = b
  | a, (x, s) :: t, b => x = a ∧ (∃ j, s = 2 ^ j ∧ a % 2 ^ j = 0) ∧ a + s ≤ b ∧ (∀ y s', t.head? = some (y, s') → ¬ (s' = s ∧ a % (2 * s) = 0)) ∧ okP (a + s) t b
/-- two neighbours never make one -/
theorem szP_next {a r : Nat} (hr : r ≠ 0) (h : r - szP a r ≠ 0) : ¬ (szP (a + szP a r) (r - szP a r) = szP a r ∧ a % (2 * szP a r) = 0) := by
  rintro ⟨e1, e2⟩
  have es : szP a r = 2 ^ r.log2 := by
    unfold szP
    by_cases z : a = 0
    · rw [if_pos z]
    · rw [if_neg z]
      obtain ⟨e, f1, f2, f3⟩ := low_spec a z
      rw [f1]
      refine Nat.min_eq_left (Nat.le_of_not_lt fun q => ?_)
      have f4 : szP a r = 2 ^ e := by
        unfold szP
        rw [if_neg z, f1]
        exact Nat.min_eq_right (Nat.le_of_lt q)
      rw [f4, show 2 * 2 ^ e = 2 ^ (e + 1) by rw [Nat.pow_succ, Nat.mul_comm]] at e2
      exact f3 e2
  have rl := rest_lt hr
  have le := szP_le (a := a + szP a r) h
  omega
theorem okP_all : ∀ (k a r : Nat), enough k a r → a + r ≤ 2 ^ 100 → okP a (pcF k a r) (a + r)
  | k, a, r, h, hb => by
    by_cases hr : r = 0
    · subst hr
      rw [pcF_zero]
      exact rfl
    · obtain ⟨k', rfl, h2, s1, s0, j, ej, aj⟩ := enough_step h hr hb
      rw [pcF_pos hr]
      refine ⟨rfl, ⟨j, ej, aj⟩, by omega, fun y s' e => ?_, ?_⟩
      · by_cases z : r - szP a r = 0
        · rw [z, pcF_zero] at e
          cases e
        · cases k' with
          | zero => cases e
          | succ k' =>
            rw [pcF_pos z] at e
            obtain ⟨rfl, rfl⟩ := Prod.mk.inj (Option.some.inj e)
            exact szP_next hr z
      · have := okP_all k' (a + szP a r) (r - szP a r) h2 (by omega)
        rw [show a + szP a r + (r - szP a r) = a + r by omega] at this
        exact this
end Ob

set_option Elab.async false
set_option linter.all false
set_option maxRecDepth 100000
set_option maxHeartbeats 1000000
namespace Ob
open PySem PySem.Spec PyProof.Rows L2
open LamX (Tabs TabB TabS ExtN)

set_option hygiene false in
local macro_rules
  | `(tactic| kp_flats) => `(tactic| first
    | assumption
    | exact upd_same
    | (apply atNew; assumption; kp_flats)
    | (apply atNe; (next => kbo_bools); kp_flats)
    | (apply atSame; assumption; kp_flats)
    | (apply atKp; assumption; (next => kaf_pre); kp_flats))
set_option hygiene false in
local macro_rules
  | `(tactic| kaf_pre) => `(tactic| first
    | assumption
    | exact not_nil
    | (apply not_cons; (next => kbo_bools); kaf_pre)
    | (apply not_app; (next => kaf_pre); kaf_pre))
set_option hygiene false in
local macro_rules
  | `(tactic| kbo_bools) => `(tactic| first
    | assumption
    | (apply Ne.symm; assumption)
    | (apply neN; assumption; kp_flats)
    | (apply neN'; assumption; kp_flats))
set_option hygiene false in
local macro_rules
  | `(tactic| o_reads) => `(tactic| first
    | with_reducible rfl
    | assumption
    | rfl
    | kp_flats
    | (show SqL _ _ _ _; first | assumption | (apply sqlOf; kp_flats) | (apply sqlSame; assumption; o_reads))
    | (show SqT _ _ _ _; first | assumption | (apply sqtOf; kp_flats) | (apply sqtAll; assumption) | (apply sqtSame; assumption; o_reads))
    | (show Cls _ _; first | skip)
    | (show NoAttr _ _ _; first | skip)
    | (apply Or.inl; o_reads)
    | (apply Or.inr; o_reads)
    | (apply And.intro; (next => o_reads); o_reads)
    | (apply Exists.intro; o_reads)
    | exact Nat.le_of_ble_eq_true rfl
    | exact Nat.succ_ne_zero _
    | (show Fr _ _; kba_ints)
    | (show Same _ _; kd_subs)
    | (show Kp _ _ _; kxs_still)
    | (show (_ : Nat) ≤ _; simp only [List.length_append, List.length_map, List.length_cons, List.length_nil, List.length_take, List.length_drop, List.length_replicate, List.length_range, sizeLine_eq]; omega)
    | (show _ = none; apply Fr.h; kba_ints)
    | (show Bag _ _; first | assumption | (apply bag_putF; assumption; o_reads) | (apply bag_neF; (next => kbo_bools); o_reads) | (apply bag_kpR; assumption; (next => kaf_pre); o_reads))
    | omega
    | decide)
local macro_rules
  | `(tactic| o_readsAll) => `(tactic| repeat (first
    | (refine fun (pNew : Addr) (nNew : _ = none) => ?_; replace nNew := Fr.mk nNew)
    | (refine fun (xNew dNew : Addr) (nNew : _ = none) (mNew : _ = none) (eNew : dNew ≠ xNew) => ?_; replace nNew := Fr.mk nNew; replace mNew := Fr.mk mNew)
    | (apply And.intro; next => o_reads)
    | apply Exists.intro (α := V)
    | apply Exists.intro (α := Addr)
    | apply Exists.intro (α := Int)
    | apply Exists.intro (α := Bool)
    | apply Exists.intro (α := List V)
    | apply Exists.intro (α := List Nat)
    | apply Exists.intro (α := List (Str × V))
    | apply Exists.intro (α := List _)
    | apply Exists.intro (α := Str)
    | apply Exists.intro (α := HO)
    | apply Exists.intro (α := Sp)
    | apply Exists.intro (α := VK)))
set_option hygiene false in
local macro_rules
  | `(tactic| kba_ints) => `(tactic| first
    | assumption
    | (apply frUp; (first | assumption | (apply Ne.symm; assumption)); kba_ints)
    | (apply noneOf; assumption; intro oF eF; apply Exists.intro; kp_flats)
    | (apply frUp; (next => kbo_bools); kba_ints))
set_option hygiene false in
local macro_rules
  | `(tactic| kxs_still) => `(tactic| first
    | assumption
    | exact kp_refl _ _
    | (apply kp_newF; assumption; kxs_still)
    | (apply kp_new; assumption; kxs_still)
    | (apply kp_up; (next => o_fieldsN); kxs_still)
    | (apply kp_new; (next => kba_ints); kxs_still)
    | (apply kp_sameR; assumption; kxs_still)
    | (apply kp_transR; assumption; kxs_still)
    | (apply kp_freshR; assumption; (next => kaf_suf); kxs_still))
set_option hygiene false in
local macro_rules
  | `(tactic| kaf_suf) => `(tactic| first
    | assumption
    | exact subNil
    | (apply subCons; (first | (apply Or.inl; o_fieldsN) | (apply Or.inr; kba_ints)); kaf_suf)
    | (apply subApp; (next => kaf_suf); kaf_suf))
set_option hygiene false in
local macro_rules
  | `(tactic| o_fieldsN) => `(tactic| first
    | assumption
    | exact memA
    | (apply memB; o_fieldsN)
    | (apply memL; o_fieldsN)
    | (apply memR; o_fieldsN))
set_option hygiene false in
local macro_rules
  | `(tactic| kd_subs) => `(tactic| first
    | assumption
    | exact Same.refl _
    | (apply same_putF; assumption; kd_subs)
    | (apply same_putG; assumption; kd_subs)
    | (apply same_putF; (next => kba_ints); kd_subs)
    | (apply same_transR; assumption; kd_subs))

set_option pp.maxSteps 900
section
variable {P : Program} {w : World} {K : PySem.W.Frag} {mg : Str → Option Value} {base : Heap}
def spGp : Sp := fun vs H Q _ => ∃ n : Nat, vs = [.int (n : Int)] ∧ n ≠ 0 ∧ n < 2 ^ 200 ∧ Q (.int ((2 ^ n.log2 : Nat) : Int)) H
theorem ok_gp (T : Txt K mg) : FnOk P w K mg base CX0 1 T.f_greatest_power T.d_greatest_power ["number"] spGp := by
  refine T.F_greatest_power.ok sc_greatest_power (fun vs H Q E h => ?_) (fun cdv A outer s H vs Q E hr h => ?_)
  · obtain ⟨n, rfl, _⟩ := h
    rfl
  · obtain ⟨n, rfl, h0, h1, q⟩ := h
    refine ⟨_, (pss_one (ps_ret (pe_op op_shlW pe_int (pe_op op_sub (pe_bits (pv 0)) pe_int)))), ?_⟩
    rw [← gp_eq h0] at q
    exact ⟨_, rfl, _, rfl, _, _, rfl, rfl, _, _, rfl, rfl, gp_ok h0 h1, q⟩
def spIsI : Sp := fun vs H Q _ => ∃ i : Int, vs = [.int i] ∧ Q (.bl true) H
theorem ok_isi (T : Txt K mg) : FnOk P w K mg base CX0 1 T.f_is_integer T.d_is_integer ["value"] spIsI := by
  refine T.F_is_integer.ok sc_is_integer (fun vs H Q E h => ?_) (fun cdv A outer s H vs Q E hr h => ?_)
  · obtain ⟨i, rfl, _⟩ := h
    rfl
  · obtain ⟨i, rfl, q⟩ := h
    refine ⟨_, (pss_one (ps_ret (pe_and (pe_callB call_isi (by rfl) T.z_isinstance (by decide +kernel) (pa_cons (pv 0) (pa_cons (pe_bltn (v := .ty "int") (by rfl) T.z_int (by decide +kernel) rfl) pa_nil))) (pe_one (pe_not (pe_callB call_isi (by rfl) T.z_isinstance (by decide +kernel) (pa_cons (pv 0) (pa_cons (pe_bltn (v := .ty "bool") (by rfl) T.z_bool (by decide +kernel) rfl) pa_nil)))))))), ?_⟩
    refine ⟨_, rfl, .int i, .ty "int", .type "int", .type "int", true, rfl, .ty _, .base (.int _), kit_ty (by decide +kernel), true, rfl, iteT ?_⟩
    exact ⟨_, rfl, .int i, .ty "bool", .type "int", .type "bool", false, rfl, .ty _, .base (.int _), kit_ty (by decide +kernel), false, rfl, q⟩
theorem ok_cki (T : Txt K mg) : FnOk P w K mg base CX0 2 T.f_check_integer T.d_check_integer ["value"] (fun vs H Q _ => ∃ i : Int, vs = [.int i] ∧ Q .non H) := by
  have G_is_integer := ok_isi (P := P) (w := w) (base := base) T
  refine T.F_check_integer.ok sc_check_integer (fun vs H Q E h => ?_) (fun cdv A outer s H vs Q E hr h => ?_)
  · obtain ⟨i, rfl, _⟩ := h
    rfl
  · obtain ⟨i, rfl, q⟩ := h
    refine ⟨_, (pss_one (ps_if (pt_not (pt_val (pe_call G_is_integer (hr.mono (by omega)) rfl T.g_is_integer T.F_is_integer.kp T.b_is_integer .nil pass0 (pa_cons (pv 0) pa_nil)))) pss_never pss_nil)), ?_⟩
    exact ⟨_, rfl, i, rfl, true, rfl, iteF q⟩
def spCheck : Sp := fun vs H Q _ => ∃ n : Nat, vs = [.int (n : Int)] ∧ n ≤ 10 ^ 30 ∧ Q .non H
theorem ok_check (T : Txt K mg) : FnOk P w K mg base CX0 3 T.f_check_number T.d_check_number ["value"] spCheck := by
  have G_check_integer := ok_cki (P := P) (w := w) (base := base) T
  refine T.F_check_number.ok sc_check_number (fun vs H Q E h => ?_) (fun cdv A outer s H vs Q E hr h => ?_)
  · obtain ⟨n, rfl, _⟩ := h
    rfl
  · obtain ⟨n, rfl, h0, q⟩ := h
    have rG := T.r_GREATEST
    refine ⟨_, (pss_cons (ps_expr (pe_call G_check_integer (hr.mono (by omega)) rfl T.g_check_integer T.F_check_integer.kp T.b_check_integer .nil pass0 (pa_cons (pv 0) pa_nil)))
      (pss_one (ps_if (PW.pt (pw_or (pt_cmpR op_lt (pv 0) pe_int (nomark _)) (pw_or1 (pt_cmpR op_gt (pv 0) (pe_glob rfl T.v_GREATEST T.r_GREATEST) (nomark _))))) pss_never pss_nil))), ?_⟩
    refine ⟨_, rfl, (n : Int), rfl, ?_⟩
    refine ⟨_, rfl, _, _, rfl, rfl, _, rfl, ?_⟩
    refine ifF (dF (by omega)) ?_
    refine ⟨_, rfl, _, _, rfl, rfl, _, rfl, ?_⟩
    have h1 : ¬ ((10 : Int) ^ 30 < (n : Int)) := by
      have : (10 : Int) ^ 30 = ((10 ^ 30 : Nat) : Int) := by decide +kernel
      rw [this]
      omega
    exact ifF (dF h1) q


def spLp : Sp := fun vs H Q _ => ∃ n : Nat, vs = [.int (n : Int)] ∧ n ≠ 0 ∧ Q (.int (low n : Int)) H
theorem ok_lp (T : Txt K mg) : FnOk P w K mg base CX0 3 T.f_lowest_power T.d_lowest_power ["number"] spLp := by
  refine T.F_lowest_power.ok sc_lowest_power (fun vs H Q E h => ?_) (fun cdv A outer s H vs Q E hr h => ?_)
  · obtain ⟨n, rfl, _⟩ := h
    rfl
  · obtain ⟨n, rfl, h0, q⟩ := h
    refine ⟨_, (pss_one (ps_ret (pe_op op_and (pv 0) (pe_un un_neg (pv 0))))), ?_⟩
    rw [← low_bits h0] at q
    exact ⟨_, rfl, _, rfl, _, rfl, _, _, rfl, rfl, q⟩
def spPs : Sp := fun vs H Q _ => ∃ a r : Nat, vs = [.int (a : Int), .int (r : Int)] ∧ r ≠ 0 ∧ r < 2 ^ 200 ∧ Q (.int (szP a r : Int)) H
theorem ok_ps (T : Txt K mg) : FnOk P w K mg base CX0 4 T.f_piece_size T.d_piece_size ["first", "room"] spPs := by
  have G_greatest_power := ok_gp (P := P) (w := w) (base := base) T
  have G_lowest_power := ok_lp (P := P) (w := w) (base := base) T
  refine T.F_piece_size.ok sc_piece_size (fun vs H Q E h => ?_) (fun cdv A outer s H vs Q E hr h => ?_)
  · obtain ⟨a, r, rfl, _⟩ := h
    rfl
  · obtain ⟨a, r, rfl, h0, h1, q⟩ := h
    refine ⟨_, (pss_cons (ps_set (i := 2) sc_piece_size.nd rfl (.inl rfl) (pe_call G_greatest_power (hr.mono (by omega)) rfl T.g_greatest_power T.F_greatest_power.kp T.b_greatest_power .nil pass0 (pa_cons (pv 1) pa_nil)))
      (pss_cons (ps_if (pt_cmpR op_eq (pv 0) pe_int (nomark _)) (pss_one (ps_ret (pv 2))) pss_nil)
      (pss_one (ps_ret (pe_callB (call_min2 rfl) (by rfl) T.z_min (by decide +kernel) (pa_cons (pv 2) (pa_cons (pe_call G_lowest_power (hr.mono (by omega)) rfl T.g_lowest_power T.F_lowest_power.kp T.b_lowest_power .nil pass0 (pa_cons (pv 0) pa_nil)) pa_nil))))))), ?_⟩
    refine ⟨_, rfl, r, rfl, h0, h1, _, rfl, rfl, _, rfl, ite2 (fun e => ?_) (fun e => ?_)⟩
    · have e1 := V.int.inj (of_decide_eq_true e)
      have e2 : szP a r = 2 ^ r.log2 := if_pos (by omega)
      rw [e2] at q
      exact ⟨_, rfl, q⟩
    · have e1 : a ≠ 0 := fun z => e (dT (by rw [z]; rfl))
      have e2 : szP a r = min (2 ^ r.log2) (low a) := if_neg e1
      refine ⟨_, rfl, _, rfl, a, rfl, e1, _, _, rfl, ?_⟩
      have e3 : (if (low a : Int) < ((2 ^ r.log2 : Nat) : Int) then (low a : Int) else ((2 ^ r.log2 : Nat) : Int)) = (szP a r : Int) := by
        rw [e2]
        split <;> omega
      rw [e3]
      exact q
/-- a list of pairs at p -/
def PL (H : Hp) (p : Addr) (l : List (Nat × Nat)) : Prop := ∃ ts : List Addr, H p = some (.lst (ts.map V.ref)) ∧ ts.length = l.length ∧
  ∀ (i : Nat) (t : Addr) (x : Nat × Nat), ts[i]? = some t → l[i]? = some x → H t = some (.tup [.int (x.1 : Int), .int (x.2 : Int)])
theorem PL.same {H H1 : Hp} {p : Addr} {l : List (Nat × Nat)} (h : PL H p l) (s : Same H H1) : PL H1 p l := by
  obtain ⟨ts, a, b, c⟩ := h
  exact ⟨ts, s _ _ a, b, fun i t x e1 e2 => s _ _ (c i t x e1 e2)⟩
theorem PL.nil {H : Hp} {p : Addr} : PL (upd H p (.lst [])) p [] := ⟨[], upd_same, rfl, fun i t x e => by simp at e⟩
theorem PL.add {H : Hp} {p t : Addr} {l : List (Nat × Nat)} {ts : List Addr} {x : Nat × Nat} (e1 : H p = some (.lst (ts.map V.ref))) (e2 : ts.length = l.length)
    (e3 : ∀ (i : Nat) (t : Addr) (x : Nat × Nat), ts[i]? = some t → l[i]? = some x → H t = some (.tup [.int (x.1 : Int), .int (x.2 : Int)])) (n : H t = none) :
    PL (upd (upd H t (.tup [.int (x.1 : Int), .int (x.2 : Int)])) p (.lst ((ts.map V.ref) ++ [V.ref t]))) p (l ++ [x]) := by
  have ntp : t ≠ p := (ne_of_none e1 n).symm
  refine ⟨ts ++ [t], by rw [upd_same, List.map_append]; rfl, by rw [List.length_append, List.length_append, e2]; rfl, fun i u y f1 f2 => ?_⟩
  by_cases hi : i < ts.length
  · rw [List.getElem?_append_left hi] at f1
    rw [List.getElem?_append_left (by omega)] at f2
    have g := e3 i u y f1 f2
    have hup : u ≠ p := fun z => by
      rw [z, e1] at g
      cases g
    rw [upd_ne hup, upd_ne (ne_of_none g n)]
    exact g
  · rw [List.getElem?_append_right (by omega)] at f1 f2
    by_cases hz : i - ts.length = 0
    · rw [hz] at f1
      rw [show i - l.length = 0 by omega] at f2
      cases f1
      cases f2
      rw [upd_ne ntp, upd_same]
    · rw [show i - ts.length = (i - ts.length - 1) + 1 by omega] at f1
      simp at f1
def spPieces : Sp := fun vs H Q _ => ∃ a r : Nat, vs = [.int (a : Int), .int ((a + r : Nat) : Int)] ∧ a + r ≤ 10 ^ 30 ∧ ∀ p H', H p = none → Same H H' → PL H' p (pcF 201 a r) → Q (.ref p) H'
theorem ok_pieces (T : Txt K mg) : FnOk P w K mg base CX0 5 T.f_pieces T.d_pieces ["begin", "end"] spPieces := by
  have G_piece_size := ok_ps (P := P) (w := w) (base := base) T
  have G_check_number := ok_check (P := P) (w := w) (base := base) T
  refine T.F_pieces.ok sc_pieces (fun vs H Q E h => ?_) (fun cdv A outer s H vs Q E hr h => ?_)
  · obtain ⟨a, r, rfl, _⟩ := h
    rfl
  · obtain ⟨a, r, rfl, h0, q⟩ := h
    refine ⟨_, (pss_cons (ps_expr (pe_call G_check_number (hr.mono (by omega)) rfl T.g_check_number T.F_check_number.kp T.b_check_number .nil pass0 (pa_cons (pv 0) pa_nil)))
      (pss_cons (ps_expr (pe_call G_check_number (hr.mono (by omega)) rfl T.g_check_number T.F_check_number.kp T.b_check_number .nil pass0 (pa_cons (pv 1) pa_nil)))
      (pss_cons (ps_if (pt_cmpR op_gt (pv 0) (pv 1) (nomark _)) pss_never pss_nil)
      (pss_cons (ps_set (i := 2) sc_pieces.nd rfl (.inl rfl) (pe_lst pa_nil))
      (pss_cons (ps_set (i := 3) sc_pieces.nd rfl (.inl rfl) (pv 0))
      (pss_cons (ps_while PassesOwn.never (pt_cmpR op_lt (pv 3) (pv 1) (nomark _)) (pss_cons (ps_set (i := 4) sc_pieces.nd rfl (.inl rfl) (pe_call G_piece_size (hr.mono (by omega)) rfl T.g_piece_size T.F_piece_size.kp T.b_piece_size .nil pass0 (pa_cons (pv 3) (pa_cons (pe_op op_sub (pv 1) (pv 3)) pa_nil))))
        (pss_cons (ps_expr (pe_bm PySem.F.plainAttrs_list PySem.F.slot_list_append PySem.F.type_list_append mt_append (pv 2) (pa_cons (pe_tup (pa_cons (pv 3) (pa_cons (pv 4) pa_nil))) pa_nil)))
        (pss_one (ps_aug (i := 3) sc_pieces.nd rfl (.inl rfl) (pv 4) ip_add)))))
      (pss_one (ps_ret (pv 2))))))))), ?_⟩
    refine ⟨_, rfl, a, rfl, by omega, ?_⟩
    refine ⟨_, rfl, a + r, rfl, h0, ?_⟩
    refine ⟨_, rfl, _, rfl, _, _, rfl, rfl, _, rfl, ifF (dF (by omega)) ?_⟩
    refine ⟨Nat.zero_le _, fun o no => ?_⟩
    refine ⟨_, rfl, ?_⟩
    have hb : a + r ≤ 2 ^ 100 := Nat.le_of_lt (Nat.lt_of_le_of_lt h0 p100)
    refine while_by (fun σ H' => ∃ (x y k : Nat) (acc : List (Nat × Nat)) (z : Option V), σ = [some (.int (a : Int)), some (.int ((a + r : Nat) : Int)), some (.ref o), some (.int (x : Int)), z] ∧ x + y = a + r ∧ enough k x y ∧ acc.length + k ≤ 201 ∧ acc ++ pcF k x y = pcF 201 a r ∧ Same H H' ∧ PL H' o acc)
      (fun σ _ => a + r - intAt σ 3) ⟨a, r, 201, [], none, rfl, rfl, enough_all h0, Nat.le_refl _, rfl, same_new no, PL.nil⟩ ?_ ?_
    · rintro σ H' ⟨x, y, k, acc, z, rfl, hxy, hk, hl, he, hs, ho⟩
      refine ⟨_, rfl, _, rfl, _, _, rfl, rfl, _, rfl, ite2 (fun e => ?_) (fun e => ?_)⟩
      · have e1 := of_decide_eq_true e
        have y0 : y ≠ 0 := by omega
        obtain ⟨k, rfl, hk2, s1, s0, _⟩ := enough_step hk y0 (by omega)
        refine ⟨_, rfl, _, rfl, _, rfl, _, _, rfl, rfl, x, y, by show [V.int (x : Int), V.int (((a + r : Nat) : Int) - (x : Int))] = _; rw [show (((a + r : Nat) : Int) - (x : Int)) = (y : Int) by omega], y0, by omega, ?_⟩
        obtain ⟨ts, t1, t2, t3⟩ := ho
        refine ⟨_, rfl, .inl ⟨rfl, _, .inl (.inl t1)⟩, _, rfl, _, rfl, le2, fun t nt => ?_⟩
        have ntp : o ≠ t := ne_of_none t1 nt
        refine ⟨o, _, _, rfl, rfl, by rw [upd_ne ntp]; exact t1, ?_, ?_⟩
        · rw [List.length_map]
          exact small1000 (by omega)
        · refine ⟨_, rfl, _, rfl, _, _, rfl, rfl, ?_⟩
          refine ⟨⟨x + szP x y, y - szP x y, k, acc ++ [(x, szP x y)], some (.int (szP x y : Int)), rfl, by omega, hk2, ?_, ?_, same_put (same_put hs (hs.free nt)) no, PL.add (x := (x, szP x y)) t1 t2 t3 nt⟩, ?_⟩
          · rw [List.length_append]
            show acc.length + 1 + k ≤ 201
            omega
          · rw [← he, pcF_pos y0, List.append_assoc]
            rfl
          · show a + r - ((x : Int) + (szP x y : Int)).toNat < a + r - ((x : Int)).toNat
            omega
      · have e1 : y = 0 := by
          have : ¬ ((x : Int) < ((a + r : Nat) : Int)) := fun z => e (dT z)
          omega
        subst e1
        rw [pcF_zero, List.append_nil] at he
        subst he
        exact ⟨_, rfl, q o H' no hs ho⟩
    · rintro σ H' Q1 Q2 m ⟨x, hx, y, hy, i, j, e1, e2, c, e3, q⟩
      exact ⟨x, hx, y, hy, i, j, e1, e2, c, e3, m _ _ q⟩
end
end Ob

set_option Elab.async false
set_option linter.all false
set_option maxRecDepth 100000
set_option maxHeartbeats 1000000
namespace Ob
open PySem PySem.Spec PyProof.Rows L2
open LamX (Tabs TabB TabS ExtN)

set_option hygiene false in
local macro_rules
  | `(tactic| kp_flats) => `(tactic| first
    | assumption
    | exact upd_same
    | (apply atNew; assumption; kp_flats)
    | (apply atNe; (next => kbo_bools); kp_flats)
    | (apply atSame; assumption; kp_flats)
    | (apply atKp; assumption; (next => kaf_pre); kp_flats))
set_option hygiene false in
local macro_rules
  | `(tactic| kaf_pre) => `(tactic| first
    | assumption
    | exact not_nil
    | (apply not_cons; (next => kbo_bools); kaf_pre)
    | (apply not_app; (next => kaf_pre); kaf_pre))
set_option hygiene false in
local macro_rules
  | `(tactic| kbo_bools) => `(tactic| first
    | assumption
    | (apply Ne.symm; assumption)
    | (apply neN; assumption; kp_flats)
    | (apply neN'; assumption; kp_flats))
set_option hygiene false in
local macro_rules
  | `(tactic| o_reads) => `(tactic| first
    | with_reducible rfl
    | assumption
    | rfl
    | kp_flats
    | (show SqL _ _ _ _; first | assumption | (apply sqlOf; kp_flats) | (apply sqlSame; assumption; o_reads))
    | (show SqT _ _ _ _; first | assumption | (apply sqtOf; kp_flats) | (apply sqtAll; assumption) | (apply sqtSame; assumption; o_reads))
    | (show Cls _ _; first | skip)
    | (show NoAttr _ _ _; first | skip)
    | (apply Or.inl; o_reads)
    | (apply Or.inr; o_reads)
    | (apply And.intro; (next => o_reads); o_reads)
    | (apply Exists.intro; o_reads)
    | exact Nat.le_of_ble_eq_true rfl
    | exact Nat.succ_ne_zero _
    | (show Fr _ _; kba_ints)
    | (show Same _ _; kd_subs)
    | (show Kp _ _ _; kxs_still)
    | (show (_ : Nat) ≤ _; simp only [List.length_append, List.length_map, List.length_cons, List.length_nil, List.length_take, List.length_drop, List.length_replicate, List.length_range, sizeLine_eq]; omega)
    | (show _ = none; apply Fr.h; kba_ints)
    | (show Bag _ _; first | assumption | (apply bag_putF; assumption; o_reads) | (apply bag_neF; (next => kbo_bools); o_reads) | (apply bag_kpR; assumption; (next => kaf_pre); o_reads))
    | omega
    | decide)
local macro_rules
  | `(tactic| o_readsAll) => `(tactic| repeat (first
    | (refine fun (pNew : Addr) (nNew : _ = none) => ?_; replace nNew := Fr.mk nNew)
    | (refine fun (xNew dNew : Addr) (nNew : _ = none) (mNew : _ = none) (eNew : dNew ≠ xNew) => ?_; replace nNew := Fr.mk nNew; replace mNew := Fr.mk mNew)
    | (apply And.intro; next => o_reads)
    | apply Exists.intro (α := V)
    | apply Exists.intro (α := Addr)
    | apply Exists.intro (α := Int)
    | apply Exists.intro (α := Bool)
    | apply Exists.intro (α := List V)
    | apply Exists.intro (α := List Nat)
    | apply Exists.intro (α := List (Str × V))
    | apply Exists.intro (α := List _)
    | apply Exists.intro (α := Str)
    | apply Exists.intro (α := HO)
    | apply Exists.intro (α := Sp)
    | apply Exists.intro (α := VK)))
set_option hygiene false in
local macro_rules
  | `(tactic| kba_ints) => `(tactic| first
    | assumption
    | (apply frUp; (first | assumption | (apply Ne.symm; assumption)); kba_ints)
    | (apply noneOf; assumption; intro oF eF; apply Exists.intro; kp_flats)
    | (apply frUp; (next => kbo_bools); kba_ints))
set_option hygiene false in
local macro_rules
  | `(tactic| kxs_still) => `(tactic| first
    | assumption
    | exact kp_refl _ _
    | (apply kp_newF; assumption; kxs_still)
    | (apply kp_new; assumption; kxs_still)
    | (apply kp_up; (next => o_fieldsN); kxs_still)
    | (apply kp_new; (next => kba_ints); kxs_still)
    | (apply kp_sameR; assumption; kxs_still)
    | (apply kp_transR; assumption; kxs_still)
    | (apply kp_freshR; assumption; (next => kaf_suf); kxs_still))
set_option hygiene false in
local macro_rules
  | `(tactic| kaf_suf) => `(tactic| first
    | assumption
    | exact subNil
    | (apply subCons; (first | (apply Or.inl; o_fieldsN) | (apply Or.inr; kba_ints)); kaf_suf)
    | (apply subApp; (next => kaf_suf); kaf_suf))
set_option hygiene false in
local macro_rules
  | `(tactic| o_fieldsN) => `(tactic| first
    | assumption
    | exact memA
    | (apply memB; o_fieldsN)
    | (apply memL; o_fieldsN)
    | (apply memR; o_fieldsN))
set_option hygiene false in
local macro_rules
  | `(tactic| kd_subs) => `(tactic| first
    | assumption
    | exact Same.refl _
    | (apply same_putF; assumption; kd_subs)
    | (apply same_putG; assumption; kd_subs)
    | (apply same_putF; (next => kba_ints); kd_subs)
    | (apply same_transR; assumption; kd_subs))

set_option pp.maxSteps 900
/-! ### the members by the nodes -/
def addN (N : Nat → Nat → List Nat) (f s i : Nat) : Nat → Nat → List Nat := fun a b => if a = f ∧ b = s then N a b ++ [i] else N a b
def addP (N : Nat → Nat → List Nat) (i : Nat) (ps : List (Nat × Nat)) : Nat → Nat → List Nat := ps.foldl (fun N p => addN N p.1 p.2 i) N
def nodesOf (es : List (Nat × Nat)) : Nat → Nat → List Nat := es.foldl (fun N ie => addP N ie.1 (pcF 201 ie.1 (ie.2 - ie.1))) (fun _ _ => [])
abbrev kf (f s : Nat) : List Key := [.inl (f : Int), .inl (s : Int)]
theorem kf_inj {f s a b : Nat} (h : kf f s = kf a b) : f = a ∧ s = b := by
  injection h with h1 h2
  injection h2 with h2 _
  injection h1 with h1
  injection h2 with h2
  omega
def NC (R : Addr → Prop) (H : Hp) (kvs : List (List Key × V)) (N : Nat → Nat → List Nat) (c : Nat) : Prop :=
  (∀ f s : Nat, (N f s).length ≤ c ∧ ((valV kvs (kf f s) = none ∧ N f s = []) ∨ ∃ a, valV kvs (kf f s) = some (.ref a) ∧ H a = some (.lst ((N f s).map nV)))) ∧
  (∀ f s a, valV kvs (kf f s) = some (.ref a) → R a) ∧ ∀ f s f' s' a, valV kvs (kf f s) = some (.ref a) → valV kvs (kf f' s') = some (.ref a) → f = f' ∧ s = s'
def NB (R : Addr → Prop) (H : Hp) (nd : Addr) (N : Nat → Nat → List Nat) (c : Nat) : Prop := ∃ kvs, H nd = some (.dT kvs) ∧ kvs.length ≤ c ∧ NC R H kvs N c
theorem NB.same {R : Addr → Prop} {H H1 : Hp} {nd : Addr} {N : Nat → Nat → List Nat} {c : Nat} (h : NB R H nd N c) (s : Same H H1) : NB R H1 nd N c := by
  obtain ⟨kvs, h1, h2, h3, h4, h5⟩ := h
  exact ⟨kvs, s _ _ h1, h2, fun f t => ⟨(h3 f t).1, (h3 f t).2.imp id fun ⟨a, e1, e2⟩ => ⟨a, e1, s _ _ e2⟩⟩, h4, h5⟩
theorem add_same {N : Nat → Nat → List Nat} {f s i : Nat} : addN N f s i f s = N f s ++ [i] := if_pos ⟨rfl, rfl⟩
theorem add_ne {N : Nat → Nat → List Nat} {f s i a b : Nat} (h : ¬ (a = f ∧ b = s)) : addN N f s i a b = N a b := if_neg h
theorem NB.old {R : Addr → Prop} {H : Hp} {nd a : Addr} {N : Nat → Nat → List Nat} {c f s i : Nat} {kvs : List (List Key × V)} (h1 : H nd = some (.dT kvs)) (h2 : kvs.length ≤ c) (h : NC R H kvs N c) (e : valV kvs (kf f s) = some (.ref a)) (ea : H a = some (.lst ((N f s).map nV))) : NB R (upd H a (.lst ((N f s).map nV ++ [nV i]))) nd (addN N f s i) (c + 1) := by
  obtain ⟨h3, h4, h5⟩ := h
  have nna : nd ≠ a := fun z => by
    rw [z, ea] at h1
    cases h1
  refine ⟨kvs, by rw [upd_ne nna]; exact h1, by omega, fun f' s' => ?_, h4, h5⟩
  obtain ⟨l, hc⟩ := h3 f' s'
  by_cases z : f' = f ∧ s' = s
  · obtain ⟨rfl, rfl⟩ := z
    rw [add_same]
    refine ⟨by rw [List.length_append]; show _ + 1 ≤ c + 1; omega, .inr ⟨a, e, ?_⟩⟩
    rw [upd_same, List.map_append]
    rfl
  · rw [add_ne z]
    refine ⟨by omega, hc.imp id fun ⟨b, e1, e2⟩ => ⟨b, e1, ?_⟩⟩
    rw [upd_ne fun y => z (h5 _ _ _ _ a (by rw [← y]; exact e1) e)]
    exact e2
theorem NB.new {R : Addr → Prop} {H : Hp} {nd y : Addr} {N : Nat → Nat → List Nat} {c f s i : Nat} {kvs : List (List Key × V)} (h1 : H nd = some (.dT kvs)) (h2 : kvs.length ≤ c) (h : NC R H kvs N c) (e : valV kvs (kf f s) = none) (ny : y ≠ nd) (fy : R y) (yn : ∀ f s a, valV kvs (kf f s) = some (.ref a) → a ≠ y) (yd : ∀ f s a, valV kvs (kf f s) = some (.ref a) → a ≠ nd) : NB R (upd (upd H nd (.dT (putK kvs (kf f s) (.ref y)))) y (.lst [nV i])) nd (addN N f s i) (c + 1) := by
  obtain ⟨h3, h4, h5⟩ := h
  have l := length_putK kvs (kf f s) (.ref y)
  have e0 : N f s = [] := by
    rcases (h3 f s).2 with ⟨_, z⟩ | ⟨a, z, _⟩
    · exact z
    · rw [z] at e
      cases e
  have val : ∀ f' s' a, valV (putK kvs (kf f s) (.ref y)) (kf f' s') = some (.ref a) → (f' = f ∧ s' = s ∧ a = y) ∨ valV kvs (kf f' s') = some (.ref a) := fun f' s' a z => by
    rw [valV_put] at z
    by_cases w : kf f' s' = kf f s
    · rw [if_pos w] at z
      obtain ⟨w1, w2⟩ := kf_inj w
      cases z
      exact .inl ⟨w1, w2, rfl⟩
    · rw [if_neg w] at z
      exact .inr z
  refine ⟨putK kvs (kf f s) (.ref y), by rw [upd_ne ny.symm, upd_same], by omega, fun f' s' => ?_, fun f' s' a z => ?_, fun f1 s1 f2 s2 a z1 z2 => ?_⟩
  · obtain ⟨l, hc⟩ := h3 f' s'
    by_cases z : f' = f ∧ s' = s
    · obtain ⟨rfl, rfl⟩ := z
      rw [add_same, e0]
      exact ⟨by show 1 ≤ c + 1; omega, .inr ⟨y, by rw [valV_put, if_pos rfl], upd_same⟩⟩
    · rw [add_ne z, valV_put, if_neg fun w => z (kf_inj w)]
      refine ⟨by omega, hc.imp id fun ⟨b, e1, e2⟩ => ⟨b, e1, ?_⟩⟩
      rw [upd_ne (yn _ _ _ e1), upd_ne (yd _ _ _ e1)]
      exact e2
  · rcases val _ _ _ z with ⟨_, _, rfl⟩ | z
    · exact fy
    · exact h4 _ _ _ z
  · rcases val _ _ _ z1 with ⟨w1, w2, w3⟩ | z1
    · rcases val _ _ _ z2 with ⟨w4, w5, _⟩ | z2
      · exact ⟨w1.trans w4.symm, w2.trans w5.symm⟩
      · exact (yn _ _ _ z2 w3).elim
    · rcases val _ _ _ z2 with ⟨_, _, w3⟩ | z2
      · exact (yn _ _ _ z1 w3).elim
      · exact h5 _ _ _ _ a z1 z2
theorem NB.mono {R S : Addr → Prop} {H : Hp} {nd : Addr} {N : Nat → Nat → List Nat} {c : Nat} (h : NB R H nd N c) (m : ∀ a, R a → (∃ o, H a = some o) → S a) : NB S H nd N c := by
  obtain ⟨kvs, h1, h2, h3, h4, h5⟩ := h
  refine ⟨kvs, h1, h2, h3, fun f s a e => m a (h4 f s a e) ?_, h5⟩
  rcases (h3 f s).2 with ⟨z, _⟩ | ⟨b, z, ez⟩
  · rw [z] at e
    cases e
  · rw [z] at e
    cases e
    exact ⟨_, ez⟩
theorem NB.more {R : Addr → Prop} {H : Hp} {nd : Addr} {N : Nat → Nat → List Nat} {c d : Nat} (h : NB R H nd N c) (l : c ≤ d) : NB R H nd N d := by
  obtain ⟨kvs, h1, h2, h3, h4⟩ := h
  exact ⟨kvs, h1, by omega, fun f s => ⟨Nat.le_trans (h3 f s).1 l, (h3 f s).2⟩, h4⟩
section
variable {P : Program} {w : World} {K : PySem.W.Frag} {mg : Str → Option Value} {base : Heap}
def endsK (es : List (Nat × Nat)) : List (Key × V) := es.map fun e => (.inl (e.1 : Int), .int (e.2 : Int))
def spMbn : Sp := fun vs H Q _ => ∃ (ed : Addr) (es : List (Nat × Nat)), vs = [.ref ed] ∧ H ed = some (.dK (endsK es)) ∧ es.length ≤ 2000 ∧ (∀ e ∈ es, e.1 ≤ e.2 ∧ e.2 ≤ 2000) ∧ ∀ nd kvs H', Same H H' → H' nd = some (.dT kvs) → NodesAt H' kvs (nodesOf es) → (∀ f s a, valV kvs [.inl ((f : Nat) : Int), .inl ((s : Nat) : Int)] = some (.ref a) → Fr H a) → Q (.ref nd) H'
theorem ok_mbn (T : Txt K mg) : FnOk P w K mg base CX0 6 T.f_members_by_nodes T.d_members_by_nodes ["ends"] spMbn := by
  have G_pieces := ok_pieces (P := P) (w := w) (base := base) T
  refine T.F_members_by_nodes.ok sc_members_by_nodes (fun vs H Q E h => ?_) (fun cdv A outer s H vs Q E hr h => ?_)
  · obtain ⟨ed, es, rfl, _⟩ := h
    rfl
  · obtain ⟨ed, es, rfl, hed, hl, he, q⟩ := h
    refine ⟨_, (pss_cons (ps_set (i := 1) sc_members_by_nodes.nd rfl (.inl rfl) pe_dnewT)
      (pss_cons (ps_lock (ps_for PassesOwn.never rfl (pi_items (pv 0)) (pg_tup (by rfl) (pgs_cons (pg_name (i := 2) sc_members_by_nodes.nd rfl (.inl rfl)) (pgs_cons (pg_name (i := 3) sc_members_by_nodes.nd rfl (.inl rfl)) pgs_nil))) (pss_one (ps_for PassesOwn.never rfl (pi_list (pe_call G_pieces (hr.mono (by omega)) rfl T.g_pieces T.F_pieces.kp T.b_pieces .nil pass0 (pa_cons (pv 2) (pa_cons (pv 3) pa_nil)))) (pg_name (i := 4) sc_members_by_nodes.nd rfl (.inl rfl)) (pss_one (ps_expr (pe_bm PySem.F.plainAttrs_list PySem.F.slot_list_append PySem.F.type_list_append mt_append (pe_bm PySem.F.plainAttrs_dict PySem.F.slot_dict_setdefault PySem.F.type_dict_setdefault (Inf.mt_setT (hu_of hr)) (pv 1) (pa_cons (pv 4) (pa_cons (pe_lst pa_nil) pa_nil))) (pa_cons (pv 2) pa_nil))))))))
      (pss_one (ps_ret (pv 1))))), ?_⟩
    refine fun nd nnd => ?_
    have nde : ed ≠ nd := ne_of_none hed nnd
    refine ⟨ed, .dK (endsK es), (by rw [upd_ne nde]; exact hed), True.intro, fun od => ?_⟩
    have hz : ∀ b o, upd H ed (.frz od (.dK (endsK es))) b = some o → b ≠ nd := fun b o e z => by
      rw [z, upd_ne (Ne.symm nde), nnd] at e
      cases e
    have fnd : Fr (upd H ed (.frz od (.dK (endsK es)))) nd := Fr.mk (by rw [upd_ne (Ne.symm nde)]; exact nnd)
    have sz : Same (upd H ed (.frz od (.dK (endsK es)))) (upd (upd H nd (.dT [])) ed (.frz od (.dK (endsK es)))) := fun b o e => by
      have nb := hz b o e
      by_cases c : b = ed
      · rw [c, upd_same] at e ⊢
        exact e
      · rw [upd_ne c] at e ⊢
        rw [upd_ne nb]
        exact e
    have ez : upd H ed (.frz od (.dK (endsK es))) ed = some (.frz od (.dK (endsK es))) := upd_same
    refine ⟨_, rfl, ed, od, endsK es, rfl, upd_same, ?_⟩
    refine for_it walk_items (fun i σ H' => ∃ y2 y3 y4, σ = [some (.ref ed), some (.ref nd), y2, y3, y4] ∧ Same (upd H ed (.frz od (.dK (endsK es)))) H' ∧ NB (Fr (upd H ed (.frz od (.dK (endsK es))))) H' nd (nodesOf (es.take i)) (201 * i)) ⟨_, _, _, rfl, sz, [], (by rw [upd_ne (Ne.symm nde), upd_same]), Nat.le_refl _, fun f s => ⟨Nat.le_refl _, .inl ⟨rfl, rfl⟩⟩, (fun f s a e => nomatch e), fun f s f' s' a e => nomatch e⟩ (fun i σ H' _ ⟨_, _, _, _, z, _⟩ => z _ _ ez) ?_ ?_
    · rintro i x σ H1 H2 hi ⟨y2, y3, y4, rfl, s1, nb⟩ ⟨T', vx, vy, rfl, nT, rfl, hx, hy⟩
      obtain ⟨ky, hx2, rfl⟩ := Option.map_eq_some_iff.mp hx
      obtain ⟨ky', hy2, rfl⟩ := Option.map_eq_some_iff.mp hy
      rw [hx2] at hy2
      cases hy2
      have hx' : (es.map fun e => (((.inl (e.1 : Int)), .int (e.2 : Int)) : Key × V))[i]? = some ky := hx2
      rw [List.getElem?_map] at hx'
      obtain ⟨e, hee, rfl⟩ := Option.map_eq_some_iff.mp hx'
      have li : (endsK es).length = es.length := List.length_map ..
      have eb := he e (List.mem_of_getElem? hee)
      have sT : Same H1 (upd H1 T' (.tup [.int (e.1 : Int), .int (e.2 : Int)])) := same_newF (Fr.mk nT)
      have eT : upd H1 T' (.tup [.int (e.1 : Int), .int (e.2 : Int)]) T' = some (.tup [.int (e.1 : Int), .int (e.2 : Int)]) := upd_same
      have nbT := nb.same sT
      have s1T := s1.trans sT
      refine ⟨T', _, rfl, sqtOf eT, rfl, _, _, rfl, _, _, rfl, rfl, ?_⟩
      refine ⟨_, rfl, _, rfl, e.1, e.2 - e.1, ?_, ?_, fun pp H3 npp s3 pl => ?_⟩
      · show [V.int (e.1 : Int), V.int (e.2 : Int)] = _
        rw [show e.1 + (e.2 - e.1) = e.2 by omega]
      · have : (2000 : Nat) ≤ 10 ^ 30 := by decide +kernel
        omega
      obtain ⟨ts, t1, t2, t3⟩ := pl
      have fpp := Fr.mk npp
      have nb3 : NB (fun a => Fr (upd H ed (.frz od (.dK (endsK es)))) a ∧ a ≠ pp) H3 nd (nodesOf (es.take i)) (201 * i) := (nbT.mono (fun a ra ⟨o, ea⟩ => ⟨ra, ne_of_none ea npp⟩)).same s3
      have lps := pcF_len 201 e.1 (e.2 - e.1)
      refine ⟨pp, rfl, ⟨_, sqlOf t1⟩, ?_⟩
      refine for_it (walk_list (K := K) (a := pp) (xs := ts.map V.ref)) (fun j σ H' => ∃ y4, σ = [some (.ref ed), some (.ref nd), some (.int (e.1 : Int)), some (.int (e.2 : Int)), y4] ∧ Same (upd H ed (.frz od (.dK (endsK es)))) H' ∧ H' pp = some (.lst (ts.map V.ref)) ∧ (∀ (q : Nat) (t : Addr) (x : Nat × Nat), ts[q]? = some t → (pcF 201 e.1 (e.2 - e.1))[q]? = some x → H' t = some (.tup [.int (x.1 : Int), .int (x.2 : Int)])) ∧ NB (fun a => Fr (upd H ed (.frz od (.dK (endsK es)))) a ∧ a ≠ pp) H' nd (addP (nodesOf (es.take i)) e.1 ((pcF 201 e.1 (e.2 - e.1)).take j)) (201 * i + j)) ⟨_, rfl, s1T.trans s3, t1, t3, nb3⟩ (fun j σ H' _ ⟨_, _, _, z, _⟩ => sqlOf z) ?_ ?_
      · rintro j x σ H6 H4 hj ⟨y4, rfl, s4, hpp, hts, nb4⟩ ⟨rfl, hx⟩
        have lts : (ts.map V.ref).length = ts.length := List.length_map ..
        rw [List.getElem?_map] at hx
        obtain ⟨t, ht, rfl⟩ := Option.map_eq_some_iff.mp hx
        obtain ⟨pc, hpc⟩ : ∃ pc, (pcF 201 e.1 (e.2 - e.1))[j]? = some pc := ⟨_, List.getElem?_eq_getElem (by omega)⟩
        have et4 := hts j t pc ht hpc
        have hadd : addP (nodesOf (es.take i)) e.1 ((pcF 201 e.1 (e.2 - e.1)).take (j + 1)) = addN (addP (nodesOf (es.take i)) e.1 ((pcF 201 e.1 (e.2 - e.1)).take j)) pc.1 pc.2 e.1 := by
          unfold addP
          rw [List.take_succ, hpc, List.foldl_append]
          rfl
        rw [hadd]
        generalize addP (nodesOf (es.take i)) e.1 ((pcF 201 e.1 (e.2 - e.1)).take j) = N at nb4 ⊢
        obtain ⟨kvs0, g1, _⟩ := id nb4
        refine ⟨_, rfl, .inr (.inr (.inl ⟨rfl, .inr ⟨_, g1⟩⟩)), _, rfl, Nat.zero_le _, fun z nz => ?_⟩
        have fz := Fr.mk nz
        have s5 : Same H4 (upd H4 z (.lst [])) := same_newF fz
        have ez5 : upd H4 z (.lst []) z = some (.lst []) := upd_same
        have zpp : z ≠ pp := (ne_of_none hpp nz).symm
        have fz0 : Fr (upd H ed (.frz od (.dK (endsK es)))) z := Fr.mk (s4.free nz)
        obtain ⟨kvs, k1, k2, k3⟩ := nb4.same s5
        have vz : ∀ f s a, valV kvs (kf f s) = some (.ref a) → a ≠ z ∧ a ≠ nd := fun f s a w => by
          obtain ⟨kvs', w1, _, w3, _⟩ := nb4
          rw [s5 _ _ w1] at k1
          cases k1
          rcases (w3 f s).2 with ⟨u, _⟩ | ⟨b, u, ub⟩
          · rw [u] at w
            cases w
          · rw [u] at w
            cases w
            exact ⟨ne_of_none ub nz, fun y => by rw [y, w1] at ub; cases ub⟩
        refine ⟨nd, kvs, kf pc.1 pc.2, t, .ref z, rfl, rfl, k1, s5 _ _ et4, by rw [sizeLine_eq]; omega, fun v hv => ?_, fun hn => ?_⟩
        · rcases (k3.1 pc.1 pc.2).2 with ⟨u, _⟩ | ⟨a, u, ua⟩
          · rw [u] at hv
            cases hv
          · rw [u] at hv
            cases hv
            obtain ⟨fa, npa⟩ := k3.2.1 _ _ _ u
            have lN := (k3.1 pc.1 pc.2).1
            refine ⟨.inl ⟨rfl, _, sqlOf ua⟩, _, rfl, a, _, _, rfl, rfl, ua, by rw [List.length_map, sizeLine_eq]; omega, ?_⟩
            have mA : Mu (upd H4 z (.lst [])) [a] := mu_lst ua mu_nil
            have kA : Kp [a] (upd H4 z (.lst [])) (upd (upd H4 z (.lst [])) a (.lst ((N pc.1 pc.2).map nV ++ [nV e.1]))) := kp_up memA (kp_refl _ _)
            exact ⟨_, rfl, same_putG fa (s4.trans s5), kA.at_ _ _ (s5 _ _ hpp) (not_cons (Ne.symm npa) not_nil), fun q t' x' w1 w2 => kp_tup kA mA (s5 _ _ (hts q t' x' w1 w2)), NB.old k1 k2 k3 u ua⟩
        · have znd : z ≠ nd := (ne_of_none g1 nz).symm
          have fnd4 : Fr (upd H ed (.frz od (.dK (endsK es)))) nd := fnd
          refine ⟨.inl ⟨rfl, [], sqlOf (by rw [upd_ne znd]; exact ez5)⟩, _, rfl, z, [], _, rfl, rfl, (by rw [upd_ne znd]; exact ez5), by rw [sizeLine_eq]; decide, ?_⟩
          have mA : Mu (upd H4 z (.lst [])) [nd, z] := mu_cons k1 (fun _ z => nomatch z) (fun _ z => nomatch z) (mu_lst ez5 mu_nil)
          have kA : Kp [nd, z] (upd H4 z (.lst [])) (upd (upd (upd H4 z (.lst [])) nd (.dT (putK kvs (kf pc.1 pc.2) (.ref z)))) z (.lst [nV e.1])) := kp_up (memB memA) (kp_up memA (kp_refl _ _))
          have npn : pp ≠ nd := fun w => by
            rw [w, g1] at hpp
            cases hpp
          exact ⟨_, rfl, same_putG fz0 (same_putG fnd4 (s4.trans s5)), kA.at_ _ _ (s5 _ _ hpp) (not_cons npn (not_cons (Ne.symm zpp) not_nil)), fun q t' x' w1 w2 => kp_tup kA mA (s5 _ _ (hts q t' x' w1 w2)), NB.new k1 k2 k3 hn znd ⟨fz0, zpp⟩ (fun f s a w => (vz f s a w).1) (fun f s a w => (vz f s a w).2)⟩
      · rintro σ H4 ⟨y4, rfl, s4, hpp, hts, nb4⟩
        have lts : (ts.map V.ref).length = ts.length := List.length_map ..
        refine ⟨_, _, _, rfl, s4, ?_⟩
        have hno : nodesOf (es.take (i + 1)) = addP (nodesOf (es.take i)) e.1 (pcF 201 e.1 (e.2 - e.1)) := by
          unfold nodesOf
          rw [List.take_succ, hee, List.foldl_append]
          rfl
        rw [hno]
        have htk := List.take_of_length_le (l := pcF 201 e.1 (e.2 - e.1)) (i := (ts.map V.ref).length) (by omega)
        rw [htk] at nb4
        exact (nb4.mono fun a h _ => h.1).more (by omega)
    · rintro σ H1 ⟨y2, y3, y4, rfl, s1, nb⟩
      have li : (endsK es).length = es.length := List.length_map ..
      have htk := List.take_of_length_le (l := es) (i := (endsK es).length) (by omega)
      rw [htk] at nb
      obtain ⟨kvs, k1, k2, k3⟩ := nb
      refine ⟨s1 _ _ ez, ?_⟩
      show ∃ _, _
      have nea : ∀ f s a, valV kvs (kf f s) = some (.ref a) → a ≠ ed := fun f s a w => (ne_of_none ez (k3.2.1 f s a w).h).symm
      refine ⟨_, rfl, q nd kvs _ (fun b o e => ?_) (by rw [upd_ne (Ne.symm nde)]; exact k1) (fun f s => ⟨by have := (k3.1 f s).1; omega, ?_⟩) ?_⟩
      · by_cases c : b = ed
        · rw [c, hed] at e
          rw [c, upd_same]
          exact e
        · rw [upd_ne c]
          exact s1 _ _ (by rw [upd_ne c]; exact e)
      · rcases (k3.1 f s).2 with h | ⟨a, u, ua⟩
        · exact .inl h
        · refine .inr ⟨a, u, ?_⟩
          rw [upd_ne (nea f s a u)]
          exact ua
      · intro f s a u
        have := (k3.2.1 f s a u).h
        rw [upd_ne (nea f s a u)] at this
        exact Fr.mk this
end
end Ob

set_option Elab.async false
set_option linter.all false
set_option maxRecDepth 100000
set_option maxHeartbeats 1000000
namespace Ob
open PySem PySem.Spec PyProof.Rows L2
open LamX (Tabs TabB TabS ExtN)

set_option hygiene false in
local macro_rules
  | `(tactic| kp_flats) => `(tactic| first
    | assumption
    | exact upd_same
    | (apply atNew; assumption; kp_flats)
    | (apply atNe; (next => kbo_bools); kp_flats)
    | (apply atSame; assumption; kp_flats)
    | (apply atKp; assumption; (next => kaf_pre); kp_flats))
set_option hygiene false in
local macro_rules
  | `(tactic| kaf_pre) => `(tactic| first
    | assumption
    | exact not_nil
    | (apply not_cons; (next => kbo_bools); kaf_pre)
    | (apply not_app; (next => kaf_pre); kaf_pre))
set_option hygiene false in
local macro_rules
  | `(tactic| kbo_bools) => `(tactic| first
    | assumption
    | (apply Ne.symm; assumption)
    | (apply neN; assumption; kp_flats)
    | (apply neN'; assumption; kp_flats))
set_option hygiene false in
local macro_rules
  | `(tactic| o_reads) => `(tactic| first
    | with_reducible rfl
    | assumption
    | rfl
    | kp_flats
    | (show SqL _ _ _ _; first | assumption | (apply sqlOf; kp_flats) | (apply sqlSame; assumption; o_reads))
    | (show SqT _ _ _ _; first | assumption | (apply sqtOf; kp_flats) | (apply sqtAll; assumption) | (apply sqtSame; assumption; o_reads))
    | (show Cls _ _; first | skip)
    | (show NoAttr _ _ _; first | skip)
    | (apply Or.inl; o_reads)
    | (apply Or.inr; o_reads)
    | (apply And.intro; (next => o_reads); o_reads)
    | (apply Exists.intro; o_reads)
    | exact Nat.le_of_ble_eq_true rfl
    | exact Nat.succ_ne_zero _
    | (show Fr _ _; kba_ints)
    | (show Same _ _; kd_subs)
    | (show Kp _ _ _; kxs_still)
    | (show (_ : Nat) ≤ _; simp only [List.length_append, List.length_map, List.length_cons, List.length_nil, List.length_take, List.length_drop, List.length_replicate, List.length_range, sizeLine_eq]; omega)
    | (show _ = none; apply Fr.h; kba_ints)
    | (show Bag _ _; first | assumption | (apply bag_putF; assumption; o_reads) | (apply bag_neF; (next => kbo_bools); o_reads) | (apply bag_kpR; assumption; (next => kaf_pre); o_reads))
    | omega
    | decide)
local macro_rules
  | `(tactic| o_readsAll) => `(tactic| repeat (first
    | (refine fun (pNew : Addr) (nNew : _ = none) => ?_; replace nNew := Fr.mk nNew)
    | (refine fun (xNew dNew : Addr) (nNew : _ = none) (mNew : _ = none) (eNew : dNew ≠ xNew) => ?_; replace nNew := Fr.mk nNew; replace mNew := Fr.mk mNew)
    | (apply And.intro; next => o_reads)
    | apply Exists.intro (α := V)
    | apply Exists.intro (α := Addr)
    | apply Exists.intro (α := Int)
    | apply Exists.intro (α := Bool)
    | apply Exists.intro (α := List V)
    | apply Exists.intro (α := List Nat)
    | apply Exists.intro (α := List (Str × V))
    | apply Exists.intro (α := List _)
    | apply Exists.intro (α := Str)
    | apply Exists.intro (α := HO)
    | apply Exists.intro (α := Sp)
    | apply Exists.intro (α := VK)))
set_option hygiene false in
local macro_rules
  | `(tactic| kba_ints) => `(tactic| first
    | assumption
    | (apply frUp; (first | assumption | (apply Ne.symm; assumption)); kba_ints)
    | (apply noneOf; assumption; intro oF eF; apply Exists.intro; kp_flats)
    | (apply frUp; (next => kbo_bools); kba_ints))
set_option hygiene false in
local macro_rules
  | `(tactic| kxs_still) => `(tactic| first
    | assumption
    | exact kp_refl _ _
    | (apply kp_newF; assumption; kxs_still)
    | (apply kp_new; assumption; kxs_still)
    | (apply kp_up; (next => o_fieldsN); kxs_still)
    | (apply kp_new; (next => kba_ints); kxs_still)
    | (apply kp_sameR; assumption; kxs_still)
    | (apply kp_transR; assumption; kxs_still)
    | (apply kp_freshR; assumption; (next => kaf_suf); kxs_still))
set_option hygiene false in
local macro_rules
  | `(tactic| kaf_suf) => `(tactic| first
    | assumption
    | exact subNil
    | (apply subCons; (first | (apply Or.inl; o_fieldsN) | (apply Or.inr; kba_ints)); kaf_suf)
    | (apply subApp; (next => kaf_suf); kaf_suf))
set_option hygiene false in
local macro_rules
  | `(tactic| o_fieldsN) => `(tactic| first
    | assumption
    | exact memA
    | (apply memB; o_fieldsN)
    | (apply memL; o_fieldsN)
    | (apply memR; o_fieldsN))
set_option hygiene false in
local macro_rules
  | `(tactic| kd_subs) => `(tactic| first
    | assumption
    | exact Same.refl _
    | (apply same_putF; assumption; kd_subs)
    | (apply same_putG; assumption; kd_subs)
    | (apply same_putF; (next => kba_ints); kd_subs)
    | (apply same_transR; assumption; kd_subs))

set_option pp.maxSteps 900
/-! ### the entries of a history -/
inductive HEv where
  | add (v : V) | rem (i : Nat) | ask (v : V)
def HEv.w : HEv → Str
  | .add _ => "add"
  | .rem _ => "remove"
  | .ask _ => "ask"
def HEv.v : HEv → V
  | .add v => v
  | .rem i => .int (i : Int)
  | .ask v => v
abbrev wordsV : List V := [V.str "add", V.str "remove", V.str "ask"]
theorem inW1 : (!inV (V.str "add") wordsV) = false := by decide +kernel
theorem inW2 : (!inV (V.str "remove") wordsV) = false := by decide +kernel
theorem inW3 : (!inV (V.str "ask") wordsV) = false := by decide +kernel
theorem neW1 : V.bl (!decide (V.str "add" = V.str "remove")) = V.bl true := by decide +kernel
theorem neW2 : V.bl (!decide (V.str "remove" = V.str "remove")) = V.bl false := by decide +kernel
theorem neW3 : V.bl (!decide (V.str "ask" = V.str "remove")) = V.bl true := by decide +kernel
section
variable {P : Program} {w : World} {K : PySem.W.Frag} {mg : Str → Option Value} {base : Heap}
def spIsE : Sp := fun vs H Q _ => ∃ (t pd : Addr) (e : HEv) (kvs : List (Key × V)), vs = [.ref t, .ref pd] ∧ H t = some (.tup [.str e.w, e.v]) ∧ H pd = some (.dK kvs) ∧ (∀ i, e = .rem i → (valV kvs (.inl (i : Int))).isSome = true) ∧ Q (.bl true) H
theorem ok_ise (T : Txt K mg) : FnOk P w K mg base CX0 2 T.f_is_entry T.d_is_entry ["entry", "present"] spIsE := by
  have G_is_integer := ok_isi (P := P) (w := w) (base := base) T
  refine T.F_is_entry.ok sc_is_entry (fun vs H Q E h => ?_) (fun cdv A outer s H vs Q E hr h => ?_)
  · obtain ⟨t, pd, e, kvs, rfl, _⟩ := h
    rfl
  · obtain ⟨t, pd, e, kvs, rfl, ht, hp, hr', q⟩ := h
    refine ⟨_, (pss_cons (ps_if (PW.pt (pw_or (pt_not (pt_val (pe_callB call_isi (by rfl) T.z_isinstance (by decide +kernel) (pa_cons (pv 0) (pa_cons (pe_bltn (v := .ty "tuple") (by rfl) T.z_tuple (by decide +kernel) rfl) pa_nil))))) (pw_or1 (pt_cmpR op_ne (pe_callB call_len_seq (by rfl) T.z_len (by decide +kernel) (pa_cons (pv 0) pa_nil)) pe_int (nomark _))))) (pss_one (ps_ret pe_bl)) pss_nil)
      (pss_cons (ps_asg (pv 0) (pg_tup (by rfl) (pgs_cons (pg_name (i := 2) sc_is_entry.nd rfl (.inl rfl)) (pgs_cons (pg_name (i := 3) sc_is_entry.nd rfl (.inl rfl)) pgs_nil))))
      (pss_cons (ps_if (PW.pt (pw_or (pt_not (pt_val (pe_callB call_isi (by rfl) T.z_isinstance (by decide +kernel) (pa_cons (pv 2) (pa_cons (pe_bltn (v := .ty "str") (by rfl) T.z_str (by decide +kernel) rfl) pa_nil))))) (pw_or1 (pt_cmpR op_notIn_seq (pv 2) (pe_glob (v := .ref T.c_WORDS) rfl T.g_WORDS rfl) (by rfl))))) (pss_one (ps_ret pe_bl)) pss_nil)
      (pss_one (ps_ret (pe_or (pe_cmpR op_ne (pv 2) pe_str (nomark _)) (pe_one (pe_and (pe_call G_is_integer (hr.mono (by omega)) rfl T.g_is_integer T.F_is_integer.kp T.b_is_integer .nil pass0 (pa_cons (pv 3) pa_nil)) (pe_one (pe_cmp (pc_din (hu_of hr) (pe_callTy call_int1 (by rfl) T.z_int (by decide +kernel) (pa_cons (pv 3) pa_nil)) (pv 1)))))))))))), ?_⟩
    refine ⟨_, rfl, _, _, _, _, true, rfl, .ty _, .base (.tup ht), kit_ty (by decide +kernel), true, rfl, ifF rfl ?_⟩
    refine ⟨_, rfl, t, _, rfl, .inr (sqtOf ht), rfl, _, rfl, ifF rfl ?_⟩
    refine ⟨_, rfl, t, _, rfl, sqtOf ht, rfl, _, _, rfl, _, _, rfl, rfl, ?_⟩
    refine ⟨_, rfl, _, _, _, _, true, rfl, .ty _, .base (.str _), kit_ty (by decide +kernel), true, rfl, ifF rfl ?_⟩
    refine ⟨_, rfl, T.c_WORDS, _, rfl, .inr (T.s_WORDS H), rfl, by decide +kernel, _, rfl, ifF ?_ ?_⟩
    · cases e with
      | add v => exact inW1
      | rem i => exact inW2
      | ask v => exact inW3
    · cases e with
      | add v => exact ⟨_, rfl, rfl, true, neW1, ifT rfl q⟩
      | ask v => exact ⟨_, rfl, rfl, true, neW3, ifT rfl q⟩
      | rem i =>
        refine ⟨_, rfl, rfl, false, neW2, ifF rfl ⟨_, rfl, (i : Int), rfl, true, rfl, ifT rfl ⟨_, rfl, .inl ⟨_, rfl, _, rfl, pd, _, rfl, DGet.k (k := .inl (i : Int)) hp, ?_⟩⟩⟩⟩
        rw [hr' i rfl]
        exact q
end
end Ob

set_option Elab.async false
set_option linter.all false
set_option maxRecDepth 100000
set_option maxHeartbeats 1000000
namespace Ob
open PySem PySem.Spec PyProof.Rows L2
open LamX (Tabs TabB TabS ExtN)

set_option hygiene false in
local macro_rules
  | `(tactic| kp_flats) => `(tactic| first
    | assumption
    | exact upd_same
    | (apply atNew; assumption; kp_flats)
    | (apply atNe; (next => kbo_bools); kp_flats)
    | (apply atSame; assumption; kp_flats)
    | (apply atKp; assumption; (next => kaf_pre); kp_flats))
set_option hygiene false in
local macro_rules
  | `(tactic| kaf_pre) => `(tactic| first
    | assumption
    | exact not_nil
    | (apply not_cons; (next => kbo_bools); kaf_pre)
    | (apply not_app; (next => kaf_pre); kaf_pre))
set_option hygiene false in
local macro_rules
  | `(tactic| kbo_bools) => `(tactic| first
    | assumption
    | (apply Ne.symm; assumption)
    | (apply neN; assumption; kp_flats)
    | (apply neN'; assumption; kp_flats))
set_option hygiene false in
local macro_rules
  | `(tactic| o_reads) => `(tactic| first
    | with_reducible rfl
    | assumption
    | rfl
    | kp_flats
    | (show SqL _ _ _ _; first | assumption | (apply sqlOf; kp_flats) | (apply sqlSame; assumption; o_reads))
    | (show SqT _ _ _ _; first | assumption | (apply sqtOf; kp_flats) | (apply sqtAll; assumption) | (apply sqtSame; assumption; o_reads))
    | (show Cls _ _; first | skip)
    | (show NoAttr _ _ _; first | skip)
    | (apply Or.inl; o_reads)
    | (apply Or.inr; o_reads)
    | (apply And.intro; (next => o_reads); o_reads)
    | (apply Exists.intro; o_reads)
    | exact Nat.le_of_ble_eq_true rfl
    | exact Nat.succ_ne_zero _
    | (show Fr _ _; kba_ints)
    | (show Same _ _; kd_subs)
    | (show Kp _ _ _; kxs_still)
    | (show (_ : Nat) ≤ _; simp only [List.length_append, List.length_map, List.length_cons, List.length_nil, List.length_take, List.length_drop, List.length_replicate, List.length_range, sizeLine_eq]; omega)
    | (show _ = none; apply Fr.h; kba_ints)
    | (show Bag _ _; first | assumption | (apply bag_putF; assumption; o_reads) | (apply bag_neF; (next => kbo_bools); o_reads) | (apply bag_kpR; assumption; (next => kaf_pre); o_reads))
    | omega
    | decide)
local macro_rules
  | `(tactic| o_readsAll) => `(tactic| repeat (first
    | (refine fun (pNew : Addr) (nNew : _ = none) => ?_; replace nNew := Fr.mk nNew)
    | (refine fun (xNew dNew : Addr) (nNew : _ = none) (mNew : _ = none) (eNew : dNew ≠ xNew) => ?_; replace nNew := Fr.mk nNew; replace mNew := Fr.mk mNew)
    | (apply And.intro; next => o_reads)
    | apply Exists.intro (α := V)
    | apply Exists.intro (α := Addr)
    | apply Exists.intro (α := Int)
    | apply Exists.intro (α := Bool)
    | apply Exists.intro (α := List V)
    | apply Exists.intro (α := List Nat)
    | apply Exists.intro (α := List (Str × V))
    | apply Exists.intro (α := List _)
    | apply Exists.intro (α := Str)
    | apply Exists.intro (α := HO)
    | apply Exists.intro (α := Sp)
    | apply Exists.intro (α := VK)))
set_option hygiene false in
local macro_rules
  | `(tactic| kba_ints) => `(tactic| first
    | assumption
    | (apply frUp; (first | assumption | (apply Ne.symm; assumption)); kba_ints)
    | (apply noneOf; assumption; intro oF eF; apply Exists.intro; kp_flats)
    | (apply frUp; (next => kbo_bools); kba_ints))
set_option hygiene false in
local macro_rules
  | `(tactic| kxs_still) => `(tactic| first
    | assumption
    | exact kp_refl _ _
    | (apply kp_newF; assumption; kxs_still)
    | (apply kp_new; assumption; kxs_still)
    | (apply kp_up; (next => o_fieldsN); kxs_still)
    | (apply kp_new; (next => kba_ints); kxs_still)
    | (apply kp_sameR; assumption; kxs_still)
    | (apply kp_transR; assumption; kxs_still)
    | (apply kp_freshR; assumption; (next => kaf_suf); kxs_still))
set_option hygiene false in
local macro_rules
  | `(tactic| kaf_suf) => `(tactic| first
    | assumption
    | exact subNil
    | (apply subCons; (first | (apply Or.inl; o_fieldsN) | (apply Or.inr; kba_ints)); kaf_suf)
    | (apply subApp; (next => kaf_suf); kaf_suf))
set_option hygiene false in
local macro_rules
  | `(tactic| o_fieldsN) => `(tactic| first
    | assumption
    | exact memA
    | (apply memB; o_fieldsN)
    | (apply memL; o_fieldsN)
    | (apply memR; o_fieldsN))
set_option hygiene false in
local macro_rules
  | `(tactic| kd_subs) => `(tactic| first
    | assumption
    | exact Same.refl _
    | (apply same_putF; assumption; kd_subs)
    | (apply same_putG; assumption; kd_subs)
    | (apply same_putF; (next => kba_ints); kd_subs)
    | (apply same_transR; assumption; kd_subs))

set_option pp.maxSteps 900
/-! ### the ends of what is present -/
def stepE (n k : Nat) (es : List (Nat × Nat)) : HEv → List (Nat × Nat)
  | .add _ => es ++ [(k, n)]
  | .rem i => es.map fun e => if e.1 = i then (e.1, k) else e
  | .ask _ => es
def stepP (k : Nat) (ps : List Nat) : HEv → List Nat
  | .add _ => ps ++ [k]
  | .rem i => ps.filter fun j => decide (j ≠ i)
  | .ask _ => ps
def endsU (hs : List HEv) : Nat → List (Nat × Nat)
  | 0 => []
  | k + 1 => match hs[k]? with
    | some e => stepE hs.length k (endsU hs k) e
    | none => endsU hs k
def presU (hs : List HEv) : Nat → List Nat
  | 0 => []
  | k + 1 => match hs[k]? with
    | some e => stepP k (presU hs k) e
    | none => presU hs k
/-- only members that are present are removed -/
def HOk (hs : List HEv) : Prop := ∀ k i, hs[k]? = some (.rem i) → i ∈ presU hs k
theorem ends_lt {hs : List HEv} : ∀ {k : Nat}, k ≤ hs.length → ∀ e ∈ endsU hs k, e.1 < k ∧ e.1 ≤ e.2 ∧ e.2 ≤ hs.length
  | 0, _, e, m => nomatch m
  | k + 1, hk, e, m => by
    have ih := ends_lt (hs := hs) (k := k) (by omega)
    unfold endsU at m
    rw [List.getElem?_eq_getElem (show k < hs.length by omega)] at m
    cases hh : hs[k]'(by omega) with
    | add v =>
      rw [hh] at m
      rcases List.mem_append.mp m with m | m
      · have := ih e m
        omega
      · rw [List.mem_singleton.mp m]
        show k < k + 1 ∧ k ≤ hs.length ∧ hs.length ≤ hs.length
        omega
    | rem i =>
      rw [hh] at m
      obtain ⟨e', m', rfl⟩ := List.mem_map.mp m
      have := ih e' m'
      split
      · show e'.1 < k + 1 ∧ e'.1 ≤ k ∧ k ≤ hs.length
        omega
      · omega
    | ask v =>
      rw [hh] at m
      have := ih e m
      omega
theorem pres_lt {hs : List HEv} : ∀ {k : Nat}, ∀ i ∈ presU hs k, i < k ∧ ∃ e ∈ endsU hs k, e.1 = i
  | 0, i, m => nomatch m
  | k + 1, i, m => by
    unfold presU at m
    unfold endsU
    cases hh : hs[k]? with
    | none =>
      rw [hh] at m
      obtain ⟨a, b⟩ := pres_lt (hs := hs) (k := k) i m
      exact ⟨by omega, b⟩
    | some e =>
      rw [hh] at m
      match e, m with
      | .add v, m =>
        rcases List.mem_append.mp m with m | m
        · obtain ⟨a, e, b, c⟩ := pres_lt (hs := hs) (k := k) i m
          exact ⟨by omega, e, List.mem_append.mpr (.inl b), c⟩
        · rw [List.mem_singleton.mp m]
          exact ⟨by omega, (k, hs.length), List.mem_append.mpr (.inr (List.mem_singleton.mpr rfl)), rfl⟩
      | .rem j, m =>
        obtain ⟨m, _⟩ := List.mem_filter.mp m
        obtain ⟨a, e, b, c⟩ := pres_lt (hs := hs) (k := k) i m
        refine ⟨by omega, _, List.mem_map.mpr ⟨e, b, rfl⟩, ?_⟩
        show (if e.1 = j then (e.1, k) else e).1 = i
        split
        · exact c
        · exact c
      | .ask v, m =>
        obtain ⟨a, b⟩ := pres_lt (hs := hs) (k := k) i m
        exact ⟨by omega, b⟩
def presK (ps : List Nat) : List (Key × V) := ps.map fun i : Nat => (.inl (i : Int), .bl true)
theorem valV_none {ks : List (Key × V)} {k : Key} (h : ∀ p ∈ ks, p.1 ≠ k) : valV ks k = none := by
  induction ks with
  | nil => rfl
  | cons p r ih => rw [valV_neg (h p List.mem_cons_self)]; exact ih fun q m => h q (List.mem_cons_of_mem _ m)
theorem valV_has {ks : List (Key × V)} {k : Key} {p : Key × V} (h : p ∈ ks) (e : p.1 = k) : (valV ks k).isSome = true := by
  rw [← valV_any]
  exact List.any_eq_true.mpr ⟨p, h, decide_eq_true e⟩
theorem put_ends {es : List (Nat × Nat)} {i k : Nat} (h : ∃ e ∈ es, e.1 = i) : putK (endsK es) (.inl (i : Int)) (.int (k : Int)) = endsK (es.map fun e => if e.1 = i then (e.1, k) else e) := by
  obtain ⟨e, m, he⟩ := h
  have ha : (endsK es).any (fun kv => decide (kv.1 = (.inl (i : Int)))) = true := List.any_eq_true.mpr ⟨_, List.mem_map.mpr ⟨e, m, rfl⟩, decide_eq_true (by rw [he])⟩
  unfold putK
  rw [if_pos ha]
  unfold endsK
  rw [List.map_map, List.map_map]
  refine List.map_congr_left fun e _ => ?_
  show (if (Sum.inl (e.1 : Int) : Key) = .inl (i : Int) then ((.inl (e.1 : Int) : Key), V.int (k : Int)) else (.inl (e.1 : Int), V.int (e.2 : Int))) = _
  by_cases c : e.1 = i
  · rw [if_pos (by rw [c])]
    show _ = ((.inl ((if e.1 = i then (e.1, k) else e).1 : Int) : Key), V.int ((if e.1 = i then (e.1, k) else e).2 : Int))
    rw [if_pos c]
  · rw [if_neg fun z => c (by injection z with z; omega)]
    show _ = ((.inl ((if e.1 = i then (e.1, k) else e).1 : Int) : Key), V.int ((if e.1 = i then (e.1, k) else e).2 : Int))
    rw [if_neg c]
theorem drop_pres {ps : List Nat} {i : Nat} : dropK (presK ps) (.inl (i : Int)) = presK (ps.filter fun j => decide (j ≠ i)) := by
  unfold dropK presK
  rw [List.filter_map]
  refine congrArg _ (List.filter_congr fun j _ => ?_)
  show decide ((Sum.inl (j : Int) : Key) ≠ .inl (i : Int)) = decide (j ≠ i)
  by_cases c : j = i
  · rw [c]
    simp
  · have c' : (Sum.inl (j : Int) : Key) ≠ .inl (i : Int) := fun z => c (by injection z with z; omega)
    simp [c, c']
theorem ends_len {hs : List HEv} : ∀ {k : Nat}, (endsU hs k).length ≤ k
  | 0 => Nat.le_refl _
  | k + 1 => by
    have ih := ends_len (hs := hs) (k := k)
    unfold endsU
    cases hs[k]? with
    | none => exact Nat.le_succ_of_le ih
    | some e =>
      match e with
      | .add v =>
        show (endsU hs k ++ _).length ≤ _
        rw [List.length_append]
        exact Nat.succ_le_succ ih
      | .rem i =>
        show (List.map _ (endsU hs k)).length ≤ _
        rw [List.length_map]
        omega
      | .ask v => exact Nat.le_succ_of_le ih
theorem pres_len {hs : List HEv} : ∀ {k : Nat}, (presU hs k).length ≤ k
  | 0 => Nat.le_refl _
  | k + 1 => by
    have ih := pres_len (hs := hs) (k := k)
    unfold presU
    cases hs[k]? with
    | none => exact Nat.le_succ_of_le ih
    | some e =>
      match e with
      | .add v =>
        show (presU hs k ++ _).length ≤ _
        rw [List.length_append]
        exact Nat.succ_le_succ ih
      | .rem i => exact Nat.le_succ_of_le (Nat.le_trans (List.length_filter_le _ _) ih)
      | .ask v => exact Nat.le_succ_of_le ih
section
variable {P : Program} {w : World} {K : PySem.W.Frag} {mg : Str → Option Value} {base : Heap}
structure HisAt (H : Hp) (xs : List V) (hs : List HEv) : Prop where
  len : xs.length = hs.length
  at_ : ∀ (q : Nat) (x : V) (e : HEv), xs[q]? = some x → hs[q]? = some e → ∃ p, x = .ref p ∧ H p = some (.tup [.str e.w, e.v])
def spPre : Sp := fun vs H Q _ => ∃ (ha : Addr) (xs : List V) (hs : List HEv), vs = [.ref ha] ∧ H ha = some (.lst xs) ∧ HisAt H xs hs ∧ HOk hs ∧ hs.length ≤ 2000 ∧ ∀ ed H', Same H H' → Fr H ed → H' ed = some (.dK (endsK (endsU hs hs.length))) → Q (.ref ed) H'
theorem ok_pre (T : Txt K mg) : FnOk P w K mg base CX0 3 T.f_present_ends T.d_present_ends ["history"] spPre := by
  have G_is_entry := ok_ise (P := P) (w := w) (base := base) T
  refine T.F_present_ends.ok sc_present_ends (fun vs H Q E h => ?_) (fun cdv A outer s H vs Q E hr h => ?_)
  · obtain ⟨ha, xs, hs, rfl, _⟩ := h
    rfl
  · obtain ⟨ha, xs, hs, rfl, hha, hh, hok, hl, q⟩ := h
    refine ⟨_, (pss_cons (ps_if (pt_not (pt_val (pe_callB call_isi (by rfl) T.z_isinstance (by decide +kernel) (pa_cons (pv 0) (pa_cons (pe_bltn (v := .ty "list") (by rfl) T.z_list (by decide +kernel) rfl) pa_nil))))) pss_never pss_nil)
      (pss_cons (ps_set (i := 1) sc_present_ends.nd rfl (.inl rfl) pe_dnewK)
      (pss_cons (ps_set (i := 2) sc_present_ends.nd rfl (.inl rfl) pe_dnewK)
      (pss_cons (ps_for PassesOwn.never rfl (pi_enum (by rfl) T.z_enumerate (pa_cons (pv 0) pa_nil)) (pg_tup (by rfl) (pgs_cons (pg_name (i := 3) sc_present_ends.nd rfl (.inl rfl)) (pgs_cons (pg_name (i := 4) sc_present_ends.nd rfl (.inl rfl)) pgs_nil))) (pss_cons (ps_if (pt_not (pt_val (pe_call G_is_entry (hr.mono (by omega)) rfl T.g_is_entry T.F_is_entry.kp T.b_is_entry .nil pass0 (pa_cons (pv 4) (pa_cons (pv 2) pa_nil))))) pss_never pss_nil)
        (pss_one (ps_if (pt_cmpR op_eq (pe_ix (r := rIxT K) ix_tup (pv 4) pe_int (fun _ _ => rfl)) pe_str (nomark _)) (pss_cons (ps_dput (hu_of hr) (pv 1) (pv 3) (pe_callB call_len_seq (by rfl) T.z_len (by decide +kernel) (pa_cons (pv 0) pa_nil)) rfl)
          (pss_one (ps_dput (hu_of hr) (pv 2) (pv 3) pe_bl rfl))) (pss_one (ps_if (pt_cmpR op_eq (pe_ix (r := rIxT K) ix_tup (pv 4) pe_int (fun _ _ => rfl)) pe_str (nomark _)) (pss_cons (ps_set (i := 5) sc_present_ends.nd rfl (.inl rfl) (pe_callTy call_int1 (by rfl) T.z_int (by decide +kernel) (pa_cons (pe_ix (r := rIxT K) ix_tup (pv 4) pe_int (fun _ _ => rfl)) pa_nil)))
            (pss_cons (ps_dput (hu_of hr) (pv 1) (pv 5) (pv 3) rfl)
            (pss_one (ps_ddel (pv 2) (pv 5))))) pss_nil))))))
      (pss_one (ps_ret (pv 1))))))), ?_⟩
    refine ⟨_, rfl, _, _, _, _, true, rfl, .ty _, .base (.lst hha), kit_ty (by decide +kernel), true, rfl, ifF rfl ?_⟩
    refine fun ed ned pd npd => ?_
    have fe := Fr.mk ned
    have fp := Fr.mk npd
    have s1 : Same H (upd H ed (.dK [])) := same_newF fe
    have fp0 : Fr H pd := Fr.mk (s1.free npd)
    have nep : ed ≠ pd := ne_of_none (H := upd H ed (.dK [])) upd_same npd
    have s2 := s1.trans (same_newF (o := .dK []) fp)
    refine ⟨_, rfl, ha, xs, rfl, sqlOf (s2 _ _ hha), ?_⟩
    refine for_it (walk_enum (K := K) (a := ha) (xs := xs)) (fun k σ H' => ∃ y3 y4 y5, σ = [some (.ref ha), some (.ref ed), some (.ref pd), y3, y4, y5] ∧ Same H H' ∧ H' ed = some (.dK (endsK (endsU hs k))) ∧ H' pd = some (.dK (presK (presU hs k)))) ⟨_, _, _, rfl, s2, (by rw [upd_ne nep]; exact upd_same), upd_same⟩ (fun k σ H' _ ⟨_, _, _, _, z, _⟩ => sqlOf (z _ _ hha)) ?_ ?_
    · rintro k x σ H1 H2 hk ⟨y3, y4, y5, rfl, s3, he, hp⟩ ⟨T', vx, vy, rfl, nT, rfl, hx, hy⟩
      obtain rfl : V.int ((k : Nat) : Int) = vx := Option.some.inj hx
      have hkl : k < hs.length := by rw [← hh.len]; exact hk
      obtain ⟨e, hee⟩ : ∃ e, hs[k]? = some e := ⟨_, List.getElem?_eq_getElem hkl⟩
      obtain ⟨p, rfl, hte⟩ := hh.at_ k vy e hy hee
      have eT : upd H1 T' (.tup [.int (k : Int), .ref p]) T' = some (.tup [.int (k : Int), .ref p]) := upd_same
      have sT : Same H1 (upd H1 T' (.tup [.int (k : Int), .ref p])) := same_newF (Fr.mk nT)
      have s4 := s3.trans sT
      have he4 := sT _ _ he
      have hp4 := sT _ _ hp
      generalize upd H1 T' (.tup [.int (k : Int), .ref p]) = H4 at eT sT s4 he4 hp4 ⊢
      have ht4 := s4 _ _ hte
      refine ⟨T', _, rfl, sqtOf eT, rfl, _, _, rfl, _, _, rfl, rfl, ?_⟩
      have pin : ∀ i, i ∈ presU hs k → (valV (presK (presU hs k)) (.inl (i : Int))).isSome = true := fun i m => valV_has (p := (.inl (i : Int), .bl true)) (List.mem_map.mpr ⟨i, m, rfl⟩) rfl
      refine ⟨_, rfl, _, rfl, p, pd, e, _, rfl, ht4, hp4, fun i hi => pin i (hok k i (by rw [hee, hi])), ⟨true, rfl, ifF rfl ?_⟩⟩
      have e1 : endsU hs (k + 1) = stepE hs.length k (endsU hs k) e := by
        show (match hs[k]? with | some e => stepE hs.length k (endsU hs k) e | none => endsU hs k) = _
        rw [hee]
      have p1 : presU hs (k + 1) = stepP k (presU hs k) e := by
        show (match hs[k]? with | some e => stepP k (presU hs k) e | none => presU hs k) = _
        rw [hee]
      rw [e1, p1]
      have le := ends_len (hs := hs) (k := k)
      have lp := pres_len (hs := hs) (k := k)
      have lke : (endsK (endsU hs k)).length = (endsU hs k).length := List.length_map ..
      have lkp : (presK (presU hs k)).length = (presU hs k).length := List.length_map ..
      refine ⟨_, rfl, p, _, 0, _, rfl, rfl, sqtOf ht4, atI_nat (j := 0) rfl, rfl, _, rfl, ?_⟩
      match e, ht4, hee with
      | .add v, ht4, hee =>
        refine ifT (by show decide (V.str "add" = V.str "add") = true; decide +kernel) ?_
        refine ⟨_, rfl, ha, xs, rfl, .inl (sqlOf (s4 _ _ hha)), _, rfl, _, rfl, ed, _, rfl, DPut.k (k := .inl (k : Int)) he4 (by rw [lke, sizeLine_eq]; omega), ?_⟩
        refine ⟨_, rfl, _, rfl, pd, _, rfl, DPut.k (k := .inl (k : Int)) (by rw [upd_ne nep.symm]; exact hp4) (by rw [lkp, sizeLine_eq]; omega), ?_⟩
        refine ⟨_, _, _, rfl, same_putG fp0 (same_putG fe s4), ?_, ?_⟩
        · rw [upd_ne nep, upd_same, putK_new _ (valV_none fun q hq => ?_), hh.len]
          · show _ = some (HO.dK (endsK (endsU hs k ++ [(k, hs.length)])))
            unfold endsK
            rw [List.map_append]
            rfl
          · obtain ⟨e', m', rfl⟩ := List.mem_map.mp hq
            have := ends_lt (hs := hs) (Nat.le_of_lt hkl) e' m'
            intro z
            injection z with z
            omega
        · rw [upd_same, putK_new _ (valV_none fun q hq => ?_)]
          · show _ = some (HO.dK (presK (presU hs k ++ [k])))
            unfold presK
            rw [List.map_append]
            rfl
          · obtain ⟨i', m', rfl⟩ := List.mem_map.mp hq
            have := (pres_lt (hs := hs) i' m').1
            intro z
            injection z with z
            omega
      | .rem i, ht4, hee =>
        refine ifF (by show decide (V.str "remove" = V.str "add") = false; decide +kernel) ?_
        refine ⟨_, rfl, p, _, 0, _, rfl, rfl, sqtOf ht4, atI_nat (j := 0) rfl, rfl, _, rfl, ifT (by show decide (V.str "remove" = V.str "remove") = true; decide +kernel) ?_⟩
        refine ⟨_, rfl, p, _, 1, _, rfl, rfl, sqtOf ht4, atI_nat (j := 1) rfl, .inl ⟨_, rfl, ?_⟩⟩
        have im := hok k i hee
        refine ⟨_, rfl, _, rfl, _, rfl, ed, _, rfl, DPut.k (k := .inl (i : Int)) he4 (by rw [lke, sizeLine_eq]; omega), ?_⟩
        refine ⟨_, rfl, _, rfl, pd, _, .inl (i : Int), rfl, (by rw [upd_ne nep.symm]; exact hp4), rfl, pin i im, ?_⟩
        refine ⟨_, _, _, rfl, same_putG fp0 (same_putG fe s4), ?_, ?_⟩
        · rw [upd_ne nep, upd_same, put_ends (pres_lt (hs := hs) i im).2]
          rfl
        · rw [upd_same, drop_pres]
          rfl
      | .ask v, ht4, hee =>
        refine ifF (by show decide (V.str "ask" = V.str "add") = false; decide +kernel) ?_
        refine ⟨_, rfl, p, _, 0, _, rfl, rfl, sqtOf ht4, atI_nat (j := 0) rfl, rfl, _, rfl, ifF (by show decide (V.str "ask" = V.str "remove") = false; decide +kernel) ?_⟩
        exact ⟨_, _, _, rfl, s4, he4, hp4⟩
    · rintro σ H1 ⟨y3, y4, y5, rfl, s3, he, hp⟩
      rw [hh.len] at he
      exact ⟨_, rfl, q ed _ s3 fe he⟩
end
end Ob

set_option Elab.async false
set_option linter.all false
set_option maxRecDepth 100000
set_option maxHeartbeats 1000000
namespace Ob
open PySem PySem.Spec PyProof.Rows L2
open LamX (Tabs TabB TabS ExtN)

set_option hygiene false in
local macro_rules
  | `(tactic| kp_flats) => `(tactic| first
    | assumption
    | exact upd_same
    | (apply atNew; assumption; kp_flats)
    | (apply atNe; (next => kbo_bools); kp_flats)
    | (apply atSame; assumption; kp_flats)
    | (apply atKp; assumption; (next => kaf_pre); kp_flats))
set_option hygiene false in
local macro_rules
  | `(tactic| kaf_pre) => `(tactic| first
    | assumption
    | exact not_nil
    | (apply not_cons; (next => kbo_bools); kaf_pre)
    | (apply not_app; (next => kaf_pre); kaf_pre))
set_option hygiene false in
local macro_rules
  | `(tactic| kbo_bools) => `(tactic| first
    | assumption
    | (apply Ne.symm; assumption)
    | (apply neN; assumption; kp_flats)
    | (apply neN'; assumption; kp_flats))
set_option hygiene false in
local macro_rules
  | `(tactic| o_reads) => `(tactic| first
    | with_reducible rfl
    | assumption
    | rfl
    | kp_flats
    | (show SqL _ _ _ _; first | assumption | (apply sqlOf; kp_flats) | (apply sqlSame; assumption; o_reads))
    | (show SqT _ _ _ _; first | assumption | (apply sqtOf; kp_flats) | (apply sqtAll; assumption) | (apply sqtSame; assumption; o_reads))
    | (show Cls _ _; first | skip)
    | (show NoAttr _ _ _; first | skip)
    | (apply Or.inl; o_reads)
    | (apply Or.inr; o_reads)
    | (apply And.intro; (next => o_reads); o_reads)
    | (apply Exists.intro; o_reads)
    | exact Nat.le_of_ble_eq_true rfl
    | exact Nat.succ_ne_zero _
    | (show Fr _ _; kba_ints)
    | (show Same _ _; kd_subs)
    | (show Kp _ _ _; kxs_still)
    | (show (_ : Nat) ≤ _; simp only [List.length_append, List.length_map, List.length_cons, List.length_nil, List.length_take, List.length_drop, List.length_replicate, List.length_range, sizeLine_eq]; omega)
    | (show _ = none; apply Fr.h; kba_ints)
    | (show Bag _ _; first | assumption | (apply bag_putF; assumption; o_reads) | (apply bag_neF; (next => kbo_bools); o_reads) | (apply bag_kpR; assumption; (next => kaf_pre); o_reads))
    | omega
    | decide)
local macro_rules
  | `(tactic| o_readsAll) => `(tactic| repeat (first
    | (refine fun (pNew : Addr) (nNew : _ = none) => ?_; replace nNew := Fr.mk nNew)
    | (refine fun (xNew dNew : Addr) (nNew : _ = none) (mNew : _ = none) (eNew : dNew ≠ xNew) => ?_; replace nNew := Fr.mk nNew; replace mNew := Fr.mk mNew)
    | (apply And.intro; next => o_reads)
    | apply Exists.intro (α := V)
    | apply Exists.intro (α := Addr)
    | apply Exists.intro (α := Int)
    | apply Exists.intro (α := Bool)
    | apply Exists.intro (α := List V)
    | apply Exists.intro (α := List Nat)
    | apply Exists.intro (α := List (Str × V))
    | apply Exists.intro (α := List _)
    | apply Exists.intro (α := Str)
    | apply Exists.intro (α := HO)
    | apply Exists.intro (α := Sp)
    | apply Exists.intro (α := VK)))
set_option hygiene false in
local macro_rules
  | `(tactic| kba_ints) => `(tactic| first
    | assumption
    | (apply frUp; (first | assumption | (apply Ne.symm; assumption)); kba_ints)
    | (apply noneOf; assumption; intro oF eF; apply Exists.intro; kp_flats)
    | (apply frUp; (next => kbo_bools); kba_ints))
set_option hygiene false in
local macro_rules
  | `(tactic| kxs_still) => `(tactic| first
    | assumption
    | exact kp_refl _ _
    | (apply kp_newF; assumption; kxs_still)
    | (apply kp_new; assumption; kxs_still)
    | (apply kp_up; (next => o_fieldsN); kxs_still)
    | (apply kp_new; (next => kba_ints); kxs_still)
    | (apply kp_sameR; assumption; kxs_still)
    | (apply kp_transR; assumption; kxs_still)
    | (apply kp_freshR; assumption; (next => kaf_suf); kxs_still))
set_option hygiene false in
local macro_rules
  | `(tactic| kaf_suf) => `(tactic| first
    | assumption
    | exact subNil
    | (apply subCons; (first | (apply Or.inl; o_fieldsN) | (apply Or.inr; kba_ints)); kaf_suf)
    | (apply subApp; (next => kaf_suf); kaf_suf))
set_option hygiene false in
local macro_rules
  | `(tactic| o_fieldsN) => `(tactic| first
    | assumption
    | exact memA
    | (apply memB; o_fieldsN)
    | (apply memL; o_fieldsN)
    | (apply memR; o_fieldsN))
set_option hygiene false in
local macro_rules
  | `(tactic| kd_subs) => `(tactic| first
    | assumption
    | exact Same.refl _
    | (apply same_putF; assumption; kd_subs)
    | (apply same_putG; assumption; kd_subs)
    | (apply same_putF; (next => kba_ints); kd_subs)
    | (apply same_transR; assumption; kd_subs))

set_option pp.maxSteps 900
/-! ### how long a walk is -/
def totW (N : Nat → Nat → List Nat) : Nat → Nat → Nat
  | 0, f => (N f 1).length
  | k + 1, f => (N f (2 ^ (k + 1))).length + (totW N k f + totW N k (f + 2 ^ k))
theorem walk_len {N : Nat → Nat → List Nat} {bs : List Bool} : ∀ {k f : Nat}, (walkW N bs k f).length ≤ 2 * totW N k f + 2 ^ k
  | 0, f => by
    unfold walkW totW
    split
    · rw [List.length_append, List.length_append]
      unfold pushW popW
      rw [List.length_map, List.length_map, List.length_reverse]
      show (N f 1).length + 1 + (N f 1).length ≤ 2 * (N f 1).length + 2 ^ 0
      omega
    · exact Nat.zero_le _
  | k + 1, f => by
    have h1 := walk_len (N := N) (bs := bs) (k := k) (f := f)
    have h2 := walk_len (N := N) (bs := bs) (k := k) (f := f + 2 ^ k)
    have h3 : (2 : Nat) ^ (k + 1) = 2 ^ k + 2 ^ k := by rw [Nat.pow_succ]; omega
    unfold walkW totW
    split
    · rw [List.length_append, List.length_append, List.length_append]
      unfold pushW popW
      rw [List.length_map, List.length_map, List.length_reverse]
      omega
    · exact Nat.zero_le _
theorem tot_addN {N : Nat → Nat → List Nat} {a s i : Nat} : ∀ {k f : Nat}, totW (addN N a s i) k f ≤ totW N k f + (if f ≤ a ∧ a < f + 2 ^ k ∧ s ≤ 2 ^ k then 1 else 0)
  | 0, f => by
    unfold totW
    by_cases c : f = a ∧ 1 = s
    · obtain ⟨rfl, rfl⟩ := c
      rw [add_same, List.length_append, if_pos ⟨Nat.le_refl _, by rw [Nat.pow_zero]; omega, by decide⟩]
      exact Nat.le_refl _
    · rw [add_ne c]
      exact Nat.le_add_right _ _
  | k + 1, f => by
    have h1 := tot_addN (N := N) (a := a) (s := s) (i := i) (k := k) (f := f)
    have h2 := tot_addN (N := N) (a := a) (s := s) (i := i) (k := k) (f := f + 2 ^ k)
    have h3 : (2 : Nat) ^ (k + 1) = 2 ^ k + 2 ^ k := by rw [Nat.pow_succ]; omega
    have hp := Nat.two_pow_pos k
    unfold totW
    by_cases c : f = a ∧ 2 ^ (k + 1) = s
    · obtain ⟨rfl, rfl⟩ := c
      rw [if_neg (by omega)] at h1
      rw [if_neg (by omega)] at h2
      rw [add_same, List.length_append, if_pos ⟨Nat.le_refl _, by omega, Nat.le_refl _⟩]
      show (N f (2 ^ (k + 1))).length + 1 + _ ≤ _
      omega
    · rw [add_ne c]
      by_cases d1 : f ≤ a ∧ a < f + 2 ^ k ∧ s ≤ 2 ^ k
      · rw [if_pos d1] at h1
        rw [if_neg (by omega)] at h2
        rw [if_pos (by omega)]
        omega
      · rw [if_neg d1] at h1
        by_cases d2 : f + 2 ^ k ≤ a ∧ a < f + 2 ^ k + 2 ^ k ∧ s ≤ 2 ^ k
        · rw [if_pos d2] at h2
          rw [if_pos (by omega)]
          omega
        · rw [if_neg d2] at h2
          omega
theorem tot_addP {i k f : Nat} : ∀ {ps : List (Nat × Nat)} {N : Nat → Nat → List Nat}, totW (addP N i ps) k f ≤ totW N k f + ps.length
  | [], N => Nat.le_refl _
  | p :: ps, N => by
    have h1 := tot_addN (N := N) (a := p.1) (s := p.2) (i := i) (k := k) (f := f)
    have h2 := tot_addP (i := i) (k := k) (f := f) (ps := ps) (N := addN N p.1 p.2 i)
    have h3 : addP N i (p :: ps) = addP (addN N p.1 p.2 i) i ps := rfl
    rw [h3, List.length_cons]
    split at h1 <;> omega
theorem tot_fold {k f : Nat} : ∀ {es : List (Nat × Nat)} {N : Nat → Nat → List Nat}, totW (es.foldl (fun N ie => addP N ie.1 (pcF 201 ie.1 (ie.2 - ie.1))) N) k f ≤ totW N k f + 201 * es.length
  | [], N => Nat.le_refl _
  | e :: es, N => by
    have h1 := tot_addP (i := e.1) (k := k) (f := f) (ps := pcF 201 e.1 (e.2 - e.1)) (N := N)
    have h2 := tot_fold (k := k) (f := f) (es := es) (N := addP N e.1 (pcF 201 e.1 (e.2 - e.1)))
    have h3 := pcF_len 201 e.1 (e.2 - e.1)
    rw [List.foldl_cons, List.length_cons]
    omega
theorem tot_nil : ∀ {k f : Nat}, totW (fun _ _ => []) k f = 0
  | 0, f => rfl
  | k + 1, f => by
    unfold totW
    rw [tot_nil (k := k) (f := f), tot_nil (k := k) (f := f + 2 ^ k)]
    rfl
theorem tot_nodes {es : List (Nat × Nat)} {k f : Nat} : totW (nodesOf es) k f ≤ 201 * es.length := by
  have h := tot_fold (k := k) (f := f) (es := es) (N := fun _ _ => [])
  rw [tot_nil, Nat.zero_add] at h
  exact h
/-! ### the plan of a history -/
def HEv.isAsk : HEv → Bool
  | .ask _ => true
  | _ => false
def planW (hs : List HEv) (j : Nat) : List (Str × Nat) := walkW (nodesOf (endsU hs hs.length)) (hs.map HEv.isAsk) j 0
section
variable {P : Program} {w : World} {K : PySem.W.Frag} {mg : Str → Option Value} {base : Heap}
def spPlan : Sp := fun vs H Q _ => ∃ (ha : Addr) (xs : List V) (hs : List HEv), vs = [.ref ha] ∧ H ha = some (.lst xs) ∧ HisAt H xs hs ∧ HOk hs ∧ hs.length ≤ 2000 ∧ ∀ (j : Nat) ys o H', hs.length ≤ 2 ^ j → (j = 0 ∨ 2 ^ (j - 1) < hs.length) → Same H H' → Fr H o → H' o = some (.lst ys) → WLog H' ys (planW hs j) → Q (.ref o) H'
theorem ok_plan (T : Txt K mg) : FnOk P w K mg base CX0 20 T.f_plan_answers T.d_plan_answers ["history"] spPlan := by
  have G_present_ends := ok_pre (P := P) (w := w) (base := base) T
  have G_members_by_nodes := ok_mbn (P := P) (w := w) (base := base) T
  have G_walk_size := ok_ws (P := P) (w := w) (base := base) T
  have G_visit : FnOk P w K mg base CX0 16 T.f_visit T.d_visit ["entries", "nodes", "asked", "first", "size"] (fun vs H Q E => ∃ j : Nat, j ≤ 12 ∧ spVis (j + 1) vs H Q E) := ⟨fun vs H Q E ⟨j, hj, h⟩ => (ok_visit (P := P) (w := w) (base := base) T (j + 1)).1 vs H Q E h, fun A outer s H args us vs Q E hr e0 hb r ⟨j, hj, h⟩ => (ok_visit (P := P) (w := w) (base := base) T (j + 1)).2 A outer s H args us vs Q E (hr.mono (by omega)) e0 hb r h⟩
  refine T.F_plan_answers.ok sc_plan_answers (fun vs H Q E h => ?_) (fun cdv A outer s H vs Q E hr h => ?_)
  · obtain ⟨ha, xs, hs, rfl, _⟩ := h
    rfl
  · obtain ⟨ha, xs, hs, rfl, hha, hh, hok, hl, q⟩ := h
    refine ⟨_, (pss_cons (ps_set (i := 1) sc_plan_answers.nd rfl (.inl rfl) (pe_call G_present_ends (hr.mono (by omega)) rfl T.g_present_ends T.F_present_ends.kp T.b_present_ends .nil pass0 (pa_cons (pv 0) pa_nil)))
      (pss_cons (ps_setLc (i := 2) (own := [("entry", 4)]) (g := gName 4) (tt := tYes) rfl sc_plan_answers.nd rfl rfl (sw_true rfl rfl rfl (by decide +kernel)) (pi_list (pv 0)) (blkOk_by (N := n_plan_answers) (sc := defScope s_plan_answers) (by decide +kernel)) (fun _ _ _ _ _ => (pg_name (i := 4) sc_plan_answers.nd rfl (.inl rfl))) (fun _ _ _ _ _ => pts_nil) (fun _ _ _ _ _ => (pe_cmpR op_eq (pe_ix (r := rIxT K) ix_tup (pv 4) pe_int (fun _ _ => rfl)) pe_str (nomark _))))
      (pss_cons (ps_set (i := 3) sc_plan_answers.nd rfl (.inl rfl) (pe_lst pa_nil))
      (pss_cons (ps_expr (pe_call G_visit (hr.mono (by omega)) rfl T.g_visit T.F_visit.kp T.b_visit .nil pass0 (pa_cons (pv 3) (pa_cons (pe_call G_members_by_nodes (hr.mono (by omega)) rfl T.g_members_by_nodes T.F_members_by_nodes.kp T.b_members_by_nodes .nil pass0 (pa_cons (pv 1) pa_nil)) (pa_cons (pv 2) (pa_cons pe_int (pa_cons (pe_call G_walk_size (hr.mono (by omega)) rfl T.g_walk_size T.F_walk_size.kp T.b_walk_size .nil pass0 (pa_cons (pe_callB call_len_seq (by rfl) T.z_len (by decide +kernel) (pa_cons (pv 0) pa_nil)) pa_nil)) pa_nil)))))))
      (pss_one (ps_ret (pv 3))))))), ?_⟩
    refine ⟨_, rfl, ha, xs, hs, rfl, hha, hh, hok, hl, fun ed H1 s1 fe he => ?_⟩
    refine ⟨_, rfl, ha, rfl, ⟨_, sqlOf (s1 _ _ hha)⟩, fun D nD => ?_⟩
    have fD := Fr.mk nD
    have fD0 : Fr H D := Fr.mk (s1.free nD)
    refine lc_it (walk_list (K := K) (a := ha) (xs := xs)) (fun i H' => Same H1 H' ∧ H' D = some (.lst (((hs.take i).map HEv.isAsk).map V.bl))) ⟨same_newF fD, upd_same⟩ (fun i H' _ z => sqlOf (z.1 _ _ (s1 _ _ hha))) ?_ ?_
    · rintro i x H2' H2 hi ⟨s2, eD⟩ ⟨rfl, hx⟩
      obtain ⟨e, hee⟩ : ∃ e, hs[i]? = some e := ⟨_, List.getElem?_eq_getElem (by rw [← hh.len]; exact hi)⟩
      obtain ⟨p, rfl, hte⟩ := hh.at_ i x e hx hee
      have ht2 := s2 _ _ (s1 _ _ hte)
      refine ⟨rfl, ?_⟩
      unfold tYes
      refine ifT rfl ?_
      refine ⟨_, rfl, p, _, 0, _, rfl, rfl, sqtOf ht2, atI_nat (j := 0) rfl, rfl, _, eD, ?_, same_putG fD s2, ?_⟩
      · rw [List.length_map, List.length_map, sizeLine_eq]
        have := List.length_take_le i hs
        have := hh.len
        omega
      · rw [upd_same, take_map HEv.isAsk hee, List.map_append]
        cases e with
        | add v => rfl
        | rem i => rfl
        | ask v => rfl
    · rintro H2 ⟨s2, eD⟩
      have htk := List.take_of_length_le (l := hs) (i := xs.length) (by rw [hh.len]; exact Nat.le_refl _)
      rw [htk] at eD
      refine ⟨Nat.zero_le _, fun o no => ?_⟩
      have fo := Fr.mk no
      have s3 := same_newF (o := .lst []) fo
      have eo : upd H2 o (.lst []) o = some (.lst []) := upd_same
      have fo0 : Fr H o := Fr.mk (s1.free (s2.free no))
      have npD : D ≠ o := ne_of_none eD no
      have ned : ed ≠ o := ne_of_none (s2 _ _ he) no
      generalize upd H2 o (.lst []) = H3 at s3 eo ⊢
      have s13 := s2.trans s3
      refine ⟨_, rfl, _, rfl, ed, _, rfl, s13 _ _ he, ?_, fun e m => ?_, fun nd kvs H4 s4 en hN hf => ?_⟩
      · have := ends_len (hs := hs) (k := hs.length)
        omega
      · have := ends_lt (hs := hs) (Nat.le_refl _) e m
        omega
      refine ⟨_, rfl, _, rfl, ha, xs, rfl, .inl (sqlOf (s4 _ _ (s13 _ _ (s1 _ _ hha)))), xs.length, rfl, ?_, fun j hj1 hj2 => ?_⟩
      · rw [hh.len]
        omega
      rw [hh.len] at hj1 hj2
      have hj : j ≤ 12 := by
        refine Nat.le_of_not_lt fun z => ?_
        rcases hj2 with h | h
        · omega
        · have h1 : (2 : Nat) ^ 12 ≤ 2 ^ (j - 1) := Nat.pow_le_pow_right (by decide) (by omega)
          have h2 : (2 : Nat) ^ 12 = 4096 := by decide
          omega
      have hp : (2 : Nat) ^ j ≤ 4096 := by
        have h1 : (2 : Nat) ^ j ≤ 2 ^ 12 := Nat.pow_le_pow_right (by decide) hj
        have h2 : (2 : Nat) ^ 12 = 4096 := by decide
        omega
      have hw := walk_len (N := nodesOf (endsU hs hs.length)) (bs := hs.map HEv.isAsk) (k := j) (f := 0)
      have ht := tot_nodes (es := endsU hs hs.length) (k := j) (f := 0)
      have hl2 := ends_len (hs := hs) (k := hs.length)
      have nen : ∀ f s a, valV kvs [.inl ((f : Nat) : Int), .inl ((s : Nat) : Int)] = some (.ref a) → a ≠ o := fun f s a e => (ne_of_none eo (hf f s a e).h).symm
      refine ⟨j, hj, o, nd, D, 0, [], kvs, hs.map HEv.isAsk, nodesOf (endsU hs hs.length), rfl, s4 _ _ eo, en, s4 _ _ (s3 _ _ eD), hN, nen, npD, by omega, by rw [List.length_map]; omega, ?_, fun ys H5 k5 e5 w5 => ?_⟩
      · show 0 + _ < _
        omega
      have s04 : Same H H4 := (s1.trans s13).trans s4
      exact ⟨_, rfl, q j ys o H5 hj1 hj2 (fun b u e => k5.at_ _ _ (s04 _ _ e) (not_cons (ne_of_none e fo0.h) not_nil)) fo0 (by rw [e5]; rfl) w5⟩
end
end Ob

set_option Elab.async false
set_option linter.all false
set_option maxRecDepth 100000
set_option maxHeartbeats 1000000
namespace Ob
open PySem PySem.Spec PyProof.Rows L2
open LamX (Tabs TabB TabS ExtN)

set_option hygiene false in
local macro_rules
  | `(tactic| kp_flats) => `(tactic| first
    | assumption
    | exact upd_same
    | (apply atNew; assumption; kp_flats)
    | (apply atNe; (next => kbo_bools); kp_flats)
    | (apply atSame; assumption; kp_flats)
    | (apply atKp; assumption; (next => kaf_pre); kp_flats))
set_option hygiene false in
local macro_rules
  | `(tactic| kaf_pre) => `(tactic| first
    | assumption
    | exact not_nil
    | (apply not_cons; (next => kbo_bools); kaf_pre)
    | (apply not_app; (next => kaf_pre); kaf_pre))
set_option hygiene false in
local macro_rules
  | `(tactic| kbo_bools) => `(tactic| first
    | assumption
    | (apply Ne.symm; assumption)
    | (apply neN; assumption; kp_flats)
    | (apply neN'; assumption; kp_flats))
set_option hygiene false in
local macro_rules
  | `(tactic| o_reads) => `(tactic| first
    | with_reducible rfl
    | assumption
    | rfl
    | kp_flats
    | (show SqL _ _ _ _; first | assumption | (apply sqlOf; kp_flats) | (apply sqlSame; assumption; o_reads))
    | (show SqT _ _ _ _; first | assumption | (apply sqtOf; kp_flats) | (apply sqtAll; assumption) | (apply sqtSame; assumption; o_reads))
    | (show Cls _ _; first | skip)
    | (show NoAttr _ _ _; first | skip)
    | (apply Or.inl; o_reads)
    | (apply Or.inr; o_reads)
    | (apply And.intro; (next => o_reads); o_reads)
    | (apply Exists.intro; o_reads)
    | exact Nat.le_of_ble_eq_true rfl
    | exact Nat.succ_ne_zero _
    | (show Fr _ _; kba_ints)
    | (show Same _ _; kd_subs)
    | (show Kp _ _ _; kxs_still)
    | (show (_ : Nat) ≤ _; simp only [List.length_append, List.length_map, List.length_cons, List.length_nil, List.length_take, List.length_drop, List.length_replicate, List.length_range, sizeLine_eq]; omega)
    | (show _ = none; apply Fr.h; kba_ints)
    | (show Bag _ _; first | assumption | (apply bag_putF; assumption; o_reads) | (apply bag_neF; (next => kbo_bools); o_reads) | (apply bag_kpR; assumption; (next => kaf_pre); o_reads))
    | omega
    | decide)
local macro_rules
  | `(tactic| o_readsAll) => `(tactic| repeat (first
    | (refine fun (pNew : Addr) (nNew : _ = none) => ?_; replace nNew := Fr.mk nNew)
    | (refine fun (xNew dNew : Addr) (nNew : _ = none) (mNew : _ = none) (eNew : dNew ≠ xNew) => ?_; replace nNew := Fr.mk nNew; replace mNew := Fr.mk mNew)
    | (apply And.intro; next => o_reads)
    | apply Exists.intro (α := V)
    | apply Exists.intro (α := Addr)
    | apply Exists.intro (α := Int)
    | apply Exists.intro (α := Bool)
    | apply Exists.intro (α := List V)
    | apply Exists.intro (α := List Nat)
    | apply Exists.intro (α := List (Str × V))
    | apply Exists.intro (α := List _)
    | apply Exists.intro (α := Str)
    | apply Exists.intro (α := HO)
    | apply Exists.intro (α := Sp)
    | apply Exists.intro (α := VK)))
set_option hygiene false in
local macro_rules
  | `(tactic| kba_ints) => `(tactic| first
    | assumption
    | (apply frUp; (first | assumption | (apply Ne.symm; assumption)); kba_ints)
    | (apply noneOf; assumption; intro oF eF; apply Exists.intro; kp_flats)
    | (apply frUp; (next => kbo_bools); kba_ints))
set_option hygiene false in
local macro_rules
  | `(tactic| kxs_still) => `(tactic| first
    | assumption
    | exact kp_refl _ _
    | (apply kp_newF; assumption; kxs_still)
    | (apply kp_new; assumption; kxs_still)
    | (apply kp_up; (next => o_fieldsN); kxs_still)
    | (apply kp_new; (next => kba_ints); kxs_still)
    | (apply kp_sameR; assumption; kxs_still)
    | (apply kp_transR; assumption; kxs_still)
    | (apply kp_freshR; assumption; (next => kaf_suf); kxs_still))
set_option hygiene false in
local macro_rules
  | `(tactic| kaf_suf) => `(tactic| first
    | assumption
    | exact subNil
    | (apply subCons; (first | (apply Or.inl; o_fieldsN) | (apply Or.inr; kba_ints)); kaf_suf)
    | (apply subApp; (next => kaf_suf); kaf_suf))
set_option hygiene false in
local macro_rules
  | `(tactic| o_fieldsN) => `(tactic| first
    | assumption
    | exact memA
    | (apply memB; o_fieldsN)
    | (apply memL; o_fieldsN)
    | (apply memR; o_fieldsN))
set_option hygiene false in
local macro_rules
  | `(tactic| kd_subs) => `(tactic| first
    | assumption
    | exact Same.refl _
    | (apply same_putF; assumption; kd_subs)
    | (apply same_putG; assumption; kd_subs)
    | (apply same_putF; (next => kba_ints); kd_subs)
    | (apply same_transR; assumption; kd_subs))

set_option pp.maxSteps 900
/-! ### what the entries of a walk name -/
theorem ends_add {hs : List HEv} : ∀ {k : Nat}, ∀ e ∈ endsU hs k, ∃ v, hs[e.1]? = some (.add v)
  | 0, e, m => nomatch m
  | k + 1, e, m => by
    have ih := ends_add (hs := hs) (k := k)
    unfold endsU at m
    cases hh : hs[k]? with
    | none =>
      rw [hh] at m
      exact ih e m
    | some x =>
      rw [hh] at m
      match x, m with
      | .add v, m =>
        rcases List.mem_append.mp m with m | m
        · exact ih e m
        · rw [List.mem_singleton.mp m]
          exact ⟨v, hh⟩
      | .rem i, m =>
        obtain ⟨e', m', rfl⟩ := List.mem_map.mp m
        obtain ⟨v, h⟩ := ih e' m'
        refine ⟨v, ?_⟩
        split
        · exact h
        · exact h
      | .ask v, m => exact ih e m
theorem addP_mem {i x f s : Nat} : ∀ {ps : List (Nat × Nat)} {N : Nat → Nat → List Nat}, x ∈ addP N i ps f s → x ∈ N f s ∨ x = i
  | [], N, h => .inl h
  | p :: ps, N, h => by
    have h : x ∈ addP (addN N p.1 p.2 i) i ps f s := h
    rcases addP_mem h with h | h
    · unfold addN at h
      split at h
      · rcases List.mem_append.mp h with h | h
        · exact .inl h
        · exact .inr (List.mem_singleton.mp h)
      · exact .inl h
    · exact .inr h
theorem fold_mem {x f s : Nat} : ∀ {es : List (Nat × Nat)} {N : Nat → Nat → List Nat}, x ∈ es.foldl (fun N ie => addP N ie.1 (pcF 201 ie.1 (ie.2 - ie.1))) N f s → x ∈ N f s ∨ ∃ e ∈ es, e.1 = x
  | [], N, h => .inl h
  | e :: es, N, h => by
    rw [List.foldl_cons] at h
    rcases fold_mem h with h | ⟨e', m, h⟩
    · rcases addP_mem h with h | h
      · exact .inl h
      · exact .inr ⟨e, List.mem_cons_self, h.symm⟩
    · exact .inr ⟨e', List.mem_cons_of_mem _ m, h⟩
theorem nodes_mem {es : List (Nat × Nat)} {x f s : Nat} (h : x ∈ nodesOf es f s) : ∃ e ∈ es, e.1 = x := (fold_mem h).resolve_left fun z => nomatch z
theorem asked_one {bs : List Bool} {f : Nat} (h : askedIn bs f 1 = true) : bs[f]? = some true := by
  unfold askedIn at h
  obtain ⟨b, m, e⟩ := List.any_eq_true.mp h
  have e : b = true := e
  subst e
  obtain ⟨n, hn⟩ := List.getElem?_of_mem m
  have hl := (List.getElem?_eq_some_iff.mp hn).1
  rw [List.length_take] at hl
  have h0 : n = 0 := by omega
  subst h0
  rw [List.getElem?_take_of_lt (by decide), List.getElem?_drop] at hn
  exact hn
theorem walk_ok {N : Nat → Nat → List Nat} {bs : List Bool} : ∀ {k f : Nat}, ∀ e ∈ walkW N bs k f, ((e.1 = "push" ∨ e.1 = "pop") ∧ ∃ f s, e.2 ∈ N f s) ∨ (e.1 = "ask" ∧ bs[e.2]? = some true)
  | 0, f, e, m => by
    unfold walkW at m
    split at m
    · rename_i c
      rcases List.mem_append.mp m with m | m
      · rcases List.mem_append.mp m with m | m
        · obtain ⟨i, hi, rfl⟩ := List.mem_map.mp m
          exact .inl ⟨.inl rfl, f, 1, hi⟩
        · rw [List.mem_singleton.mp m]
          exact .inr ⟨rfl, asked_one c⟩
      · obtain ⟨i, hi, rfl⟩ := List.mem_map.mp m
        exact .inl ⟨.inr rfl, f, 1, List.mem_reverse.mp hi⟩
    · exact nomatch m
  | k + 1, f, e, m => by
    unfold walkW at m
    split at m
    · rcases List.mem_append.mp m with m | m
      · rcases List.mem_append.mp m with m | m
        · obtain ⟨i, hi, rfl⟩ := List.mem_map.mp m
          exact .inl ⟨.inl rfl, f, _, hi⟩
        · rcases List.mem_append.mp m with m | m
          · exact walk_ok e m
          · exact walk_ok e m
      · obtain ⟨i, hi, rfl⟩ := List.mem_map.mp m
        exact .inl ⟨.inr rfl, f, _, List.mem_reverse.mp hi⟩
    · exact nomatch m
theorem plan_ok {hs : List HEv} {j : Nat} : ∀ e ∈ planW hs j, ((e.1 = "push" ∨ e.1 = "pop") ∧ ∃ v, hs[e.2]? = some (.add v)) ∨ (e.1 = "ask" ∧ ∃ v, hs[e.2]? = some (.ask v)) := fun e m => by
  rcases walk_ok e m with ⟨h, f, s, h2⟩ | ⟨h, h2⟩
  · obtain ⟨x, mx, rfl'⟩ := nodes_mem h2
    obtain ⟨v, hv⟩ := ends_add x mx
    rw [rfl'] at hv
    exact .inl ⟨h, v, hv⟩
  · rw [List.getElem?_map] at h2
    obtain ⟨x, hx, h3⟩ := Option.map_eq_some_iff.mp h2
    match x, hx, h3 with
    | .ask v, hx, _ => exact .inr ⟨h, v, hx⟩
end Ob

set_option Elab.async false
set_option linter.all false
set_option maxRecDepth 100000
set_option maxHeartbeats 1000000
namespace Ob
open PySem PySem.Spec PyProof.Rows L2
open LamX (Tabs TabB TabS ExtN)

set_option hygiene false in
local macro_rules
  | `(tactic| kp_flats) => `(tactic| first
    | assumption
    | exact upd_same
    | (apply atNew; assumption; kp_flats)
    | (apply atNe; (next => kbo_bools); kp_flats)
    | (apply atSame; assumption; kp_flats)
    | (apply atKp; assumption; (next => kaf_pre); kp_flats))
set_option hygiene false in
local macro_rules
  | `(tactic| kaf_pre) => `(tactic| first
    | assumption
    | exact not_nil
    | (apply not_cons; (next => kbo_bools); kaf_pre)
    | (apply not_app; (next => kaf_pre); kaf_pre))
set_option hygiene false in
local macro_rules
  | `(tactic| kbo_bools) => `(tactic| first
    | assumption
    | (apply Ne.symm; assumption)
    | (apply neN; assumption; kp_flats)
    | (apply neN'; assumption; kp_flats))
set_option hygiene false in
local macro_rules
  | `(tactic| o_reads) => `(tactic| first
    | with_reducible rfl
    | assumption
    | rfl
    | kp_flats
    | (show SqL _ _ _ _; first | assumption | (apply sqlOf; kp_flats) | (apply sqlSame; assumption; o_reads))
    | (show SqT _ _ _ _; first | assumption | (apply sqtOf; kp_flats) | (apply sqtAll; assumption) | (apply sqtSame; assumption; o_reads))
    | (show Cls _ _; first | skip)
    | (show NoAttr _ _ _; first | skip)
    | (apply Or.inl; o_reads)
    | (apply Or.inr; o_reads)
    | (apply And.intro; (next => o_reads); o_reads)
    | (apply Exists.intro; o_reads)
    | exact Nat.le_of_ble_eq_true rfl
    | exact Nat.succ_ne_zero _
    | (show Fr _ _; kba_ints)
    | (show Same _ _; kd_subs)
    | (show Kp _ _ _; kxs_still)
    | (show (_ : Nat) ≤ _; simp only [List.length_append, List.length_map, List.length_cons, List.length_nil, List.length_take, List.length_drop, List.length_replicate, List.length_range, sizeLine_eq]; omega)
    | (show _ = none; apply Fr.h; kba_ints)
    | (show Bag _ _; first | assumption | (apply bag_putF; assumption; o_reads) | (apply bag_neF; (next => kbo_bools); o_reads) | (apply bag_kpR; assumption; (next => kaf_pre); o_reads))
    | omega
    | decide)
local macro_rules
  | `(tactic| o_readsAll) => `(tactic| repeat (first
    | (refine fun (pNew : Addr) (nNew : _ = none) => ?_; replace nNew := Fr.mk nNew)
    | (refine fun (xNew dNew : Addr) (nNew : _ = none) (mNew : _ = none) (eNew : dNew ≠ xNew) => ?_; replace nNew := Fr.mk nNew; replace mNew := Fr.mk mNew)
    | (apply And.intro; next => o_reads)
    | apply Exists.intro (α := V)
    | apply Exists.intro (α := Addr)
    | apply Exists.intro (α := Int)
    | apply Exists.intro (α := Bool)
    | apply Exists.intro (α := List V)
    | apply Exists.intro (α := List Nat)
    | apply Exists.intro (α := List (Str × V))
    | apply Exists.intro (α := List _)
    | apply Exists.intro (α := Str)
    | apply Exists.intro (α := HO)
    | apply Exists.intro (α := Sp)
    | apply Exists.intro (α := VK)))
set_option hygiene false in
local macro_rules
  | `(tactic| kba_ints) => `(tactic| first
    | assumption
    | (apply frUp; (first | assumption | (apply Ne.symm; assumption)); kba_ints)
    | (apply noneOf; assumption; intro oF eF; apply Exists.intro; kp_flats)
    | (apply frUp; (next => kbo_bools); kba_ints))
set_option hygiene false in
local macro_rules
  | `(tactic| kxs_still) => `(tactic| first
    | assumption
    | exact kp_refl _ _
    | (apply kp_newF; assumption; kxs_still)
    | (apply kp_new; assumption; kxs_still)
    | (apply kp_up; (next => o_fieldsN); kxs_still)
    | (apply kp_new; (next => kba_ints); kxs_still)
    | (apply kp_sameR; assumption; kxs_still)
    | (apply kp_transR; assumption; kxs_still)
    | (apply kp_freshR; assumption; (next => kaf_suf); kxs_still))
set_option hygiene false in
local macro_rules
  | `(tactic| kaf_suf) => `(tactic| first
    | assumption
    | exact subNil
    | (apply subCons; (first | (apply Or.inl; o_fieldsN) | (apply Or.inr; kba_ints)); kaf_suf)
    | (apply subApp; (next => kaf_suf); kaf_suf))
set_option hygiene false in
local macro_rules
  | `(tactic| o_fieldsN) => `(tactic| first
    | assumption
    | exact memA
    | (apply memB; o_fieldsN)
    | (apply memL; o_fieldsN)
    | (apply memR; o_fieldsN))
set_option hygiene false in
local macro_rules
  | `(tactic| kd_subs) => `(tactic| first
    | assumption
    | exact Same.refl _
    | (apply same_putF; assumption; kd_subs)
    | (apply same_putG; assumption; kd_subs)
    | (apply same_putF; (next => kba_ints); kd_subs)
    | (apply same_transR; assumption; kd_subs))

set_option pp.maxSteps 900
/-! ### the stack along a walk -/
def stepS (S : List Nat) (e : Str × Nat) : List Nat := if e.1 = "push" then S ++ [e.2] else if e.1 = "pop" then S.dropLast else S
def runW (S : List Nat) (l : List (Str × Nat)) : List Nat := l.foldl stepS S
theorem wOP2 : ¬ ("pop" : Str) = "push" := by decide +kernel
theorem wAP2 : ¬ ("ask" : Str) = "push" := by decide +kernel
theorem wAO2 : ¬ ("ask" : Str) = "pop" := by decide +kernel
theorem run_app {S : List Nat} {a b : List (Str × Nat)} : runW S (a ++ b) = runW (runW S a) b := List.foldl_append ..
theorem run_push : ∀ {ns S : List Nat}, runW S (pushW ns) = S ++ ns
  | [], S => (List.append_nil S).symm
  | n :: ns, S => by
    show runW (stepS S ("push", n)) (pushW ns) = _
    rw [run_push]
    show (if ("push" : Str) = "push" then S ++ [n] else _) ++ ns = _
    rw [if_pos rfl, List.append_assoc]
    rfl
theorem run_pop : ∀ {ns S : List Nat}, runW (S ++ ns.reverse) (ns.map fun i => (("pop" : Str), i)) = S
  | [], S => List.append_nil S
  | n :: ns, S => by
    show runW (stepS (S ++ (n :: ns).reverse) ("pop", n)) (ns.map fun i => (("pop" : Str), i)) = S
    have : stepS (S ++ (n :: ns).reverse) ("pop", n) = S ++ ns.reverse := by
      show (if ("pop" : Str) = "push" then _ else if ("pop" : Str) = "pop" then _ else _) = _
      rw [if_neg wOP2, if_pos rfl, List.reverse_cons, ← List.append_assoc, List.dropLast_concat]
    rw [this]
    exact run_pop
theorem run_popW {ns S : List Nat} : runW (S ++ ns) (popW ns) = S := by
  have h := run_pop (ns := ns.reverse) (S := S)
  rw [List.reverse_reverse] at h
  exact h
theorem run_walk {N : Nat → Nat → List Nat} {bs : List Bool} : ∀ {k f : Nat} {S : List Nat}, runW S (walkW N bs k f) = S
  | 0, f, S => by
    unfold walkW
    split
    · rw [run_app, run_app, run_push]
      show runW (stepS (S ++ N f 1) ("ask", f)) (popW (N f 1)) = S
      have : stepS (S ++ N f 1) ("ask", f) = S ++ N f 1 := by
        show (if ("ask" : Str) = "push" then _ else if ("ask" : Str) = "pop" then _ else _) = _
        rw [if_neg wAP2, if_neg wAO2]
      rw [this]
      exact run_popW
    · rfl
  | k + 1, f, S => by
    unfold walkW
    split
    · rw [run_app, run_app, run_push, run_app, run_walk, run_walk]
      exact run_popW
    · rfl
theorem split_app {α : Type} {x : α} : ∀ {tr z A B : List α}, tr ++ x :: z = A ++ B → (∃ z', A = tr ++ x :: z') ∨ ∃ tr', tr = A ++ tr' ∧ tr' ++ x :: z = B
  | tr, z, [], B, h => .inr ⟨tr, rfl, h⟩
  | [], z, a :: A, B, h => by
    injection h with h1 h2
    exact .inl ⟨A, by rw [h1]; rfl⟩
  | t :: tr, z, a :: A, B, h => by
    injection h with h1 h2
    rcases split_app h2 with ⟨z', h⟩ | ⟨tr', h, h'⟩
    · exact .inl ⟨z', by rw [h, h1]; rfl⟩
    · exact .inr ⟨tr', by rw [h, h1]; rfl, h'⟩
/-- what is pushed while the walk is at i -/
def pathN (N : Nat → Nat → List Nat) : Nat → Nat → Nat → List Nat
  | 0, f, _ => N f 1
  | k + 1, f, i => N f (2 ^ (k + 1)) ++ (if i < f + 2 ^ k then pathN N k f i else pathN N k (f + 2 ^ k) i)
theorem no_push {ns : List Nat} {i : Nat} {tr z : List (Str × Nat)} (h : pushW ns = tr ++ (("ask" : Str), i) :: z) : False := by
  have m : (("ask" : Str), i) ∈ pushW ns := by rw [h]; exact List.mem_append.mpr (.inr List.mem_cons_self)
  obtain ⟨n, _, e⟩ := List.mem_map.mp m
  injection e with e _
  exact wAP2 e.symm
theorem no_pop {ns : List Nat} {i : Nat} {tr z : List (Str × Nat)} (h : tr ++ (("ask" : Str), i) :: z = popW ns) : False := by
  have m : (("ask" : Str), i) ∈ popW ns := by rw [← h]; exact List.mem_append.mpr (.inr List.mem_cons_self)
  obtain ⟨n, _, e⟩ := List.mem_map.mp m
  injection e with e _
  exact wAO2 e.symm
theorem run_ask {N : Nat → Nat → List Nat} {bs : List Bool} : ∀ {k f i : Nat} {S : List Nat} {tr z : List (Str × Nat)}, tr ++ (("ask" : Str), i) :: z = walkW N bs k f → runW S tr = S ++ pathN N k f i ∧ f ≤ i ∧ i < f + 2 ^ k
  | 0, f, i, S, tr, z, h => by
    unfold walkW at h
    split at h
    · rcases split_app h with ⟨z', ha⟩ | ⟨tr', _, hb⟩
      · rcases split_app ha.symm with ⟨z2, hc⟩ | ⟨tr2, et, hd⟩
        · exact (no_push hc).elim
        · rw [et]
          match tr2, hd with
          | [], hd =>
            injection hd with hd _
            injection hd with _ hd
            rw [List.append_nil, run_push, hd]
            exact ⟨rfl, Nat.le_refl _, by rw [Nat.pow_zero]; omega⟩
          | t :: tr3, hd =>
            injection hd with _ hd
            cases tr3 <;> cases hd
      · exact (no_pop hb).elim
    · cases tr <;> cases h
  | k + 1, f, i, S, tr, z, h => by
    have h3 : (2 : Nat) ^ (k + 1) = 2 ^ k + 2 ^ k := by rw [Nat.pow_succ]; omega
    unfold walkW at h
    split at h
    · rcases split_app h with ⟨z', ha⟩ | ⟨tr', _, hb⟩
      · rcases split_app ha.symm with ⟨z2, hc⟩ | ⟨tr2, et, hd⟩
        · exact (no_push hc).elim
        · rw [et, run_app, run_push]
          rcases split_app hd with ⟨z3, he⟩ | ⟨tr3, et3, he⟩
          · obtain ⟨h1, h4, h5⟩ := run_ask (S := S ++ N f (2 ^ (k + 1))) he.symm
            refine ⟨?_, h4, by omega⟩
            rw [h1, List.append_assoc]
            show _ = S ++ (N f (2 ^ (k + 1)) ++ (if i < f + 2 ^ k then pathN N k f i else pathN N k (f + 2 ^ k) i))
            rw [if_pos h5]
          · obtain ⟨h1, h4, h5⟩ := run_ask (S := S ++ N f (2 ^ (k + 1))) he
            refine ⟨?_, by omega, by omega⟩
            rw [et3, run_app, run_walk, h1, List.append_assoc]
            show _ = S ++ (N f (2 ^ (k + 1)) ++ (if i < f + 2 ^ k then pathN N k f i else pathN N k (f + 2 ^ k) i))
            rw [if_neg (by omega)]
      · exact (no_pop hb).elim
    · cases tr <;> cases h
end Ob

set_option Elab.async false
set_option linter.all false
set_option maxRecDepth 100000
set_option maxHeartbeats 1000000
namespace Ob
open PySem PySem.Spec PyProof.Rows L2
open LamX (Tabs TabB TabS ExtN)

set_option hygiene false in
local macro_rules
  | `(tactic| kp_flats) => `(tactic| first
    | assumption
    | exact upd_same
    | (apply atNew; assumption; kp_flats)
    | (apply atNe; (next => kbo_bools); kp_flats)
    | (apply atSame; assumption; kp_flats)
    | (apply atKp; assumption; (next => kaf_pre); kp_flats))
set_option hygiene false in
local macro_rules
  | `(tactic| kaf_pre) => `(tactic| first
    | assumption
    | exact not_nil
    | (apply not_cons; (next => kbo_bools); kaf_pre)
    | (apply not_app; (next => kaf_pre); kaf_pre))
set_option hygiene false in
local macro_rules
  | `(tactic| kbo_bools) => `(tactic| first
    | assumption
    | (apply Ne.symm; assumption)
    | (apply neN; assumption; kp_flats)
    | (apply neN'; assumption; kp_flats))
set_option hygiene false in
local macro_rules
  | `(tactic| o_reads) => `(tactic| first
    | with_reducible rfl
    | assumption
    | rfl
    | kp_flats
    | (show SqL _ _ _ _; first | assumption | (apply sqlOf; kp_flats) | (apply sqlSame; assumption; o_reads))
    | (show SqT _ _ _ _; first | assumption | (apply sqtOf; kp_flats) | (apply sqtAll; assumption) | (apply sqtSame; assumption; o_reads))
    | (show Cls _ _; first | skip)
    | (show NoAttr _ _ _; first | skip)
    | (apply Or.inl; o_reads)
    | (apply Or.inr; o_reads)
    | (apply And.intro; (next => o_reads); o_reads)
    | (apply Exists.intro; o_reads)
    | exact Nat.le_of_ble_eq_true rfl
    | exact Nat.succ_ne_zero _
    | (show Fr _ _; kba_ints)
    | (show Same _ _; kd_subs)
    | (show Kp _ _ _; kxs_still)
    | (show (_ : Nat) ≤ _; simp only [List.length_append, List.length_map, List.length_cons, List.length_nil, List.length_take, List.length_drop, List.length_replicate, List.length_range, sizeLine_eq]; omega)
    | (show _ = none; apply Fr.h; kba_ints)
    | (show Bag _ _; first | assumption | (apply bag_putF; assumption; o_reads) | (apply bag_neF; (next => kbo_bools); o_reads) | (apply bag_kpR; assumption; (next => kaf_pre); o_reads))
    | omega
    | decide)
local macro_rules
  | `(tactic| o_readsAll) => `(tactic| repeat (first
    | (refine fun (pNew : Addr) (nNew : _ = none) => ?_; replace nNew := Fr.mk nNew)
    | (refine fun (xNew dNew : Addr) (nNew : _ = none) (mNew : _ = none) (eNew : dNew ≠ xNew) => ?_; replace nNew := Fr.mk nNew; replace mNew := Fr.mk mNew)
    | (apply And.intro; next => o_reads)
    | apply Exists.intro (α := V)
    | apply Exists.intro (α := Addr)
    | apply Exists.intro (α := Int)
    | apply Exists.intro (α := Bool)
    | apply Exists.intro (α := List V)
    | apply Exists.intro (α := List Nat)
    | apply Exists.intro (α := List (Str × V))
    | apply Exists.intro (α := List _)
    | apply Exists.intro (α := Str)
    | apply Exists.intro (α := HO)
    | apply Exists.intro (α := Sp)
    | apply Exists.intro (α := VK)))
set_option hygiene false in
local macro_rules
  | `(tactic| kba_ints) => `(tactic| first
    | assumption
    | (apply frUp; (first | assumption | (apply Ne.symm; assumption)); kba_ints)
    | (apply noneOf; assumption; intro oF eF; apply Exists.intro; kp_flats)
    | (apply frUp; (next => kbo_bools); kba_ints))
set_option hygiene false in
local macro_rules
  | `(tactic| kxs_still) => `(tactic| first
    | assumption
    | exact kp_refl _ _
    | (apply kp_newF; assumption; kxs_still)
    | (apply kp_new; assumption; kxs_still)
    | (apply kp_up; (next => o_fieldsN); kxs_still)
    | (apply kp_new; (next => kba_ints); kxs_still)
    | (apply kp_sameR; assumption; kxs_still)
    | (apply kp_transR; assumption; kxs_still)
    | (apply kp_freshR; assumption; (next => kaf_suf); kxs_still))
set_option hygiene false in
local macro_rules
  | `(tactic| kaf_suf) => `(tactic| first
    | assumption
    | exact subNil
    | (apply subCons; (first | (apply Or.inl; o_fieldsN) | (apply Or.inr; kba_ints)); kaf_suf)
    | (apply subApp; (next => kaf_suf); kaf_suf))
set_option hygiene false in
local macro_rules
  | `(tactic| o_fieldsN) => `(tactic| first
    | assumption
    | exact memA
    | (apply memB; o_fieldsN)
    | (apply memL; o_fieldsN)
    | (apply memR; o_fieldsN))
set_option hygiene false in
local macro_rules
  | `(tactic| kd_subs) => `(tactic| first
    | assumption
    | exact Same.refl _
    | (apply same_putF; assumption; kd_subs)
    | (apply same_putG; assumption; kd_subs)
    | (apply same_putF; (next => kba_ints); kd_subs)
    | (apply same_transR; assumption; kd_subs))

set_option pp.maxSteps 900
/-! ### the nodes on the way to i -/
def onP : Nat → Nat → Nat → Nat → Nat → Prop
  | 0, f, _, a, s => a = f ∧ s = 1
  | k + 1, f, i, a, s => (a = f ∧ s = 2 ^ (k + 1)) ∨ (if i < f + 2 ^ k then onP k f i a s else onP k (f + 2 ^ k) i a s)
theorem onP_le : ∀ {k f i a s : Nat}, onP k f i a s → s ≤ 2 ^ k
  | 0, f, i, a, s, h => by rw [h.2]; exact Nat.le_refl _
  | k + 1, f, i, a, s, h => by
    have h3 : (2 : Nat) ^ (k + 1) = 2 ^ k + 2 ^ k := by rw [Nat.pow_succ]; omega
    rcases h with ⟨_, h⟩ | h
    · exact Nat.le_of_eq h
    · split at h
      · have := onP_le h; omega
      · have := onP_le h; omega
theorem same_block {M a f i : Nat} (hM : 0 < M) (ha : a % M = 0) (hf : f % M = 0) (h1 : a ≤ i) (h2 : i < a + M) (h3 : f ≤ i) (h4 : i < f + M) : a = f := by
  obtain ⟨p, rfl⟩ := Nat.dvd_of_mod_eq_zero ha
  obtain ⟨q, rfl⟩ := Nat.dvd_of_mod_eq_zero hf
  have e1 : i / M = p := by
    refine Nat.div_eq_of_lt_le ?_ ?_
    · rw [Nat.mul_comm]; exact h1
    · rw [Nat.mul_comm, Nat.mul_succ]; exact h2
  have e2 : i / M = q := by
    refine Nat.div_eq_of_lt_le ?_ ?_
    · rw [Nat.mul_comm]; exact h3
    · rw [Nat.mul_comm, Nat.mul_succ]; exact h4
  rw [← e1, e2]
theorem on_path : ∀ {k f i a m : Nat}, f % 2 ^ k = 0 → f ≤ i → i < f + 2 ^ k → m ≤ k → a % 2 ^ m = 0 → (onP k f i a (2 ^ m) ↔ a ≤ i ∧ i < a + 2 ^ m)
  | 0, f, i, a, m, hf, h1, h2, hm, ha => by
    obtain rfl : m = 0 := by omega
    unfold onP
    rw [Nat.pow_zero] at h2 ⊢
    omega
  | k + 1, f, i, a, m, hf, h1, h2, hm, ha => by
    have h3 : (2 : Nat) ^ (k + 1) = 2 ^ k + 2 ^ k := by rw [Nat.pow_succ]; omega
    have hp := Nat.two_pow_pos k
    unfold onP
    by_cases c : m = k + 1
    · subst c
      constructor
      · rintro (⟨rfl, _⟩ | h)
        · exact ⟨h1, h2⟩
        · split at h
          · have := onP_le h; omega
          · have := onP_le h; omega
      · rintro ⟨h4, h5⟩
        exact .inl ⟨same_block (Nat.two_pow_pos _) ha hf h4 h5 h1 h2, rfl⟩
    · have hm' : m ≤ k := by omega
      have hne : ¬ (a = f ∧ (2 : Nat) ^ m = 2 ^ (k + 1)) := fun z => by
        have : (2 : Nat) ^ m ≤ 2 ^ k := Nat.pow_le_pow_right (by decide) hm'
        omega
      have hf' : f % 2 ^ k = 0 := mod_le hf (Nat.le_succ k)
      by_cases d : i < f + 2 ^ k
      · rw [if_pos d]
        have ih := on_path (k := k) (f := f) hf' h1 d hm' ha
        exact ⟨fun z => ih.mp (z.resolve_left hne), fun z => .inr (ih.mpr z)⟩
      · rw [if_neg d]
        have ih := on_path (k := k) (f := f + 2 ^ k) (mod_add hf' (Nat.mod_self _)) (by omega) (show i < f + 2 ^ k + 2 ^ k by omega) hm' ha
        exact ⟨fun z => ih.mp (z.resolve_left hne), fun z => .inr (ih.mpr z)⟩
/-! ### one more member at a node -/
theorem path_off {N : Nat → Nat → List Nat} {a s y : Nat} : ∀ {k f i : Nat}, ¬ onP k f i a s → pathN (addN N a s y) k f i = pathN N k f i
  | 0, f, i, h => by
    show addN N a s y f 1 = N f 1
    exact add_ne fun z => h ⟨z.1.symm, z.2.symm⟩
  | k + 1, f, i, h => by
    show addN N a s y f (2 ^ (k + 1)) ++ (if i < f + 2 ^ k then pathN (addN N a s y) k f i else pathN (addN N a s y) k (f + 2 ^ k) i) = N f (2 ^ (k + 1)) ++ (if i < f + 2 ^ k then pathN N k f i else pathN N k (f + 2 ^ k) i)
    rw [add_ne fun z => h (.inl ⟨z.1.symm, z.2.symm⟩)]
    by_cases d : i < f + 2 ^ k
    · rw [if_pos d, if_pos d, path_off fun z => h (.inr (by rw [if_pos d]; exact z))]
    · rw [if_neg d, if_neg d, path_off fun z => h (.inr (by rw [if_neg d]; exact z))]
theorem path_on {N : Nat → Nat → List Nat} {a s y : Nat} : ∀ {k f i : Nat}, onP k f i a s → ∃ l1 l2, pathN N k f i = l1 ++ l2 ∧ pathN (addN N a s y) k f i = l1 ++ y :: l2
  | 0, f, i, h => by
    obtain ⟨rfl, rfl⟩ := h
    refine ⟨N a 1, [], (List.append_nil _).symm, ?_⟩
    show addN N a 1 y a 1 = _
    exact add_same
  | k + 1, f, i, h => by
    show ∃ l1 l2, N f (2 ^ (k + 1)) ++ (if i < f + 2 ^ k then pathN N k f i else pathN N k (f + 2 ^ k) i) = l1 ++ l2 ∧ addN N a s y f (2 ^ (k + 1)) ++ (if i < f + 2 ^ k then pathN (addN N a s y) k f i else pathN (addN N a s y) k (f + 2 ^ k) i) = l1 ++ y :: l2
    have h3 : (2 : Nat) ^ (k + 1) = 2 ^ k + 2 ^ k := by rw [Nat.pow_succ]; omega
    have hp := Nat.two_pow_pos k
    by_cases c : a = f ∧ s = 2 ^ (k + 1)
    · obtain ⟨rfl, rfl⟩ := c
      rw [add_same, path_off fun z => by have := onP_le z; omega, path_off fun z => by have := onP_le z; omega]
      exact ⟨_, _, rfl, by rw [List.append_assoc]; rfl⟩
    · have h := h.resolve_left c
      rw [add_ne fun z => c ⟨z.1.symm, z.2.symm⟩]
      by_cases d : i < f + 2 ^ k
      · rw [if_pos d] at h
        rw [if_pos d, if_pos d]
        obtain ⟨l1, l2, e1, e2⟩ := path_on (N := N) (y := y) h
        exact ⟨N f (2 ^ (k + 1)) ++ l1, l2, by rw [e1, List.append_assoc], by rw [e2, List.append_assoc]⟩
      · rw [if_neg d] at h
        rw [if_neg d, if_neg d]
        obtain ⟨l1, l2, e1, e2⟩ := path_on (N := N) (y := y) h
        exact ⟨N f (2 ^ (k + 1)) ++ l1, l2, by rw [e1, List.append_assoc], by rw [e2, List.append_assoc]⟩
/-- the pieces of a range: just one of them is on the way to what lies in the range -/
theorem path_pcs {k i y : Nat} (hk : k ≤ 100) (hi : i < 2 ^ k) : ∀ {u a r : Nat} {N : Nat → Nat → List Nat}, enough u a r → a + r ≤ 2 ^ k →
    (¬ (a ≤ i ∧ i < a + r) → pathN (addP N y (pcF u a r)) k 0 i = pathN N k 0 i) ∧ (a ≤ i ∧ i < a + r → ∃ l1 l2, pathN N k 0 i = l1 ++ l2 ∧ pathN (addP N y (pcF u a r)) k 0 i = l1 ++ y :: l2)
  | u, a, 0, N, _, _ => by
    rw [pcF_zero]
    exact ⟨fun _ => rfl, fun z => by omega⟩
  | u, a, r + 1, N, he, hr => by
    have hb : a + (r + 1) ≤ 2 ^ 100 := Nat.le_trans hr (Nat.pow_le_pow_right (by decide) hk)
    obtain ⟨u', rfl, he2, hs, hs0, j, hj, haj⟩ := enough_step he (Nat.succ_ne_zero r) hb
    have hjk : j ≤ k := by
      refine Nat.le_of_not_lt fun z => ?_
      have h1 : (2 : Nat) ^ (k + 1) ≤ 2 ^ j := Nat.pow_le_pow_right (by decide) z
      have h2 := Nat.two_pow_pos k
      rw [Nat.pow_succ] at h1
      omega
    have hon := on_path (k := k) (f := 0) (i := i) (a := a) (m := j) (Nat.zero_mod _) (Nat.zero_le _) (by omega) hjk haj
    rw [← hj] at hon
    rw [pcF_pos (Nat.succ_ne_zero r)]
    have hadd : addP N y ((a, szP a (r + 1)) :: pcF u' (a + szP a (r + 1)) (r + 1 - szP a (r + 1))) = addP (addN N a (szP a (r + 1)) y) y (pcF u' (a + szP a (r + 1)) (r + 1 - szP a (r + 1))) := rfl
    rw [hadd]
    have ih := path_pcs (y := y) hk hi (N := addN N a (szP a (r + 1)) y) he2 (by omega)
    by_cases c : a ≤ i ∧ i < a + szP a (r + 1)
    · refine ⟨fun z => by omega, fun _ => ?_⟩
      rw [ih.1 (by omega)]
      exact path_on (hon.mpr c)
    · have hoff := path_off (N := N) (y := y) fun z => c (hon.mp z)
      refine ⟨fun z => ?_, fun z => ?_⟩
      · rw [ih.1 (by omega), hoff]
      · obtain ⟨l1, l2, e1, e2⟩ := ih.2 (by omega)
        rw [hoff] at e1
        exact ⟨l1, l2, e1, e2⟩
termination_by u a r => u
decreasing_by omega
/-- whom the walk holds at i: those who are present from their index on, to their end -/
def heldAt (es : List (Nat × Nat)) (i : Nat) : List Nat := (es.filter fun e => decide (e.1 ≤ i ∧ i < e.2)).map (·.1)
theorem path_fold {k i : Nat} (hk : k ≤ 12) (hi : i < 2 ^ k) : ∀ {es : List (Nat × Nat)} {N : Nat → Nat → List Nat}, (∀ e ∈ es, e.1 ≤ e.2 ∧ e.2 ≤ 2 ^ k) →
    (pathN (es.foldl (fun N ie => addP N ie.1 (pcF 201 ie.1 (ie.2 - ie.1))) N) k 0 i).Perm (pathN N k 0 i ++ heldAt es i)
  | [], N, _ => by
    show (pathN N k 0 i).Perm (pathN N k 0 i ++ [])
    rw [List.append_nil]
  | e :: es, N, h => by
    obtain ⟨h1, h2⟩ := h e List.mem_cons_self
    have hp : (2 : Nat) ^ k ≤ 10 ^ 30 := Nat.le_trans (Nat.pow_le_pow_right (by decide) hk) (by decide +kernel)
    have hpc := path_pcs (y := e.1) (show k ≤ 100 by omega) hi (N := N) (enough_all (a := e.1) (r := e.2 - e.1) (by omega)) (by omega)
    rw [List.foldl_cons]
    refine (path_fold hk hi fun e' m => h e' (List.mem_cons_of_mem _ m)).trans ?_
    by_cases c : e.1 ≤ i ∧ i < e.2
    · obtain ⟨l1, l2, e1, e2⟩ := hpc.2 (by omega)
      have hh : heldAt (e :: es) i = e.1 :: heldAt es i := by
        unfold heldAt
        rw [List.filter_cons_of_pos (p := fun e : Nat × Nat => decide (e.1 ≤ i ∧ i < e.2)) (decide_eq_true c)]
        rfl
      rw [hh, e2, e1]
      refine ((List.perm_middle (a := e.1) (l₁ := l1) (l₂ := l2)).append_right _).trans ?_
      exact (List.perm_middle (a := e.1) (l₁ := l1 ++ l2) (l₂ := heldAt es i)).symm
    · have hh : heldAt (e :: es) i = heldAt es i := by
        unfold heldAt
        rw [List.filter_cons_of_neg (p := fun e : Nat × Nat => decide (e.1 ≤ i ∧ i < e.2)) (fun z => c (of_decide_eq_true z))]
      rw [hh, hpc.1 (by omega)]
theorem path_held {k i : Nat} {es : List (Nat × Nat)} (hk : k ≤ 12) (hi : i < 2 ^ k) (h : ∀ e ∈ es, e.1 ≤ e.2 ∧ e.2 ≤ 2 ^ k) : (pathN (nodesOf es) k 0 i).Perm (heldAt es i) := by
  have h0 : ∀ {k f : Nat}, pathN (fun _ _ => []) k f i = [] := by
    intro k
    induction k with
    | zero => intro f; rfl
    | succ k ih =>
      intro f
      show [] ++ (if i < f + 2 ^ k then pathN (fun _ _ => []) k f i else pathN (fun _ _ => []) k (f + 2 ^ k) i) = []
      split
      · exact ih
      · exact ih
  have p := path_fold hk hi (N := fun _ _ => []) h
  rw [h0, List.nil_append] at p
  exact p
end Ob

set_option Elab.async false
set_option linter.all false
set_option maxRecDepth 100000
set_option maxHeartbeats 1000000
namespace Ob
open PySem PySem.Spec PyProof.Rows L2
open LamX (Tabs TabB TabS ExtN)

set_option hygiene false in
local macro_rules
  | `(tactic| kp_flats) => `(tactic| first
    | assumption
    | exact upd_same
    | (apply atNew; assumption; kp_flats)
    | (apply atNe; (next => kbo_bools); kp_flats)
    | (apply atSame; assumption; kp_flats)
    | (apply atKp; assumption; (next => kaf_pre); kp_flats))
set_option hygiene false in
local macro_rules
  | `(tactic| kaf_pre) => `(tactic| first
    | assumption
    | exact not_nil
    | (apply not_cons; (next => kbo_bools); kaf_pre)
    | (apply not_app; (next => kaf_pre); kaf_pre))
set_option hygiene false in
local macro_rules
  | `(tactic| kbo_bools) => `(tactic| first
    | assumption
    | (apply Ne.symm; assumption)
    | (apply neN; assumption; kp_flats)
    | (apply neN'; assumption; kp_flats))
set_option hygiene false in
local macro_rules
  | `(tactic| o_reads) => `(tactic| first
    | with_reducible rfl
    | assumption
    | rfl
    | kp_flats
    | (show SqL _ _ _ _; first | assumption | (apply sqlOf; kp_flats) | (apply sqlSame; assumption; o_reads))
    | (show SqT _ _ _ _; first | assumption | (apply sqtOf; kp_flats) | (apply sqtAll; assumption) | (apply sqtSame; assumption; o_reads))
    | (show Cls _ _; first | skip)
    | (show NoAttr _ _ _; first | skip)
    | (apply Or.inl; o_reads)
    | (apply Or.inr; o_reads)
    | (apply And.intro; (next => o_reads); o_reads)
    | (apply Exists.intro; o_reads)
    | exact Nat.le_of_ble_eq_true rfl
    | exact Nat.succ_ne_zero _
    | (show Fr _ _; kba_ints)
    | (show Same _ _; kd_subs)
    | (show Kp _ _ _; kxs_still)
    | (show (_ : Nat) ≤ _; simp only [List.length_append, List.length_map, List.length_cons, List.length_nil, List.length_take, List.length_drop, List.length_replicate, List.length_range, sizeLine_eq]; omega)
    | (show _ = none; apply Fr.h; kba_ints)
    | (show Bag _ _; first | assumption | (apply bag_putF; assumption; o_reads) | (apply bag_neF; (next => kbo_bools); o_reads) | (apply bag_kpR; assumption; (next => kaf_pre); o_reads))
    | omega
    | decide)
local macro_rules
  | `(tactic| o_readsAll) => `(tactic| repeat (first
    | (refine fun (pNew : Addr) (nNew : _ = none) => ?_; replace nNew := Fr.mk nNew)
    | (refine fun (xNew dNew : Addr) (nNew : _ = none) (mNew : _ = none) (eNew : dNew ≠ xNew) => ?_; replace nNew := Fr.mk nNew; replace mNew := Fr.mk mNew)
    | (apply And.intro; next => o_reads)
    | apply Exists.intro (α := V)
    | apply Exists.intro (α := Addr)
    | apply Exists.intro (α := Int)
    | apply Exists.intro (α := Bool)
    | apply Exists.intro (α := List V)
    | apply Exists.intro (α := List Nat)
    | apply Exists.intro (α := List (Str × V))
    | apply Exists.intro (α := List _)
    | apply Exists.intro (α := Str)
    | apply Exists.intro (α := HO)
    | apply Exists.intro (α := Sp)
    | apply Exists.intro (α := VK)))
set_option hygiene false in
local macro_rules
  | `(tactic| kba_ints) => `(tactic| first
    | assumption
    | (apply frUp; (first | assumption | (apply Ne.symm; assumption)); kba_ints)
    | (apply noneOf; assumption; intro oF eF; apply Exists.intro; kp_flats)
    | (apply frUp; (next => kbo_bools); kba_ints))
set_option hygiene false in
local macro_rules
  | `(tactic| kxs_still) => `(tactic| first
    | assumption
    | exact kp_refl _ _
    | (apply kp_newF; assumption; kxs_still)
    | (apply kp_new; assumption; kxs_still)
    | (apply kp_up; (next => o_fieldsN); kxs_still)
    | (apply kp_new; (next => kba_ints); kxs_still)
    | (apply kp_sameR; assumption; kxs_still)
    | (apply kp_transR; assumption; kxs_still)
    | (apply kp_freshR; assumption; (next => kaf_suf); kxs_still))
set_option hygiene false in
local macro_rules
  | `(tactic| kaf_suf) => `(tactic| first
    | assumption
    | exact subNil
    | (apply subCons; (first | (apply Or.inl; o_fieldsN) | (apply Or.inr; kba_ints)); kaf_suf)
    | (apply subApp; (next => kaf_suf); kaf_suf))
set_option hygiene false in
local macro_rules
  | `(tactic| o_fieldsN) => `(tactic| first
    | assumption
    | exact memA
    | (apply memB; o_fieldsN)
    | (apply memL; o_fieldsN)
    | (apply memR; o_fieldsN))
set_option hygiene false in
local macro_rules
  | `(tactic| kd_subs) => `(tactic| first
    | assumption
    | exact Same.refl _
    | (apply same_putF; assumption; kd_subs)
    | (apply same_putG; assumption; kd_subs)
    | (apply same_putF; (next => kba_ints); kd_subs)
    | (apply same_transR; assumption; kd_subs))

set_option pp.maxSteps 900
/-! ### the ends of what is present, at a question -/
theorem ends_step {hs : List HEv} {k : Nat} (hk : k < hs.length) : ∃ e, hs[k]? = some e ∧ endsU hs (k + 1) = stepE hs.length k (endsU hs k) e ∧ presU hs (k + 1) = stepP k (presU hs k) e := by
  refine ⟨hs[k], List.getElem?_eq_getElem hk, ?_, ?_⟩
  · show (match hs[k]? with | some e => stepE hs.length k (endsU hs k) e | none => endsU hs k) = _
    rw [List.getElem?_eq_getElem hk]
  · show (match hs[k]? with | some e => stepP k (presU hs k) e | none => presU hs k) = _
    rw [List.getElem?_eq_getElem hk]
theorem ends_keys {hs : List HEv} : ∀ {k : Nat}, k ≤ hs.length → ((endsU hs k).map (·.1)).Nodup ∧ ∀ e ∈ endsU hs k, e.2 = hs.length ∨ e.2 < k
  | 0, _ => ⟨List.nodup_nil, fun e m => nomatch m⟩
  | k + 1, hk => by
    obtain ⟨ih1, ih2⟩ := ends_keys (hs := hs) (k := k) (by omega)
    obtain ⟨e, _, he, _⟩ := ends_step (hs := hs) (k := k) hk
    rw [he]
    match e with
    | .add v =>
      refine ⟨?_, fun e m => ?_⟩
      · show ((endsU hs k ++ [(k, hs.length)]).map (·.1)).Nodup
        rw [List.map_append, List.nodup_append]
        refine ⟨ih1, (List.nodup_cons.mpr ⟨(fun z => nomatch z), List.nodup_nil⟩), fun a ha b hb => ?_⟩
        obtain ⟨x, hx, rfl⟩ := List.mem_map.mp ha
        have := ends_lt (hs := hs) (show k ≤ hs.length by omega) x hx
        have hb : b = k := List.mem_singleton.mp hb
        omega
      · rcases List.mem_append.mp m with m | m
        · have := ih2 e m; omega
        · rw [List.mem_singleton.mp m]; exact .inl rfl
    | .rem i =>
      refine ⟨?_, fun e m => ?_⟩
      · show (((endsU hs k).map fun e => if e.1 = i then (e.1, k) else e).map (·.1)).Nodup
        rw [List.map_map]
        have : ((fun x : Nat × Nat => x.1) ∘ fun e : Nat × Nat => if e.1 = i then (e.1, k) else e) = fun x => x.1 := by
          funext x
          show (if x.1 = i then (x.1, k) else x).1 = x.1
          split <;> rfl
        rw [this]
        exact ih1
      · obtain ⟨x, hx, rfl⟩ := List.mem_map.mp m
        have := ih2 x hx
        split
        · exact .inr (Nat.lt_succ_self k)
        · omega
    | .ask v => exact ⟨ih1, fun e m => by have := ih2 e m; omega⟩
/-- those who are present before k are those whose end is not before k -/
theorem pres_ends {hs : List HEv} : ∀ {k : Nat}, k ≤ hs.length → ((endsU hs k).filter fun e => decide (k ≤ e.2)).map (·.1) = presU hs k
  | 0, _ => rfl
  | k + 1, hk => by
    have ih := pres_ends (hs := hs) (k := k) (by omega)
    obtain ⟨_, ih2⟩ := ends_keys (hs := hs) (k := k) (by omega)
    obtain ⟨e, _, he, hp⟩ := ends_step (hs := hs) (k := k) hk
    rw [he, hp, ← ih]
    have same : (endsU hs k).filter (fun e => decide (k + 1 ≤ e.2)) = (endsU hs k).filter (fun e => decide (k ≤ e.2)) := List.filter_congr fun x hx => by
      have := ih2 x hx
      exact decide_eq_decide.mpr (by omega)
    match e with
    | .add v =>
      show ((endsU hs k ++ [(k, hs.length)]).filter fun e => decide (k + 1 ≤ e.2)).map (·.1) = ((endsU hs k).filter fun e => decide (k ≤ e.2)).map (·.1) ++ [k]
      rw [List.filter_append, List.map_append, same, List.filter_cons_of_pos (p := fun e : Nat × Nat => decide (k + 1 ≤ e.2)) (decide_eq_true hk)]
      rfl
    | .rem i =>
      show (((endsU hs k).map fun e => if e.1 = i then (e.1, k) else e).filter fun e => decide (k + 1 ≤ e.2)).map (·.1) = (((endsU hs k).filter fun e => decide (k ≤ e.2)).map (·.1)).filter fun j => decide (j ≠ i)
      rw [List.filter_map, List.map_map, List.filter_map, List.filter_filter]
      have hf : (endsU hs k).filter ((fun e : Nat × Nat => decide (k + 1 ≤ e.2)) ∘ fun e => if e.1 = i then (e.1, k) else e) = (endsU hs k).filter (fun a => ((fun j => decide (j ≠ i)) ∘ fun x : Nat × Nat => x.1) a && decide (k ≤ a.2)) := List.filter_congr fun x hx => by
        have := ih2 x hx
        show decide (k + 1 ≤ (if x.1 = i then (x.1, k) else x).2) = (decide (x.1 ≠ i) && decide (k ≤ x.2))
        by_cases c : x.1 = i
        · rw [if_pos c, decide_eq_false (show ¬ k + 1 ≤ k by omega)]
          simp [c]
        · rw [if_neg c]
          by_cases d : k ≤ x.2
          · rw [decide_eq_true (show k + 1 ≤ x.2 by omega), decide_eq_true d]
            simp [c]
          · rw [decide_eq_false (show ¬ k + 1 ≤ x.2 by omega), decide_eq_false d]
            simp
      rw [hf]
      refine List.map_congr_left fun x _ => ?_
      show (if x.1 = i then (x.1, k) else x).1 = x.1
      split <;> rfl
    | .ask v =>
      show ((endsU hs k).filter fun e => decide (k + 1 ≤ e.2)).map (·.1) = ((endsU hs k).filter fun e => decide (k ≤ e.2)).map (·.1)
      rw [same]
theorem nodup_inj : ∀ {l : List (Nat × Nat)} {x y : Nat × Nat}, (l.map (·.1)).Nodup → x ∈ l → y ∈ l → x.1 = y.1 → x = y
  | a :: l, x, y, h, hx, hy, e => by
    obtain ⟨h1, h2⟩ := List.nodup_cons.mp h
    rcases List.mem_cons.mp hx with hx2 | hx2
    · rcases List.mem_cons.mp hy with hy2 | hy2
      · rw [hx2, hy2]
      · exact (h1 (List.mem_map.mpr ⟨y, hy2, by rw [← e, hx2]⟩)).elim
    · rcases List.mem_cons.mp hy with hy2 | hy2
      · exact (h1 (List.mem_map.mpr ⟨x, hx2, by rw [e, hy2]⟩)).elim
      · exact nodup_inj h2 hx2 hy2 e
/-- what holds of whom is held at i does not change any more behind i -/
theorem held_later {hs : List HEv} {i : Nat} (hok : HOk hs) (hi : i < hs.length) (ha : ∃ v, hs[i]? = some (.ask v)) : ∀ {k : Nat}, i ≤ k → k ≤ hs.length → heldAt (endsU hs k) i = presU hs i := by
  intro k h1
  induction h1 with
  | refl =>
    intro _
    rw [← pres_ends (hs := hs) (k := i) (by omega)]
    unfold heldAt
    refine congrArg _ (List.filter_congr fun x hx => decide_eq_decide.mpr ?_)
    have h2 := ends_lt (hs := hs) (show i ≤ hs.length by omega) x hx
    have h3 := (ends_keys (hs := hs) (k := i) (by omega)).2 x hx
    omega
  | @step k hk ih =>
    have hk : i ≤ k := hk
    intro hk2
    have ih := ih (by omega)
    obtain ⟨e, hee, he, _⟩ := ends_step (hs := hs) (k := k) hk2
    obtain ⟨kn, ke⟩ := ends_keys (hs := hs) (k := k) (by omega)
    rw [he, ← ih]
    match e, hee with
    | .ask v, _ => rfl
    | .add v, hee =>
      have hne : i ≠ k := fun z => by
        obtain ⟨u, hu⟩ := ha
        rw [z, hee] at hu
        cases hu
      show heldAt (endsU hs k ++ [(k, hs.length)]) i = heldAt (endsU hs k) i
      unfold heldAt
      rw [List.filter_append, List.filter_cons_of_neg (p := fun e : Nat × Nat => decide (e.1 ≤ i ∧ i < e.2)) (fun z => by have := of_decide_eq_true z; omega)]
      show ((endsU hs k).filter _ ++ []).map _ = _
      rw [List.append_nil]
    | .rem j, hee =>
      have hne : i ≠ k := fun z => by
        obtain ⟨u, hu⟩ := ha
        rw [z, hee] at hu
        cases hu
      have hj := hok k j hee
      rw [← pres_ends (hs := hs) (k := k) (by omega)] at hj
      obtain ⟨y, hy, hyj⟩ := List.mem_map.mp hj
      obtain ⟨hy1, hy2⟩ := List.mem_filter.mp hy
      have hy2 := of_decide_eq_true hy2
      have one : ∀ x ∈ endsU hs k, x.1 = j → x = y := fun x hx hxj => by
        exact nodup_inj kn hx hy1 (by rw [hxj, ← hyj])
      show heldAt ((endsU hs k).map fun e => if e.1 = j then (e.1, k) else e) i = heldAt (endsU hs k) i
      unfold heldAt
      rw [List.filter_map, List.map_map]
      have hf : (endsU hs k).filter ((fun e : Nat × Nat => decide (e.1 ≤ i ∧ i < e.2)) ∘ fun e => if e.1 = j then (e.1, k) else e) = (endsU hs k).filter (fun e => decide (e.1 ≤ i ∧ i < e.2)) := List.filter_congr fun x hx => by
        show decide ((if x.1 = j then (x.1, k) else x).1 ≤ i ∧ i < (if x.1 = j then (x.1, k) else x).2) = _
        by_cases c : x.1 = j
        · rw [if_pos c]
          have := one x hx c
          subst this
          exact decide_eq_decide.mpr (by show x.1 ≤ i ∧ i < k ↔ x.1 ≤ i ∧ i < x.2; omega)
        · rw [if_neg c]
      rw [hf]
      refine List.map_congr_left fun x _ => ?_
      show (if x.1 = j then (x.1, k) else x).1 = x.1
      split <;> rfl
end Ob

set_option Elab.async false
set_option linter.all false
set_option maxRecDepth 100000
set_option maxHeartbeats 1000000
namespace Ob
open PySem PySem.Spec PyProof.Rows L2
open LamX (Tabs TabB TabS ExtN)

set_option hygiene false in
local macro_rules
  | `(tactic| kp_flats) => `(tactic| first
    | assumption
    | exact upd_same
    | (apply atNew; assumption; kp_flats)
    | (apply atNe; (next => kbo_bools); kp_flats)
    | (apply atSame; assumption; kp_flats)
    | (apply atKp; assumption; (next => kaf_pre); kp_flats))
set_option hygiene false in
local macro_rules
  | `(tactic| kaf_pre) => `(tactic| first
    | assumption
    | exact not_nil
    | (apply not_cons; (next => kbo_bools); kaf_pre)
    | (apply not_app; (next => kaf_pre); kaf_pre))
set_option hygiene false in
local macro_rules
  | `(tactic| kbo_bools) => `(tactic| first
    | assumption
    | (apply Ne.symm; assumption)
    | (apply neN; assumption; kp_flats)
    | (apply neN'; assumption; kp_flats))
set_option hygiene false in
local macro_rules
  | `(tactic| o_reads) => `(tactic| first
    | with_reducible rfl
    | assumption
    | rfl
    | kp_flats
    | (show SqL _ _ _ _; first | assumption | (apply sqlOf; kp_flats) | (apply sqlSame; assumption; o_reads))
    | (show SqT _ _ _ _; first | assumption | (apply sqtOf; kp_flats) | (apply sqtAll; assumption) | (apply sqtSame; assumption; o_reads))
    | (show Cls _ _; first | skip)
    | (show NoAttr _ _ _; first | skip)
    | (apply Or.inl; o_reads)
    | (apply Or.inr; o_reads)
    | (apply And.intro; (next => o_reads); o_reads)
    | (apply Exists.intro; o_reads)
    | exact Nat.le_of_ble_eq_true rfl
    | exact Nat.succ_ne_zero _
    | (show Fr _ _; kba_ints)
    | (show Same _ _; kd_subs)
    | (show Kp _ _ _; kxs_still)
    | (show (_ : Nat) ≤ _; simp only [List.length_append, List.length_map, List.length_cons, List.length_nil, List.length_take, List.length_drop, List.length_replicate, List.length_range, sizeLine_eq]; omega)
    | (show _ = none; apply Fr.h; kba_ints)
    | (show Bag _ _; first | assumption | (apply bag_putF; assumption; o_reads) | (apply bag_neF; (next => kbo_bools); o_reads) | (apply bag_kpR; assumption; (next => kaf_pre); o_reads))
    | omega
    | decide)
local macro_rules
  | `(tactic| o_readsAll) => `(tactic| repeat (first
    | (refine fun (pNew : Addr) (nNew : _ = none) => ?_; replace nNew := Fr.mk nNew)
    | (refine fun (xNew dNew : Addr) (nNew : _ = none) (mNew : _ = none) (eNew : dNew ≠ xNew) => ?_; replace nNew := Fr.mk nNew; replace mNew := Fr.mk mNew)
    | (apply And.intro; next => o_reads)
    | apply Exists.intro (α := V)
    | apply Exists.intro (α := Addr)
    | apply Exists.intro (α := Int)
    | apply Exists.intro (α := Bool)
    | apply Exists.intro (α := List V)
    | apply Exists.intro (α := List Nat)
    | apply Exists.intro (α := List (Str × V))
    | apply Exists.intro (α := List _)
    | apply Exists.intro (α := Str)
    | apply Exists.intro (α := HO)
    | apply Exists.intro (α := Sp)
    | apply Exists.intro (α := VK)))
set_option hygiene false in
local macro_rules
  | `(tactic| kba_ints) => `(tactic| first
    | assumption
    | (apply frUp; (first | assumption | (apply Ne.symm; assumption)); kba_ints)
    | (apply noneOf; assumption; intro oF eF; apply Exists.intro; kp_flats)
    | (apply frUp; (next => kbo_bools); kba_ints))
set_option hygiene false in
local macro_rules
  | `(tactic| kxs_still) => `(tactic| first
    | assumption
    | exact kp_refl _ _
    | (apply kp_newF; assumption; kxs_still)
    | (apply kp_new; assumption; kxs_still)
    | (apply kp_up; (next => o_fieldsN); kxs_still)
    | (apply kp_new; (next => kba_ints); kxs_still)
    | (apply kp_sameR; assumption; kxs_still)
    | (apply kp_transR; assumption; kxs_still)
    | (apply kp_freshR; assumption; (next => kaf_suf); kxs_still))
set_option hygiene false in
local macro_rules
  | `(tactic| kaf_suf) => `(tactic| first
    | assumption
    | exact subNil
    | (apply subCons; (first | (apply Or.inl; o_fieldsN) | (apply Or.inr; kba_ints)); kaf_suf)
    | (apply subApp; (next => kaf_suf); kaf_suf))
set_option hygiene false in
local macro_rules
  | `(tactic| o_fieldsN) => `(tactic| first
    | assumption
    | exact memA
    | (apply memB; o_fieldsN)
    | (apply memL; o_fieldsN)
    | (apply memR; o_fieldsN))
set_option hygiene false in
local macro_rules
  | `(tactic| kd_subs) => `(tactic| first
    | assumption
    | exact Same.refl _
    | (apply same_putF; assumption; kd_subs)
    | (apply same_putG; assumption; kd_subs)
    | (apply same_putF; (next => kba_ints); kd_subs)
    | (apply same_transR; assumption; kd_subs))

set_option pp.maxSteps 900
/-! ### the questions of a walk -/
def asksOf (bs : List Bool) (f n : Nat) : List Nat := (List.range' f n).filter fun i => decide (bs[i]? = some true)
def isAskE (e : Str × Nat) : Bool := decide (e.1 = "ask")
theorem asks_app (bs : List Bool) (f a b : Nat) : asksOf bs f (a + b) = asksOf bs f a ++ asksOf bs (f + a) b := by
  unfold asksOf
  rw [← List.filter_append, List.range'_append_1]
theorem asked_iff {bs : List Bool} {f s : Nat} : askedIn bs f s = true ↔ ∃ i, f ≤ i ∧ i < f + s ∧ bs[i]? = some true := by
  unfold askedIn
  rw [List.any_eq_true]
  constructor
  · rintro ⟨b, m, e⟩
    have e : b = true := e
    subst e
    obtain ⟨n, hn⟩ := List.getElem?_of_mem m
    have hl := (List.getElem?_eq_some_iff.mp hn).1
    rw [List.length_take] at hl
    rw [List.getElem?_take_of_lt (by omega), List.getElem?_drop] at hn
    exact ⟨f + n, by omega, by omega, hn⟩
  · rintro ⟨i, h1, h2, h3⟩
    refine ⟨true, List.mem_of_getElem? (i := i - f) ?_, rfl⟩
    rw [List.getElem?_take_of_lt (by omega), List.getElem?_drop, show f + (i - f) = i by omega]
    exact h3
theorem asks_none {bs : List Bool} {f s : Nat} (h : ¬ askedIn bs f s = true) : asksOf bs f s = [] := List.filter_eq_nil_iff.mpr fun i m z => by
  rw [List.mem_range'_1] at m
  exact h (asked_iff.mpr ⟨i, m.1, m.2, of_decide_eq_true z⟩)
theorem ask_ps {ns : List Nat} : (pushW ns).filter isAskE = [] := List.filter_eq_nil_iff.mpr fun e m => by
  obtain ⟨i, _, rfl⟩ := List.mem_map.mp m
  exact fun z => wPA (of_decide_eq_true z)
theorem ask_po {ns : List Nat} : (popW ns).filter isAskE = [] := List.filter_eq_nil_iff.mpr fun e m => by
  obtain ⟨i, _, rfl⟩ := List.mem_map.mp m
  exact fun z => wOA (of_decide_eq_true z)
/-- each question once, in order -/
theorem walk_asks {N : Nat → Nat → List Nat} {bs : List Bool} : ∀ {k f : Nat}, (walkW N bs k f).filter isAskE = (asksOf bs f (2 ^ k)).map fun i => (("ask" : Str), i)
  | 0, f => by
    unfold walkW
    split
    · rename_i c
      rw [List.filter_append, List.filter_append, ask_ps, ask_po]
      have h1 : asksOf bs f (2 ^ 0) = [f] := by
        show ([f].filter fun i => decide (bs[i]? = some true)) = [f]
        rw [List.filter_cons_of_pos (p := fun i => decide (bs[i]? = some true)) (decide_eq_true (asked_one c))]
        rfl
      rw [h1]
      show [] ++ ([(("ask" : Str), f)].filter isAskE) ++ [] = _
      rw [List.filter_cons_of_pos (p := isAskE) (decide_eq_true rfl)]
      rfl
    · rename_i c
      rw [show (2 : Nat) ^ 0 = 1 from rfl, asks_none c]
      rfl
  | k + 1, f => by
    have h3 : (2 : Nat) ^ (k + 1) = 2 ^ k + 2 ^ k := by rw [Nat.pow_succ]; omega
    unfold walkW
    split
    · rw [List.filter_append, List.filter_append, ask_ps, ask_po, List.nil_append, List.append_nil, List.filter_append, walk_asks, walk_asks, h3, asks_app, List.map_append]
    · rename_i c
      rw [asks_none c]
      rfl
/-- no member at a node with a question: the questions alone -/
theorem walk_alone {N : Nat → Nat → List Nat} {bs : List Bool} (h : ∀ f s, askedIn bs f s = true → N f s = []) : ∀ {k f : Nat}, walkW N bs k f = (asksOf bs f (2 ^ k)).map fun i => (("ask" : Str), i)
  | 0, f => by
    have hw := walk_asks (N := N) (bs := bs) (k := 0) (f := f)
    unfold walkW at hw ⊢
    split
    · rename_i c
      rw [if_pos c, h f 1 c] at hw
      rw [h f 1 c, ← hw]
      show [(("ask" : Str), f)] = [(("ask" : Str), f)].filter isAskE
      rw [List.filter_cons_of_pos (p := isAskE) (decide_eq_true rfl)]
      rfl
    · rename_i c
      rw [if_neg c] at hw
      exact hw
  | k + 1, f => by
    have h3 : (2 : Nat) ^ (k + 1) = 2 ^ k + 2 ^ k := by rw [Nat.pow_succ]; omega
    unfold walkW
    split
    · rename_i c
      rw [h _ _ c, walk_alone h, walk_alone h, h3, asks_app, List.map_append]
      show [] ++ _ ++ [] = _
      rw [List.nil_append, List.append_nil]
    · rename_i c
      rw [asks_none c]
      rfl
theorem pcF_in : ∀ {u a r : Nat} {x : Nat × Nat}, x ∈ pcF u a r → a ≤ x.1 ∧ x.1 + x.2 ≤ a + r
  | 0, a, r, x, h => nomatch h
  | u + 1, a, r, x, h => by
    by_cases hr : r = 0
    · rw [hr, pcF_zero] at h
      cases h
    · rw [pcF_pos hr] at h
      have hs := szP_le (a := a) hr
      rcases List.mem_cons.mp h with h | h
      · rw [h]
        exact ⟨Nat.le_refl _, by show a + szP a r ≤ a + r; omega⟩
      · have := pcF_in h
        omega
theorem addP_in {i x f s : Nat} : ∀ {ps : List (Nat × Nat)} {N : Nat → Nat → List Nat}, x ∈ addP N i ps f s → x ∈ N f s ∨ (x = i ∧ (f, s) ∈ ps)
  | [], N, h => .inl h
  | p :: ps, N, h => by
    have h : x ∈ addP (addN N p.1 p.2 i) i ps f s := h
    rcases addP_in h with h | ⟨h, h2⟩
    · unfold addN at h
      split at h
      · rename_i c
        rcases List.mem_append.mp h with h | h
        · exact .inl h
        · exact .inr ⟨List.mem_singleton.mp h, by rw [c.1, c.2]; exact List.mem_cons_self⟩
      · exact .inl h
    · exact .inr ⟨h, List.mem_cons_of_mem _ h2⟩
theorem fold_in {x f s : Nat} : ∀ {es : List (Nat × Nat)} {N : Nat → Nat → List Nat}, x ∈ es.foldl (fun N ie => addP N ie.1 (pcF 201 ie.1 (ie.2 - ie.1))) N f s → x ∈ N f s ∨ ∃ e ∈ es, e.1 = x ∧ (f, s) ∈ pcF 201 e.1 (e.2 - e.1)
  | [], N, h => .inl h
  | e :: es, N, h => by
    rw [List.foldl_cons] at h
    rcases fold_in h with h | ⟨e', m, h⟩
    · rcases addP_in h with h | ⟨h, h2⟩
      · exact .inl h
      · exact .inr ⟨e, List.mem_cons_self, h.symm, h2⟩
    · exact .inr ⟨e', List.mem_cons_of_mem _ m, h⟩
/-- a member's nodes lie within its time -/
theorem nodes_in {es : List (Nat × Nat)} {x f s : Nat} (h : x ∈ nodesOf es f s) : ∃ e ∈ es, e.1 = x ∧ e.1 ≤ f ∧ f + s ≤ e.1 + (e.2 - e.1) := by
  obtain ⟨e, m, h1, h2⟩ := (fold_in h).resolve_left fun z => nomatch z
  have := pcF_in h2
  exact ⟨e, m, h1, this.1, this.2⟩
/-- nobody is present at a question: the questions alone -/
theorem plan_alone {hs : List HEv} {j : Nat} (h : ∀ e ∈ endsU hs hs.length, ∀ i, e.1 ≤ i → i < e.2 → (hs.map HEv.isAsk)[i]? ≠ some true) : planW hs j = (asksOf (hs.map HEv.isAsk) 0 (2 ^ j)).map fun i => (("ask" : Str), i) := walk_alone fun f s a => by
  refine List.eq_nil_iff_forall_not_mem.mpr fun x m => ?_
  obtain ⟨e, me, _, h1, h2⟩ := nodes_in m
  obtain ⟨i, i1, i2, i3⟩ := asked_iff.mp a
  exact h e me i (by omega) (by omega) i3
/-! ### pushes less pops -/
def cntE (e : Str × Nat) : Int := (if e.1 = "push" then 1 else 0) - (if e.1 = "pop" then 1 else 0)
def cntW : List (Str × Nat) → Int
  | [] => 0
  | e :: l => cntE e + cntW l
theorem cnt_app : ∀ {a b : List (Str × Nat)}, cntW (a ++ b) = cntW a + cntW b
  | [], b => (Int.zero_add _).symm
  | e :: a, b => by
    show cntE e + cntW (a ++ b) = cntE e + cntW a + cntW b
    rw [cnt_app, Int.add_assoc]
theorem run_cnt : ∀ {l : List (Str × Nat)} {S : List Nat}, l.length ≤ S.length → ((runW S l).length : Int) = S.length + cntW l
  | [], S, _ => (Int.add_zero _).symm
  | e :: l, S, h => by
    have h0 : l.length + 1 ≤ S.length := h
    have e1 : runW S (e :: l) = runW (stepS S e) l := rfl
    have e2 : cntW (e :: l) = ((if e.1 = "push" then 1 else 0) - (if e.1 = "pop" then 1 else 0)) + cntW l := rfl
    rw [e1, e2]
    unfold stepS
    by_cases c1 : e.1 = "push"
    · have n : ¬ e.1 = "pop" := by rw [c1]; decide +kernel
      rw [if_pos c1, if_pos c1, if_neg n, run_cnt (by rw [List.length_append]; omega), List.length_append]
      show ((S.length + 1 : Nat) : Int) + _ = _
      omega
    · rw [if_neg c1, if_neg c1]
      by_cases c2 : e.1 = "pop"
      · rw [if_pos c2, if_pos c2, run_cnt (by rw [List.length_dropLast]; omega), List.length_dropLast]
        omega
      · rw [if_neg c2, if_neg c2, run_cnt (by omega)]
        omega
theorem cnt_walk {N : Nat → Nat → List Nat} {bs : List Bool} {k f : Nat} : cntW (walkW N bs k f) = 0 := by
  have h := run_cnt (l := walkW N bs k f) (S := List.replicate (walkW N bs k f).length 0) (by rw [List.length_replicate]; exact Nat.le_refl _)
  rw [run_walk] at h
  omega
/-- at a question as many are held as are present -/
theorem cnt_plan {hs : List HEv} {j i : Nat} {tr z : List (Str × Nat)} (hok : HOk hs) (hl : hs.length ≤ 2 ^ j) (hj : j ≤ 12) (h : tr ++ (("ask" : Str), i) :: z = planW hs j) : cntW tr = (presU hs i).length := by
  have hr := run_ask (S := List.replicate tr.length 0) h
  have hc := run_cnt (l := tr) (S := List.replicate tr.length 0) (by rw [List.length_replicate]; exact Nat.le_refl _)
  rw [hr.1, List.length_append] at hc
  have hp := path_held (k := j) (i := i) (es := endsU hs hs.length) hj (by omega) fun e m => by
    have := ends_lt (hs := hs) (Nat.le_refl _) e m
    omega
  have ha : ∃ v, hs[i]? = some (.ask v) := by
    rcases plan_ok (hs := hs) (j := j) (("ask" : Str), i) (by rw [← h]; exact List.mem_append.mpr (.inr List.mem_cons_self)) with ⟨w | w, _⟩ | ⟨_, w⟩
    · exact absurd w.symm wPA
    · exact absurd w.symm wOA
    · exact w
  have hi : i < hs.length := by
    obtain ⟨v, hv⟩ := ha
    exact (List.getElem?_eq_some_iff.mp hv).1
  have hl2 := held_later (i := i) hok hi ha (Nat.le_of_lt hi) (Nat.le_refl _)
  have := hp.length_eq
  rw [hl2] at this
  omega
end Ob

set_option Elab.async false
set_option linter.all false
set_option maxRecDepth 100000
set_option maxHeartbeats 1000000
namespace Ob
open PySem PySem.Spec PyProof.Rows L2
open LamX (Tabs TabB TabS ExtN)

set_option hygiene false in
local macro_rules
  | `(tactic| kp_flats) => `(tactic| first
    | assumption
    | exact upd_same
    | (apply atNew; assumption; kp_flats)
    | (apply atNe; (next => kbo_bools); kp_flats)
    | (apply atSame; assumption; kp_flats)
    | (apply atKp; assumption; (next => kaf_pre); kp_flats))
set_option hygiene false in
local macro_rules
  | `(tactic| kaf_pre) => `(tactic| first
    | assumption
    | exact not_nil
    | (apply not_cons; (next => kbo_bools); kaf_pre)
    | (apply not_app; (next => kaf_pre); kaf_pre))
set_option hygiene false in
local macro_rules
  | `(tactic| kbo_bools) => `(tactic| first
    | assumption
    | (apply Ne.symm; assumption)
    | (apply neN; assumption; kp_flats)
    | (apply neN'; assumption; kp_flats))
set_option hygiene false in
local macro_rules
  | `(tactic| o_reads) => `(tactic| first
    | with_reducible rfl
    | assumption
    | rfl
    | kp_flats
    | (show SqL _ _ _ _; first | assumption | (apply sqlOf; kp_flats) | (apply sqlSame; assumption; o_reads))
    | (show SqT _ _ _ _; first | assumption | (apply sqtOf; kp_flats) | (apply sqtAll; assumption) | (apply sqtSame; assumption; o_reads))
    | (show Cls _ _; first | skip)
    | (show NoAttr _ _ _; first | skip)
    | (apply Or.inl; o_reads)
    | (apply Or.inr; o_reads)
    | (apply And.intro; (next => o_reads); o_reads)
    | (apply Exists.intro; o_reads)
    | exact Nat.le_of_ble_eq_true rfl
    | exact Nat.succ_ne_zero _
    | (show Fr _ _; kba_ints)
    | (show Same _ _; kd_subs)
    | (show Kp _ _ _; kxs_still)
    | (show (_ : Nat) ≤ _; simp only [List.length_append, List.length_map, List.length_cons, List.length_nil, List.length_take, List.length_drop, List.length_replicate, List.length_range, sizeLine_eq]; omega)
    | (show _ = none; apply Fr.h; kba_ints)
    | (show Bag _ _; first | assumption | (apply bag_putF; assumption; o_reads) | (apply bag_neF; (next => kbo_bools); o_reads) | (apply bag_kpR; assumption; (next => kaf_pre); o_reads))
    | omega
    | decide)
local macro_rules
  | `(tactic| o_readsAll) => `(tactic| repeat (first
    | (refine fun (pNew : Addr) (nNew : _ = none) => ?_; replace nNew := Fr.mk nNew)
    | (refine fun (xNew dNew : Addr) (nNew : _ = none) (mNew : _ = none) (eNew : dNew ≠ xNew) => ?_; replace nNew := Fr.mk nNew; replace mNew := Fr.mk mNew)
    | (apply And.intro; next => o_reads)
    | apply Exists.intro (α := V)
    | apply Exists.intro (α := Addr)
    | apply Exists.intro (α := Int)
    | apply Exists.intro (α := Bool)
    | apply Exists.intro (α := List V)
    | apply Exists.intro (α := List Nat)
    | apply Exists.intro (α := List (Str × V))
    | apply Exists.intro (α := List _)
    | apply Exists.intro (α := Str)
    | apply Exists.intro (α := HO)
    | apply Exists.intro (α := Sp)
    | apply Exists.intro (α := VK)))
set_option hygiene false in
local macro_rules
  | `(tactic| kba_ints) => `(tactic| first
    | assumption
    | (apply frUp; (first | assumption | (apply Ne.symm; assumption)); kba_ints)
    | (apply noneOf; assumption; intro oF eF; apply Exists.intro; kp_flats)
    | (apply frUp; (next => kbo_bools); kba_ints))
set_option hygiene false in
local macro_rules
  | `(tactic| kxs_still) => `(tactic| first
    | assumption
    | exact kp_refl _ _
    | (apply kp_newF; assumption; kxs_still)
    | (apply kp_new; assumption; kxs_still)
    | (apply kp_up; (next => o_fieldsN); kxs_still)
    | (apply kp_new; (next => kba_ints); kxs_still)
    | (apply kp_sameR; assumption; kxs_still)
    | (apply kp_transR; assumption; kxs_still)
    | (apply kp_freshR; assumption; (next => kaf_suf); kxs_still))
set_option hygiene false in
local macro_rules
  | `(tactic| kaf_suf) => `(tactic| first
    | assumption
    | exact subNil
    | (apply subCons; (first | (apply Or.inl; o_fieldsN) | (apply Or.inr; kba_ints)); kaf_suf)
    | (apply subApp; (next => kaf_suf); kaf_suf))
set_option hygiene false in
local macro_rules
  | `(tactic| o_fieldsN) => `(tactic| first
    | assumption
    | exact memA
    | (apply memB; o_fieldsN)
    | (apply memL; o_fieldsN)
    | (apply memR; o_fieldsN))
set_option hygiene false in
local macro_rules
  | `(tactic| kd_subs) => `(tactic| first
    | assumption
    | exact Same.refl _
    | (apply same_putF; assumption; kd_subs)
    | (apply same_putG; assumption; kd_subs)
    | (apply same_putF; (next => kba_ints); kd_subs)
    | (apply same_transR; assumption; kd_subs))

set_option pp.maxSteps 900
/-! ### histories in parts -/
def presF : Nat → List Nat → List HEv → List Nat
  | _, ps, [] => ps
  | k, ps, e :: l => presF (k + 1) (stepP k ps e) l
def okF : Nat → List Nat → List HEv → Prop
  | _, _, [] => True
  | k, ps, e :: l => (∀ i, e = .rem i → i ∈ ps) ∧ okF (k + 1) (stepP k ps e) l
theorem presF_app : ∀ {a b : List HEv} {k : Nat} {ps : List Nat}, presF k ps (a ++ b) = presF (k + a.length) (presF k ps a) b
  | [], b, k, ps => rfl
  | e :: a, b, k, ps => by
    show presF (k + 1) (stepP k ps e) (a ++ b) = presF (k + (a.length + 1)) (presF (k + 1) (stepP k ps e) a) b
    rw [presF_app, show k + 1 + a.length = k + (a.length + 1) by omega]
theorem okF_app : ∀ {a b : List HEv} {k : Nat} {ps : List Nat}, okF k ps (a ++ b) ↔ okF k ps a ∧ okF (k + a.length) (presF k ps a) b
  | [], b, k, ps => ⟨fun h => ⟨True.intro, h⟩, fun h => h.2⟩
  | e :: a, b, k, ps => by
    show (_ ∧ okF (k + 1) (stepP k ps e) (a ++ b)) ↔ (_ ∧ okF (k + 1) (stepP k ps e) a) ∧ okF (k + (a.length + 1)) (presF (k + 1) (stepP k ps e) a) b
    rw [okF_app, show k + 1 + a.length = k + (a.length + 1) by omega, and_assoc]
theorem pres_take {hs : List HEv} : ∀ {k : Nat}, k ≤ hs.length → presU hs k = presF 0 [] (hs.take k)
  | 0, _ => rfl
  | k + 1, h => by
    obtain ⟨e, hee, _, hp⟩ := ends_step (hs := hs) (k := k) h
    rw [hp, List.take_succ, hee, pres_take (k := k) (by omega)]
    show _ = presF 0 [] (hs.take k ++ [e])
    rw [presF_app, List.length_take, Nat.zero_add, Nat.min_eq_left (by omega)]
    rfl
theorem hok_of {hs : List HEv} (h : okF 0 [] hs) : HOk hs := fun k i e => by
  have hk : k < hs.length := (List.getElem?_eq_some_iff.mp e).1
  rw [pres_take (by omega)]
  have h2 : hs = hs.take k ++ .rem i :: hs.drop (k + 1) := by
    have h3 : hs[k] = .rem i := (List.getElem?_eq_some_iff.mp e).2
    rw [← h3, List.getElem_cons_drop, List.take_append_drop]
  rw [h2] at h
  exact (okF_app.mp h).2.1 i rfl
theorem okF_of {hs : List HEv} (h : HOk hs) : ∀ {k : Nat}, k ≤ hs.length → okF 0 [] (hs.take k)
  | 0, _ => True.intro
  | k + 1, hk => by
    rw [List.take_succ, List.getElem?_eq_getElem (show k < hs.length by omega)]
    refine okF_app.mpr ⟨okF_of h (by omega), fun i e => ?_, True.intro⟩
    rw [← pres_take (by omega)]
    exact h k i (by rw [List.getElem?_eq_getElem (show k < hs.length by omega), e])
/-- one more entry -/
theorem hok_add {hs : List HEv} {e : HEv} (h : HOk hs) (he : ∀ i, e = .rem i → i ∈ presU hs hs.length) : HOk (hs ++ [e]) := hok_of (okF_app.mpr ⟨by
  have := okF_of h (Nat.le_refl hs.length)
  rw [List.take_length] at this
  exact this, fun i z => by
  have := he i z
  rw [pres_take (Nat.le_refl _), List.take_length] at this
  exact this, True.intro⟩)
theorem pres_add {hs : List HEv} {e : HEv} : presU (hs ++ [e]) (hs ++ [e]).length = stepP hs.length (presU hs hs.length) e := by
  rw [pres_take (Nat.le_refl _), List.take_length, presF_app, pres_take (Nat.le_refl _), List.take_length, Nat.zero_add]
  rfl
/-! .. of additions, of questions, of removals -/
theorem addsF : ∀ {l : List HEv} {k : Nat} {ps : List Nat}, (∀ e ∈ l, ∃ v, e = .add v) → presF k ps l = ps ++ List.range' k l.length ∧ okF k ps l
  | [], k, ps, _ => ⟨(List.append_nil _).symm, True.intro⟩
  | e :: l, k, ps, h => by
    obtain ⟨v, rfl⟩ := h e List.mem_cons_self
    obtain ⟨h1, h2⟩ := addsF (l := l) (k := k + 1) (ps := ps ++ [k]) fun e m => h e (List.mem_cons_of_mem _ m)
    refine ⟨?_, ⟨(fun i z => by cases z), h2⟩⟩
    show presF (k + 1) (ps ++ [k]) l = _
    rw [h1, List.append_assoc]
    rfl
theorem asksF : ∀ {l : List HEv} {k : Nat} {ps : List Nat}, (∀ e ∈ l, ∃ v, e = .ask v) → presF k ps l = ps ∧ okF k ps l
  | [], k, ps, _ => ⟨rfl, True.intro⟩
  | e :: l, k, ps, h => by
    obtain ⟨v, rfl⟩ := h e List.mem_cons_self
    obtain ⟨h1, h2⟩ := asksF (l := l) (k := k + 1) (ps := ps) fun e m => h e (List.mem_cons_of_mem _ m)
    exact ⟨h1, ⟨(fun i z => by cases z), h2⟩⟩
theorem remsF : ∀ {m k : Nat}, presF k (List.range m) ((List.range m).reverse.map HEv.rem) = [] ∧ okF k (List.range m) ((List.range m).reverse.map HEv.rem)
  | 0, k => ⟨rfl, True.intro⟩
  | m + 1, k => by
    have e1 : (List.range (m + 1)).reverse.map HEv.rem = .rem m :: (List.range m).reverse.map HEv.rem := by
      rw [List.range_succ, List.reverse_append]
      rfl
    have e2 : stepP k (List.range (m + 1)) (.rem m) = List.range m := by
      show (List.range (m + 1)).filter (fun j => decide (j ≠ m)) = _
      rw [List.range_succ, List.filter_append, List.filter_cons_of_neg (p := fun j => decide (j ≠ m)) (fun z => of_decide_eq_true z rfl), List.filter_nil, List.append_nil]
      exact List.filter_eq_self.mpr fun a ha => decide_eq_true (Nat.ne_of_lt (List.mem_range.mp ha))
    rw [e1]
    show presF (k + 1) (stepP k (List.range (m + 1)) (.rem m)) _ = [] ∧ _ ∧ okF (k + 1) (stepP k (List.range (m + 1)) (.rem m)) _
    rw [e2]
    obtain ⟨h1, h2⟩ := remsF (m := m) (k := k + 1)
    refine ⟨h1, fun i z => ?_, h2⟩
    injection z with z
    rw [← z]
    exact List.mem_range.mpr (Nat.lt_succ_self _)
/-! ### the questions of a history -/
def valH (hs : List HEv) (i : Nat) : V := match hs[i]? with
  | some e => e.v
  | none => .non
theorem asks_more {bs : List Bool} {n : Nat} (h : bs.length ≤ n) : asksOf bs 0 n = asksOf bs 0 bs.length := by
  rw [show n = bs.length + (n - bs.length) by omega, asks_app, asks_none (s := n - bs.length), List.append_nil]
  intro z
  obtain ⟨i, h1, _, h3⟩ := asked_iff.mp z
  have := (List.getElem?_eq_some_iff.mp h3).1
  omega
theorem asks_vals : ∀ {hs pre : List HEv}, (asksOf ((pre ++ hs).map HEv.isAsk) pre.length hs.length).map (valH (pre ++ hs)) = (hs.filter HEv.isAsk).map HEv.v
  | [], pre => rfl
  | e :: hs, pre => by
    have ih := asks_vals (hs := hs) (pre := pre ++ [e])
    rw [List.append_assoc, List.length_append] at ih
    have ih : (asksOf ((pre ++ e :: hs).map HEv.isAsk) (pre.length + 1) hs.length).map (valH (pre ++ e :: hs)) = (hs.filter HEv.isAsk).map HEv.v := ih
    have hat : (pre ++ e :: hs)[pre.length]? = some e := by
      rw [List.getElem?_append_right (Nat.le_refl _), Nat.sub_self]
      rfl
    have h1 : (e :: hs).length = 1 + hs.length := by rw [List.length_cons, Nat.add_comm]
    rw [h1, asks_app, List.map_append, ih]
    have h2 : asksOf ((pre ++ e :: hs).map HEv.isAsk) pre.length 1 = if e.isAsk = true then [pre.length] else [] := by
      show ([pre.length].filter fun i => decide (((pre ++ e :: hs).map HEv.isAsk)[i]? = some true)) = _
      rw [List.filter_cons, List.filter_nil, List.getElem?_map, hat]
      cases e <;> rfl
    rw [h2, List.filter_cons]
    split
    · show valH (pre ++ e :: hs) pre.length :: _ = e.v :: _
      unfold valH
      rw [hat]
      rfl
    · rfl
/-- what a walk asks: the passed objects of the questions, in order -/
theorem plan_asks {hs : List HEv} {j : Nat} (h : hs.length ≤ 2 ^ j) : ((planW hs j).filter isAskE).map (fun e => valH hs e.2) = (hs.filter HEv.isAsk).map HEv.v := by
  have h1 := walk_asks (N := nodesOf (endsU hs hs.length)) (bs := hs.map HEv.isAsk) (k := j) (f := 0)
  have h2 : (planW hs j).filter isAskE = (asksOf (hs.map HEv.isAsk) 0 (2 ^ j)).map fun i => (("ask" : Str), i) := h1
  rw [h2, List.map_map, asks_more (by rw [List.length_map]; exact h), List.length_map]
  exact asks_vals (pre := [])
theorem ask_len {hs : List HEv} {j : Nat} (h : hs.length ≤ 2 ^ j) : ((planW hs j).filter isAskE).length = (hs.filter HEv.isAsk).length := by
  have := congrArg List.length (plan_asks h)
  rw [List.length_map, List.length_map] at this
  exact this
/-- nobody is present at a question -/
theorem plan_free {hs : List HEv} {j : Nat} (hok : HOk hs) (h : ∀ i v, hs[i]? = some (.ask v) → presU hs i = []) : planW hs j = (asksOf (hs.map HEv.isAsk) 0 (2 ^ j)).map fun i => (("ask" : Str), i) := plan_alone fun e me i h1 h2 z => by
  rw [List.getElem?_map] at z
  obtain ⟨x, hx, h3⟩ := Option.map_eq_some_iff.mp z
  match x, hx, h3 with
  | .ask v, hx, _ =>
    have hi : i < hs.length := (List.getElem?_eq_some_iff.mp hx).1
    have hl := held_later (i := i) hok hi ⟨v, hx⟩ (Nat.le_of_lt hi) (Nat.le_refl _)
    rw [h i v hx] at hl
    have : e.1 ∈ heldAt (endsU hs hs.length) i := List.mem_map.mpr ⟨e, List.mem_filter.mpr ⟨me, decide_eq_true ⟨h1, h2⟩⟩, rfl⟩
    rw [hl] at this
    cases this
theorem filter_all {hs : List HEv} {j : Nat} (hok : HOk hs) (h : ∀ i v, hs[i]? = some (.ask v) → presU hs i = []) : (planW hs j).filter isAskE = planW hs j := by
  have h1 := walk_asks (N := nodesOf (endsU hs hs.length)) (bs := hs.map HEv.isAsk) (k := j) (f := 0)
  have h2 : (planW hs j).filter isAskE = (asksOf (hs.map HEv.isAsk) 0 (2 ^ j)).map fun i => (("ask" : Str), i) := h1
  rw [h2, ← plan_free hok h]
end Ob

set_option Elab.async false
set_option linter.all false
set_option maxRecDepth 100000
set_option maxHeartbeats 1000000
namespace Ob
open PySem PySem.Spec PyProof.Rows L2
open LamX (Tabs TabB TabS ExtN)

set_option hygiene false in
local macro_rules
  | `(tactic| kp_flats) => `(tactic| first
    | assumption
    | exact upd_same
    | (apply atNew; assumption; kp_flats)
    | (apply atNe; (next => kbo_bools); kp_flats)
    | (apply atSame; assumption; kp_flats)
    | (apply atKp; assumption; (next => kaf_pre); kp_flats))
set_option hygiene false in
local macro_rules
  | `(tactic| kaf_pre) => `(tactic| first
    | assumption
    | exact not_nil
    | (apply not_cons; (next => kbo_bools); kaf_pre)
    | (apply not_app; (next => kaf_pre); kaf_pre))
set_option hygiene false in
local macro_rules
  | `(tactic| kbo_bools) => `(tactic| first
    | assumption
    | (apply Ne.symm; assumption)
    | (apply neN; assumption; kp_flats)
    | (apply neN'; assumption; kp_flats))
set_option hygiene false in
local macro_rules
  | `(tactic| o_reads) => `(tactic| first
    | with_reducible rfl
    | assumption
    | rfl
    | kp_flats
    | (show SqL _ _ _ _; first | assumption | (apply sqlOf; kp_flats) | (apply sqlSame; assumption; o_reads))
    | (show SqT _ _ _ _; first | assumption | (apply sqtOf; kp_flats) | (apply sqtAll; assumption) | (apply sqtSame; assumption; o_reads))
    | (show Cls _ _; first | skip)
    | (show NoAttr _ _ _; first | skip)
    | (apply Or.inl; o_reads)
    | (apply Or.inr; o_reads)
    | (apply And.intro; (next => o_reads); o_reads)
    | (apply Exists.intro; o_reads)
    | exact Nat.le_of_ble_eq_true rfl
    | exact Nat.succ_ne_zero _
    | (show Fr _ _; kba_ints)
    | (show Same _ _; kd_subs)
    | (show Kp _ _ _; kxs_still)
    | (show (_ : Nat) ≤ _; simp only [List.length_append, List.length_map, List.length_cons, List.length_nil, List.length_take, List.length_drop, List.length_replicate, List.length_range, sizeLine_eq]; omega)
    | (show _ = none; apply Fr.h; kba_ints)
    | (show Bag _ _; first | assumption | (apply bag_putF; assumption; o_reads) | (apply bag_neF; (next => kbo_bools); o_reads) | (apply bag_kpR; assumption; (next => kaf_pre); o_reads))
    | omega
    | decide)
local macro_rules
  | `(tactic| o_readsAll) => `(tactic| repeat (first
    | (refine fun (pNew : Addr) (nNew : _ = none) => ?_; replace nNew := Fr.mk nNew)
    | (refine fun (xNew dNew : Addr) (nNew : _ = none) (mNew : _ = none) (eNew : dNew ≠ xNew) => ?_; replace nNew := Fr.mk nNew; replace mNew := Fr.mk mNew)
    | (apply And.intro; next => o_reads)
    | apply Exists.intro (α := V)
    | apply Exists.intro (α := Addr)
    | apply Exists.intro (α := Int)
    | apply Exists.intro (α := Bool)
    | apply Exists.intro (α := List V)
    | apply Exists.intro (α := List Nat)
    | apply Exists.intro (α := List (Str × V))
    | apply Exists.intro (α := List _)
    | apply Exists.intro (α := Str)
    | apply Exists.intro (α := HO)
    | apply Exists.intro (α := Sp)
    | apply Exists.intro (α := VK)))
set_option hygiene false in
local macro_rules
  | `(tactic| kba_ints) => `(tactic| first
    | assumption
    | (apply frUp; (first | assumption | (apply Ne.symm; assumption)); kba_ints)
    | (apply noneOf; assumption; intro oF eF; apply Exists.intro; kp_flats)
    | (apply frUp; (next => kbo_bools); kba_ints))
set_option hygiene false in
local macro_rules
  | `(tactic| kxs_still) => `(tactic| first
    | assumption
    | exact kp_refl _ _
    | (apply kp_newF; assumption; kxs_still)
    | (apply kp_new; assumption; kxs_still)
    | (apply kp_up; (next => o_fieldsN); kxs_still)
    | (apply kp_new; (next => kba_ints); kxs_still)
    | (apply kp_sameR; assumption; kxs_still)
    | (apply kp_transR; assumption; kxs_still)
    | (apply kp_freshR; assumption; (next => kaf_suf); kxs_still))
set_option hygiene false in
local macro_rules
  | `(tactic| kaf_suf) => `(tactic| first
    | assumption
    | exact subNil
    | (apply subCons; (first | (apply Or.inl; o_fieldsN) | (apply Or.inr; kba_ints)); kaf_suf)
    | (apply subApp; (next => kaf_suf); kaf_suf))
set_option hygiene false in
local macro_rules
  | `(tactic| o_fieldsN) => `(tactic| first
    | assumption
    | exact memA
    | (apply memB; o_fieldsN)
    | (apply memL; o_fieldsN)
    | (apply memR; o_fieldsN))
set_option hygiene false in
local macro_rules
  | `(tactic| kd_subs) => `(tactic| first
    | assumption
    | exact Same.refl _
    | (apply same_putF; assumption; kd_subs)
    | (apply same_putG; assumption; kd_subs)
    | (apply same_putF; (next => kba_ints); kd_subs)
    | (apply same_transR; assumption; kd_subs))

set_option pp.maxSteps 900
/-! ### what is popped -/
theorem no_popA {ns : List Nat} {i : Nat} {tr z : List (Str × Nat)} (h : pushW ns = tr ++ (("pop" : Str), i) :: z) : False := by
  have m : (("pop" : Str), i) ∈ pushW ns := by rw [h]; exact List.mem_append.mpr (.inr List.mem_cons_self)
  obtain ⟨n, _, e⟩ := List.mem_map.mp m
  injection e with e _
  exact wOP2 e.symm
theorem pop_at : ∀ {ns : List Nat} {i : Nat} {S : List Nat} {tr z : List (Str × Nat)}, tr ++ (("pop" : Str), i) :: z = ns.map (fun i => (("pop" : Str), i)) → ∃ S', runW (S ++ ns.reverse) tr = S' ++ [i]
  | [], i, S, tr, z, h => by cases tr <;> cases h
  | n :: ns, i, S, [], z, h => by
    injection h with h _
    injection h with _ h
    exact ⟨S ++ ns.reverse, by rw [List.reverse_cons, ← List.append_assoc, h]; rfl⟩
  | n :: ns, i, S, t :: tr, z, h => by
    injection h with h1 h2
    obtain ⟨S', h3⟩ := pop_at (S := S) h2
    refine ⟨S', ?_⟩
    rw [h1]
    show runW (stepS (S ++ (n :: ns).reverse) ("pop", n)) tr = _
    have : stepS (S ++ (n :: ns).reverse) ("pop", n) = S ++ ns.reverse := by
      show (if ("pop" : Str) = "push" then _ else if ("pop" : Str) = "pop" then _ else _) = _
      rw [if_neg wOP2, if_pos rfl, List.reverse_cons, ← List.append_assoc, List.dropLast_concat]
    rw [this]
    exact h3
theorem pop_atW {ns : List Nat} {i : Nat} {S : List Nat} {tr z : List (Str × Nat)} (h : tr ++ (("pop" : Str), i) :: z = popW ns) : ∃ S', runW (S ++ ns) tr = S' ++ [i] := by
  have h2 := pop_at (S := S) (ns := ns.reverse) h
  rw [List.reverse_reverse] at h2
  exact h2
/-- what is popped is what was pushed last -/
theorem run_popA {N : Nat → Nat → List Nat} {bs : List Bool} : ∀ {k f i : Nat} {S : List Nat} {tr z : List (Str × Nat)}, tr ++ (("pop" : Str), i) :: z = walkW N bs k f → ∃ S', runW S tr = S' ++ [i]
  | 0, f, i, S, tr, z, h => by
    unfold walkW at h
    split at h
    · rcases split_app h with ⟨z', ha⟩ | ⟨tr', et, hb⟩
      · rcases split_app ha.symm with ⟨z2, hc⟩ | ⟨tr2, _, hd⟩
        · exact (no_popA hc).elim
        · match tr2, hd with
          | [], hd =>
            injection hd with hd _
            injection hd with hd _
            exact absurd hd (by decide +kernel)
          | t :: tr3, hd =>
            injection hd with _ hd
            cases tr3 <;> cases hd
      · rw [et, run_app, run_app, run_push]
        show ∃ S', runW (stepS (S ++ N f 1) ("ask", f)) tr' = _
        have : stepS (S ++ N f 1) ("ask", f) = S ++ N f 1 := by
          show (if ("ask" : Str) = "push" then _ else if ("ask" : Str) = "pop" then _ else _) = _
          rw [if_neg wAP2, if_neg wAO2]
        rw [this]
        exact pop_atW hb
    · cases tr <;> cases h
  | k + 1, f, i, S, tr, z, h => by
    unfold walkW at h
    split at h
    · rcases split_app h with ⟨z', ha⟩ | ⟨tr', et, hb⟩
      · rcases split_app ha.symm with ⟨z2, hc⟩ | ⟨tr2, et, hd⟩
        · exact (no_popA hc).elim
        · rw [et, run_app, run_push]
          rcases split_app hd with ⟨z3, he⟩ | ⟨tr3, et3, he⟩
          · exact run_popA he.symm
          · rw [et3, run_app, run_walk]
            exact run_popA he
      · rw [et, run_app, run_app, run_push, run_app, run_walk, run_walk]
        exact pop_atW hb
    · cases tr <;> cases h
/-! ### how many pushes -/
def cntK (w : Str) (l : List (Str × Nat)) : Nat := (l.filter fun e => decide (e.1 = w)).length
theorem cntK_app {w : Str} {a b : List (Str × Nat)} : cntK w (a ++ b) = cntK w a + cntK w b := by
  unfold cntK
  rw [List.filter_append, List.length_append]
theorem cntK_cons {w : Str} {e : Str × Nat} {l : List (Str × Nat)} : cntK w (e :: l) = (if e.1 = w then 1 else 0) + cntK w l := by
  unfold cntK
  rw [List.filter_cons]
  by_cases c : e.1 = w
  · rw [if_pos c, if_pos (decide_eq_true c), List.length_cons, Nat.add_comm]
  · rw [if_neg c, if_neg (fun z => c (of_decide_eq_true z)), Nat.zero_add]
theorem cntK_one {w : Str} {e : Str × Nat} : cntK w [e] = if e.1 = w then 1 else 0 := cntK_cons
theorem cntK_push {ns : List Nat} : cntK "push" (pushW ns) = ns.length := by
  unfold cntK
  rw [List.filter_eq_self.mpr fun e m => by
    obtain ⟨i, _, rfl⟩ := List.mem_map.mp m
    exact decide_eq_true rfl]
  exact List.length_map ..
theorem cntK_popP {ns : List Nat} : cntK "push" (popW ns) = 0 := by
  unfold cntK
  rw [List.filter_eq_nil_iff.mpr fun e m => by
    obtain ⟨i, _, rfl⟩ := List.mem_map.mp m
    exact fun z => wOP2 (of_decide_eq_true z)]
  rfl
theorem cnt_diff : ∀ {l : List (Str × Nat)}, cntW l = (cntK "push" l : Int) - (cntK "pop" l : Int)
  | [] => rfl
  | e :: l => by
    have ih := cnt_diff (l := l)
    show cntE e + cntW l = _
    rw [ih, cntK_cons, cntK_cons]
    show ((if e.1 = "push" then 1 else 0) - (if e.1 = "pop" then 1 else 0) : Int) + _ = _
    by_cases c1 : e.1 = "push"
    · have c2 : ¬ e.1 = "pop" := by rw [c1]; decide +kernel
      rw [if_pos c1, if_pos c1, if_neg c2, if_neg c2]
      omega
    · rw [if_neg c1, if_neg c1]
      by_cases c2 : e.1 = "pop"
      · rw [if_pos c2, if_pos c2]
        omega
      · rw [if_neg c2, if_neg c2]
        omega
theorem walk_pushes {N : Nat → Nat → List Nat} {bs : List Bool} : ∀ {k f : Nat}, cntK "push" (walkW N bs k f) ≤ totW N k f
  | 0, f => by
    unfold walkW totW
    split
    · rw [cntK_app, cntK_app, cntK_push, cntK_popP, cntK_one, if_neg wAP2]
      exact Nat.le_refl _
    · exact Nat.zero_le _
  | k + 1, f => by
    have h1 := walk_pushes (N := N) (bs := bs) (k := k) (f := f)
    have h2 := walk_pushes (N := N) (bs := bs) (k := k) (f := f + 2 ^ k)
    unfold walkW totW
    split
    · rw [cntK_app, cntK_app, cntK_push, cntK_popP, cntK_app]
      omega
    · exact Nat.zero_le _
/-! ### how many pieces -/
def enoughH (h k a r : Nat) : Prop := ∃ m, r < 2 ^ m ∧ (((a = 0 ∨ a % 2 ^ m = 0) ∧ m ≤ k) ∨ ∃ j, a ≠ 0 ∧ a % 2 ^ j = 0 ∧ j ≤ h ∧ (h - j) + m + 1 ≤ k)
theorem enoughH_step {h k a r : Nat} (he : enoughH h k a r) (hr : r ≠ 0) (hb : a + r ≤ 2 ^ h) : ∃ k', k = k' + 1 ∧ enoughH h k' (a + szP a r) (r - szP a r) := by
  obtain ⟨m, hm, hc⟩ := he
  have lo := log_lo hr
  have rl := rest_lt hr
  have ll := log_lt hr hm
  have hp := Nat.two_pow_pos r.log2
  rcases hc with ⟨hz, hk⟩ | ⟨j, ha, hj, hj1, hk⟩
  · have es : szP a r = 2 ^ r.log2 := by
      unfold szP
      by_cases z : a = 0
      · rw [if_pos z]
      · rw [if_neg z]
        obtain ⟨e, e1, e2, e3⟩ := low_spec a z
        rw [e1]
        rcases hz with hz | hz
        · exact absurd hz z
        · have : m ≤ e := by
            refine Nat.le_of_not_lt fun q => e3 (mod_le hz (by omega))
          exact Nat.min_eq_left (Nat.pow_le_pow_right (by decide) (by omega))
    have ad : a % 2 ^ r.log2 = 0 := by
      rcases hz with hz | hz
      · rw [hz]
        exact Nat.zero_mod _
      · exact mod_le hz (by omega)
    rw [es]
    exact ⟨k - 1, by omega, ⟨r.log2, rl, .inl ⟨.inr (mod_add ad (Nat.mod_self _)), by omega⟩⟩⟩
  · obtain ⟨e, e1, e2, e3⟩ := low_spec a ha
    have hje : j ≤ e := Nat.le_of_not_lt fun q => e3 (mod_le hj (by omega))
    by_cases c : 2 ^ e ≤ 2 ^ r.log2
    · have es : szP a r = 2 ^ e := by
        unfold szP
        rw [if_neg ha, e1]
        exact Nat.min_eq_right c
      rw [es]
      have he : e < h := by
        have h1 : 2 ^ e < 2 ^ h := by omega
        exact (Nat.pow_lt_pow_iff_right (by decide)).mp h1
      have hpe := Nat.two_pow_pos e
      exact ⟨k - 1, by omega, ⟨m, by omega, .inr ⟨e + 1, by omega, odd_up e2 e3, by omega, by omega⟩⟩⟩
    · have es : szP a r = 2 ^ r.log2 := by
        unfold szP
        rw [if_neg ha, e1]
        exact Nat.min_eq_left (by omega)
      have hle : r.log2 ≤ e := by
        refine Nat.le_of_not_lt fun q => c (Nat.pow_le_pow_right (by decide) (by omega))
      rw [es]
      exact ⟨k - 1, by omega, ⟨r.log2, rl, .inl ⟨.inr (mod_add (mod_le e2 hle) (Nat.mod_self _)), by omega⟩⟩⟩
theorem pcF_lenH {h : Nat} : ∀ {u a r k : Nat}, enoughH h k a r → a + r ≤ 2 ^ h → (pcF u a r).length ≤ k
  | 0, a, r, k, _, _ => Nat.zero_le _
  | u + 1, a, r, k, he, hb => by
    by_cases hr : r = 0
    · rw [hr, pcF_zero]
      exact Nat.zero_le _
    · obtain ⟨k', rfl, he'⟩ := enoughH_step he hr hb
      have hs := szP_le (a := a) hr
      have := pcF_lenH (u := u) he' (by omega)
      rw [pcF_pos hr, List.length_cons]
      omega
theorem pcF_most {h u a r : Nat} (hb : a + r ≤ 2 ^ h) : (pcF u a r).length ≤ 2 * (h + 1) := by
  have hp := Nat.two_pow_pos h
  refine pcF_lenH (h := h) ?_ hb
  by_cases z : a = 0
  · exact ⟨h + 1, by rw [Nat.pow_succ]; omega, .inl ⟨.inl z, by omega⟩⟩
  · exact ⟨h + 1, by rw [Nat.pow_succ]; omega, .inr ⟨0, z, Nat.mod_one _, Nat.zero_le _, by omega⟩⟩
theorem tot_foldH {k f h : Nat} : ∀ {es : List (Nat × Nat)} {N : Nat → Nat → List Nat}, (∀ e ∈ es, e.1 ≤ e.2 ∧ e.2 ≤ 2 ^ h) → totW (es.foldl (fun N ie => addP N ie.1 (pcF 201 ie.1 (ie.2 - ie.1))) N) k f ≤ totW N k f + 2 * (h + 1) * es.length
  | [], N, _ => Nat.le_refl _
  | e :: es, N, he => by
    have h1 := tot_addP (i := e.1) (k := k) (f := f) (ps := pcF 201 e.1 (e.2 - e.1)) (N := N)
    have h2 := tot_foldH (k := k) (f := f) (h := h) (es := es) (N := addP N e.1 (pcF 201 e.1 (e.2 - e.1))) fun e m => he e (List.mem_cons_of_mem _ m)
    obtain ⟨h4, h5⟩ := he e List.mem_cons_self
    have h3 := pcF_most (h := h) (u := 201) (a := e.1) (r := e.2 - e.1) (by omega)
    rw [List.foldl_cons, List.length_cons, Nat.mul_succ]
    omega
/-- the bound of the pushes -/
theorem plan_pushed {hs : List HEv} {j : Nat} (hj : hs.length ≤ 2 ^ j) : cntK "push" (planW hs j) ≤ 2 * (j + 1) * (endsU hs hs.length).length := by
  have h1 : cntK "push" (planW hs j) ≤ totW (nodesOf (endsU hs hs.length)) j 0 := walk_pushes
  have h2 := tot_foldH (k := j) (f := 0) (h := j) (es := endsU hs hs.length) (N := fun _ _ => []) fun e m => by
    have := ends_lt (hs := hs) (Nat.le_refl _) e m
    omega
  rw [tot_nil, Nat.zero_add] at h2
  exact Nat.le_trans h1 h2
theorem plan_bal {hs : List HEv} {j : Nat} : cntK "push" (planW hs j) = cntK "pop" (planW hs j) := by
  have h1 : cntW (planW hs j) = 0 := cnt_walk
  rw [cnt_diff] at h1
  omega
def HEv.isAdd : HEv → Bool
  | .add _ => true
  | _ => false
theorem ends_adds {hs : List HEv} : ∀ {k : Nat}, k ≤ hs.length → (endsU hs k).length = ((hs.take k).filter HEv.isAdd).length
  | 0, _ => rfl
  | k + 1, h => by
    obtain ⟨e, hee, he, _⟩ := ends_step (hs := hs) (k := k) h
    rw [he, List.take_succ, hee, List.filter_append, List.length_append, ← ends_adds (k := k) (by omega)]
    match e with
    | .add v =>
      show (endsU hs k ++ [_]).length = _
      rw [List.length_append]
      rfl
    | .rem i => exact List.length_map ..
    | .ask v => rfl
/-! ### who is present, in order -/
theorem pres_inc {hs : List HEv} : ∀ {k : Nat}, k ≤ hs.length → (presU hs k).Pairwise (· < ·) ∧ ∀ i ∈ presU hs k, i < k
  | 0, _ => ⟨List.Pairwise.nil, fun i m => nomatch m⟩
  | k + 1, h => by
    obtain ⟨e, _, _, hp⟩ := ends_step (hs := hs) (k := k) h
    obtain ⟨h1, h2⟩ := pres_inc (hs := hs) (k := k) (by omega)
    rw [hp]
    match e with
    | .add v =>
      refine ⟨List.pairwise_append.mpr ⟨h1, List.pairwise_singleton _ _, fun a ha b hb => ?_⟩, fun i m => ?_⟩
      · rw [List.mem_singleton.mp hb]
        exact h2 a ha
      · rcases List.mem_append.mp m with m | m
        · have := h2 i m; omega
        · rw [List.mem_singleton.mp m]; exact Nat.lt_succ_self k
    | .rem j => exact ⟨h1.filter _, fun i m => by have := h2 i (List.mem_filter.mp m).1; omega⟩
    | .ask v => exact ⟨h1, fun i m => by have := h2 i m; omega⟩
theorem flt_erase : ∀ {l : List Nat} {q x : Nat}, l.Pairwise (· < ·) → l[q]? = some x → (l.filter fun j => decide (j ≠ x)) = l.eraseIdx q
  | [], q, x, _, h => by cases q <;> cases h
  | y :: l, 0, x, hp, h => by
    have h : y = x := Option.some.inj h
    rw [List.filter_cons_of_neg (p := fun j => decide (j ≠ x)) (fun z => of_decide_eq_true z h), List.eraseIdx_cons_zero]
    refine List.filter_eq_self.mpr fun a ha => decide_eq_true ?_
    have := (List.pairwise_cons.mp hp).1 a ha
    omega
  | y :: l, q + 1, x, hp, h => by
    have hl : l[q]? = some x := h
    have hx := List.mem_of_getElem? hl
    have := (List.pairwise_cons.mp hp).1 x hx
    rw [List.filter_cons_of_pos (p := fun j => decide (j ≠ x)) (decide_eq_true (by omega)), List.eraseIdx_cons_succ, flt_erase (List.pairwise_cons.mp hp).2 hl]
theorem map_erase {α β : Type} {f : α → β} : ∀ {l : List α} {q : Nat}, (l.map f).eraseIdx q = (l.eraseIdx q).map f
  | [], q => rfl
  | x :: l, 0 => rfl
  | x :: l, q + 1 => by
    rw [List.map_cons, List.eraseIdx_cons_succ, List.eraseIdx_cons_succ, List.map_cons, map_erase]
/-- the removal of the q-th of those who are present -/
theorem pres_erase {hs : List HEv} {q x : Nat} (h : (presU hs hs.length)[q]? = some x) : stepP hs.length (presU hs hs.length) (.rem x) = (presU hs hs.length).eraseIdx q := flt_erase (pres_inc (Nat.le_refl _)).1 h
end Ob

set_option Elab.async false
set_option linter.all false
set_option maxRecDepth 100000
set_option maxHeartbeats 1000000
namespace Ob
open PySem PySem.Spec PyProof.Rows L2
open LamX (Tabs TabB TabS ExtN)

set_option hygiene false in
local macro_rules
  | `(tactic| kp_flats) => `(tactic| first
    | assumption
    | exact upd_same
    | (apply atNew; assumption; kp_flats)
    | (apply atNe; (next => kbo_bools); kp_flats)
    | (apply atSame; assumption; kp_flats)
    | (apply atKp; assumption; (next => kaf_pre); kp_flats))
set_option hygiene false in
local macro_rules
  | `(tactic| kaf_pre) => `(tactic| first
    | assumption
    | exact not_nil
    | (apply not_cons; (next => kbo_bools); kaf_pre)
    | (apply not_app; (next => kaf_pre); kaf_pre))
set_option hygiene false in
local macro_rules
  | `(tactic| kbo_bools) => `(tactic| first
    | assumption
    | (apply Ne.symm; assumption)
    | (apply neN; assumption; kp_flats)
    | (apply neN'; assumption; kp_flats))
set_option hygiene false in
local macro_rules
  | `(tactic| o_reads) => `(tactic| first
    | with_reducible rfl
    | assumption
    | rfl
    | kp_flats
    | (show SqL _ _ _ _; first | assumption | (apply sqlOf; kp_flats) | (apply sqlSame; assumption; o_reads))
    | (show SqT _ _ _ _; first | assumption | (apply sqtOf; kp_flats) | (apply sqtAll; assumption) | (apply sqtSame; assumption; o_reads))
    | (show Cls _ _; first | skip)
    | (show NoAttr _ _ _; first | skip)
    | (apply Or.inl; o_reads)
    | (apply Or.inr; o_reads)
    | (apply And.intro; (next => o_reads); o_reads)
    | (apply Exists.intro; o_reads)
    | exact Nat.le_of_ble_eq_true rfl
    | exact Nat.succ_ne_zero _
    | (show Fr _ _; kba_ints)
    | (show Same _ _; kd_subs)
    | (show Kp _ _ _; kxs_still)
    | (show (_ : Nat) ≤ _; simp only [List.length_append, List.length_map, List.length_cons, List.length_nil, List.length_take, List.length_drop, List.length_replicate, List.length_range, sizeLine_eq]; omega)
    | (show _ = none; apply Fr.h; kba_ints)
    | (show Bag _ _; first | assumption | (apply bag_putF; assumption; o_reads) | (apply bag_neF; (next => kbo_bools); o_reads) | (apply bag_kpR; assumption; (next => kaf_pre); o_reads))
    | omega
    | decide)
local macro_rules
  | `(tactic| o_readsAll) => `(tactic| repeat (first
    | (refine fun (pNew : Addr) (nNew : _ = none) => ?_; replace nNew := Fr.mk nNew)
    | (refine fun (xNew dNew : Addr) (nNew : _ = none) (mNew : _ = none) (eNew : dNew ≠ xNew) => ?_; replace nNew := Fr.mk nNew; replace mNew := Fr.mk mNew)
    | (apply And.intro; next => o_reads)
    | apply Exists.intro (α := V)
    | apply Exists.intro (α := Addr)
    | apply Exists.intro (α := Int)
    | apply Exists.intro (α := Bool)
    | apply Exists.intro (α := List V)
    | apply Exists.intro (α := List Nat)
    | apply Exists.intro (α := List (Str × V))
    | apply Exists.intro (α := List _)
    | apply Exists.intro (α := Str)
    | apply Exists.intro (α := HO)
    | apply Exists.intro (α := Sp)
    | apply Exists.intro (α := VK)))
set_option hygiene false in
local macro_rules
  | `(tactic| kba_ints) => `(tactic| first
    | assumption
    | (apply frUp; (first | assumption | (apply Ne.symm; assumption)); kba_ints)
    | (apply noneOf; assumption; intro oF eF; apply Exists.intro; kp_flats)
    | (apply frUp; (next => kbo_bools); kba_ints))
set_option hygiene false in
local macro_rules
  | `(tactic| kxs_still) => `(tactic| first
    | assumption
    | exact kp_refl _ _
    | (apply kp_newF; assumption; kxs_still)
    | (apply kp_new; assumption; kxs_still)
    | (apply kp_up; (next => o_fieldsN); kxs_still)
    | (apply kp_new; (next => kba_ints); kxs_still)
    | (apply kp_sameR; assumption; kxs_still)
    | (apply kp_transR; assumption; kxs_still)
    | (apply kp_freshR; assumption; (next => kaf_suf); kxs_still))
set_option hygiene false in
local macro_rules
  | `(tactic| kaf_suf) => `(tactic| first
    | assumption
    | exact subNil
    | (apply subCons; (first | (apply Or.inl; o_fieldsN) | (apply Or.inr; kba_ints)); kaf_suf)
    | (apply subApp; (next => kaf_suf); kaf_suf))
set_option hygiene false in
local macro_rules
  | `(tactic| o_fieldsN) => `(tactic| first
    | assumption
    | exact memA
    | (apply memB; o_fieldsN)
    | (apply memL; o_fieldsN)
    | (apply memR; o_fieldsN))
set_option hygiene false in
local macro_rules
  | `(tactic| kd_subs) => `(tactic| first
    | assumption
    | exact Same.refl _
    | (apply same_putF; assumption; kd_subs)
    | (apply same_putG; assumption; kd_subs)
    | (apply same_putF; (next => kba_ints); kd_subs)
    | (apply same_transR; assumption; kd_subs))

theorem kp_but {p : Addr} {H H1 : Hp} (b : But p H H1) : Kp [p] H H1 := ⟨fun c o e n => b c o e fun z => n (List.mem_singleton.mpr z)⟩
def spTakeK : Sp := fun vs H Q _ => ∃ (p : Addr) (m : Int), vs = [.ref p, .int m] ∧ Bag H p ∧ 0 < m ∧ m.natAbs < 2 ^ 200 ∧ ∀ r H', 0 ≤ r → r < m → Bag H' p → Kp [p] H H' → Q (.int r) H'
theorem ok_takeK {P : Program} {w : World} {K : PySem.W.Frag} {mg : Str → Option Value} {base : Heap} (T : Txt K mg) : FnOk P w K mg base CX0 1 T.f_l_take T.d_l_take ["_law_bag_here", "_law_many"] spTakeK := by
  have F := ok_take (P := P) (w := w) (base := base) T
  refine ⟨fun vs H Q E h => ?_, fun A outer s H args us vs Q E hr e0 hb r h => F.run A outer s H args us vs Q E hr e0 hb r ?_⟩
  · obtain ⟨p, m, rfl, _⟩ := h
    rfl
  · obtain ⟨p, m, e, h1, h2, h3, q⟩ := h
    exact ⟨p, m, e, h1, h2, h3, fun r H' a b c d => q r H' a b c (kp_but d)⟩
theorem bag_neF {p q : Addr} {H : Hp} {o : HO} (n : p ≠ q) (b : Bag H p) : Bag (upd H q o) p := by
  obtain ⟨g, m, c, e, z⟩ := b
  exact ⟨g, m, c, (upd_ne n).trans e, z⟩
theorem tabsN_kp {T : List NdefX.NTab} {cs : List Addr} {H H1 : Hp} (t : NdefX.TabsN T H) (k : Kp cs H H1) (n : ∀ a ∈ cs, ∃ o, H a = some o ∧ (∀ ps, o ≠ .tbl ps) ∧ ∀ φ, o ≠ .ext φ) : NdefX.TabsN T H1 := fun p hp => by
  obtain ⟨ps, h1, h2, h3⟩ := t p hp
  refine ⟨ps, k.at_ _ _ h1 (fun m => ?_), h2, fun pos cv hc => ?_⟩
  · obtain ⟨o, e, n1, _⟩ := n _ m
    rw [h1] at e
    exact n1 ps (Option.some.inj e).symm
  · obtain ⟨c, e1, e2⟩ := h3 pos cv hc
    refine ⟨c, e1, k.at_ _ _ e2 fun m => ?_⟩
    obtain ⟨o, e, _, n2⟩ := n _ m
    rw [e2] at e
    exact n2 _ (Option.some.inj e).symm

set_option pp.maxSteps 900
open NdefX (TabsN)
open Inf (LClo cut mend cellsOf)
theorem bag_lst {H : Hp} {p : Addr} (b : Bag H p) : ∃ xs, H p = some (.lst xs) := by
  obtain ⟨g, m, c, e, _⟩ := b
  exact ⟨_, e⟩
theorem bag_mu {H : Hp} {p : Addr} (b : Bag H p) : Mu H [p] := by
  obtain ⟨xs, e⟩ := bag_lst b
  exact mu_lst e mu_nil
/-! ### steps of a run -/
theorem pSeq {t u : TS} {D : Ends} {σ : L2.St} {H : Hp} (h : t { D with nx := u D } σ H) : tSeq t u D σ H := h
theorem pAsg {te : TE} {g : TG} {D : Ends} {σ : L2.St} {H : Hp} (h : te σ H fun x H1 => g x σ H1 D.nx) : tAsg te g D σ H := h
theorem pOp {r : R2} {ta tb : TE} {σ : L2.St} {H : Hp} {Q : VK} (h : ta σ H fun x H1 => tb σ H1 fun y H2 => r x y H2 Q) : tOp r ta tb σ H Q := h
theorem pIf {c : L2.TT} {t u : TS} {D : Ends} {σ : L2.St} {H : Hp} (h : c σ H fun b H1 => if b = true then t D σ H1 else u D σ H1) : tIfS c t u D σ H := h
theorem pOr {t u : L2.TT} {σ : L2.St} {H : Hp} {Q : Bool → Hp → Prop} (h : t σ H fun c H1 => if c = true then Q true H1 else u σ H1 Q) : tOr t u σ H Q := h
theorem pAnd {t u : L2.TT} {σ : L2.St} {H : Hp} {Q : Bool → Hp → Prop} (h : t σ H fun c H1 => if c = true then u σ H1 Q else Q false H1) : tAnd t u σ H Q := h
theorem pTest {t : TE} {σ : L2.St} {H : Hp} {Q : Bool → Hp → Prop} (h : t σ H fun x H' => ∃ k, x = .bl k ∧ Q k H') : tTest t σ H Q := h
theorem pGN {i : Nat} {x : V} {σ : L2.St} {H : Hp} {N : L2.St → Hp → Prop} (h : N (σ.set i (some x)) H) : gName i x σ H N := h
theorem pNx {D : Ends} {σ : L2.St} {H : Hp} (h : D.nx σ H) : tNext D σ H := h
theorem pRev {K : PySem.W.Frag} {te : TE} {σ : L2.St} {H : Hp} {Q : VK} (h : te σ H fun x H1 => ∃ a xs, x = .ref a ∧ SqL K H1 a xs ∧ ∀ p, H1 p = none → Q (.ref p) (upd H1 p (.lst xs.reverse))) : tRevL K te σ H Q := h
/-- an if whose test says I -/
theorem if_by2 {c : L2.TT} {t u : TS} {D : Ends} {σ : L2.St} {H : Hp} (I : Bool → Hp → Prop) (h : ∀ Q : Bool → Hp → Prop, (∀ b H', I b H' → Q b H') → c σ H Q) (hT : ∀ H', I true H' → t D σ H') (hF : ∀ H', I false H' → u D σ H') : tIfS c t u D σ H :=
  h (fun b H' => if b = true then t D σ H' else u D σ H') fun b H' i => by
    cases b with
    | true => exact (if_pos rfl).mpr (hT H' i)
    | false => exact (if_neg (fun z => nomatch z)).mpr (hF H' i)
/-- a test that answers b where J b holds -/
def Ans (t : L2.TT) (σ : L2.St) (H : Hp) (J : Bool → Hp → Prop) : Prop := ∀ Q : Bool → Hp → Prop, (∀ b H', J b H' → Q b H') → t σ H Q
section
variable {t u : L2.TT} {σ : L2.St} {H : Hp} {J J1 : Bool → Hp → Prop}
theorem ans_or (a : Ans t σ H J1) (hT : ∀ H', J1 true H' → J true H') (hF : ∀ H', J1 false H' → Ans u σ H' J) : Ans (tOr t u) σ H J := fun Q q => a _ fun b H' j => by
  cases b with
  | true => exact (if_pos rfl).mpr (q _ _ (hT H' j))
  | false => exact (if_neg (fun z => nomatch z)).mpr (hF H' j Q q)
theorem ans_and (a : Ans t σ H J1) (hF : ∀ H', J1 false H' → J false H') (hT : ∀ H', J1 true H' → Ans u σ H' J) : Ans (tAnd t u) σ H J := fun Q q => a _ fun b H' j => by
  cases b with
  | true => exact (if_pos rfl).mpr (hT H' j Q q)
  | false => exact (if_neg (fun z => nomatch z)).mpr (q _ _ (hF H' j))
/-- a test that leaves the heap as it is, with the answer b -/
theorem ans_of {b : Bool} (h : ∀ Q : Bool → Hp → Prop, Q b H → t σ H Q) : Ans t σ H (fun c H' => c = b ∧ H' = H) := fun Q q => h Q (q _ _ ⟨rfl, rfl⟩)
end
/-! ### lambdas, tables, what is told -/
def lamOf : Stmt → Nat → Expr
  | .Assign _ (.Call _ es _ _) _, i => es.getD i (.Constant .none 0 ⟨0, 0, 0, 0⟩)
  | .Assign _ (.Tuple es _ _) _, i => es.getD i (.Constant .none 0 ⟨0, 0, 0, 0⟩)
  | _, _ => .Constant .none 0 ⟨0, 0, 0, 0⟩
def lamF (q : Str) (cl : List (Str × Addr)) (c : Addr) : Expr → Inf.LF
  | .Lambda ps b sc _ => ⟨q, ps, b, sc, cl, c⟩
  | _ => ⟨q, { posonlyargs := [], args := [], vararg := none, kwonlyargs := [], kw_defaults := [], kwarg := none, defaults := [] }, .Constant .none 0 ⟨0, 0, 0, 0⟩, defScope s_law, cl, c⟩
theorem kp_ext {cs : List Addr} {H H1 : Hp} (k : Kp cs H H1) (n : Mu H cs) {t : Addr} {φ : Heap → Prop} (h : H t = some (.ext φ)) : H1 t = some (.ext φ) := k.at_ _ _ h (n.ext h)
theorem cellAt_kp {cs : List Addr} {H H1 : Hp} {c : Addr} {v : V} (h : Inf.CellAt H c v) (k : Kp cs H H1) (m : Mu H cs) : Inf.CellAt H1 c v := by
  obtain ⟨φ, e1, e2⟩ := h
  exact ⟨φ, kp_ext k m e1, e2⟩
theorem lclo_kp {cs : List Addr} {H H1 : Hp} {f : Addr} {F : Inf.LF} {fr : List Str} {ws : List V} (h : LClo H f F fr ws) (k : Kp cs H H1) (m : Mu H cs) : LClo H1 f F fr ws :=
  ⟨kp_ext k m h.fn, kp_ext k m h.code, h.len, h.dom, h.inj, fun i y e => by
    obtain ⟨c, v, a, b, d⟩ := h.at_ i y e
    exact ⟨c, v, a, b, cellAt_kp d k m⟩⟩
theorem mend_kp {cs ds : List Addr} {H H1 : Hp} (e : ∀ b ∈ cs, ∃ φ, H b = some (.ext φ)) (s : Kp ds (cut cs H) H1) (no : ∀ b ∈ cs, H1 b = none) : Kp ds H (mend cs H H1) := ⟨fun b o h n => by
  by_cases hb : b ∈ cs
  · rw [Inf.mend_in hb]
    exact h
  · rw [Inf.mend_out hb]
    exact s.at_ _ _ ((Inf.cut_out hb).trans h) n⟩
theorem tab_ne {T : List NdefX.NTab} {P : Addr} {nm : Nat → Nat → Str} {H : Hp} {a : Addr} {o : HO} (t : TabsN T H) (m : (P, nm) ∈ T) (e : H a = some o) (n : ∀ ps, o ≠ .tbl ps) : a ≠ P := fun z => by
  obtain ⟨ps, h, _⟩ := t _ m
  have h : H P = some (.tbl ps) := h
  rw [← z, e] at h
  exact n ps (Option.some.inj h)
theorem cv_tel {cells : List (Str × Addr)} {names : List (Str × NameKind)} {N : List Str} {σ : L2.St} {H HT H3 : Hp} {cT : List Addr} (t : Inf.Tel cells names N σ H cT HT) (k : ∀ b, b ∈ cT → H3 b = HT b) : ∀ b o, H3 b = some o → (∀ φ, o ≠ .ext φ) → Inf.cut cT H3 b = some o := fun b o e nx => by
  rw [Inf.cut_out fun m => ?_]
  · exact e
  · obtain ⟨φ, y⟩ := t.ext b m
    rw [k b m, y] at e
    exact nx φ (Option.some.inj e).symm
theorem tel_kp {cells : List (Str × Addr)} {names : List (Str × NameKind)} {N : List Str} {σ : L2.St} {H HT H3 : Hp} {cT ds : List Addr} (t : Inf.Tel cells names N σ H cT HT) (k : Kp ds HT H3) (m : Mu HT ds) : (∀ b, b ∈ cT → H3 b = HT b) ∧ Kp ds H (Inf.cut cT H3) :=
  ⟨fun b hb => by
    obtain ⟨φ, y⟩ := t.ext b hb
    rw [y]
    exact k.at_ _ _ y (m.ext y), ⟨fun b o e n => by
    rw [Inf.cut_out (fun z => by rw [t.no b z] at e; cases e)]
    exact k.at_ _ _ (t.same _ _ e) n⟩⟩
theorem plan_lt {hs : List HEv} {j : Nat} (hl : hs.length ≤ 2000) (hj : j = 0 ∨ 2 ^ (j - 1) < hs.length) : j ≤ 12 ∧ (planW hs j).length < 1000000 := by
  have hj1 : j ≤ 12 := by
    refine Nat.le_of_not_lt fun z => ?_
    rcases hj with h | h
    · omega
    · have h1 : (2 : Nat) ^ 12 ≤ 2 ^ (j - 1) := Nat.pow_le_pow_right (by decide) (by omega)
      have h2 : (2 : Nat) ^ 12 = 4096 := by decide
      omega
  have hp : (2 : Nat) ^ j ≤ 4096 := Nat.le_trans (Nat.pow_le_pow_right (by decide) hj1) (by decide)
  have hw := walk_len (N := nodesOf (endsU hs hs.length)) (bs := hs.map HEv.isAsk) (k := j) (f := 0)
  have ht := tot_nodes (es := endsU hs hs.length) (k := j) (f := 0)
  have hl2 := ends_len (hs := hs) (k := hs.length)
  have hy : (planW hs j).length = (walkW (nodesOf (endsU hs hs.length)) (hs.map HEv.isAsk) j 0).length := rfl
  exact ⟨hj1, by omega⟩
/-! ### histories in the heap -/
theorem at_split {hs : List HEv} {i : Nat} {x : HEv} (h : hs[i]? = some x) : hs.take i ++ x :: hs.drop (i + 1) = hs ∧ presU hs i = presF 0 [] (hs.take i) ∧ (hs.take i).length = i := by
  have hi : i < hs.length := (List.getElem?_eq_some_iff.mp h).1
  have h3 : hs[i] = x := (List.getElem?_eq_some_iff.mp h).2
  refine ⟨?_, pres_take (by omega), by rw [List.length_take]; omega⟩
  rw [← h3, List.getElem_cons_drop, List.take_append_drop]
theorem mem_mid {α : Type} {A tr z : List α} {x : α} (h : A = tr ++ x :: z) : x ∈ A ∧ ∀ y ∈ tr, y ∈ A := by
  rw [h]
  exact ⟨List.mem_append.mpr (.inr List.mem_cons_self), fun y m => List.mem_append.mpr (.inl m)⟩
theorem HisAt.nil {H : Hp} : HisAt H [] [] := ⟨rfl, fun q x e z => by cases q <;> cases z⟩
theorem HisAt.kp {H H1 : Hp} {xs : List V} {hs : List HEv} {cs : List Addr} (h : HisAt H xs hs) (k : Kp cs H H1) (m : Mu H cs) : HisAt H1 xs hs := ⟨h.len, fun q x e a b => by
  obtain ⟨p, h1, h2⟩ := h.at_ q x e a b
  exact ⟨p, h1, kp_tup k m h2⟩⟩
theorem HisAt.app {H : Hp} {xs ys : List V} {a b : List HEv} (h : HisAt H xs a) (g : HisAt H ys b) : HisAt H (xs ++ ys) (a ++ b) := by
  refine ⟨by rw [List.length_append, List.length_append, h.len, g.len], fun q x e a1 b1 => ?_⟩
  by_cases c : q < xs.length
  · rw [List.getElem?_append_left c] at a1
    rw [List.getElem?_append_left (by rw [← h.len]; exact c)] at b1
    exact h.at_ q x e a1 b1
  · rw [List.getElem?_append_right (by omega)] at a1
    rw [List.getElem?_append_right (by rw [← h.len]; omega), ← h.len] at b1
    exact g.at_ _ x e a1 b1
theorem HisAt.one {H : Hp} {p : Addr} {e : HEv} (h : H p = some (.tup [.str e.w, e.v])) : HisAt H [.ref p] [e] := ⟨rfl, fun q y d a b => by
  match q, a, b with
  | 0, a, b =>
    cases a
    cases b
    exact ⟨p, rfl, h⟩
  | q + 1, a, _ => cases q <;> cases a⟩
theorem HisAt.rep {H : Hp} {p : Addr} {e : HEv} (h : H p = some (.tup [.str e.w, e.v])) : ∀ n : Nat, HisAt H (List.replicate n [V.ref p]).flatten (List.replicate n e)
  | 0 => HisAt.nil
  | n + 1 => by
    rw [List.replicate_succ, List.replicate_succ, List.flatten_cons]
    exact (HisAt.one h).app (HisAt.rep h n)
theorem HisAt.rev {H : Hp} {xs : List V} {a : List HEv} (h : HisAt H xs a) : HisAt H xs.reverse a.reverse := ⟨by rw [List.length_reverse, List.length_reverse, h.len], fun q x e a1 b1 => by
  have hq : q < xs.length := by
    have := (List.getElem?_eq_some_iff.mp a1).1
    rw [List.length_reverse] at this
    exact this
  rw [List.getElem?_reverse hq] at a1
  rw [List.getElem?_reverse (by rw [← h.len]; exact hq), ← h.len] at b1
  exact h.at_ _ x e a1 b1⟩
/-- a history in a list at c -/
def LH (H : Hp) (c : Addr) (hs : List HEv) : Prop := ∃ xs, H c = some (.lst xs) ∧ HisAt H xs hs
theorem LH.same {H H1 : Hp} {c : Addr} {hs : List HEv} (h : LH H c hs) (s : Same H H1) : LH H1 c hs := by
  obtain ⟨xs, h1, h2⟩ := h
  exact ⟨xs, s _ _ h1, h2.kp (kp_same (cs := []) s) mu_nil⟩
theorem LH.kpn {H H1 : Hp} {c : Addr} {hs : List HEv} {cs : List Addr} (h : LH H c hs) (k : Kp cs H H1) (m : Mu H cs) (n : c ∉ cs) : LH H1 c hs := by
  obtain ⟨xs, h1, h2⟩ := h
  exact ⟨xs, k.at_ _ _ h1 n, h2.kp k m⟩
theorem HisAt.add {H : Hp} {xs : List V} {hs : List HEv} {t : Addr} {e : HEv} (h : HisAt H xs hs) (ht : H t = some (.tup [.str e.w, e.v])) : HisAt H (xs ++ [.ref t]) (hs ++ [e]) := h.app (HisAt.one ht)
theorem flat_rep (x : V) : ∀ n : Nat, (List.replicate n [x]).flatten = List.replicate n x
  | 0 => rfl
  | n + 1 => by
    rw [List.replicate_succ, List.replicate_succ, List.flatten_cons, flat_rep x n]
    rfl
theorem seq_at {k n : Nat} (h : k < n) : seqIndex? (k : Int) n = some k := by
  unfold seqIndex?
  simp only [if_neg (show ¬ (k : Int) < 0 by omega)]
  rw [if_pos (by rw [Bool.and_eq_true]; exact ⟨decide_eq_true (by omega), decide_eq_true (by omega)⟩)]
  rfl
theorem fr_kp {cs : List Addr} {H H1 : Hp} {a : Addr} (k : Kp cs H H1) (m : Mu H1 cs) (f : Fr H1 a) : Fr H a := noneOf f fun o e => by
  by_cases c : a ∈ cs
  · obtain ⟨o, h, _⟩ := m a c
    exact ⟨o, h⟩
  · exact ⟨o, k.at_ _ _ e c⟩
theorem tabs_same {T : List NdefX.NTab} {H H1 : Hp} (t : TabsN T H) (s : Same H H1) : TabsN T H1 := tabsN_kp t (kp_same (cs := []) s) fun _ z => nomatch z
end Ob

set_option Elab.async false
set_option linter.all false
set_option maxRecDepth 100000
set_option maxHeartbeats 1000000
namespace Ob
open PySem PySem.Spec PyProof.Rows L2
open LamX (Tabs TabB TabS ExtN)

set_option hygiene false in
local macro_rules
  | `(tactic| kp_flats) => `(tactic| first
    | assumption
    | exact upd_same
    | (apply atNew; assumption; kp_flats)
    | (apply atNe; (next => kbo_bools); kp_flats)
    | (apply atSame; assumption; kp_flats)
    | (apply atKp; assumption; (next => kaf_pre); kp_flats))
set_option hygiene false in
local macro_rules
  | `(tactic| kaf_pre) => `(tactic| first
    | assumption
    | exact not_nil
    | (apply not_cons; (next => kbo_bools); kaf_pre)
    | (apply not_app; (next => kaf_pre); kaf_pre))
set_option hygiene false in
local macro_rules
  | `(tactic| kbo_bools) => `(tactic| first
    | assumption
    | (apply Ne.symm; assumption)
    | (apply neN; assumption; kp_flats)
    | (apply neN'; assumption; kp_flats))
set_option hygiene false in
local macro_rules
  | `(tactic| o_reads) => `(tactic| first
    | with_reducible rfl
    | assumption
    | rfl
    | kp_flats
    | (show SqL _ _ _ _; first | assumption | (apply sqlOf; kp_flats) | (apply sqlSame; assumption; o_reads))
    | (show SqT _ _ _ _; first | assumption | (apply sqtOf; kp_flats) | (apply sqtAll; assumption) | (apply sqtSame; assumption; o_reads))
    | (show Cls _ _; first | skip)
    | (show NoAttr _ _ _; first | skip)
    | (apply Or.inl; o_reads)
    | (apply Or.inr; o_reads)
    | (apply And.intro; (next => o_reads); o_reads)
    | (apply Exists.intro; o_reads)
    | exact Nat.le_of_ble_eq_true rfl
    | exact Nat.succ_ne_zero _
    | (show Fr _ _; kba_ints)
    | (show Same _ _; kd_subs)
    | (show Kp _ _ _; kxs_still)
    | (show (_ : Nat) ≤ _; simp only [List.length_append, List.length_map, List.length_cons, List.length_nil, List.length_take, List.length_drop, List.length_replicate, List.length_range, sizeLine_eq]; omega)
    | (show _ = none; apply Fr.h; kba_ints)
    | (show Bag _ _; first | assumption | (apply bag_putF; assumption; o_reads) | (apply bag_neF; (next => kbo_bools); o_reads) | (apply bag_kpR; assumption; (next => kaf_pre); o_reads))
    | omega
    | decide)
local macro_rules
  | `(tactic| o_readsAll) => `(tactic| repeat (first
    | (refine fun (pNew : Addr) (nNew : _ = none) => ?_; replace nNew := Fr.mk nNew)
    | (refine fun (xNew dNew : Addr) (nNew : _ = none) (mNew : _ = none) (eNew : dNew ≠ xNew) => ?_; replace nNew := Fr.mk nNew; replace mNew := Fr.mk mNew)
    | (apply And.intro; next => o_reads)
    | apply Exists.intro (α := V)
    | apply Exists.intro (α := Addr)
    | apply Exists.intro (α := Int)
    | apply Exists.intro (α := Bool)
    | apply Exists.intro (α := List V)
    | apply Exists.intro (α := List Nat)
    | apply Exists.intro (α := List (Str × V))
    | apply Exists.intro (α := List _)
    | apply Exists.intro (α := Str)
    | apply Exists.intro (α := HO)
    | apply Exists.intro (α := Sp)
    | apply Exists.intro (α := VK)))
set_option hygiene false in
local macro_rules
  | `(tactic| kba_ints) => `(tactic| first
    | assumption
    | (apply frUp; (first | assumption | (apply Ne.symm; assumption)); kba_ints)
    | (apply noneOf; assumption; intro oF eF; apply Exists.intro; kp_flats)
    | (apply frUp; (next => kbo_bools); kba_ints))
set_option hygiene false in
local macro_rules
  | `(tactic| kxs_still) => `(tactic| first
    | assumption
    | exact kp_refl _ _
    | (apply kp_newF; assumption; kxs_still)
    | (apply kp_new; assumption; kxs_still)
    | (apply kp_up; (next => o_fieldsN); kxs_still)
    | (apply kp_new; (next => kba_ints); kxs_still)
    | (apply kp_sameR; assumption; kxs_still)
    | (apply kp_transR; assumption; kxs_still)
    | (apply kp_freshR; assumption; (next => kaf_suf); kxs_still))
set_option hygiene false in
local macro_rules
  | `(tactic| kaf_suf) => `(tactic| first
    | assumption
    | exact subNil
    | (apply subCons; (first | (apply Or.inl; o_fieldsN) | (apply Or.inr; kba_ints)); kaf_suf)
    | (apply subApp; (next => kaf_suf); kaf_suf))
set_option hygiene false in
local macro_rules
  | `(tactic| o_fieldsN) => `(tactic| first
    | assumption
    | exact memA
    | (apply memB; o_fieldsN)
    | (apply memL; o_fieldsN)
    | (apply memR; o_fieldsN))
set_option hygiene false in
local macro_rules
  | `(tactic| kd_subs) => `(tactic| first
    | assumption
    | exact Same.refl _
    | (apply same_putF; assumption; kd_subs)
    | (apply same_putG; assumption; kd_subs)
    | (apply same_putF; (next => kba_ints); kd_subs)
    | (apply same_transR; assumption; kd_subs))

/-! ### data that is shown -/
theorem u16 {k : Nat} {A : Around} (r : Room k A) : A.units + 64 + 16 < cLine := by
  have := r.un
  omega
theorem u65 {k : Nat} {A : Around} (r : Room k A) : A.units + 65 < cLine := by
  have := r.un
  omega
/-- no dict, small numbers, at most w much, at most p deep -/
structure Shw (w p : Nat) (d : PyData) : Prop where
  sh : d.showable = true
  nd : d.hasDict = false
  lv : d.leavesShort 13 = true
  wt : d.weight ≤ w
  dp : d.depth ≤ p
theorem Shw.mono {w p w' p' : Nat} {d : PyData} (h : Shw w p d) (a : w ≤ w') (b : p ≤ p') : Shw w' p' d := ⟨h.sh, h.nd, h.lv, Nat.le_trans h.wt a, Nat.le_trans h.dp b⟩
theorem Shw.int {i : Int} (h : i.natAbs < 10 ^ 12) : Shw 41 0 (.int i) := by
  have h1 : i.natAbs.log2 < 40 := by
    by_cases z : i.natAbs = 0
    · rw [z]
      decide
    · exact (Nat.log2_lt z).mpr (by omega)
  refine ⟨decide_eq_true (by omega), rfl, decide_eq_true (PyData.shown_int_le h), ?_, Nat.le_refl _⟩
  show (if i == 0 then 0 else i.natAbs.log2 + 1) ≤ 41
  split <;> omega
theorem Shw.non : Shw 0 0 .none := ⟨rfl, rfl, by decide +kernel, Nat.le_refl _, Nat.le_refl _⟩
theorem Shw.bl (b : Bool) : Shw 0 0 (.bool b) := ⟨rfl, rfl, by cases b <;> decide +kernel, Nat.le_refl _, Nat.le_refl _⟩
theorem Shw.str {x : Str} (h : (x.cps.toList.all fun c => decide (c < 16 ^ 8)) = true) : Shw x.length 0 (.str x) := ⟨rfl, rfl, h, Nat.le_refl _, Nat.le_refl _⟩
theorem shw_all {w p : Nat} : ∀ {ds : List PyData}, (∀ d ∈ ds, Shw w p d) → PyData.showableAll ds = true ∧ PyData.hasDictAll ds = false ∧ PyData.leavesShortAll 13 ds = true ∧ PyData.weightAll ds ≤ ds.length * (w + 1) ∧ PyData.depthAll ds ≤ p
  | [], _ => ⟨rfl, rfl, rfl, Nat.zero_le _, Nat.zero_le _⟩
  | d :: ds, h => by
    obtain ⟨a1, a2, a3, a4, a5⟩ := h d (List.mem_cons_self ..)
    obtain ⟨b1, b2, b3, b4, b5⟩ := shw_all fun x m => h x (List.mem_cons_of_mem _ m)
    refine ⟨?_, ?_, ?_, ?_, ?_⟩
    · show (d.showable && PyData.showableAll ds) = true
      rw [a1, b1]
      rfl
    · show (d.hasDict || PyData.hasDictAll ds) = false
      rw [a2, b2]
      rfl
    · show (d.leavesShort 13 && PyData.leavesShortAll 13 ds) = true
      rw [a3, b3]
      rfl
    · show d.weight + 1 + PyData.weightAll ds ≤ (ds.length + 1) * (w + 1)
      rw [Nat.add_mul]
      omega
    · exact Nat.max_le.mpr ⟨a5, b5⟩
theorem Shw.tup {w p : Nat} {ds : List PyData} (h : ∀ d ∈ ds, Shw w p d) : Shw (ds.length * (w + 1)) (p + 1) (.tuple ds) := by
  obtain ⟨b1, b2, b3, b4, b5⟩ := shw_all h
  exact ⟨b1, b2, b3, b4, Nat.succ_le_succ b5⟩
theorem Shw.lst {w p : Nat} {ds : List PyData} (h : ∀ d ∈ ds, Shw w p d) : Shw (ds.length * (w + 1)) (p + 1) (.list ds) := by
  obtain ⟨b1, b2, b3, b4, b5⟩ := shw_all h
  exact ⟨b1, b2, b3, b4, Nat.succ_le_succ b5⟩
theorem Shw.fits {w p : Nat} {d : PyData} (h : Shw w p d) (a : w ≤ 2 ^ 20) : d.shown.length ≤ sizeLine := PyData.shown_fits (B := 13) (by decide) (by decide) h.lv (Nat.le_trans h.wt a)
section
variable {K : PySem.W.Frag}
theorem dp_int {H : Hp} {v : V} {d : PyData} (h : Dp K H v d) (s : d.showable = true) : ∀ i, v = .int i → i.natAbs.log2 < 1920 := fun i e => by
  subst e
  cases h
  exact of_decide_eq_true s
end
theorem dpAll_of {K : PySem.W.Frag} {H : Hp} : ∀ {xs : List V} {ds : List PyData}, xs.length = ds.length → (∀ (q : Nat) x d, xs[q]? = some x → ds[q]? = some d → Dp K H x d) → DpAll K H xs ds
  | [], [], _, _ => .nil
  | x :: xs, d :: ds, l, h => .cons (h 0 x d rfl rfl) (dpAll_of (Nat.succ.inj l) fun q y e a b => h (q + 1) y e a b)
  | [], _ :: _, l, _ => nomatch l
  | _ :: _, [], l, _ => nomatch l
/-- a walk's entries as plain data -/
def entW (e : Str × Nat) : PyData := .tuple [.str e.1, .int (e.2 : Int)]
theorem dp_wl {K : PySem.W.Frag} {H : Hp} {o : Addr} {ys : List V} {es : List (Str × Nat)} (ho : H o = some (.lst ys)) (w : WLog H ys es) : Dp K H (.ref o) (.list (es.map entW)) := by
  refine .lst (sqlOf ho) (dpAll_of (by rw [List.length_map, w.len]) fun q x d a1 a2 => ?_)
  rw [List.getElem?_map] at a2
  cases he : es[q]? with
  | none =>
    rw [he] at a2
    cases a2
  | some e =>
    rw [he] at a2
    cases a2
    obtain ⟨p, rfl, g⟩ := w.at_ q x e a1 he
    exact .tup (sqtOf g) (.cons (.str _) (.cons (.int _) .nil))
end Ob

set_option Elab.async false
set_option linter.all false
set_option maxRecDepth 100000
set_option maxHeartbeats 1000000
namespace Ob
open PySem PySem.Spec PyProof.Rows L2
open LamX (Tabs TabB TabS ExtN)

set_option hygiene false in
local macro_rules
  | `(tactic| kp_flats) => `(tactic| first
    | assumption
    | exact upd_same
    | (apply atNew; assumption; kp_flats)
    | (apply atNe; (next => kbo_bools); kp_flats)
    | (apply atSame; assumption; kp_flats)
    | (apply atKp; assumption; (next => kaf_pre); kp_flats))
set_option hygiene false in
local macro_rules
  | `(tactic| kaf_pre) => `(tactic| first
    | assumption
    | exact not_nil
    | (apply not_cons; (next => kbo_bools); kaf_pre)
    | (apply not_app; (next => kaf_pre); kaf_pre))
set_option hygiene false in
local macro_rules
  | `(tactic| kbo_bools) => `(tactic| first
    | assumption
    | (apply Ne.symm; assumption)
    | (apply neN; assumption; kp_flats)
    | (apply neN'; assumption; kp_flats))
set_option hygiene false in
local macro_rules
  | `(tactic| o_reads) => `(tactic| first
    | with_reducible rfl
    | assumption
    | rfl
    | kp_flats
    | (show SqL _ _ _ _; first | assumption | (apply sqlOf; kp_flats) | (apply sqlSame; assumption; o_reads))
    | (show SqT _ _ _ _; first | assumption | (apply sqtOf; kp_flats) | (apply sqtAll; assumption) | (apply sqtSame; assumption; o_reads))
    | (show Cls _ _; first | skip)
    | (show NoAttr _ _ _; first | skip)
    | (apply Or.inl; o_reads)
    | (apply Or.inr; o_reads)
    | (apply And.intro; (next => o_reads); o_reads)
    | (apply Exists.intro; o_reads)
    | exact Nat.le_of_ble_eq_true rfl
    | exact Nat.succ_ne_zero _
    | (show Fr _ _; kba_ints)
    | (show Same _ _; kd_subs)
    | (show Kp _ _ _; kxs_still)
    | (show (_ : Nat) ≤ _; simp only [List.length_append, List.length_map, List.length_cons, List.length_nil, List.length_take, List.length_drop, List.length_replicate, List.length_range, sizeLine_eq]; omega)
    | (show _ = none; apply Fr.h; kba_ints)
    | (show Bag _ _; first | assumption | (apply bag_putF; assumption; o_reads) | (apply bag_neF; (next => kbo_bools); o_reads) | (apply bag_kpR; assumption; (next => kaf_pre); o_reads))
    | omega
    | decide)
local macro_rules
  | `(tactic| o_readsAll) => `(tactic| repeat (first
    | (refine fun (pNew : Addr) (nNew : _ = none) => ?_; replace nNew := Fr.mk nNew)
    | (refine fun (xNew dNew : Addr) (nNew : _ = none) (mNew : _ = none) (eNew : dNew ≠ xNew) => ?_; replace nNew := Fr.mk nNew; replace mNew := Fr.mk mNew)
    | (apply And.intro; next => o_reads)
    | apply Exists.intro (α := V)
    | apply Exists.intro (α := Addr)
    | apply Exists.intro (α := Int)
    | apply Exists.intro (α := Bool)
    | apply Exists.intro (α := List V)
    | apply Exists.intro (α := List Nat)
    | apply Exists.intro (α := List (Str × V))
    | apply Exists.intro (α := List _)
    | apply Exists.intro (α := Str)
    | apply Exists.intro (α := HO)
    | apply Exists.intro (α := Sp)
    | apply Exists.intro (α := VK)))
set_option hygiene false in
local macro_rules
  | `(tactic| kba_ints) => `(tactic| first
    | assumption
    | (apply frUp; (first | assumption | (apply Ne.symm; assumption)); kba_ints)
    | (apply noneOf; assumption; intro oF eF; apply Exists.intro; kp_flats)
    | (apply frUp; (next => kbo_bools); kba_ints))
set_option hygiene false in
local macro_rules
  | `(tactic| kxs_still) => `(tactic| first
    | assumption
    | exact kp_refl _ _
    | (apply kp_newF; assumption; kxs_still)
    | (apply kp_new; assumption; kxs_still)
    | (apply kp_up; (next => o_fieldsN); kxs_still)
    | (apply kp_new; (next => kba_ints); kxs_still)
    | (apply kp_sameR; assumption; kxs_still)
    | (apply kp_transR; assumption; kxs_still)
    | (apply kp_freshR; assumption; (next => kaf_suf); kxs_still))
set_option hygiene false in
local macro_rules
  | `(tactic| kaf_suf) => `(tactic| first
    | assumption
    | exact subNil
    | (apply subCons; (first | (apply Or.inl; o_fieldsN) | (apply Or.inr; kba_ints)); kaf_suf)
    | (apply subApp; (next => kaf_suf); kaf_suf))
set_option hygiene false in
local macro_rules
  | `(tactic| o_fieldsN) => `(tactic| first
    | assumption
    | exact memA
    | (apply memB; o_fieldsN)
    | (apply memL; o_fieldsN)
    | (apply memR; o_fieldsN))
set_option hygiene false in
local macro_rules
  | `(tactic| kd_subs) => `(tactic| first
    | assumption
    | exact Same.refl _
    | (apply same_putF; assumption; kd_subs)
    | (apply same_putG; assumption; kd_subs)
    | (apply same_putF; (next => kba_ints); kd_subs)
    | (apply same_transR; assumption; kd_subs))

set_option pp.maxSteps 900
/-! ### the ends, by a search -/
def HEv.isRem (i : Nat) : HEv → Bool
  | .rem j => j == i
  | _ => false
def atB (hs : List HEv) (f : HEv → Bool) (p : Nat) : Bool := match hs[p]? with
  | some e => f e
  | none => false
def goneU (hs : List HEv) (i k : Nat) : List Nat := (List.range k).filter (atB hs (HEv.isRem i))
def endG (hs : List HEv) (i k : Nat) : Nat := ((goneU hs i k).head?).getD hs.length
theorem flt_succ {hs : List HEv} {f : HEv → Bool} {k : Nat} {e : HEv} (h : hs[k]? = some e) : (List.range (k + 1)).filter (atB hs f) = (List.range k).filter (atB hs f) ++ (if f e = true then [k] else []) := by
  rw [List.range_succ, List.filter_append, List.filter_cons, List.filter_nil]
  have : atB hs f k = f e := by
    unfold atB
    rw [h]
  rw [this]
theorem gone_in {hs : List HEv} {i k p : Nat} (h : p ∈ goneU hs i k) : p < k ∧ hs[p]? = some (.rem i) := by
  obtain ⟨h1, h2⟩ := List.mem_filter.mp h
  refine ⟨List.mem_range.mp h1, ?_⟩
  unfold atB at h2
  cases he : hs[p]? with
  | none => rw [he] at h2; cases h2
  | some e =>
    rw [he] at h2
    match e, h2 with
    | .rem j, h2 =>
      have h2 : (j == i) = true := h2
      rw [eq_of_beq h2]
/-- a number is not removed before it is given -/
theorem gone_self {hs : List HEv} (hok : HOk hs) {k : Nat} : goneU hs k k = [] := List.eq_nil_iff_forall_not_mem.mpr fun p m => by
  obtain ⟨h1, h2⟩ := gone_in m
  have := (pres_lt (hs := hs) k (hok p k h2)).1
  omega
theorem pres_gone {hs : List HEv} (hok : HOk hs) : ∀ {k : Nat}, k ≤ hs.length → ∀ i ∈ presU hs k, goneU hs i k = []
  | 0, _, i, m => nomatch m
  | k + 1, hk, i, m => by
    obtain ⟨e, hee, _, hp⟩ := ends_step (hs := hs) (k := k) hk
    have hs1 : goneU hs i (k + 1) = goneU hs i k ++ (if e.isRem i = true then [k] else []) := flt_succ hee
    rw [hp] at m
    rw [hs1]
    match e, hee, m with
    | .add v, _, m =>
      rw [if_neg (fun z => nomatch z), List.append_nil]
      rcases List.mem_append.mp m with m | m
      · exact pres_gone hok (by omega) i m
      · rw [List.mem_singleton.mp m]
        exact gone_self hok
    | .rem j, _, m =>
      obtain ⟨m1, m2⟩ := List.mem_filter.mp m
      have hne : ¬ HEv.isRem i (.rem j) = true := fun z => of_decide_eq_true m2 (eq_of_beq z).symm
      rw [if_neg hne, List.append_nil]
      exact pres_gone hok (by omega) i m1
    | .ask v, _, m =>
      rw [if_neg (fun z => nomatch z), List.append_nil]
      exact pres_gone hok (by omega) i m
theorem ends_gone {hs : List HEv} (hok : HOk hs) : ∀ {k : Nat}, k ≤ hs.length → endsU hs k = ((List.range k).filter (atB hs HEv.isAdd)).map fun i => (i, endG hs i k)
  | 0, _ => rfl
  | k + 1, hk => by
    obtain ⟨e, hee, he, _⟩ := ends_step (hs := hs) (k := k) hk
    have ih := ends_gone hok (k := k) (by omega)
    have hg : ∀ i, goneU hs i (k + 1) = goneU hs i k ++ (if e.isRem i = true then [k] else []) := fun i => flt_succ hee
    rw [he, flt_succ hee, ih]
    match e, hee, hg with
    | .add v, hee, hg =>
      have hs1 : ∀ i, goneU hs i (k + 1) = goneU hs i k := fun i => by
        rw [hg i, if_neg (fun z => nomatch z), List.append_nil]
      have he1 : ∀ i, endG hs i (k + 1) = endG hs i k := fun i => by
        unfold endG
        rw [hs1 i]
      show _ ++ [(k, hs.length)] = (_ ++ [k]).map _
      rw [List.map_append]
      congr 1
      · exact List.map_congr_left fun i _ => by rw [he1 i]
      · show [(k, hs.length)] = [(k, endG hs k (k + 1))]
        rw [he1 k]
        unfold endG
        rw [gone_self hok]
        rfl
    | .rem j, hee, hg =>
      show (List.map _ _).map _ = (_ ++ []).map _
      rw [List.append_nil, List.map_map]
      refine List.map_congr_left fun i _ => ?_
      show (if i = j then (i, k) else (i, endG hs i k)) = (i, endG hs i (k + 1))
      by_cases c : i = j
      · rw [if_pos c, c]
        have h0 := pres_gone hok (Nat.le_of_succ_le hk) j (hok k j hee)
        have h1 : goneU hs j (k + 1) = [k] := by
          rw [hg j, h0, if_pos (show HEv.isRem j (.rem j) = true from beq_self_eq_true j)]
          rfl
        unfold endG
        rw [h1]
        rfl
      · rw [if_neg c]
        have h1 : goneU hs i (k + 1) = goneU hs i k := by
          rw [hg i, if_neg (show ¬ HEv.isRem i (.rem j) = true from fun z => c (eq_of_beq z).symm), List.append_nil]
        unfold endG
        rw [h1]
    | .ask v, hee, hg =>
      have he1 : ∀ i, endG hs i (k + 1) = endG hs i k := fun i => by
        unfold endG
        rw [hg i, if_neg (fun z => nomatch z), List.append_nil]
      show List.map _ _ = (_ ++ []).map _
      rw [List.append_nil]
      exact List.map_congr_left fun i _ => by rw [he1 i]
/-- the least of the places of removal and of the length -/
theorem gone_min {hs : List HEv} {i k m : Nat} (hk : k ≤ hs.length) (h1 : m ∈ goneU hs i k ++ [hs.length]) (h2 : ∀ y ∈ goneU hs i k ++ [hs.length], m ≤ y) : m = endG hs i k := by
  have hp : (goneU hs i k).Pairwise (· < ·) := List.pairwise_lt_range.filter _
  unfold endG
  cases hg : goneU hs i k with
  | nil =>
    rw [hg] at h1
    exact List.mem_singleton.mp h1
  | cons x l =>
    rw [hg] at h1 h2 hp
    have h3 := h2 x (List.mem_append.mpr (.inl List.mem_cons_self))
    show m = x
    rcases List.mem_append.mp h1 with h1 | h1
    · rcases List.mem_cons.mp h1 with h1 | h1
      · exact h1
      · have := (List.pairwise_cons.mp hp).1 m h1
        omega
    · have := (gone_in (hs := hs) (i := i) (k := k) (p := x) (by rw [hg]; exact List.mem_cons_self)).1
      have := List.mem_singleton.mp h1
      omega
/-! ### the members of a node, by a search -/
theorem szP_pos {a r : Nat} (h : r ≠ 0) : 0 < szP a r := by
  unfold szP
  split
  · exact Nat.two_pow_pos _
  · rename_i z
    obtain ⟨e, e1, _⟩ := low_spec a z
    rw [e1]
    exact Nat.lt_min.mpr ⟨Nat.two_pow_pos _, Nat.two_pow_pos _⟩
theorem pcF_ge : ∀ {u a r : Nat} {x : Nat × Nat}, x ∈ pcF u a r → a ≤ x.1 := fun h => (pcF_in h).1
theorem pcF_nodup : ∀ {u a r : Nat}, (pcF u a r).Nodup
  | 0, a, r => List.nodup_nil
  | u + 1, a, r => by
    by_cases hr : r = 0
    · rw [hr, pcF_zero]
      exact List.nodup_nil
    · rw [pcF_pos hr]
      refine List.nodup_cons.mpr ⟨fun m => ?_, pcF_nodup⟩
      have h1 : a + szP a r ≤ a := pcF_ge m
      have := szP_pos (a := a) hr
      omega
theorem addP_off {i f s : Nat} : ∀ {ps : List (Nat × Nat)} {N : Nat → Nat → List Nat}, (f, s) ∉ ps → addP N i ps f s = N f s
  | [], N, _ => rfl
  | p :: ps, N, h => by
    show addP (addN N p.1 p.2 i) i ps f s = N f s
    rw [addP_off fun m => h (List.mem_cons_of_mem _ m)]
    exact add_ne fun z => h (by rw [z.1, z.2]; exact List.mem_cons_self)
theorem addP_on {i f s : Nat} : ∀ {ps : List (Nat × Nat)} {N : Nat → Nat → List Nat}, ps.Nodup → (f, s) ∈ ps → addP N i ps f s = N f s ++ [i]
  | [], N, _, h => nomatch h
  | p :: ps, N, hn, h => by
    show addP (addN N p.1 p.2 i) i ps f s = N f s ++ [i]
    obtain ⟨h1, h2⟩ := List.nodup_cons.mp hn
    rcases List.mem_cons.mp h with h | h
    · subst h
      rw [addP_off h1]
      exact add_same
    · rw [addP_on h2 h, add_ne]
      rintro ⟨rfl, rfl⟩
      exact h1 h
theorem nodes_flt {f s : Nat} : ∀ {es : List (Nat × Nat)} {N : Nat → Nat → List Nat}, es.foldl (fun N ie => addP N ie.1 (pcF 201 ie.1 (ie.2 - ie.1))) N f s = N f s ++ (es.filter fun e => decide ((f, s) ∈ pcF 201 e.1 (e.2 - e.1))).map (·.1)
  | [], N => (List.append_nil _).symm
  | e :: es, N => by
    rw [List.foldl_cons, nodes_flt, List.filter_cons]
    by_cases c : (f, s) ∈ pcF 201 e.1 (e.2 - e.1)
    · rw [if_pos (decide_eq_true c), addP_on pcF_nodup c, List.append_assoc]
      rfl
    · rw [if_neg (fun z => c (of_decide_eq_true z)), addP_off c]
theorem nodes_at {es : List (Nat × Nat)} {f s : Nat} : nodesOf es f s = (es.filter fun e => decide ((f, s) ∈ pcF 201 e.1 (e.2 - e.1))).map (·.1) := by
  have := nodes_flt (f := f) (s := s) (es := es) (N := fun _ _ => [])
  rw [List.nil_append] at this
  exact this
/-! ### the greatest part that fits -/
theorem szP_fit {a r : Nat} (hr : r ≠ 0) : ∃ j, szP a r = 2 ^ j ∧ a % 2 ^ j = 0 ∧ 2 ^ j ≤ r := by
  have lo := log_lo hr
  unfold szP
  by_cases z : a = 0
  · rw [if_pos z, z]
    exact ⟨_, rfl, Nat.zero_mod _, lo⟩
  · rw [if_neg z]
    obtain ⟨e, e1, e2, e3⟩ := low_spec a z
    rw [e1]
    by_cases c : r.log2 ≤ e
    · rw [Nat.min_eq_left (Nat.pow_le_pow_right (by decide) c)]
      exact ⟨_, rfl, mod_le e2 c, lo⟩
    · rw [Nat.min_eq_right (Nat.pow_le_pow_right (by decide) (by omega))]
      exact ⟨_, rfl, e2, Nat.le_trans (Nat.pow_le_pow_right (by decide) (by omega)) lo⟩
theorem szP_most {a r k : Nat} (hr : r ≠ 0) (h1 : a % 2 ^ k = 0) (h2 : 2 ^ k ≤ r) : 2 ^ k ≤ szP a r := by
  have hk : k ≤ r.log2 := by
    refine Nat.le_of_not_lt fun z => ?_
    have h3 := log_hi (n := r)
    have : (2 : Nat) ^ (r.log2 + 1) ≤ 2 ^ k := Nat.pow_le_pow_right (by decide) z
    omega
  unfold szP
  split
  · exact Nat.pow_le_pow_right (by decide) hk
  · rename_i z
    obtain ⟨e, e1, e2, e3⟩ := low_spec a z
    rw [e1]
    have : k ≤ e := Nat.le_of_not_lt fun y => e3 (mod_le h1 (by omega))
    exact Nat.le_min.mpr ⟨Nat.pow_le_pow_right (by decide) hk, Nat.pow_le_pow_right (by decide) this⟩
end Ob

set_option Elab.async false
set_option linter.all false
set_option maxRecDepth 100000
set_option maxHeartbeats 1000000
namespace Ob
open PySem PySem.Spec PyProof.Rows L2
open LamX (Tabs TabB TabS ExtN)

set_option hygiene false in
local macro_rules
  | `(tactic| kp_flats) => `(tactic| first
    | assumption
    | exact upd_same
    | (apply atNew; assumption; kp_flats)
    | (apply atNe; (next => kbo_bools); kp_flats)
    | (apply atSame; assumption; kp_flats)
    | (apply atKp; assumption; (next => kaf_pre); kp_flats))
set_option hygiene false in
local macro_rules
  | `(tactic| kaf_pre) => `(tactic| first
    | assumption
    | exact not_nil
    | (apply not_cons; (next => kbo_bools); kaf_pre)
    | (apply not_app; (next => kaf_pre); kaf_pre))
set_option hygiene false in
local macro_rules
  | `(tactic| kbo_bools) => `(tactic| first
    | assumption
    | (apply Ne.symm; assumption)
    | (apply neN; assumption; kp_flats)
    | (apply neN'; assumption; kp_flats))
set_option hygiene false in
local macro_rules
  | `(tactic| o_reads) => `(tactic| first
    | with_reducible rfl
    | assumption
    | rfl
    | kp_flats
    | (show SqL _ _ _ _; first | assumption | (apply sqlOf; kp_flats) | (apply sqlSame; assumption; o_reads))
    | (show SqT _ _ _ _; first | assumption | (apply sqtOf; kp_flats) | (apply sqtAll; assumption) | (apply sqtSame; assumption; o_reads))
    | (show Cls _ _; first | skip)
    | (show NoAttr _ _ _; first | skip)
    | (apply Or.inl; o_reads)
    | (apply Or.inr; o_reads)
    | (apply And.intro; (next => o_reads); o_reads)
    | (apply Exists.intro; o_reads)
    | exact Nat.le_of_ble_eq_true rfl
    | exact Nat.succ_ne_zero _
    | (show Fr _ _; kba_ints)
    | (show Same _ _; kd_subs)
    | (show Kp _ _ _; kxs_still)
    | (show (_ : Nat) ≤ _; simp only [List.length_append, List.length_map, List.length_cons, List.length_nil, List.length_take, List.length_drop, List.length_replicate, List.length_range, sizeLine_eq]; omega)
    | (show _ = none; apply Fr.h; kba_ints)
    | (show Bag _ _; first | assumption | (apply bag_putF; assumption; o_reads) | (apply bag_neF; (next => kbo_bools); o_reads) | (apply bag_kpR; assumption; (next => kaf_pre); o_reads))
    | omega
    | decide)
local macro_rules
  | `(tactic| o_readsAll) => `(tactic| repeat (first
    | (refine fun (pNew : Addr) (nNew : _ = none) => ?_; replace nNew := Fr.mk nNew)
    | (refine fun (xNew dNew : Addr) (nNew : _ = none) (mNew : _ = none) (eNew : dNew ≠ xNew) => ?_; replace nNew := Fr.mk nNew; replace mNew := Fr.mk mNew)
    | (apply And.intro; next => o_reads)
    | apply Exists.intro (α := V)
    | apply Exists.intro (α := Addr)
    | apply Exists.intro (α := Int)
    | apply Exists.intro (α := Bool)
    | apply Exists.intro (α := List V)
    | apply Exists.intro (α := List Nat)
    | apply Exists.intro (α := List (Str × V))
    | apply Exists.intro (α := List _)
    | apply Exists.intro (α := Str)
    | apply Exists.intro (α := HO)
    | apply Exists.intro (α := Sp)
    | apply Exists.intro (α := VK)))
set_option hygiene false in
local macro_rules
  | `(tactic| kba_ints) => `(tactic| first
    | assumption
    | (apply frUp; (first | assumption | (apply Ne.symm; assumption)); kba_ints)
    | (apply noneOf; assumption; intro oF eF; apply Exists.intro; kp_flats)
    | (apply frUp; (next => kbo_bools); kba_ints))
set_option hygiene false in
local macro_rules
  | `(tactic| kxs_still) => `(tactic| first
    | assumption
    | exact kp_refl _ _
    | (apply kp_newF; assumption; kxs_still)
    | (apply kp_new; assumption; kxs_still)
    | (apply kp_up; (next => o_fieldsN); kxs_still)
    | (apply kp_new; (next => kba_ints); kxs_still)
    | (apply kp_sameR; assumption; kxs_still)
    | (apply kp_transR; assumption; kxs_still)
    | (apply kp_freshR; assumption; (next => kaf_suf); kxs_still))
set_option hygiene false in
local macro_rules
  | `(tactic| kaf_suf) => `(tactic| first
    | assumption
    | exact subNil
    | (apply subCons; (first | (apply Or.inl; o_fieldsN) | (apply Or.inr; kba_ints)); kaf_suf)
    | (apply subApp; (next => kaf_suf); kaf_suf))
set_option hygiene false in
local macro_rules
  | `(tactic| o_fieldsN) => `(tactic| first
    | assumption
    | exact memA
    | (apply memB; o_fieldsN)
    | (apply memL; o_fieldsN)
    | (apply memR; o_fieldsN))
set_option hygiene false in
local macro_rules
  | `(tactic| kd_subs) => `(tactic| first
    | assumption
    | exact Same.refl _
    | (apply same_putF; assumption; kd_subs)
    | (apply same_putG; assumption; kd_subs)
    | (apply same_putF; (next => kba_ints); kd_subs)
    | (apply same_transR; assumption; kd_subs))

/-! ### == and != of lists that hold the very same objects -/
def NoTok (v : V) : Prop := v = .non ∨ ∃ a, v = .ref a
theorem noTok_val {v : V} {u u' : Value} (h : NoTok v) (r : RelV v u) (r' : RelV v u') : u = u' := by
  rcases h with rfl | ⟨a, rfl⟩
  · exact (show u = Value.none from r).trans (show u' = Value.none from r').symm
  · exact (show u = Value.ref a from r).trans (show u' = Value.ref a from r').symm
theorem noTok_all : ∀ {xs : List V} {us us' : List Value}, (∀ x ∈ xs, NoTok x) → Vals xs us → Vals xs us' → us = us'
  | [], _, _, _, r, r' => by
    cases r
    cases r'
    rfl
  | x :: xs, _, _, h, r, r' => by
    cases r with
    | cons r1 r2 =>
      cases r' with
      | cons q1 q2 => rw [noTok_val (h x (List.mem_cons_self ..)) r1 q1, noTok_all (fun y hy => h y (List.mem_cons_of_mem _ hy)) r2 q2]
/-- both lists hold the objects xs -/
def rSame (K : PySem.W.Frag) (b : Bool) : R2 := fun x y H Q => ∃ (p q : Addr) (xs : List V), x = .ref p ∧ y = .ref q ∧ SqL K H p xs ∧ SqL K H q xs ∧ (∀ v ∈ xs, NoTok v) ∧ Q (.bl b) H
theorem all_yes (n : Nat) : (List.range n).all (fun _ => true) = true := List.all_eq_true.mpr fun _ _ => rfl
section
variable {X : Cx} {pins : List (Addr × Obj)} {σ : L2.St} {H : Hp} {s : Shared} {p q : Addr} {xs : List V}
theorem same_lists (I : Inv X pins σ H s) (hp : SqL X.K H p xs) (hq : SqL X.K H q xs) (hn : ∀ v ∈ xs, NoTok v) : ∃ its : Array Value, s.heap.IsList p its ∧ s.heap.IsList q its := by
  obtain ⟨its, rv, ⟨o, n, h1, h2, _, h3⟩, _⟩ := I.list hp
  obtain ⟨its', rv', ⟨o', n', h1', h2', _, h3'⟩, _⟩ := I.list hq
  obtain rfl := noTok_all hn rv rv'
  exact ⟨its.toArray, ⟨o, h1, h2, n, h3⟩, ⟨o', h1', h2', n', h3'⟩⟩
end
theorem op_eqS {X : Cx} (hu : X.A.units + 64 < cLine) : OpR X (compareOp .Eq) (rSame X.K true) := by
  intro pins s σ H x y v u Q I rx ry h
  obtain ⟨p, q, xs, rfl, rfl, hp, hq, hn, k⟩ := h
  obtain rfl : v = Value.ref p := rx
  obtain rfl : u = Value.ref q := ry
  obtain ⟨its, h1, h2⟩ := same_lists I hp hq hn
  have z := SeqAt.RcAt.lists (A := X.A) (e := fun _ => true) h1 h2 rfl (by omega) (fun j j1 j2 => SeqAt.EqAt.same _)
  rw [all_yes] at z
  exact z _ _ _ _ ⟨.bl true, H, I, rfl, k⟩
theorem op_neS {X : Cx} (hu : X.A.units + 64 < cLine) : OpR X (compareOp .NotEq) (rSame X.K false) := by
  intro pins s σ H x y v u Q I rx ry h
  obtain ⟨p, q, xs, rfl, rfl, hp, hq, hn, k⟩ := h
  obtain rfl : v = Value.ref p := rx
  obtain rfl : u = Value.ref q := ry
  obtain ⟨its, h1, h2⟩ := same_lists I hp hq hn
  have z := SeqAt.RcNeAt.lists (A := X.A) (e := fun _ => true) h1 h2 rfl (by omega) (fun j j1 j2 => SeqAt.EqAt.same _)
  rw [all_yes] at z
  exact z _ _ _ _ ⟨.bl false, H, I, rfl, k⟩
/-- a list against the empty one -/
def rNeNil (K : PySem.W.Frag) : R2 := fun x y H Q => ∃ (p q : Addr) (xs : List V), x = .ref p ∧ y = .ref q ∧ SqL K H p xs ∧ SqL K H q [] ∧ Q (.bl (!xs.isEmpty)) H
theorem is_list {X : Cx} {pins : List (Addr × Obj)} {σ : L2.St} {H : Hp} {s : Shared} {p : Addr} {xs : List V} (I : Inv X pins σ H s) (hp : SqL X.K H p xs) : ∃ its : Array Value, its.size = xs.length ∧ s.heap.IsList p its := by
  obtain ⟨its, rv, ⟨o, n, h1, h2, _, h3⟩, _⟩ := I.list hp
  exact ⟨its.toArray, by rw [List.size_toArray, rv.length], ⟨o, h1, h2, n, h3⟩⟩
theorem op_neNil {X : Cx} (hu : X.A.units + 64 < cLine) : OpR X (compareOp .NotEq) (rNeNil X.K) := by
  intro pins s σ H x y v u Q I rx ry h
  obtain ⟨p, q, xs, rfl, rfl, hp, hq, k⟩ := h
  cases xs with
  | nil => exact op_neS hu pins s σ H _ _ v u Q I rx ry ⟨p, q, [], rfl, rfl, hp, hq, (fun _ z => nomatch z), k⟩
  | cons a l =>
    obtain rfl : v = Value.ref p := rx
    obtain rfl : u = Value.ref q := ry
    obtain ⟨i1, e1, h1⟩ := is_list I hp
    obtain ⟨i2, e2, h2⟩ := is_list I hq
    have z := SeqAt.RcNeAt.lists_lengths (A := X.A) h1 h2 (by rw [e1, e2]; rfl) (by omega)
    exact z _ _ _ _ ⟨.bl true, H, I, rfl, k⟩

def rEqNil (K : PySem.W.Frag) : R2 := fun x y H Q => ∃ (p q : Addr) (xs : List V), x = .ref p ∧ y = .ref q ∧ SqL K H p xs ∧ SqL K H q [] ∧ Q (.bl xs.isEmpty) H
theorem op_eqNil {X : Cx} (hu : X.A.units + 64 < cLine) : OpR X (compareOp .Eq) (rEqNil X.K) := by
  intro pins s σ H x y v u Q I rx ry h
  obtain ⟨p, q, xs, rfl, rfl, hp, hq, k⟩ := h
  cases xs with
  | nil => exact op_eqS hu pins s σ H _ _ v u Q I rx ry ⟨p, q, [], rfl, rfl, hp, hq, (fun _ z => nomatch z), k⟩
  | cons a l =>
    obtain rfl : v = Value.ref p := rx
    obtain rfl : u = Value.ref q := ry
    obtain ⟨i1, e1, h1⟩ := is_list I hp
    obtain ⟨i2, e2, h2⟩ := is_list I hq
    have z := SeqAt.RcAt.lists_lengths (A := X.A) h1 h2 (by rw [e1, e2]; rfl) (by omega)
    exact z _ _ _ _ ⟨.bl false, H, I, rfl, k⟩

set_option pp.maxSteps 900
/-! ### the history of the law: any objects -/
/-- an object of the law's seven, and what it is -/
def Th (cs : List Addr) (H : Hp) (v : V) (d : PyData) : Prop :=
  (v = .non ∧ d = .none) ∨ (v = .bl true ∧ d = .bool true) ∨ (∃ p, v = .ref p ∧ H p = some (.tup []) ∧ d = .tuple []) ∨ (∃ p, v = .ref p ∧ H p = some (.lst []) ∧ p ∉ cs ∧ d = .list []) ∨ (v = .str "x" ∧ d = .str "x") ∨ (∃ p, v = .ref p ∧ H p = some (.tup [.str "add", .int 0]) ∧ d = .tuple [.str "add", .int 0]) ∨ (v = .int 7 ∧ d = .int 7)
theorem Th.kp {cs ds : List Addr} {H H1 : Hp} {v : V} {d : PyData} (h : Th cs H v d) (k : Kp ds H H1) (m : Mu H ds) (s : ∀ a ∈ ds, a ∈ cs) : Th cs H1 v d := by
  rcases h with h | h | ⟨p, h1, h2, h3⟩ | ⟨p, h1, h2, h3, h4⟩ | h | ⟨p, h1, h2, h3⟩ | h
  · exact .inl h
  · exact .inr (.inl h)
  · exact .inr (.inr (.inl ⟨p, h1, kp_tup k m h2, h3⟩))
  · exact .inr (.inr (.inr (.inl ⟨p, h1, k.at_ _ _ h2 (fun z => h3 (s p z)), h3, h4⟩)))
  · exact .inr (.inr (.inr (.inr (.inl h))))
  · exact .inr (.inr (.inr (.inr (.inr (.inl ⟨p, h1, kp_tup k m h2, h3⟩)))))
  · exact .inr (.inr (.inr (.inr (.inr (.inr h)))))
/-- an entry of a history, and what it is -/
def EntD (cs : List Addr) (H : Hp) (x : V) (d : PyData) : Prop := ∃ (p : Addr) (w : Str) (v : V) (dv : PyData), x = .ref p ∧ H p = some (.tup [.str w, v]) ∧ d = .tuple [.str w, dv] ∧ (w = "add" ∨ w = "remove" ∨ w = "ask") ∧ (Th cs H v dv ∨ ∃ i : Nat, i ≤ 100 ∧ v = .int (i : Int) ∧ dv = .int (i : Int))
theorem EntD.kp {cs ds : List Addr} {H H1 : Hp} {x : V} {d : PyData} (h : EntD cs H x d) (k : Kp ds H H1) (m : Mu H ds) (s : ∀ a ∈ ds, a ∈ cs) : EntD cs H1 x d := by
  obtain ⟨p, w, v, dv, h1, h2, h3, h4, h5⟩ := h
  exact ⟨p, w, v, dv, h1, kp_tup k m h2, h3, h4, h5.imp (fun z => z.kp k m s) id⟩
structure HD (cs : List Addr) (H : Hp) (xs : List V) (ds : List PyData) : Prop where
  len : xs.length = ds.length
  at_ : ∀ (q : Nat) (x : V) (d : PyData), xs[q]? = some x → ds[q]? = some d → EntD cs H x d
theorem HD.kp {cs ds : List Addr} {H H1 : Hp} {xs : List V} {es : List PyData} (h : HD cs H xs es) (k : Kp ds H H1) (m : Mu H ds) (s : ∀ a ∈ ds, a ∈ cs) : HD cs H1 xs es := ⟨h.len, fun q x d a b => (h.at_ q x d a b).kp k m s⟩
theorem HD.nil {cs : List Addr} {H : Hp} : HD cs H [] [] := ⟨rfl, fun q x d z => by cases q <;> cases z⟩
theorem HD.add {cs : List Addr} {H : Hp} {xs : List V} {es : List PyData} {x : V} {d : PyData} (h : HD cs H xs es) (g : EntD cs H x d) : HD cs H (xs ++ [x]) (es ++ [d]) := by
  refine ⟨by rw [List.length_append, List.length_append, h.len]; rfl, fun q y e a b => ?_⟩
  by_cases c : q < xs.length
  · rw [List.getElem?_append_left c] at a
    rw [List.getElem?_append_left (by rw [← h.len]; exact c)] at b
    exact h.at_ q y e a b
  · rw [List.getElem?_append_right (by omega)] at a
    rw [List.getElem?_append_right (by rw [← h.len]; omega), ← h.len] at b
    match q - xs.length, a, b with
    | 0, a, b =>
      cases a
      cases b
      exact g
    | r + 1, a, _ => cases r <;> cases a
section
variable {K : PySem.W.Frag} {H : Hp}
theorem dp_th {cs : List Addr} {v : V} {d : PyData} (h : Th cs H v d) : Dp K H v d ∧ Shw 200 2 d := by
  rcases h with ⟨rfl, rfl⟩ | ⟨rfl, rfl⟩ | ⟨p, rfl, h2, rfl⟩ | ⟨p, rfl, h2, h3, rfl⟩ | ⟨rfl, rfl⟩ | ⟨p, rfl, h2, rfl⟩ | ⟨rfl, rfl⟩
  · exact ⟨.non, Shw.non.mono (by decide) (by decide)⟩
  · exact ⟨.bl true, (Shw.bl true).mono (by decide) (by decide)⟩
  · exact ⟨.tup (sqtOf h2) .nil, (Shw.tup (w := 0) (p := 0) (ds := []) (fun _ z => nomatch z)).mono (by decide) (by decide)⟩
  · exact ⟨.lst (sqlOf h2) .nil, (Shw.lst (w := 0) (p := 0) (ds := []) (fun _ z => nomatch z)).mono (by decide) (by decide)⟩
  · exact ⟨.str _, (Shw.str (x := "x") (by decide +kernel)).mono (by decide +kernel) (by decide)⟩
  · refine ⟨.tup (sqtOf h2) (.cons (.str _) (.cons (.int _) .nil)), (Shw.tup (w := 41) (p := 0) (fun d m => ?_)).mono (by decide) (by decide)⟩
    rcases List.mem_cons.mp m with rfl | m
    · exact (Shw.str (x := "add") (by decide +kernel)).mono (by decide +kernel) (by decide)
    · rw [List.mem_singleton.mp m]
      exact Shw.int (by decide)
  · exact ⟨.int 7, (Shw.int (i := 7) (by decide)).mono (by decide) (by decide)⟩
theorem dp_entD {cs : List Addr} {x : V} {d : PyData} (h : EntD cs H x d) : Dp K H x d ∧ Shw 402 3 d := by
  obtain ⟨p, w, v, dv, rfl, h2, rfl, h4, h5⟩ := h
  have hv : Dp K H v dv ∧ Shw 200 2 dv := by
    rcases h5 with h5 | ⟨i, hi, rfl, rfl⟩
    · exact dp_th h5
    · exact ⟨.int _, (Shw.int (by
        have : (10 : Nat) ^ 12 = 1000000000000 := by decide
        omega)).mono (by decide) (by decide)⟩
  refine ⟨.tup (sqtOf h2) (.cons (.str _) (.cons hv.1 .nil)), (Shw.tup (w := 200) (p := 2) (ds := [.str w, dv]) fun d m => ?_).mono (Nat.le_refl _) (Nat.le_refl _)⟩
  rcases List.mem_cons.mp m with rfl | m
  · rcases h4 with rfl | rfl | rfl
    · exact (Shw.str (x := "add") (by decide +kernel)).mono (by decide +kernel) (by decide)
    · exact (Shw.str (x := "remove") (by decide +kernel)).mono (by decide +kernel) (by decide)
    · exact (Shw.str (x := "ask") (by decide +kernel)).mono (by decide +kernel) (by decide)
  · rw [List.mem_singleton.mp m]
    exact hv.2
theorem dp_hist {cs : List Addr} {a : Addr} {xs : List V} {ds : List PyData} (ha : H a = some (.lst xs)) (h : HD cs H xs ds) (hl : ds.length ≤ 100) : Dp K H (.ref a) (.list ds) ∧ Shw (2 ^ 20) 64 (.list ds) := by
  refine ⟨.lst (sqlOf ha) (dpAll_of h.len fun q x d a b => (dp_entD (h.at_ q x d a b)).1), (Shw.lst (w := 402) (p := 3) fun d m => ?_).mono ?_ (by decide)⟩
  · obtain ⟨q, hq⟩ := List.mem_iff_getElem?.mp m
    have hql := (List.getElem?_eq_some_iff.mp hq).1
    exact (dp_entD (K := K) (h.at_ q _ d (List.getElem?_eq_getElem (by rw [h.len]; exact hql)) hq)).2
  · have : (2 : Nat) ^ 20 = 1048576 := by decide
    have := Nat.mul_le_mul_right (402 + 1) hl
    omega
end
theorem seven {a b c : V} {r : Int} (r0 : 0 ≤ r) (r1 : r < 7) : ∃ v, atI [V.non, V.bl true, a, b, V.str "x", c, V.int 7] r = some v ∧ (v = .non ∨ v = .bl true ∨ v = a ∨ v = b ∨ v = .str "x" ∨ v = c ∨ v = .int 7) := by
  obtain ⟨k, rfl⟩ := Int.eq_ofNat_of_zero_le r0
  match k, r1 with
  | 0, _ => exact ⟨_, atI_nat (j := 0) rfl, .inl rfl⟩
  | 1, _ => exact ⟨_, atI_nat (j := 1) rfl, .inr (.inl rfl)⟩
  | 2, _ => exact ⟨_, atI_nat (j := 2) rfl, .inr (.inr (.inl rfl))⟩
  | 3, _ => exact ⟨_, atI_nat (j := 3) rfl, .inr (.inr (.inr (.inl rfl)))⟩
  | 4, _ => exact ⟨_, atI_nat (j := 4) rfl, .inr (.inr (.inr (.inr (.inl rfl))))⟩
  | 5, _ => exact ⟨_, atI_nat (j := 5) rfl, .inr (.inr (.inr (.inr (.inr (.inl rfl)))))⟩
  | 6, _ => exact ⟨_, atI_nat (j := 6) rfl, .inr (.inr (.inr (.inr (.inr (.inr rfl)))))⟩
  | k + 7, h => exact absurd h (by omega)
section
variable {P : Program} {w : World} {K : PySem.W.Frag} {mg : Str → Option Value} {base : Heap}
/-- a history at c, with what its entries are -/
def LD (cs : List Addr) (H : Hp) (c : Addr) (hs : List HEv) (ds : List PyData) : Prop := ∃ xs, H c = some (.lst xs) ∧ HisAt H xs hs ∧ HD cs H xs ds
def spHist : Sp := fun vs H Q _ => ∃ (bag : Addr) (most : Nat), vs = [.ref bag, .int (most : Int)] ∧ most ≤ 100 ∧ Bag H bag ∧ ∀ c hs ds cs H', Kp [bag] H H' → Bag H' bag → Fr H c → LD cs H' c hs ds → HOk hs → hs.length ≤ most → Q (.ref c) H'
structure JH (H0 : Hp) (bag hc pc : Addr) (hs : List HEv) (ds : List PyData) (H : Hp) : Prop where
  lh : LD [bag, hc, pc] H hc hs ds
  pr : H pc = some (.lst ((presU hs hs.length).map nV))
  ok : HOk hs
  bg : Bag H bag
  kp : Kp [bag] H0 H
  n1 : hc ≠ pc
  n2 : hc ≠ bag
  n3 : pc ≠ bag
  f1 : Fr H0 hc
  f2 : Fr H0 pc
theorem LD.kp {cs es : List Addr} {H H1 : Hp} {c : Addr} {hs : List HEv} {ds : List PyData} (h : LD cs H c hs ds) (k : Kp es H H1) (m : Mu H es) (s : ∀ a ∈ es, a ∈ cs) (n : c ∉ es) : LD cs H1 c hs ds := by
  obtain ⟨xs, h1, h2, h3⟩ := h
  exact ⟨xs, k.at_ _ _ h1 n, h2.kp k m, h3.kp k m s⟩
theorem LD.same {cs : List Addr} {H H1 : Hp} {c : Addr} {hs : List HEv} {ds : List PyData} (h : LD cs H c hs ds) (s : Same H H1) : LD cs H1 c hs ds := h.kp (es := []) (kp_same s) mu_nil (fun _ z => nomatch z) not_nil
theorem JH.same {H0 H H1 : Hp} {bag hc pc : Addr} {hs : List HEv} {ds : List PyData} (h : JH H0 bag hc pc hs ds H) (s : Same H H1) : JH H0 bag hc pc hs ds H1 := ⟨h.lh.same s, s _ _ h.pr, h.ok, bag_kpR (kp_same (cs := []) s) not_nil h.bg, kp_trans h.kp (kp_same s), h.n1, h.n2, h.n3, h.f1, h.f2⟩
theorem JH.take {H0 H H1 : Hp} {bag hc pc : Addr} {hs : List HEv} {ds : List PyData} (h : JH H0 bag hc pc hs ds H) (k : Kp [bag] H H1) (b : Bag H1 bag) : JH H0 bag hc pc hs ds H1 := ⟨h.lh.kp k (bag_mu h.bg) (subCons memA subNil) (not_cons h.n2 not_nil), k.at_ _ _ h.pr (not_cons h.n3 not_nil), h.ok, b, kp_trans h.kp k, h.n1, h.n2, h.n3, h.f1, h.f2⟩
theorem JH.more1 {H0 H H1 : Hp} {bag hc pc : Addr} {hs : List HEv} {ds : List PyData} {xs : List V} {t : Addr} {e : HEv} {d : PyData} {l : List Nat} (h : JH H0 bag hc pc hs ds H) (hx : H hc = some (.lst xs)) (ht : H1 t = some (.tup [.str e.w, e.v])) (hd : EntD [bag, hc, pc] H1 (.ref t) d) (he : ∀ i, e = .rem i → i ∈ presU hs hs.length) (hl : stepP hs.length (presU hs hs.length) e = l) (k : Kp [hc, pc] H H1) (e1 : H1 hc = some (.lst (xs ++ [.ref t]))) (e2 : H1 pc = some (.lst (l.map nV))) : JH H0 bag hc pc (hs ++ [e]) (ds ++ [d]) H1 := by
  obtain ⟨xs', hx', hh, hdd⟩ := h.lh
  rw [hx] at hx'
  cases hx'
  have m : Mu H [hc, pc] := mu_lst hx (mu_lst h.pr mu_nil)
  refine ⟨⟨_, e1, (hh.kp k m).add ht, (hdd.kp k m (subCons (memB memA) (subCons (memB (memB memA)) subNil))).add hd⟩, ?_, hok_add h.ok he, bag_kpR k (not_cons h.n2.symm (not_cons h.n3.symm not_nil)) h.bg, kp_fresh h.kp k (subCons (.inr h.f1) (subCons (.inr h.f2) subNil)), h.n1, h.n2, h.n3, h.f1, h.f2⟩
  rw [e2, pres_add, hl]
end
end Ob

set_option Elab.async false
set_option linter.all false
set_option maxRecDepth 100000
set_option maxHeartbeats 1000000
namespace Ob
open PySem PySem.Spec PyProof.Rows L2
open LamX (Tabs TabB TabS ExtN)

set_option hygiene false in
local macro_rules
  | `(tactic| kp_flats) => `(tactic| first
    | assumption
    | exact upd_same
    | (apply atNew; assumption; kp_flats)
    | (apply atNe; (next => kbo_bools); kp_flats)
    | (apply atSame; assumption; kp_flats)
    | (apply atKp; assumption; (next => kaf_pre); kp_flats))
set_option hygiene false in
local macro_rules
  | `(tactic| kaf_pre) => `(tactic| first
    | assumption
    | exact not_nil
    | (apply not_cons; (next => kbo_bools); kaf_pre)
    | (apply not_app; (next => kaf_pre); kaf_pre))
set_option hygiene false in
local macro_rules
  | `(tactic| kbo_bools) => `(tactic| first
    | assumption
    | (apply Ne.symm; assumption)
    | (apply neN; assumption; kp_flats)
    | (apply neN'; assumption; kp_flats))
set_option hygiene false in
local macro_rules
  | `(tactic| o_reads) => `(tactic| first
    | with_reducible rfl
    | assumption
    | rfl
    | kp_flats
    | (show SqL _ _ _ _; first | assumption | (apply sqlOf; kp_flats) | (apply sqlSame; assumption; o_reads))
    | (show SqT _ _ _ _; first | assumption | (apply sqtOf; kp_flats) | (apply sqtAll; assumption) | (apply sqtSame; assumption; o_reads))
    | (show Cls _ _; first | skip)
    | (show NoAttr _ _ _; first | skip)
    | (apply Or.inl; o_reads)
    | (apply Or.inr; o_reads)
    | (apply And.intro; (next => o_reads); o_reads)
    | (apply Exists.intro; o_reads)
    | exact Nat.le_of_ble_eq_true rfl
    | exact Nat.succ_ne_zero _
    | (show Fr _ _; kba_ints)
    | (show Same _ _; kd_subs)
    | (show Kp _ _ _; kxs_still)
    | (show (_ : Nat) ≤ _; simp only [List.length_append, List.length_map, List.length_cons, List.length_nil, List.length_take, List.length_drop, List.length_replicate, List.length_range, sizeLine_eq]; omega)
    | (show _ = none; apply Fr.h; kba_ints)
    | (show Bag _ _; first | assumption | (apply bag_putF; assumption; o_reads) | (apply bag_neF; (next => kbo_bools); o_reads) | (apply bag_kpR; assumption; (next => kaf_pre); o_reads))
    | omega
    | decide)
local macro_rules
  | `(tactic| o_readsAll) => `(tactic| repeat (first
    | (refine fun (pNew : Addr) (nNew : _ = none) => ?_; replace nNew := Fr.mk nNew)
    | (refine fun (xNew dNew : Addr) (nNew : _ = none) (mNew : _ = none) (eNew : dNew ≠ xNew) => ?_; replace nNew := Fr.mk nNew; replace mNew := Fr.mk mNew)
    | (apply And.intro; next => o_reads)
    | apply Exists.intro (α := V)
    | apply Exists.intro (α := Addr)
    | apply Exists.intro (α := Int)
    | apply Exists.intro (α := Bool)
    | apply Exists.intro (α := List V)
    | apply Exists.intro (α := List Nat)
    | apply Exists.intro (α := List (Str × V))
    | apply Exists.intro (α := List _)
    | apply Exists.intro (α := Str)
    | apply Exists.intro (α := HO)
    | apply Exists.intro (α := Sp)
    | apply Exists.intro (α := VK)))
set_option hygiene false in
local macro_rules
  | `(tactic| kba_ints) => `(tactic| first
    | assumption
    | (apply frUp; (first | assumption | (apply Ne.symm; assumption)); kba_ints)
    | (apply noneOf; assumption; intro oF eF; apply Exists.intro; kp_flats)
    | (apply frUp; (next => kbo_bools); kba_ints))
set_option hygiene false in
local macro_rules
  | `(tactic| kxs_still) => `(tactic| first
    | assumption
    | exact kp_refl _ _
    | (apply kp_newF; assumption; kxs_still)
    | (apply kp_new; assumption; kxs_still)
    | (apply kp_up; (next => o_fieldsN); kxs_still)
    | (apply kp_new; (next => kba_ints); kxs_still)
    | (apply kp_sameR; assumption; kxs_still)
    | (apply kp_transR; assumption; kxs_still)
    | (apply kp_freshR; assumption; (next => kaf_suf); kxs_still))
set_option hygiene false in
local macro_rules
  | `(tactic| kaf_suf) => `(tactic| first
    | assumption
    | exact subNil
    | (apply subCons; (first | (apply Or.inl; o_fieldsN) | (apply Or.inr; kba_ints)); kaf_suf)
    | (apply subApp; (next => kaf_suf); kaf_suf))
set_option hygiene false in
local macro_rules
  | `(tactic| o_fieldsN) => `(tactic| first
    | assumption
    | exact memA
    | (apply memB; o_fieldsN)
    | (apply memL; o_fieldsN)
    | (apply memR; o_fieldsN))
set_option hygiene false in
local macro_rules
  | `(tactic| kd_subs) => `(tactic| first
    | assumption
    | exact Same.refl _
    | (apply same_putF; assumption; kd_subs)
    | (apply same_putG; assumption; kd_subs)
    | (apply same_putF; (next => kba_ints); kd_subs)
    | (apply same_transR; assumption; kd_subs))

set_option pp.maxSteps 900
section
variable {P : Program} {w : World} {K : PySem.W.Frag} {mg : Str → Option Value} {base : Heap}
theorem ok_hist (T : Txt K mg) : FnOk P w K mg base CX0 3 T.f_l_history T.d_l_history ["_law_bag_here", "_law_most"] spHist := by
  have G_l_take := ok_takeK (P := P) (w := w) (base := base) T
  refine T.F_l_history.ok sc_l_history (fun vs H Q E h => ?_) (fun cdv A outer s H vs Q E hr h => ?_)
  · obtain ⟨bag, most, rfl, _⟩ := h
    rfl
  · obtain ⟨bag, most, rfl, hm, hb, q⟩ := h
    refine ⟨_, (pss_cons (ps_par (i := 2) (j := 3) (by rfl) sc_l_history.nd rfl rfl (by decide) rfl rfl (pa_cons (pe_lst pa_nil) (pa_cons (pe_lst pa_nil) pa_nil)) (by rfl))
      (pss_cons (ps_for PassesOwn.never rfl (pi_range1 (by rfl) T.z_range (pa_cons (pe_call G_l_take (hr.mono (by omega)) rfl T.g_l_take T.F_l_take.kp T.b_l_take .nil pass0 (pa_cons (pv 0) (pa_cons (pe_op op_add (pv 1) pe_int) pa_nil))) pa_nil)) (pg_name (i := 4) sc_l_history.nd rfl (.inl rfl)) (pss_cons (ps_set (i := 5) sc_l_history.nd rfl (.inl rfl) (pe_call G_l_take (hr.mono (by omega)) rfl T.g_l_take T.F_l_take.kp T.b_l_take .nil pass0 (pa_cons (pv 0) (pa_cons pe_int pa_nil))))
        (pss_cons (ps_set (i := 6) sc_l_history.nd rfl (.inl rfl) (pe_ix (r := rIxL K) ix_list (pe_lst (pa_cons pe_non (pa_cons pe_bl (pa_cons (pe_tup pa_nil) (pa_cons (pe_lst pa_nil) (pa_cons pe_str (pa_cons (pe_tup (pa_cons pe_str (pa_cons pe_int pa_nil))) (pa_cons pe_int pa_nil)))))))) (pe_call G_l_take (hr.mono (by omega)) rfl T.g_l_take T.F_l_take.kp T.b_l_take .nil pass0 (pa_cons (pv 0) (pa_cons pe_int pa_nil))) (fun _ _ => rfl)))
        (pss_one (ps_if (pt_cmpR op_lt (pv 5) pe_int (nomark _)) (pss_cons (ps_expr (pe_bm PySem.F.plainAttrs_list PySem.F.slot_list_append PySem.F.type_list_append mt_append (pv 2) (pa_cons (pe_tup (pa_cons pe_str (pa_cons (pv 6) pa_nil))) pa_nil)))
          (pss_one (ps_expr (pe_bm PySem.F.plainAttrs_list PySem.F.slot_list_append PySem.F.type_list_append mt_append (pv 3) (pa_cons (pv 4) pa_nil))))) (pss_one (ps_if (PW.pt (pw_and (pt_cmpR op_lt (pv 5) pe_int (nomark _)) (pw_and1 (pt_cmpR (op_neNil hr.units) (pv 3) (pe_lst pa_nil) (nomark _))))) (pss_one (ps_expr (pe_bm PySem.F.plainAttrs_list PySem.F.slot_list_append PySem.F.type_list_append mt_append (pv 2) (pa_cons (pe_tup (pa_cons pe_str (pa_cons (pe_bm PySem.F.plainAttrs_list PySem.F.slot_list_pop PySem.F.type_list_pop mt_popAt (pv 3) (pa_cons (pe_call G_l_take (hr.mono (by omega)) rfl T.g_l_take T.F_l_take.kp T.b_l_take .nil pass0 (pa_cons (pv 0) (pa_cons (pe_callB call_len_seq (by rfl) T.z_len (by decide +kernel) (pa_cons (pv 3) pa_nil)) pa_nil))) pa_nil)) pa_nil))) pa_nil)))) (pss_one (ps_expr (pe_bm PySem.F.plainAttrs_list PySem.F.slot_list_append PySem.F.type_list_append mt_append (pv 2) (pa_cons (pe_tup (pa_cons pe_str (pa_cons (pv 6) pa_nil))) pa_nil)))))))))))
      (pss_one (ps_ret (pv 2))))), ?_⟩
    refine ⟨Nat.zero_le _, fun hc nhc => ⟨Nat.zero_le _, fun pc npc => ⟨_, _, rfl, ?_⟩⟩⟩
    have fh := Fr.mk nhc
    have fp := Fr.mk npc
    have s1 := (same_newF (o := .lst []) fh).trans (same_newF (o := .lst []) fp)
    have e1 : upd (upd H hc (.lst [])) pc (.lst []) hc = some (.lst []) := atNew fp upd_same
    have nhp : hc ≠ pc := ne_of_none (H := upd H hc (.lst [])) upd_same npc
    have j0 : JH H bag hc pc [] [] (upd (upd H hc (.lst [])) pc (.lst [])) := ⟨⟨[], e1, HisAt.nil, HD.nil⟩, upd_same, hok_of True.intro, bag_kpR (kp_same (cs := []) s1) not_nil hb, kp_same s1, nhp, bag_ne hb nhc, bag_ne (bag_putF fh hb) npc, fh, Fr.mk ((same_newF (o := .lst []) fh).free npc)⟩
    generalize upd (upd H hc (.lst [])) pc (.lst []) = H1 at j0 ⊢
    refine ⟨_, rfl, _, rfl, _, _, rfl, rfl, bag, (most : Int) + 1, rfl, j0.bg, by omega, by omega, fun r H2 r0 r1 b2 k2 => ⟨_, rfl, by omega, by omega, ?_⟩⟩
    have j2 := j0.take k2 b2
    refine for_range (n := r.toNat) (fun i σ H' => ∃ hs ds y4 y5 y6, σ = [some (.ref bag), some (.int (most : Int)), some (.ref hc), some (.ref pc), y4, y5, y6] ∧ hs.length = i ∧ JH H bag hc pc hs ds H') ⟨[], [], _, _, _, rfl, rfl, j2⟩ ?_ ?_
    · rintro i σ H3 hi ⟨hs, ds, y4, y5, y6, rfl, hl, j3⟩
      refine ⟨_, rfl, bag, 6, rfl, j3.bg, by decide, by decide, fun road H4 q0 q1 b4 k4 => ?_⟩
      have j4 := j3.take k4 b4
      have hli : (0 : Int) + (i : Int) = (hs.length : Int) := by omega
      have lp := pres_len (hs := hs) (k := hs.length)
      refine pGN ?_
      rw [hli]
      refine ⟨Nat.zero_le _, fun u1 nu1 => ⟨Nat.zero_le _, fun u2 nu2 => ⟨le2, fun u3 nu3 => ⟨(by decide : 7 ≤ sizeLine), fun u4 nu4 => ?_⟩⟩⟩⟩
      have f1 := Fr.mk nu1
      have f2 := Fr.mk nu2
      have f3 := Fr.mk nu3
      have f4 := Fr.mk nu4
      have sa := same_newF (o := .tup []) f1
      have sb := same_newF (o := .lst []) f2
      have sc := same_newF (o := .tup [.str "add", .int 0]) f3
      have sd := same_newF (o := .lst [V.non, V.bl true, .ref u1, .ref u2, .str "x", .ref u3, .int 7]) f4
      have n2 : u2 ∉ [bag, hc, pc] := by
        obtain ⟨bx, hbx⟩ := bag_lst j4.bg
        obtain ⟨xs0, hx0, _⟩ := j4.lh
        refine not_cons (ne_of_none (sa _ _ hbx) nu2).symm (not_cons (ne_of_none (sa _ _ hx0) nu2).symm (not_cons (ne_of_none (sa _ _ j4.pr) nu2).symm not_nil))
      have s4 := ((sa.trans sb).trans sc).trans sd
      have j5 := j4.same s4
      have t1 : Th [bag, hc, pc] (upd (upd (upd (upd H4 u1 (.tup [])) u2 (.lst [])) u3 (.tup [.str "add", .int 0])) u4 (.lst [V.non, V.bl true, .ref u1, .ref u2, .str "x", .ref u3, .int 7])) (.ref u1) (.tuple []) := .inr (.inr (.inl ⟨u1, rfl, sd _ _ (sc _ _ (sb _ _ upd_same)), rfl⟩))
      have t2 : Th [bag, hc, pc] (upd (upd (upd (upd H4 u1 (.tup [])) u2 (.lst [])) u3 (.tup [.str "add", .int 0])) u4 (.lst [V.non, V.bl true, .ref u1, .ref u2, .str "x", .ref u3, .int 7])) (.ref u2) (.list []) := .inr (.inr (.inr (.inl ⟨u2, rfl, sd _ _ (sc _ _ upd_same), n2, rfl⟩)))
      have t3 : Th [bag, hc, pc] (upd (upd (upd (upd H4 u1 (.tup [])) u2 (.lst [])) u3 (.tup [.str "add", .int 0])) u4 (.lst [V.non, V.bl true, .ref u1, .ref u2, .str "x", .ref u3, .int 7])) (.ref u3) (.tuple [.str "add", .int 0]) := .inr (.inr (.inr (.inr (.inr (.inl ⟨u3, rfl, sd _ _ upd_same, rfl⟩)))))
      have e4 : upd (upd (upd (upd H4 u1 (.tup [])) u2 (.lst [])) u3 (.tup [.str "add", .int 0])) u4 (.lst [V.non, V.bl true, .ref u1, .ref u2, .str "x", .ref u3, .int 7]) u4 = some (.lst [V.non, V.bl true, .ref u1, .ref u2, .str "x", .ref u3, .int 7]) := upd_same
      have n4 : u4 ≠ bag := bag_ne (bag_kpR (kp_same (cs := []) ((sa.trans sb).trans sc)) not_nil j4.bg) nu4
      generalize upd (upd (upd (upd H4 u1 (.tup [])) u2 (.lst [])) u3 (.tup [.str "add", .int 0])) u4 (.lst [V.non, V.bl true, .ref u1, .ref u2, .str "x", .ref u3, .int 7]) = H5 at s4 j5 t1 t2 t3 e4 ⊢
      refine ⟨_, rfl, bag, 7, rfl, j5.bg, by decide, by decide, fun r7 H6 p0 p1 b6 k6 => ?_⟩
      have j6 := j5.take k6 b6
      obtain ⟨v, hv, hcase⟩ := seven (a := .ref u1) (b := .ref u2) (c := .ref u3) p0 p1
      have tm : ∀ {x : V} {d : PyData}, Th [bag, hc, pc] H5 x d → Th [bag, hc, pc] H6 x d := fun h => h.kp k6 (bag_mu j5.bg) (subCons memA subNil)
      obtain ⟨dv, hth⟩ : ∃ dv, Th [bag, hc, pc] H6 v dv := by
        rcases hcase with rfl | rfl | rfl | rfl | rfl | rfl | rfl
        · exact ⟨_, .inl ⟨rfl, rfl⟩⟩
        · exact ⟨_, .inr (.inl ⟨rfl, rfl⟩)⟩
        · exact ⟨_, tm t1⟩
        · exact ⟨_, tm t2⟩
        · exact ⟨_, .inr (.inr (.inr (.inr (.inl ⟨rfl, rfl⟩))))⟩
        · exact ⟨_, tm t3⟩
        · exact ⟨_, .inr (.inr (.inr (.inr (.inr (.inr ⟨rfl, rfl⟩)))))⟩
      refine ⟨u4, _, _, v, rfl, rfl, sqlOf (k6.at_ _ _ e4 (not_cons n4 not_nil)), hv, pGN ?_⟩
      clear e4 t1 t2 t3 tm hcase hv s4 k6 j5
      refine ⟨_, rfl, _, _, rfl, rfl, _, rfl, ite2 (fun _ => ?_) (fun _ => ?_)⟩
      · obtain ⟨xs, ex, hx, hdx⟩ := j6.lh
        have lx := hx.len
        refine ⟨_, rfl, .inl ⟨rfl, _, sqlOf ex⟩, _, rfl, le2, fun t nt => ?_⟩
        have ft := Fr.mk nt
        have nth : hc ≠ t := ne_of_none ex nt
        have ntp : pc ≠ t := ne_of_none j6.pr nt
        refine ⟨hc, xs, _, rfl, rfl, atNew ft ex, by rw [sizeLine_eq]; omega, ?_⟩
        have ep6 : upd (upd H6 t (.tup [.str "add", v])) hc (.lst (xs ++ [.ref t])) pc = some (.lst ((presU hs hs.length).map nV)) := by rw [upd_ne j6.n1.symm, upd_ne ntp]; exact j6.pr
        refine ⟨_, rfl, .inl ⟨rfl, _, sqlOf ep6⟩, _, rfl, pc, _, _, rfl, rfl, ep6, by rw [List.length_map, sizeLine_eq]; omega, ?_⟩
        have k9 : Kp [hc, pc] H6 (upd (upd (upd H6 t (.tup [.str "add", v])) hc (.lst (xs ++ [.ref t]))) pc (.lst ((presU hs hs.length).map nV ++ [.int (hs.length : Int)]))) := kp_up (memB memA) (kp_up memA (kp_new ft (kp_refl _ _)))
        have et : upd (upd (upd H6 t (.tup [.str "add", v])) hc (.lst (xs ++ [.ref t]))) pc (.lst ((presU hs hs.length).map nV ++ [.int (hs.length : Int)])) t = some (.tup [.str "add", v]) := by rw [upd_ne ntp.symm, upd_ne nth.symm]; exact upd_same
        have m6 : Mu H6 [hc, pc] := mu_lst ex (mu_lst j6.pr mu_nil)
        refine ⟨hs ++ [.add v], ds ++ [.tuple [.str "add", dv]], _, _, _, rfl, by rw [List.length_append, hl]; rfl, j6.more1 (l := presU hs hs.length ++ [hs.length]) ex et ⟨t, "add", v, dv, rfl, et, rfl, .inl rfl, .inl (hth.kp k9 m6 (subCons (memB memA) (subCons (memB (memB memA)) subNil)))⟩ (fun i z => by cases z) rfl k9 (by rw [upd_ne j6.n1]; exact upd_same) (by rw [upd_same, List.map_append]; rfl)⟩
      · refine if_by2 (fun b H7 => Same H6 H7 ∧ (b = true → presU hs hs.length ≠ [])) (fun Q qb => ?_) ?_ ?_
        · refine ans_and (J := fun b H7 => Same H6 H7 ∧ (b = true → presU hs hs.length ≠ [])) (ans_of fun Q q => ⟨_, rfl, _, _, rfl, rfl, _, rfl, q⟩) (fun _ h => ⟨by rw [h.2]; exact Same.refl _, fun z => nomatch z⟩) (fun H'' h => ?_) Q qb
          obtain ⟨_, rfl⟩ := h
          refine fun Q q => ⟨_, rfl, Nat.zero_le _, fun z nz => ⟨pc, z, _, rfl, rfl, sqlOf (same_newF (Fr.mk nz) _ _ j6.pr), sqlOf upd_same, _, rfl, q _ _ ⟨same_newF (Fr.mk nz), fun e => ?_⟩⟩⟩
          intro y
          rw [y] at e
          cases e
        · rintro H7 ⟨s7, hne⟩
          have hne := hne rfl
          have j7 := j6.same s7
          obtain ⟨xs, ex, hx, hdx⟩ := j7.lh
          have lx := hx.len
          have hpos : 0 < (presU hs hs.length).length := List.length_pos_iff.mpr hne
          have lpm : ((presU hs hs.length).map nV).length = (presU hs hs.length).length := List.length_map ..
          refine ⟨_, rfl, .inl ⟨rfl, _, sqlOf ex⟩, _, rfl, .inl ⟨rfl, _, sqlOf j7.pr⟩, _, rfl, _, rfl, pc, _, rfl, .inl (sqlOf j7.pr), bag, _, rfl, j7.bg, by omega, by omega, fun r H8 r0' r1' b8 k8 => ?_⟩
          have j8 := j7.take k8 b8
          obtain ⟨q, rfl⟩ := Int.eq_ofNat_of_zero_le r0'
          have hq : q < (presU hs hs.length).length := by omega
          have hget : (presU hs hs.length)[q]? = some ((presU hs hs.length)[q]) := List.getElem?_eq_getElem hq
          generalize (presU hs hs.length)[q] = x at hget
          have hxl : x < hs.length := (pres_lt (hs := hs) x (List.mem_of_getElem? hget)).1
          have ex8 : H8 hc = some (.lst xs) := k8.at_ _ _ ex (not_cons j7.n2 not_nil)
          refine ⟨pc, _, _, q, nV x, rfl, rfl, j8.pr, by omega, by omega, seq_at (by omega), by rw [List.getElem?_map, hget]; rfl, le2, fun t nt => ?_⟩
          have ft := Fr.mk nt
          have nhp := j8.n1
          refine ⟨hc, xs, _, rfl, rfl, ?_, by rw [sizeLine_eq]; omega, ?_⟩
          · exact atNew ft (by rw [upd_ne nhp]; exact ex8)
          have nth : t ≠ hc := fun z => by
            rw [z, upd_ne nhp, ex8] at nt
            cases nt
          have ntp : t ≠ pc := fun z => by
            rw [z, upd_same] at nt
            cases nt
          have et : upd (upd (upd H8 pc (.lst (((presU hs hs.length).map nV).eraseIdx q))) t (.tup [.str "remove", nV x])) hc (.lst (xs ++ [.ref t])) t = some (.tup [.str "remove", nV x]) := by rw [upd_ne nth]; exact upd_same
          refine ⟨hs ++ [.rem x], ds ++ [.tuple [.str "remove", .int (x : Int)]], _, _, _, rfl, by rw [List.length_append, hl]; rfl, j8.more1 (l := (presU hs hs.length).eraseIdx q) ex8 et ⟨t, "remove", nV x, _, rfl, et, rfl, .inr (.inl rfl), .inr ⟨x, by omega, rfl, rfl⟩⟩ (fun i z => by cases z; exact List.mem_of_getElem? hget) (pres_erase hget) (kp_up memA (kp_new ft (kp_up (memB memA) (kp_refl _ _)))) upd_same ?_⟩
          rw [upd_ne nhp.symm, upd_ne ntp.symm, upd_same, map_erase]
        · rintro H7 ⟨s7, _⟩
          have j7 := j6.same s7
          obtain ⟨xs, ex, hx, hdx⟩ := j7.lh
          have lx := hx.len
          refine ⟨_, rfl, .inl ⟨rfl, _, sqlOf ex⟩, _, rfl, le2, fun t nt => ?_⟩
          have ft := Fr.mk nt
          have nth : hc ≠ t := ne_of_none ex nt
          have ntp : pc ≠ t := ne_of_none j7.pr nt
          refine ⟨hc, xs, _, rfl, rfl, atNew ft ex, by rw [sizeLine_eq]; omega, ?_⟩
          have k9 : Kp [hc, pc] H7 (upd (upd H7 t (.tup [.str "ask", v])) hc (.lst (xs ++ [.ref t]))) := kp_up memA (kp_new ft (kp_refl _ _))
          have et : upd (upd H7 t (.tup [.str "ask", v])) hc (.lst (xs ++ [.ref t])) t = some (.tup [.str "ask", v]) := by rw [upd_ne nth.symm]; exact upd_same
          have m7 : Mu H7 [hc, pc] := mu_lst ex (mu_lst j7.pr mu_nil)
          have th7 := hth.kp (ds := []) (kp_same s7) mu_nil (fun _ z => nomatch z)
          refine ⟨hs ++ [.ask v], ds ++ [.tuple [.str "ask", dv]], _, _, _, rfl, by rw [List.length_append, hl]; rfl, j7.more1 (l := presU hs hs.length) ex et ⟨t, "ask", v, dv, rfl, et, rfl, .inr (.inr rfl), .inl (th7.kp k9 m7 (subCons (memB memA) (subCons (memB (memB memA)) subNil)))⟩ (fun i z => by cases z) rfl k9 upd_same (by rw [upd_ne j7.n1.symm, upd_ne ntp]; exact j7.pr)⟩
    · rintro σ H3 ⟨hs, ds, y4, y5, y6, rfl, hl, j3⟩
      exact ⟨_, rfl, q hc hs ds _ H3 j3.kp j3.bg j3.f1 j3.lh j3.ok (by omega)⟩
end
end Ob

set_option Elab.async false
set_option linter.all false
set_option maxRecDepth 100000
set_option maxHeartbeats 1000000
namespace Ob
open PySem PySem.Spec PyProof.Rows L2
open LamX (Tabs TabB TabS ExtN)

set_option hygiene false in
local macro_rules
  | `(tactic| kp_flats) => `(tactic| first
    | assumption
    | exact upd_same
    | (apply atNew; assumption; kp_flats)
    | (apply atNe; (next => kbo_bools); kp_flats)
    | (apply atSame; assumption; kp_flats)
    | (apply atKp; assumption; (next => kaf_pre); kp_flats))
set_option hygiene false in
local macro_rules
  | `(tactic| kaf_pre) => `(tactic| first
    | assumption
    | exact not_nil
    | (apply not_cons; (next => kbo_bools); kaf_pre)
    | (apply not_app; (next => kaf_pre); kaf_pre))
set_option hygiene false in
local macro_rules
  | `(tactic| kbo_bools) => `(tactic| first
    | assumption
    | (apply Ne.symm; assumption)
    | (apply neN; assumption; kp_flats)
    | (apply neN'; assumption; kp_flats))
set_option hygiene false in
local macro_rules
  | `(tactic| o_reads) => `(tactic| first
    | with_reducible rfl
    | assumption
    | rfl
    | kp_flats
    | (show SqL _ _ _ _; first | assumption | (apply sqlOf; kp_flats) | (apply sqlSame; assumption; o_reads))
    | (show SqT _ _ _ _; first | assumption | (apply sqtOf; kp_flats) | (apply sqtAll; assumption) | (apply sqtSame; assumption; o_reads))
    | (show Cls _ _; first | skip)
    | (show NoAttr _ _ _; first | skip)
    | (apply Or.inl; o_reads)
    | (apply Or.inr; o_reads)
    | (apply And.intro; (next => o_reads); o_reads)
    | (apply Exists.intro; o_reads)
    | exact Nat.le_of_ble_eq_true rfl
    | exact Nat.succ_ne_zero _
    | (show Fr _ _; kba_ints)
    | (show Same _ _; kd_subs)
    | (show Kp _ _ _; kxs_still)
    | (show (_ : Nat) ≤ _; simp only [List.length_append, List.length_map, List.length_cons, List.length_nil, List.length_take, List.length_drop, List.length_replicate, List.length_range, sizeLine_eq]; omega)
    | (show _ = none; apply Fr.h; kba_ints)
    | (show Bag _ _; first | assumption | (apply bag_putF; assumption; o_reads) | (apply bag_neF; (next => kbo_bools); o_reads) | (apply bag_kpR; assumption; (next => kaf_pre); o_reads))
    | omega
    | decide)
local macro_rules
  | `(tactic| o_readsAll) => `(tactic| repeat (first
    | (refine fun (pNew : Addr) (nNew : _ = none) => ?_; replace nNew := Fr.mk nNew)
    | (refine fun (xNew dNew : Addr) (nNew : _ = none) (mNew : _ = none) (eNew : dNew ≠ xNew) => ?_; replace nNew := Fr.mk nNew; replace mNew := Fr.mk mNew)
    | (apply And.intro; next => o_reads)
    | apply Exists.intro (α := V)
    | apply Exists.intro (α := Addr)
    | apply Exists.intro (α := Int)
    | apply Exists.intro (α := Bool)
    | apply Exists.intro (α := List V)
    | apply Exists.intro (α := List Nat)
    | apply Exists.intro (α := List (Str × V))
    | apply Exists.intro (α := List _)
    | apply Exists.intro (α := Str)
    | apply Exists.intro (α := HO)
    | apply Exists.intro (α := Sp)
    | apply Exists.intro (α := VK)))
set_option hygiene false in
local macro_rules
  | `(tactic| kba_ints) => `(tactic| first
    | assumption
    | (apply frUp; (first | assumption | (apply Ne.symm; assumption)); kba_ints)
    | (apply noneOf; assumption; intro oF eF; apply Exists.intro; kp_flats)
    | (apply frUp; (next => kbo_bools); kba_ints))
set_option hygiene false in
local macro_rules
  | `(tactic| kxs_still) => `(tactic| first
    | assumption
    | exact kp_refl _ _
    | (apply kp_newF; assumption; kxs_still)
    | (apply kp_new; assumption; kxs_still)
    | (apply kp_up; (next => o_fieldsN); kxs_still)
    | (apply kp_new; (next => kba_ints); kxs_still)
    | (apply kp_sameR; assumption; kxs_still)
    | (apply kp_transR; assumption; kxs_still)
    | (apply kp_freshR; assumption; (next => kaf_suf); kxs_still))
set_option hygiene false in
local macro_rules
  | `(tactic| kaf_suf) => `(tactic| first
    | assumption
    | exact subNil
    | (apply subCons; (first | (apply Or.inl; o_fieldsN) | (apply Or.inr; kba_ints)); kaf_suf)
    | (apply subApp; (next => kaf_suf); kaf_suf))
set_option hygiene false in
local macro_rules
  | `(tactic| o_fieldsN) => `(tactic| first
    | assumption
    | exact memA
    | (apply memB; o_fieldsN)
    | (apply memL; o_fieldsN)
    | (apply memR; o_fieldsN))
set_option hygiene false in
local macro_rules
  | `(tactic| kd_subs) => `(tactic| first
    | assumption
    | exact Same.refl _
    | (apply same_putF; assumption; kd_subs)
    | (apply same_putG; assumption; kd_subs)
    | (apply same_putF; (next => kba_ints); kd_subs)
    | (apply same_transR; assumption; kd_subs))

set_option pp.maxSteps 900
theorem gone_len {hs : List HEv} {i k : Nat} : (goneU hs i k).length ≤ k := by
  unfold goneU
  refine Nat.le_trans (List.length_filter_le _ _) ?_
  rw [List.length_range]
  exact Nat.le_refl _
section
variable {P : Program} {w : World} {K : PySem.W.Frag} {mg : Str → Option Value} {base : Heap}
def spEnds : Sp := fun vs H Q _ => ∃ (ha : Addr) (hs : List HEv), vs = [.ref ha] ∧ LH H ha hs ∧ HOk hs ∧ hs.length ≤ 100 ∧ ∀ o H', Same H H' → Fr H o → PL H' o (endsU hs hs.length) → Q (.ref o) H'
theorem ok_ends (T : Txt K mg) : FnOk P w K mg base CX0 1 T.f_l_ends T.d_l_ends ["_law_history_here"] spEnds := by
  refine T.F_l_ends.ok sc_l_ends (fun vs H Q E h => ?_) (fun cdv A outer s H vs Q E hr h => ?_)
  · obtain ⟨ha, hs, rfl, _⟩ := h
    rfl
  · obtain ⟨ha, hs, rfl, ⟨xs, hha, hh⟩, hok, hl, q⟩ := h
    refine ⟨_, (pss_cons (ps_set (i := 1) sc_l_ends.nd rfl (.inl rfl) (pe_lst pa_nil))
      (pss_cons (ps_for PassesOwn.never rfl (pi_enum (by rfl) T.z_enumerate (pa_cons (pv 0) pa_nil)) (pg_tup (by rfl) (pgs_cons (pg_name (i := 2) sc_l_ends.nd rfl (.inr rfl)) (pgs_cons (pg_name (i := 3) sc_l_ends.nd rfl (.inl rfl)) pgs_nil))) (pss_one (ps_if (pt_cmpR op_eq (pe_ix (r := rIxT K) ix_tup (pv 3) pe_int (fun _ _ => rfl)) pe_str (nomark _)) (pss_cons (ps_setLc (i := 4) (own := [("_law_place", 6), ("_law_other", 5)]) (g := (gTup K 2 (gCons (gName 6) (gCons (gName 5) gNil))))  rfl sc_l_ends.nd rfl rfl (sw_true rfl rfl rfl (by decide +kernel)) (pi_enum (by rfl) T.z_enumerate (pa_cons (pv 0) pa_nil)) (blkOk_by (N := n_l_ends) (sc := defScope s_l_ends) (by decide +kernel)) (fun _ _ _ _ _ => (pg_tup (by rfl) (pgs_cons (pg_name (i := 6) sc_l_ends.nd rfl (.inl rfl)) (pgs_cons (pg_name (i := 5) sc_l_ends.nd rfl (.inl rfl)) pgs_nil)))) (fun _ _ _ _ _ => (pts_one (PW.pt (pw_and (pt_cmpR op_eq (pe_ix (r := rIxT K) ix_tup (pv 5) pe_int (fun _ _ => rfl)) pe_str (nomark _)) (pw_and1 (pt_cmpR op_eq (pe_ix (r := rIxT K) ix_tup (pv 5) pe_int (fun _ _ => rfl)) (pv 2) (nomark _))))))) (fun _ _ _ _ _ => (pv 6)))
          (pss_one (ps_expr (pe_bm PySem.F.plainAttrs_list PySem.F.slot_list_append PySem.F.type_list_append mt_append (pv 1) (pa_cons (pe_tup (pa_cons (pv 2) (pa_cons (pe_callB (cr_min rfl) (by rfl) T.z_min (by decide +kernel) (pa_cons (pe_op op_cat (pv 4) (pe_lst (pa_cons (pe_callB call_len_seq (by rfl) T.z_len (by decide +kernel) (pa_cons (pv 0) pa_nil)) pa_nil))) pa_nil)) pa_nil))) pa_nil))))) pss_nil)))
      (pss_one (ps_ret (pv 1))))), ?_⟩
    refine ⟨Nat.zero_le _, fun fo nfo => ?_⟩
    have ff := Fr.mk nfo
    have s1 := same_newF (o := .lst []) ff
    refine ⟨_, rfl, ha, xs, rfl, sqlOf (s1 _ _ hha), ?_⟩
    refine for_it (walk_enum (K := K) (a := ha) (xs := xs)) (fun k σ H' => ∃ y2 y3 y4 y5 y6, σ = [some (.ref ha), some (.ref fo), y2, y3, y4, y5, y6] ∧ Same H H' ∧ PL H' fo (((List.range k).filter (atB hs HEv.isAdd)).map fun i => (i, endG hs i hs.length))) ⟨_, _, _, _, _, rfl, s1, PL.nil⟩ (fun k σ H' _ ⟨_, _, _, _, _, _, z, _⟩ => sqlOf (z _ _ hha)) ?_ ?_
    · rintro k x σ H1 H2 hk ⟨y2, y3, y4, y5, y6, rfl, s3, pl⟩ ⟨T', vx, vy, rfl, nT, rfl, hx, hy⟩
      obtain rfl : V.int ((k : Nat) : Int) = vx := Option.some.inj hx
      have hkl : k < hs.length := by rw [← hh.len]; exact hk
      obtain ⟨e, hee⟩ : ∃ e, hs[k]? = some e := ⟨_, List.getElem?_eq_getElem hkl⟩
      obtain ⟨p, rfl, hte⟩ := hh.at_ k vy e hy hee
      have sT : Same H1 (upd H1 T' (.tup [.int (k : Int), .ref p])) := same_newF (Fr.mk nT)
      have eT : upd H1 T' (.tup [.int (k : Int), .ref p]) T' = some (.tup [.int (k : Int), .ref p]) := upd_same
      have s4 := s3.trans sT
      have pl4 := pl.same sT
      generalize upd H1 T' (.tup [.int (k : Int), .ref p]) = H4 at eT sT s4 pl4 ⊢
      have ht4 := s4 _ _ hte
      refine ⟨T', _, rfl, sqtOf eT, rfl, _, _, rfl, _, _, rfl, rfl, ?_⟩
      rw [flt_succ hee]
      refine ⟨_, rfl, p, _, 0, _, rfl, rfl, sqtOf ht4, atI_nat (j := 0) rfl, rfl, _, rfl, ?_⟩
      match e, ht4, hee with
      | .rem j, ht4, hee =>
        refine ifF (by show decide (V.str "remove" = V.str "add") = false; decide +kernel) ?_
        rw [if_neg (fun z => nomatch z), List.append_nil]
        exact ⟨_, _, _, _, _, rfl, s4, pl4⟩
      | .ask v, ht4, hee =>
        refine ifF (by show decide (V.str "ask" = V.str "add") = false; decide +kernel) ?_
        rw [if_neg (fun z => nomatch z), List.append_nil]
        exact ⟨_, _, _, _, _, rfl, s4, pl4⟩
      | .add v, ht4, hee =>
        refine ifT (by show decide (V.str "add" = V.str "add") = true; decide +kernel) ?_
        rw [if_pos (show HEv.isAdd (.add v) = true from rfl), List.map_append]
        refine ⟨_, rfl, ha, xs, rfl, sqlOf (s4 _ _ hha), fun D nD => ?_⟩
        have fD := Fr.mk nD
        refine lc_it (walk_enum (K := K) (a := ha) (xs := xs)) (fun i H' => Same H4 H' ∧ H' D = some (.lst ((goneU hs k i).map nV))) ⟨same_newF fD, upd_same⟩ (fun i H' _ z => sqlOf (z.1 _ _ (s4 _ _ hha))) ?_ ?_
        · rintro i x H5 H6 hi ⟨s5, eD⟩ ⟨T2, vx, vy, rfl, nT2, rfl, hx2, hy2⟩
          obtain rfl : V.int ((i : Nat) : Int) = vx := Option.some.inj hx2
          have hil : i < hs.length := by rw [← hh.len]; exact hi
          obtain ⟨e2, hee2⟩ : ∃ e, hs[i]? = some e := ⟨_, List.getElem?_eq_getElem hil⟩
          obtain ⟨p2, rfl, hte2⟩ := hh.at_ i vy e2 hy2 hee2
          have sT2 : Same H5 (upd H5 T2 (.tup [.int (i : Int), .ref p2])) := same_newF (Fr.mk nT2)
          have eT2 : upd H5 T2 (.tup [.int (i : Int), .ref p2]) T2 = some (.tup [.int (i : Int), .ref p2]) := upd_same
          have eD2 := sT2 _ _ eD
          have s6 := s5.trans sT2
          generalize upd H5 T2 (.tup [.int (i : Int), .ref p2]) = H7 at eT2 sT2 s6 eD2 ⊢
          have ht2 := s6 _ _ (s4 _ _ hte2)
          have hg : goneU hs k (i + 1) = goneU hs k i ++ (if e2.isRem k = true then [i] else []) := flt_succ hee2
          have gl := gone_len (hs := hs) (i := k) (k := i)
          refine ⟨T2, _, rfl, sqtOf eT2, rfl, _, _, rfl, _, _, rfl, rfl, rfl, ?_⟩
          rw [hg]
          refine pAnd ⟨_, rfl, p2, _, 0, _, rfl, rfl, sqtOf ht2, atI_nat (j := 0) rfl, rfl, _, rfl, ?_⟩
          match e2, ht2 with
          | .add v, ht2 =>
            refine ifF (by show decide (V.str "add" = V.str "remove") = false; decide +kernel) (ifF rfl ⟨s6, ?_⟩)
            rw [if_neg (fun z => nomatch z), List.append_nil]
            exact eD2
          | .ask v, ht2 =>
            refine ifF (by show decide (V.str "ask" = V.str "remove") = false; decide +kernel) (ifF rfl ⟨s6, ?_⟩)
            rw [if_neg (fun z => nomatch z), List.append_nil]
            exact eD2
          | .rem j, ht2 =>
            refine ifT (by show decide (V.str "remove" = V.str "remove") = true; decide +kernel) ?_
            refine ⟨_, rfl, p2, _, 1, _, rfl, rfl, sqtOf ht2, atI_nat (j := 1) rfl, _, rfl, rfl, _, rfl, ?_⟩
            by_cases c : j = k
            · refine ifT (decide_eq_true (by rw [c]; rfl)) ⟨_, rfl, _, eD2, by rw [List.length_map, sizeLine_eq]; omega, same_putG fD s6, ?_⟩
              rw [upd_same, if_pos (show HEv.isRem k (.rem j) = true from beq_iff_eq.mpr c), List.map_append]
              rfl
            · refine ifF (decide_eq_false fun z => c (by injection z with z; omega)) ⟨s6, ?_⟩
              rw [if_neg (show ¬ HEv.isRem k (.rem j) = true from fun z => c (eq_of_beq z)), List.append_nil]
              exact eD2
        · rintro H5 ⟨s5, eD⟩
          rw [hh.len] at eD
          have pl5 := pl4.same s5
          obtain ⟨ts, g1, g2, g3⟩ := pl5
          have gl := gone_len (hs := hs) (i := k) (k := hs.length)
          have s45 := s4.trans s5
          refine ⟨_, rfl, .inl ⟨rfl, _, sqlOf g1⟩, _, rfl, _, rfl, _, rfl, ha, xs, rfl, .inl (sqlOf (s45 _ _ hha)), (by decide : 1 ≤ sizeLine), fun z nz => ?_⟩
          have fz := Fr.mk nz
          have sz := same_newF (o := .lst [.int (xs.length : Int)]) fz
          refine ⟨D, z, _, _, rfl, rfl, sz _ _ eD, upd_same, by rw [List.length_map, sizeLine_eq]; show _ + 1 ≤ _; omega, fun c nc => ?_⟩
          have fc := Fr.mk nc
          have sc := same_newF (o := .lst ((goneU hs k hs.length).map nV ++ [.int (xs.length : Int)])) fc
          have ec : upd (upd H5 z (.lst [.int (xs.length : Int)])) c (.lst ((goneU hs k hs.length).map nV ++ [.int (xs.length : Int)])) c = some (.lst (((goneU hs k hs.length ++ [hs.length]).map fun i : Nat => (i : Int)).map V.int)) := by
            rw [upd_same, List.map_map, List.map_append, hh.len]
            rfl
          have s6 := sz.trans sc
          have g16 := s6 _ _ g1
          have g36 : ∀ (i : Nat) (t : Addr) (x : Nat × Nat), ts[i]? = some t → (((List.range k).filter (atB hs HEv.isAdd)).map fun i => (i, endG hs i hs.length))[i]? = some x → upd (upd H5 z (.lst [.int (xs.length : Int)])) c (.lst ((goneU hs k hs.length).map nV ++ [.int (xs.length : Int)])) t = some (.tup [.int (x.1 : Int), .int (x.2 : Int)]) := fun i t x a b => s6 _ _ (g3 i t x a b)
          generalize upd (upd H5 z (.lst [.int (xs.length : Int)])) c (.lst ((goneU hs k hs.length).map nV ++ [.int (xs.length : Int)])) = H6 at ec s6 g16 g36 ⊢
          refine ⟨c, _, rfl, sqlOf ec, ?_, fun m m1 m2 => ⟨le2, fun t nt => ?_⟩⟩
          · rw [List.length_map, List.length_append]
            exact Nat.succ_pos _
          obtain ⟨mn, hmn, rfl⟩ := List.mem_map.mp m1
          have hme : mn = endG hs k hs.length := gone_min (Nat.le_refl _) hmn fun y hy => by
            have := m2 _ (List.mem_map.mpr ⟨y, hy, rfl⟩)
            omega
          subst hme
          have ft := Fr.mk nt
          have lts : ts.length ≤ 100 := by
            rw [g2, List.length_map]
            refine Nat.le_trans (List.length_filter_le _ _) ?_
            rw [List.length_range]
            omega
          refine ⟨fo, _, _, rfl, rfl, atNew ft g16, by rw [List.length_map, sizeLine_eq]; omega, ?_⟩
          exact ⟨_, _, _, _, _, rfl, same_putG ff (s45.trans (s6.trans (same_newF ft))), PL.add (x := (k, endG hs k hs.length)) g16 g2 g36 nt⟩
    · rintro σ H1 ⟨y2, y3, y4, y5, y6, rfl, s3, pl⟩
      rw [hh.len, ← ends_gone hok (Nat.le_refl _)] at pl
      exact ⟨_, rfl, q fo H1 s3 ff pl⟩
end
end Ob

set_option Elab.async false
set_option linter.all false
set_option maxRecDepth 100000
set_option maxHeartbeats 1000000
namespace Ob
open PySem PySem.Spec PyProof.Rows L2
open LamX (Tabs TabB TabS ExtN)

set_option hygiene false in
local macro_rules
  | `(tactic| kp_flats) => `(tactic| first
    | assumption
    | exact upd_same
    | (apply atNew; assumption; kp_flats)
    | (apply atNe; (next => kbo_bools); kp_flats)
    | (apply atSame; assumption; kp_flats)
    | (apply atKp; assumption; (next => kaf_pre); kp_flats))
set_option hygiene false in
local macro_rules
  | `(tactic| kaf_pre) => `(tactic| first
    | assumption
    | exact not_nil
    | (apply not_cons; (next => kbo_bools); kaf_pre)
    | (apply not_app; (next => kaf_pre); kaf_pre))
set_option hygiene false in
local macro_rules
  | `(tactic| kbo_bools) => `(tactic| first
    | assumption
    | (apply Ne.symm; assumption)
    | (apply neN; assumption; kp_flats)
    | (apply neN'; assumption; kp_flats))
set_option hygiene false in
local macro_rules
  | `(tactic| o_reads) => `(tactic| first
    | with_reducible rfl
    | assumption
    | rfl
    | kp_flats
    | (show SqL _ _ _ _; first | assumption | (apply sqlOf; kp_flats) | (apply sqlSame; assumption; o_reads))
    | (show SqT _ _ _ _; first | assumption | (apply sqtOf; kp_flats) | (apply sqtAll; assumption) | (apply sqtSame; assumption; o_reads))
    | (show Cls _ _; first | skip)
    | (show NoAttr _ _ _; first | skip)
    | (apply Or.inl; o_reads)
    | (apply Or.inr; o_reads)
    | (apply And.intro; (next => o_reads); o_reads)
    | (apply Exists.intro; o_reads)
    | exact Nat.le_of_ble_eq_true rfl
    | exact Nat.succ_ne_zero _
    | (show Fr _ _; kba_ints)
    | (show Same _ _; kd_subs)
    | (show Kp _ _ _; kxs_still)
    | (show (_ : Nat) ≤ _; simp only [List.length_append, List.length_map, List.length_cons, List.length_nil, List.length_take, List.length_drop, List.length_replicate, List.length_range, sizeLine_eq]; omega)
    | (show _ = none; apply Fr.h; kba_ints)
    | (show Bag _ _; first | assumption | (apply bag_putF; assumption; o_reads) | (apply bag_neF; (next => kbo_bools); o_reads) | (apply bag_kpR; assumption; (next => kaf_pre); o_reads))
    | omega
    | decide)
local macro_rules
  | `(tactic| o_readsAll) => `(tactic| repeat (first
    | (refine fun (pNew : Addr) (nNew : _ = none) => ?_; replace nNew := Fr.mk nNew)
    | (refine fun (xNew dNew : Addr) (nNew : _ = none) (mNew : _ = none) (eNew : dNew ≠ xNew) => ?_; replace nNew := Fr.mk nNew; replace mNew := Fr.mk mNew)
    | (apply And.intro; next => o_reads)
    | apply Exists.intro (α := V)
    | apply Exists.intro (α := Addr)
    | apply Exists.intro (α := Int)
    | apply Exists.intro (α := Bool)
    | apply Exists.intro (α := List V)
    | apply Exists.intro (α := List Nat)
    | apply Exists.intro (α := List (Str × V))
    | apply Exists.intro (α := List _)
    | apply Exists.intro (α := Str)
    | apply Exists.intro (α := HO)
    | apply Exists.intro (α := Sp)
    | apply Exists.intro (α := VK)))
set_option hygiene false in
local macro_rules
  | `(tactic| kba_ints) => `(tactic| first
    | assumption
    | (apply frUp; (first | assumption | (apply Ne.symm; assumption)); kba_ints)
    | (apply noneOf; assumption; intro oF eF; apply Exists.intro; kp_flats)
    | (apply frUp; (next => kbo_bools); kba_ints))
set_option hygiene false in
local macro_rules
  | `(tactic| kxs_still) => `(tactic| first
    | assumption
    | exact kp_refl _ _
    | (apply kp_newF; assumption; kxs_still)
    | (apply kp_new; assumption; kxs_still)
    | (apply kp_up; (next => o_fieldsN); kxs_still)
    | (apply kp_new; (next => kba_ints); kxs_still)
    | (apply kp_sameR; assumption; kxs_still)
    | (apply kp_transR; assumption; kxs_still)
    | (apply kp_freshR; assumption; (next => kaf_suf); kxs_still))
set_option hygiene false in
local macro_rules
  | `(tactic| kaf_suf) => `(tactic| first
    | assumption
    | exact subNil
    | (apply subCons; (first | (apply Or.inl; o_fieldsN) | (apply Or.inr; kba_ints)); kaf_suf)
    | (apply subApp; (next => kaf_suf); kaf_suf))
set_option hygiene false in
local macro_rules
  | `(tactic| o_fieldsN) => `(tactic| first
    | assumption
    | exact memA
    | (apply memB; o_fieldsN)
    | (apply memL; o_fieldsN)
    | (apply memR; o_fieldsN))
set_option hygiene false in
local macro_rules
  | `(tactic| kd_subs) => `(tactic| first
    | assumption
    | exact Same.refl _
    | (apply same_putF; assumption; kd_subs)
    | (apply same_putG; assumption; kd_subs)
    | (apply same_putF; (next => kba_ints); kd_subs)
    | (apply same_transR; assumption; kd_subs))

set_option pp.maxSteps 900
/-- the parts that fit at x, to y more, below 2^i -/
def szL (x y i : Nat) : List Nat := ((List.range i).filter fun k => decide (x % 2 ^ k = 0) && decide (2 ^ k ≤ y)).map fun k => 2 ^ k
theorem szL_succ {x y i : Nat} : szL x y (i + 1) = szL x y i ++ (if x % 2 ^ i = 0 ∧ 2 ^ i ≤ y then [2 ^ i] else []) := by
  unfold szL
  rw [List.range_succ, List.filter_append, List.map_append, List.filter_cons, List.filter_nil]
  congr 1
  by_cases c : x % 2 ^ i = 0 ∧ 2 ^ i ≤ y
  · rw [if_pos c, if_pos (by rw [Bool.and_eq_true]; exact ⟨decide_eq_true c.1, decide_eq_true c.2⟩)]
    rfl
  · rw [if_neg c, if_neg (by rw [Bool.and_eq_true]; exact fun z => c ⟨of_decide_eq_true z.1, of_decide_eq_true z.2⟩)]
    rfl
theorem szL_len {x y i : Nat} : (szL x y i).length ≤ i := by
  unfold szL
  rw [List.length_map]
  refine Nat.le_trans (List.length_filter_le _ _) ?_
  rw [List.length_range]
  exact Nat.le_refl _
theorem szL_mem {x y : Nat} (hy : y ≠ 0) (hl : y ≤ 2000) : szP x y ∈ szL x y 12 := by
  obtain ⟨j, h1, h2, h3⟩ := szP_fit (a := x) hy
  have hj : j < 12 := by
    refine Nat.lt_of_not_le fun z => ?_
    have h4 : (2 : Nat) ^ 12 ≤ 2 ^ j := Nat.pow_le_pow_right (by decide) z
    have h5 : (2 : Nat) ^ 12 = 4096 := by decide
    omega
  rw [h1]
  refine List.mem_map.mpr ⟨j, List.mem_filter.mpr ⟨List.mem_range.mpr hj, ?_⟩, rfl⟩
  rw [Bool.and_eq_true]
  exact ⟨decide_eq_true h2, decide_eq_true h3⟩
theorem szL_max {x y m : Nat} (hy : y ≠ 0) (hl : y ≤ 2000) (h1 : m ∈ szL x y 12) (h2 : ∀ z ∈ szL x y 12, z ≤ m) : m = szP x y := by
  have h3 := h2 _ (szL_mem hy hl)
  obtain ⟨k, hk, rfl⟩ := List.mem_map.mp h1
  have h4 := (List.mem_filter.mp hk).2
  rw [Bool.and_eq_true] at h4
  have := szP_most hy (of_decide_eq_true h4.1) (of_decide_eq_true h4.2)
  omega
section
variable {P : Program} {w : World} {K : PySem.W.Frag} {mg : Str → Option Value} {base : Heap}
def spSplit : Sp := fun vs H Q _ => ∃ a r : Nat, vs = [.int (a : Int), .int ((a + r : Nat) : Int)] ∧ a + r ≤ 200 ∧ ∀ p H', Fr H p → Same H H' → PL H' p (pcF 201 a r) → Q (.ref p) H'
theorem ok_split (T : Txt K mg) : FnOk P w K mg base CX0 1 T.f_l_split T.d_l_split ["_law_first", "_law_end"] spSplit := by
  refine T.F_l_split.ok sc_l_split (fun vs H Q E h => ?_) (fun cdv A outer s H vs Q E hr h => ?_)
  · obtain ⟨a, r, rfl, _⟩ := h
    rfl
  · obtain ⟨a, r, rfl, h0, q⟩ := h
    refine ⟨_, (pss_cons (ps_set (i := 2) sc_l_split.nd rfl (.inl rfl) (pe_lst pa_nil))
      (pss_cons (ps_while PassesOwn.never (pt_cmpR op_lt (pv 0) (pv 1) (nomark _)) (pss_cons (ps_setLc (i := 3) (own := [("_law_k", 4)]) (g := gName 4)  rfl sc_l_split.nd rfl rfl (sw_true rfl rfl rfl (by decide +kernel)) (pi_range1 (by rfl) T.z_range (pa_cons pe_int pa_nil)) (blkOk_by (N := n_l_split) (sc := defScope s_l_split) (by decide +kernel)) (fun _ _ _ _ _ => (pg_name (i := 4) sc_l_split.nd rfl (.inl rfl))) (fun _ _ _ _ _ => (pts_one (PW.pt (pw_and (pt_cmpR op_eq (pe_op op_modN (pv 0) (pe_op op_shlW pe_int (pv 4))) pe_int (nomark _)) (pw_and1 (pt_cmpR op_le (pe_op op_add (pv 0) (pe_op op_shlW pe_int (pv 4))) (pv 1) (nomark _))))))) (fun _ _ _ _ _ => (pe_op op_shlW pe_int (pv 4))))
        (pss_cons (ps_expr (pe_bm PySem.F.plainAttrs_list PySem.F.slot_list_append PySem.F.type_list_append mt_append (pv 2) (pa_cons (pe_tup (pa_cons (pv 0) (pa_cons (pe_callB (cr_max rfl) (by rfl) T.z_max (by decide +kernel) (pa_cons (pv 3) pa_nil)) pa_nil))) pa_nil)))
        (pss_one (ps_set (i := 0) sc_l_split.nd rfl (.inr rfl) (pe_op op_add (pv 0) (pe_callB (cr_max rfl) (by rfl) T.z_max (by decide +kernel) (pa_cons (pv 3) pa_nil))))))))
      (pss_one (ps_ret (pv 2))))), ?_⟩
    refine ⟨Nat.zero_le _, fun o no => ?_⟩
    have fo := Fr.mk no
    have hb1 : Builtin.Int.intBits 1 = 1 := by decide +kernel
    have one_pow : ∀ h : Nat, (1 : Int) * 2 ^ ((h : Nat) : Int).toNat = ((2 ^ h : Nat) : Int) := fun h => by
      rw [Int.toNat_natCast, Int.one_mul, Int.natCast_pow]
      rfl
    have hb : a + r ≤ 2 ^ 100 := Nat.le_trans h0 (by decide +kernel)
    refine while_by (fun σ H' => ∃ (x y k : Nat) (acc : List (Nat × Nat)) (z z2 : Option V), σ = [some (.int (x : Int)), some (.int ((a + r : Nat) : Int)), some (.ref o), z, z2] ∧ x + y = a + r ∧ enough k x y ∧ acc.length + k ≤ 201 ∧ acc ++ pcF k x y = pcF 201 a r ∧ Same H H' ∧ PL H' o acc)
      (fun σ _ => a + r - intAt σ 0) ⟨a, r, 201, [], none, none, rfl, rfl, enough_all (Nat.le_trans h0 (by decide +kernel)), Nat.le_refl _, rfl, same_newF fo, PL.nil⟩ ?_ ?_
    · rintro σ H1 ⟨x, y, k, acc, z, z2, rfl, hxy, hk, hl, he, s1, ho⟩
      refine ⟨_, rfl, _, rfl, _, _, rfl, rfl, _, rfl, ite2 (fun e => ?_) (fun e => ?_)⟩
      · have e1 := of_decide_eq_true e
        have y0 : y ≠ 0 := by omega
        obtain ⟨k, rfl, hk2, g1, g0, _⟩ := enough_step hk y0 (by omega)
        refine ⟨_, rfl, by decide, by decide, fun D nD => ?_⟩
        have noD : o ≠ D := by
          obtain ⟨ts0, g0, _⟩ := id ho
          exact ne_of_none g0 nD
        have fD := Fr.mk nD
        refine lc_range (lo := 0) (n := ((12 : Int)).toNat) (fun i H' => Same H1 H' ∧ H' D = some (.lst ((szL x y i).map nV))) ⟨same_newF fD, upd_same⟩ ?_ ?_
        · rintro i H2 hi ⟨s2, eD⟩
          have hi : i < 12 := hi
          refine ⟨rfl, ?_⟩
          rw [Int.zero_add, szL_succ]
          have sl := szL_len (x := x) (y := y) (i := i)
          have hp := Nat.two_pow_pos i
          have hmod : ((x : Int).fmod ((2 ^ i : Nat) : Int)) = ((x % 2 ^ i : Nat) : Int) := by
            rw [Int.fmod_eq_emod_of_nonneg _ (by omega)]
            rfl
          refine pAnd ⟨_, rfl, _, rfl, _, _, rfl, rfl, ⟨by omega, by rw [hb1]; omega⟩, _, _, rfl, rfl, ?_, rfl, _, rfl, ?_⟩
          · rw [one_pow]
            omega
          rw [one_pow]
          by_cases c1 : x % 2 ^ i = 0
          · refine ifT (decide_eq_true (show V.int ((x : Int).fmod ((2 ^ i : Nat) : Int)) = V.int 0 by rw [hmod, c1]; rfl)) ?_
            refine ⟨_, rfl, _, rfl, _, _, rfl, rfl, ⟨by omega, by rw [hb1]; omega⟩, _, _, rfl, rfl, _, rfl, _, _, rfl, rfl, _, rfl, ?_⟩
            rw [one_pow]
            by_cases c2 : 2 ^ i ≤ y
            · refine ifT (decide_eq_true (by omega)) ⟨_, rfl, _, _, rfl, rfl, ⟨by omega, by rw [hb1]; omega⟩, _, eD, by rw [List.length_map, sizeLine_eq]; omega, same_putG fD s2, ?_⟩
              rw [upd_same]
              dsimp only []
              rw [one_pow, if_pos ⟨c1, c2⟩, List.map_append]
              rfl
            · refine ifF (decide_eq_false (by omega)) ⟨s2, ?_⟩
              rw [if_neg (fun z => c2 z.2), List.append_nil]
              exact eD
          · refine ifF (decide_eq_false fun (z : V.int ((x : Int).fmod ((2 ^ i : Nat) : Int)) = V.int 0) => c1 (by rw [hmod] at z; injection z with z; omega)) (ifF rfl ⟨s2, ?_⟩)
            rw [if_neg (fun z => c1 z.1), List.append_nil]
            exact eD
        · rintro H2 ⟨s2, eD⟩
          have eD : H2 D = some (.lst (((szL x y 12).map fun i : Nat => (i : Int)).map V.int)) := by
            rw [List.map_map]
            exact eD
          have hmem := szL_mem (x := x) y0 (by omega)
          have hpos : 0 < ((szL x y 12).map fun i : Nat => (i : Int)).length := by
            rw [List.length_map]
            exact List.length_pos_iff.mpr fun z => by rw [z] at hmem; cases hmem
          have hmx : ∀ m : Int, m ∈ (szL x y 12).map (fun i : Nat => (i : Int)) → (∀ z, z ∈ (szL x y 12).map (fun i : Nat => (i : Int)) → z ≤ m) → m = ((szP x y : Nat) : Int) := fun m m1 m2 => by
            obtain ⟨mn, hmn, rfl⟩ := List.mem_map.mp m1
            rw [szL_max y0 (by omega) hmn fun z hz => by
              have := m2 _ (List.mem_map.mpr ⟨z, hz, rfl⟩)
              omega]
          have ho2 := ho.same s2
          obtain ⟨ts, t1, t2, t3⟩ := ho2
          refine ⟨_, rfl, .inl ⟨rfl, _, sqlOf t1⟩, _, rfl, _, rfl, D, _, rfl, sqlOf eD, hpos, fun m m1 m2 => ⟨le2, fun t nt => ?_⟩⟩
          obtain rfl := hmx m m1 m2
          have ft := Fr.mk nt
          refine ⟨o, _, _, rfl, rfl, atNew ft t1, by rw [List.length_map, sizeLine_eq]; omega, ?_⟩
          have pl3 := PL.add (x := (x, szP x y)) t1 t2 t3 nt
          have s3 := same_putG (H := H) (p := o) (o := .lst ((ts.map V.ref) ++ [V.ref t])) fo ((s1.trans s2).trans (same_newF (o := .tup [.int (x : Int), .int ((szP x y : Nat) : Int)]) ft))
          have eD3 : upd (upd H2 t (.tup [.int (x : Int), .int ((szP x y : Nat) : Int)])) o (.lst ((ts.map V.ref) ++ [V.ref t])) D = some (.lst (((szL x y 12).map fun i : Nat => (i : Int)).map V.int)) := by
            rw [upd_ne noD.symm]
            exact atNew ft eD
          refine ⟨_, rfl, _, rfl, D, _, rfl, sqlOf eD3, hpos, fun m m1' m2' => ?_⟩
          obtain rfl := hmx m m1' m2'
          refine ⟨_, _, rfl, rfl, ?_⟩
          refine ⟨⟨x + szP x y, y - szP x y, k, acc ++ [(x, szP x y)], _, _, rfl, by omega, hk2, by rw [List.length_append]; show acc.length + 1 + k ≤ 201; omega, ?_, s3, pl3⟩, ?_⟩
          · rw [← he, pcF_pos y0, List.append_assoc]
            rfl
          · show a + r - ((x : Int) + (szP x y : Int)).toNat < a + r - ((x : Int)).toNat
            omega
      · have e1 : y = 0 := by
          have : ¬ ((x : Int) < ((a + r : Nat) : Int)) := fun z => e (dT z)
          omega
        subst e1
        rw [pcF_zero, List.append_nil] at he
        subst he
        exact ⟨_, rfl, q o H1 fo s1 ho⟩
    · rintro σ H' Q1 Q2 m ⟨x, hx, y, hy, i, j, e1, e2, c, e3, q⟩
      exact ⟨x, hx, y, hy, i, j, e1, e2, c, e3, m _ _ q⟩
end
end Ob

set_option Elab.async false
set_option linter.all false
set_option maxRecDepth 100000
set_option maxHeartbeats 1000000
namespace Ob
open PySem PySem.Spec PyProof.Rows L2
open LamX (Tabs TabB TabS ExtN)

set_option hygiene false in
local macro_rules
  | `(tactic| kp_flats) => `(tactic| first
    | assumption
    | exact upd_same
    | (apply atNew; assumption; kp_flats)
    | (apply atNe; (next => kbo_bools); kp_flats)
    | (apply atSame; assumption; kp_flats)
    | (apply atKp; assumption; (next => kaf_pre); kp_flats))
set_option hygiene false in
local macro_rules
  | `(tactic| kaf_pre) => `(tactic| first
    | assumption
    | exact not_nil
    | (apply not_cons; (next => kbo_bools); kaf_pre)
    | (apply not_app; (next => kaf_pre); kaf_pre))
set_option hygiene false in
local macro_rules
  | `(tactic| kbo_bools) => `(tactic| first
    | assumption
    | (apply Ne.symm; assumption)
    | (apply neN; assumption; kp_flats)
    | (apply neN'; assumption; kp_flats))
set_option hygiene false in
local macro_rules
  | `(tactic| o_reads) => `(tactic| first
    | with_reducible rfl
    | assumption
    | rfl
    | kp_flats
    | (show SqL _ _ _ _; first | assumption | (apply sqlOf; kp_flats) | (apply sqlSame; assumption; o_reads))
    | (show SqT _ _ _ _; first | assumption | (apply sqtOf; kp_flats) | (apply sqtAll; assumption) | (apply sqtSame; assumption; o_reads))
    | (show Cls _ _; first | skip)
    | (show NoAttr _ _ _; first | skip)
    | (apply Or.inl; o_reads)
    | (apply Or.inr; o_reads)
    | (apply And.intro; (next => o_reads); o_reads)
    | (apply Exists.intro; o_reads)
    | exact Nat.le_of_ble_eq_true rfl
    | exact Nat.succ_ne_zero _
    | (show Fr _ _; kba_ints)
    | (show Same _ _; kd_subs)
    | (show Kp _ _ _; kxs_still)
    | (show (_ : Nat) ≤ _; simp only [List.length_append, List.length_map, List.length_cons, List.length_nil, List.length_take, List.length_drop, List.length_replicate, List.length_range, sizeLine_eq]; omega)
    | (show _ = none; apply Fr.h; kba_ints)
    | (show Bag _ _; first | assumption | (apply bag_putF; assumption; o_reads) | (apply bag_neF; (next => kbo_bools); o_reads) | (apply bag_kpR; assumption; (next => kaf_pre); o_reads))
    | omega
    | decide)
local macro_rules
  | `(tactic| o_readsAll) => `(tactic| repeat (first
    | (refine fun (pNew : Addr) (nNew : _ = none) => ?_; replace nNew := Fr.mk nNew)
    | (refine fun (xNew dNew : Addr) (nNew : _ = none) (mNew : _ = none) (eNew : dNew ≠ xNew) => ?_; replace nNew := Fr.mk nNew; replace mNew := Fr.mk mNew)
    | (apply And.intro; next => o_reads)
    | apply Exists.intro (α := V)
    | apply Exists.intro (α := Addr)
    | apply Exists.intro (α := Int)
    | apply Exists.intro (α := Bool)
    | apply Exists.intro (α := List V)
    | apply Exists.intro (α := List Nat)
    | apply Exists.intro (α := List (Str × V))
    | apply Exists.intro (α := List _)
    | apply Exists.intro (α := Str)
    | apply Exists.intro (α := HO)
    | apply Exists.intro (α := Sp)
    | apply Exists.intro (α := VK)))
set_option hygiene false in
local macro_rules
  | `(tactic| kba_ints) => `(tactic| first
    | assumption
    | (apply frUp; (first | assumption | (apply Ne.symm; assumption)); kba_ints)
    | (apply noneOf; assumption; intro oF eF; apply Exists.intro; kp_flats)
    | (apply frUp; (next => kbo_bools); kba_ints))
set_option hygiene false in
local macro_rules
  | `(tactic| kxs_still) => `(tactic| first
    | assumption
    | exact kp_refl _ _
    | (apply kp_newF; assumption; kxs_still)
    | (apply kp_new; assumption; kxs_still)
    | (apply kp_up; (next => o_fieldsN); kxs_still)
    | (apply kp_new; (next => kba_ints); kxs_still)
    | (apply kp_sameR; assumption; kxs_still)
    | (apply kp_transR; assumption; kxs_still)
    | (apply kp_freshR; assumption; (next => kaf_suf); kxs_still))
set_option hygiene false in
local macro_rules
  | `(tactic| kaf_suf) => `(tactic| first
    | assumption
    | exact subNil
    | (apply subCons; (first | (apply Or.inl; o_fieldsN) | (apply Or.inr; kba_ints)); kaf_suf)
    | (apply subApp; (next => kaf_suf); kaf_suf))
set_option hygiene false in
local macro_rules
  | `(tactic| o_fieldsN) => `(tactic| first
    | assumption
    | exact memA
    | (apply memB; o_fieldsN)
    | (apply memL; o_fieldsN)
    | (apply memR; o_fieldsN))
set_option hygiene false in
local macro_rules
  | `(tactic| kd_subs) => `(tactic| first
    | assumption
    | exact Same.refl _
    | (apply same_putF; assumption; kd_subs)
    | (apply same_putG; assumption; kd_subs)
    | (apply same_putF; (next => kba_ints); kd_subs)
    | (apply same_transR; assumption; kd_subs))

set_option pp.maxSteps 900
/-! ### a visit, by the definition -/
def pieceD (x : Nat × Nat) : PyData := .tuple [.int (x.1 : Int), .int (x.2 : Int)]
theorem eqv_piece {x y : Nat × Nat} : PyData.eqv (pieceD x) (pieceD y) = decide (x = y) := by
  show (((x.1 : Int) == (y.1 : Int)) && (((x.2 : Int) == (y.2 : Int)) && true)) = decide (x = y)
  obtain ⟨a, b⟩ := x
  obtain ⟨c, d⟩ := y
  rw [Bool.and_true]
  by_cases h1 : a = c
  · by_cases h2 : b = d
    · subst h1
      subst h2
      rw [beq_self_eq_true, beq_self_eq_true, decide_eq_true rfl]
      rfl
    · rw [decide_eq_false fun z => h2 (by injection z), (beq_eq_false_iff_ne (a := (b : Int)) (b := (d : Int))).mpr (by omega), Bool.and_false]
  · rw [decide_eq_false fun z => h1 (by injection z), (beq_eq_false_iff_ne (a := (a : Int)) (b := (c : Int))).mpr (by omega), Bool.false_and]
theorem any_piece {l : List (Nat × Nat)} {x : Nat × Nat} : ((l.map pieceD).any fun z => PyData.eqv z (pieceD x)) = decide (x ∈ l) := by
  rw [List.any_map, Bool.eq_iff_iff, List.any_eq_true, decide_eq_true_iff]
  constructor
  · rintro ⟨y, hy, e⟩
    have e : PyData.eqv (pieceD y) (pieceD x) = true := e
    rw [eqv_piece] at e
    rw [← of_decide_eq_true e]
    exact hy
  · intro h
    exact ⟨x, h, by show PyData.eqv (pieceD x) (pieceD x) = true; rw [eqv_piece]; exact decide_eq_true rfl⟩
theorem lay_map {α : Type} {f : α → PyData} {k : Nat} (h : ∀ x, PyData.canLay0 (f x) = true ∧ PyData.depth (f x) ≤ k) : ∀ l : List α, PyData.canLayAll0 (l.map f) = true ∧ PyData.depthAll (l.map f) ≤ k + 1
  | [] => ⟨rfl, Nat.zero_le _⟩
  | x :: l => by
    obtain ⟨a, b⟩ := lay_map h l
    obtain ⟨c, d⟩ := h x
    refine ⟨?_, ?_⟩
    · rw [List.map_cons]
      simp only [PyData.canLayAll0, a, c, Bool.and_self]
    · rw [List.map_cons]
      simp only [PyData.depthAll]
      omega
theorem lay_piece (x : Nat × Nat) : PyData.canLay0 (pieceD x) = true ∧ PyData.depth (pieceD x) ≤ 3 := by
  unfold pieceD
  refine ⟨?_, ?_⟩
  · simp only [PyData.canLayAll0, PyData.canLay0, Bool.and_self]
  · simp only [PyData.depthAll, PyData.depth]
    omega
theorem sh_piece (x : Nat × Nat) : SeqAt.shaped (pieceD x) = true := by
  obtain ⟨a, b⟩ := lay_piece x
  unfold SeqAt.shaped
  rw [Bool.and_eq_true]
  exact ⟨a, decide_eq_true (by omega)⟩
theorem sh_pieces (l : List (Nat × Nat)) : SeqAt.shaped (.list (l.map pieceD)) = true := by
  obtain ⟨a, b⟩ := lay_map lay_piece l
  unfold SeqAt.shaped
  rw [Bool.and_eq_true]
  refine ⟨?_, decide_eq_true ?_⟩
  · simp only [PyData.canLay0, a]
  · simp only [PyData.depth]
    omega
theorem dp_pl {K : PySem.W.Frag} {H : Hp} {p : Addr} {l : List (Nat × Nat)} (h : PL H p l) : Dp K H (.ref p) (.list (l.map pieceD)) := by
  obtain ⟨ts, h1, h2, h3⟩ := h
  refine .lst (sqlOf h1) (dpAll_of (by rw [List.length_map, List.length_map, h2]) fun q x d a b => ?_)
  rw [List.getElem?_map] at a b
  obtain ⟨t, ht, rfl⟩ := Option.map_eq_some_iff.mp a
  obtain ⟨x, hx, rfl⟩ := Option.map_eq_some_iff.mp b
  exact .tup (sqtOf (h3 q t x ht hx)) (.cons (.int _) (.cons (.int _) .nil))
/-- the members with their pieces -/
def PartsAt (H : Hp) (pa : Addr) (es : List (Nat × Nat)) : Prop := ∃ ts : List Addr, H pa = some (.lst (ts.map V.ref)) ∧ ts.length = es.length ∧ ∀ (q : Nat) (t : Addr) (e : Nat × Nat), ts[q]? = some t → es[q]? = some e → ∃ l, H t = some (.tup [.int (e.1 : Int), .ref l]) ∧ PL H l (pcF 201 e.1 (e.2 - e.1))
theorem PartsAt.same {H H1 : Hp} {pa : Addr} {es : List (Nat × Nat)} (h : PartsAt H pa es) (s : Same H H1) : PartsAt H1 pa es := by
  obtain ⟨ts, h1, h2, h3⟩ := h
  refine ⟨ts, s _ _ h1, h2, fun q t e a b => ?_⟩
  obtain ⟨l, g1, g2⟩ := h3 q t e a b
  exact ⟨l, s _ _ g1, g2.same s⟩
def hereL (es : List (Nat × Nat)) (f s i : Nat) : List Nat := ((es.take i).filter fun e => decide ((f, s) ∈ pcF 201 e.1 (e.2 - e.1))).map (·.1)
theorem here_succ {es : List (Nat × Nat)} {f s i : Nat} {e : Nat × Nat} (h : es[i]? = some e) : hereL es f s (i + 1) = hereL es f s i ++ (if (f, s) ∈ pcF 201 e.1 (e.2 - e.1) then [e.1] else []) := by
  unfold hereL
  rw [List.take_succ, h, List.filter_append, List.map_append]
  congr 1
  show ([e].filter _).map _ = _
  rw [List.filter_cons, List.filter_nil]
  by_cases c : (f, s) ∈ pcF 201 e.1 (e.2 - e.1)
  · rw [if_pos c, if_pos (decide_eq_true c)]
    rfl
  · rw [if_neg c, if_neg (fun z => c (of_decide_eq_true z))]
    rfl
theorem here_len {es : List (Nat × Nat)} {f s i : Nat} : (hereL es f s i).length ≤ es.length := by
  unfold hereL
  rw [List.length_map]
  exact Nat.le_trans (List.length_filter_le _ _) (List.length_take_le' ..)
theorem here_all {es : List (Nat × Nat)} {f s i : Nat} (h : es.length ≤ i) : hereL es f s i = nodesOf es f s := by
  unfold hereL
  rw [List.take_of_length_le h, nodes_at]
/-- entries with one word, for a list of numbers -/
theorem t_went {K : PySem.W.Frag} {te : TE} {σ : L2.St} {H : Hp} {Q : VK} {k : Nat} {wd : Str} {ns : List Nat} (hsrc : ∀ K' : VK, (∀ a H1, Same H H1 → H1 a = some (.lst (ns.map nV)) → K' (.ref a) H1) → te σ H K') (hk : ∀ v, ((wipe σ [k]).set k v)[k]? = some v) (hw : ∀ v, wipe ((wipe σ [k]).set k v) [k] = wipe σ [k]) (hl : ns.length ≤ 1000)
    (q : ∀ D xs H', Fr H D → Same H H' → H' D = some (.lst xs) → WLog H' xs (ns.map fun i => (wd, i)) → Q (.ref D) H') :
    tLc (iList K te) (gName k) tYes (tTup (tCons (tC (.str wd)) (tCons (tVar k) tNil))) [k] σ H Q := by
  refine hsrc _ fun a H0 s0 ea => ⟨a, rfl, ⟨_, sqlOf ea⟩, fun D nD => ?_⟩
  have fD := Fr.mk nD
  refine lc_it (walk_list (K := K) (a := a) (xs := ns.map nV)) (fun i H' => Same H0 H' ∧ ∃ ys, H' D = some (.lst ys) ∧ WLog H' ys ((ns.take i).map fun i => (wd, i))) ⟨same_newF fD, [], upd_same, WLog.nil⟩ (fun i H' _ z => sqlOf (z.1 _ _ ea)) ?_ ?_
  · rintro i x H1 H2 hi ⟨s1, ys, eD, wl⟩ ⟨rfl, hx⟩
    rw [List.getElem?_map] at hx
    obtain ⟨n, hn', rfl⟩ := Option.map_eq_some_iff.mp hx
    refine ⟨hw _, ?_⟩
    unfold tYes
    refine ifT rfl ?_
    refine ⟨_, hk _, le2, fun t nt => ?_⟩
    obtain ⟨z1, z2, z3⟩ := wstep (e := (wd, n)) fD s1 eD wl nt
    refine ⟨ys, z1, ?_, z2, ?_⟩
    · rw [wl.len, List.length_map, sizeLine_eq]
      have := List.length_take_le i ns
      rw [List.length_map] at hi
      omega
    · rw [take_map (fun i => (wd, i)) hn']
      exact z3
  · rintro H1 ⟨s1, ys, eD, wl⟩
    rw [List.length_map, List.take_length] at wl
    exact q D ys H1 (Fr.mk (s0.free nD)) (s0.trans s1) eD wl
section
variable {P : Program} {w : World} {K : PySem.W.Frag} {mg : Str → Option Value} {base : Heap}
def spLV : Nat → Sp
  | 0 => fun _ _ _ _ => False
  | k + 1 => fun vs H Q _ => ∃ (ha pa : Addr) (f : Nat) (hs : List HEv) (es : List (Nat × Nat)), vs = [.ref ha, .ref pa, .int (f : Int), .int ((2 ^ k : Nat) : Int)] ∧ LH H ha hs ∧ PartsAt H pa es ∧ hs.length ≤ 100 ∧ es.length ≤ 100 ∧ f + 2 ^ k ≤ 2 ^ 20 ∧ (walkW (nodesOf es) (hs.map HEv.isAsk) k f).length < 2 ^ 20 ∧
    ∀ o ys H', Same H H' → Fr H o → H' o = some (.lst ys) → WLog H' ys (walkW (nodesOf es) (hs.map HEv.isAsk) k f) → Q (.ref o) H'
theorem ok_lv (T : Txt K mg) : ∀ k, FnOk P w K mg base CX0 (k + 2) T.f_l_visit T.d_l_visit ["_law_history_here", "_law_parts", "_law_first", "_law_size"] (spLV k)
  | 0 => ⟨fun _ _ _ _ h => h.elim, fun _ _ _ _ _ _ _ _ _ _ _ _ _ h => h.elim⟩
  | k + 1 => by
    have G_l_visit := ok_lv T k
    refine T.F_l_visit.ok sc_l_visit (fun vs H Q E h => ?_) (fun cdv A outer s H vs Q E hr h => ?_)
    · obtain ⟨ha, pa, f, hs, es, rfl, _⟩ := h
      rfl
    · obtain ⟨ha, pa, f, hs, es, rfl, hL, hP, hl, hle, hf, hx, q⟩ := h
      refine ⟨_, (pss_cons (ps_if (pt_not (pt_truth (pe_callB (cr_any rfl) (by rfl) T.z_any (by decide +kernel) (pa_cons (pe_lc (own := [("_law_entry", 7)]) (g := gName 7) (tt := tYes) rfl sc_l_visit.nd (pi_list (pe_slice sl_list (pv 0) (po_some (pv 2)) (po_some (pe_op op_add (pv 2) (pv 3))))) (blkOk_by (N := n_l_visit) (sc := defScope s_l_visit) (by decide +kernel)) (fun _ _ _ _ _ => (pg_name (i := 7) sc_l_visit.nd rfl (.inl rfl))) (fun _ _ _ _ _ => pts_nil) (fun _ _ _ _ _ => (pe_cmpR op_eq (pe_ix (r := rIxT K) ix_tup (pv 7) pe_int (fun _ _ => rfl)) pe_str (nomark _)))) pa_nil)) (by intro _; rfl))) (pss_one (ps_ret (pe_lst pa_nil))) pss_nil)
      (pss_cons (ps_setLc (i := 4) (own := [("_law_index", 8), ("_law_some", 9)]) (g := (gTup K 2 (gCons (gName 8) (gCons (gName 9) gNil))))  rfl sc_l_visit.nd rfl rfl (sw_true rfl rfl rfl (by decide +kernel)) (pi_list (pv 1)) (blkOk_by (N := n_l_visit) (sc := defScope s_l_visit) (by decide +kernel)) (fun _ _ _ _ _ => (pg_tup (by rfl) (pgs_cons (pg_name (i := 8) sc_l_visit.nd rfl (.inl rfl)) (pgs_cons (pg_name (i := 9) sc_l_visit.nd rfl (.inl rfl)) pgs_nil)))) (fun _ _ _ _ _ => (pts_one (pt_cmpR (show OpR _ _ (rInD K) from op_inD (u65 hr)) (pe_tup (pa_cons (pv 2) (pa_cons (pv 3) pa_nil))) (pv 9) (by rfl)))) (fun _ _ _ _ _ => (pv 8)))
      (pss_cons (ps_setLc (i := 5) (own := [("_law_index", 8)]) (g := gName 8) (tt := tYes) rfl sc_l_visit.nd rfl rfl (sw_true rfl rfl rfl (by decide +kernel)) (pi_list (pv 4)) (blkOk_by (N := n_l_visit) (sc := defScope s_l_visit) (by decide +kernel)) (fun _ _ _ _ _ => (pg_name (i := 8) sc_l_visit.nd rfl (.inl rfl))) (fun _ _ _ _ _ => pts_nil) (fun _ _ _ _ _ => (pe_tup (pa_cons pe_str (pa_cons (pv 8) pa_nil)))))
      (C8.pss_cut (ps_if (pt_cmpR op_eq (pv 3) pe_int (nomark _)) (pss_one (ps_expr (pe_bm PySem.F.plainAttrs_list PySem.F.slot_list_append PySem.F.type_list_append mt_append (pv 5) (pa_cons (pe_tup (pa_cons pe_str (pa_cons (pv 2) pa_nil))) pa_nil)))) (pss_cons (ps_set (i := 6) sc_l_visit.nd rfl (.inl rfl) (pe_op op_fdivW (pv 3) pe_int))
        (pss_one (ps_set (i := 5) sc_l_visit.nd rfl (.inl rfl) (pe_op op_cat (pe_op op_cat (pv 5) (pe_call G_l_visit (hr.mono (by omega)) rfl T.g_l_visit T.F_l_visit.kp T.b_l_visit .nil pass0 (pa_cons (pv 0) (pa_cons (pv 1) (pa_cons (pv 2) (pa_cons (pv 6) pa_nil)))))) (pe_call G_l_visit (hr.mono (by omega)) rfl T.g_l_visit T.F_l_visit.kp T.b_l_visit .nil pass0 (pa_cons (pv 0) (pa_cons (pv 1) (pa_cons (pe_op op_add (pv 2) (pv 6)) (pa_cons (pv 6) pa_nil))))))))))
      (pss_one (ps_ret (pe_op op_cat (pv 5) (pe_lc (own := [("_law_index", 8)]) (g := gName 8) (tt := tYes) rfl sc_l_visit.nd (pi_list (pe_revL (pv 4))) (blkOk_by (N := n_l_visit) (sc := defScope s_l_visit) (by decide +kernel)) (fun _ _ _ _ _ => (pg_name (i := 8) sc_l_visit.nd rfl (.inl rfl))) (fun _ _ _ _ _ => pts_nil) (fun _ _ _ _ _ => (pe_tup (pa_cons pe_str (pa_cons (pv 8) pa_nil)))))))))))), ?_⟩
      obtain ⟨xs, hha, hh⟩ := hL
      refine ⟨_, rfl, _, rfl, (f : Int), rfl, _, rfl, _, rfl, _, _, rfl, rfl, (f : Int) + ((2 ^ k : Nat) : Int), rfl, ha, xs, rfl, sqlOf hha, fun p np => ?_⟩
      rw [cut_range]
      have fp := Fr.mk np
      have s1 := same_newF (o := .lst ((xs.drop f).take (2 ^ k))) fp
      have e1 : upd H p (.lst ((xs.drop f).take (2 ^ k))) p = some (.lst ((xs.drop f).take (2 ^ k))) := upd_same
      generalize upd H p (.lst ((xs.drop f).take (2 ^ k))) = H1 at s1 e1 ⊢
      refine ⟨_, rfl, ⟨_, sqlOf e1⟩, fun D nD => ?_⟩
      have fD := Fr.mk nD
      have fD0 : Fr H D := Fr.mk (s1.free nD)
      refine lc_it (walk_list (K := K) (a := p) (xs := (xs.drop f).take (2 ^ k))) (fun i H' => Same H1 H' ∧ H' D = some (.lst (((((hs.map HEv.isAsk).drop f).take (2 ^ k)).take i).map V.bl))) ⟨same_newF fD, upd_same⟩ (fun i H' _ z => sqlOf (z.1 _ _ e1)) ?_ ?_
      · rintro i x H2' H2 hi ⟨s2, eD⟩ ⟨rfl, hx⟩
        have hi2 : i < 2 ^ k := by
          rw [List.length_take] at hi
          omega
        rw [List.getElem?_take_of_lt hi2, List.getElem?_drop] at hx
        have hil := (List.getElem?_eq_some_iff.mp hx).1
        obtain ⟨e, hee⟩ : ∃ e, hs[f + i]? = some e := ⟨_, List.getElem?_eq_getElem (by rw [← hh.len]; exact hil)⟩
        obtain ⟨pe, rfl, hpe⟩ := hh.at_ (f + i) x e hx hee
        have hpe2 := s2 _ _ (s1 _ _ hpe)
        have hbe : (((hs.map HEv.isAsk).drop f).take (2 ^ k))[i]? = some e.isAsk := by
          rw [List.getElem?_take_of_lt hi2, List.getElem?_drop, List.getElem?_map, hee]
          rfl
        have hlh := hh.len
        have hw : decide (V.str e.w = V.str "ask") = e.isAsk := by
          cases e with
          | add v => show decide (V.str "add" = V.str "ask") = false; decide +kernel
          | rem v => show decide (V.str "remove" = V.str "ask") = false; decide +kernel
          | ask v => exact decide_eq_true rfl
        refine ⟨rfl, ?_⟩
        unfold tYes
        refine ifT rfl ?_
        refine ⟨_, rfl, pe, _, 0, _, rfl, rfl, sqtOf hpe2, atI_nat (j := 0) rfl, rfl, _, eD, ?_, same_putG fD s2, ?_⟩
        · rw [List.length_map, sizeLine_eq]
          have := List.length_take_le i (((hs.map HEv.isAsk).drop f).take (2 ^ k))
          omega
        · rw [upd_same, hw, List.take_succ, hbe, List.map_append]
          rfl
      · rintro H2 ⟨s2, eD⟩
        have htk : ((((hs.map HEv.isAsk).drop f).take (2 ^ k)).take ((xs.drop f).take (2 ^ k)).length) = ((hs.map HEv.isAsk).drop f).take (2 ^ k) := List.take_of_length_le (by
          rw [List.length_take, List.length_take, List.length_drop, List.length_drop, List.length_map, hh.len]
          exact Nat.le_refl _)
        rw [htk] at eD
        refine ⟨D, _, rfl, sqlOf eD, askedIn (hs.map HEv.isAsk) f (2 ^ k), rfl, ?_⟩
        rw [walkW_eq] at hx q
        have s02 := s1.trans s2
        by_cases c : askedIn (hs.map HEv.isAsk) f (2 ^ k) = true
        · rw [if_pos c] at hx q
          refine ifF (by rw [c]; rfl) (pNx ?_)
          dsimp only []
          have hs0 : L2.start n_l_visit [.ref ha, .ref pa, .int (f : Int), .int ((2 ^ k : Nat) : Int)] = [some (.ref ha), some (.ref pa), some (.int (f : Int)), some (.int ((2 ^ k : Nat) : Int)), none, none, none, none, none, none] := rfl
          rw [hs0]
          clear hs0
          have P2 := hP.same s02
          obtain ⟨ts, g1, g2, g3⟩ := id P2
          refine pSeq (pAsg ⟨_, rfl, pa, rfl, ⟨_, sqlOf g1⟩, fun D2 nD2 => ?_⟩)
          have fD2 := Fr.mk nD2
          refine lc_it (walk_list (K := K) (a := pa) (xs := ts.map V.ref)) (fun i H' => Same H2 H' ∧ H' D2 = some (.lst ((hereL es f (2 ^ k) i).map nV))) ⟨same_newF fD2, upd_same⟩ (fun i H' _ z => sqlOf (z.1 _ _ g1)) ?_ ?_
          · rintro i x H3' H3 hi ⟨s3, eD2⟩ ⟨rfl, hx3⟩
            rw [List.length_map] at hi
            rw [List.getElem?_map] at hx3
            obtain ⟨t, ht, rfl⟩ := Option.map_eq_some_iff.mp hx3
            obtain ⟨e, hee⟩ : ∃ e, es[i]? = some e := ⟨_, List.getElem?_eq_getElem (by omega)⟩
            obtain ⟨l, h1, h2⟩ := g3 i t e ht hee
            have h13 := s3 _ _ h1
            refine ⟨t, _, rfl, sqtOf h13, rfl, _, _, rfl, _, _, rfl, rfl, rfl, ?_⟩
            refine ⟨_, rfl, _, rfl, le2, fun u nu => ⟨_, rfl, ?_⟩⟩
            have fu := Fr.mk nu
            have su := same_newF (o := .tup [.int (f : Int), .int ((2 ^ k : Nat) : Int)]) fu
            have eu : upd H3 u (.tup [.int (f : Int), .int ((2 ^ k : Nat) : Int)]) u = some (.tup [.int (f : Int), .int ((2 ^ k : Nat) : Int)]) := upd_same
            have eD3 := su _ _ eD2
            have s4 := s3.trans su
            generalize upd H3 u (.tup [.int (f : Int), .int ((2 ^ k : Nat) : Int)]) = H4 at su eu eD3 s4 ⊢
            refine ⟨pieceD (f, 2 ^ k), _, .tup (sqtOf eu) (.cons (.int _) (.cons (.int _) .nil)), dp_pl (h2.same s4), sh_piece _, sh_pieces _, _, rfl, ?_⟩
            rw [any_piece, here_succ hee]
            have hel := here_len (es := es) (f := f) (s := 2 ^ k) (i := i)
            by_cases c2 : (f, 2 ^ k) ∈ pcF 201 e.1 (e.2 - e.1)
            · refine ifT (decide_eq_true c2) ⟨_, rfl, _, eD3, by rw [List.length_map, sizeLine_eq]; omega, same_putG fD2 s4, ?_⟩
              rw [upd_same, if_pos c2, List.map_append]
              rfl
            · refine ifF (decide_eq_false c2) ⟨s4, ?_⟩
              rw [if_neg c2, List.append_nil]
              exact eD3
          · rintro H3 ⟨s3, eD2⟩
            rw [here_all (by rw [List.length_map, g2]; exact Nat.le_refl _)] at eD2
            have hnl : (nodesOf es f (2 ^ k)).length ≤ 100 := by
              have := here_len (es := es) (f := f) (s := 2 ^ k) (i := es.length)
              rw [here_all (Nat.le_refl _)] at this
              omega
            refine pGN ?_
            dsimp only []
            simp only [List.set_cons_succ, List.set_cons_zero]
            refine pSeq (pAsg (t_went (k := 8) (wd := "push") (ns := nodesOf es f (2 ^ k)) (fun K' kk => ⟨_, rfl, kk D2 H3 (Same.refl _) eD2⟩) (fun _ => rfl) (fun _ => rfl) (by omega) fun F zs H4 fF s4 eF wl => pGN ?_))
            dsimp only []
            simp only [List.set_cons_succ, List.set_cons_zero]
            have s04 := (s02.trans s3).trans s4
            have fF0 : Fr H F := Fr.mk ((s02.trans s3).free fF.h)
            have eD4 := s4 _ _ eD2
            have lp : (pushW (nodesOf es f (2 ^ k))).length = (nodesOf es f (2 ^ k)).length := List.length_map ..
            have lq : (popW (nodesOf es f (2 ^ k))).length = (nodesOf es f (2 ^ k)).length := by
              unfold popW
              rw [List.length_map, List.length_reverse]
            rw [List.length_append, List.length_append, lp, lq] at hx
            have lz := wl.len
            rw [List.length_map] at lz
            refine ⟨fun σ H' => ∃ F2 zs2 y6, σ = [some (.ref ha), some (.ref pa), some (.int (f : Int)), some (.int ((2 ^ k : Nat) : Int)), some (.ref D2), some (.ref F2), y6, none, none, none] ∧ Same H H' ∧ H' D2 = some (.lst ((nodesOf es f (2 ^ k)).map nV)) ∧ H' F2 = some (.lst zs2) ∧ Fr H F2 ∧ WLog H' zs2 (pushW (nodesOf es f (2 ^ k)) ++ midW (nodesOf es) (hs.map HEv.isAsk) k f), ?_, ?_⟩
            · cases k with
              | zero =>
                refine ⟨_, rfl, rfl, _, rfl, ifT rfl ⟨_, rfl, .inl ⟨rfl, _, sqlOf eF⟩, _, rfl, le2, fun t nt => ⟨F, _, _, rfl, rfl, atNew (Fr.mk nt) eF, by rw [sizeLine_eq]; omega, ?_⟩⟩⟩
                have ft := Fr.mk nt
                have s6 := same_newF (o := .tup [.str "ask", .int (f : Int)]) ft
                have e6 := s6 _ _ eF
                have m6 : Mu (upd H4 t (.tup [.str "ask", .int (f : Int)])) [F] := mu_lst e6 mu_nil
                have k6 : Kp [F] (upd H4 t (.tup [.str "ask", .int (f : Int)])) (upd (upd H4 t (.tup [.str "ask", .int (f : Int)])) F (.lst (zs ++ [.ref t]))) := kp_up memA (kp_refl _ _)
                have nDF : D2 ≠ F := ne_of_none eD2 fF.h
                exact ⟨F, _, _, rfl, same_putG fF0 (s04.trans s6), by rw [upd_ne nDF]; exact s6 _ _ eD4, upd_same, fF0, ((wl.kp (kp_same (cs := []) s6) mu_nil).kp k6 m6).app (WLog.one (WEnt.kp ⟨t, rfl, upd_same⟩ k6 m6))⟩
              | succ j =>
                have h2 : (2 : Nat) ^ (j + 1) = 2 ^ j + 2 ^ j := by rw [Nat.pow_succ]; omega
                have hp := Nat.two_pow_pos j
                have hm : midW (nodesOf es) (hs.map HEv.isAsk) (j + 1) f = walkW (nodesOf es) (hs.map HEv.isAsk) j f ++ walkW (nodesOf es) (hs.map HEv.isAsk) j (f + 2 ^ j) := rfl
                rw [hm, List.length_append] at hx
                have eh : (((2 ^ (j + 1) : Nat) : Int) / 2) = ((2 ^ j : Nat) : Int) := by omega
                have L4 : LH H4 ha hs := (LH.same ⟨xs, hha, hh⟩ s04)
                have P4 := hP.same s04
                refine ⟨_, rfl, rfl, _, rfl, ifF ?_ ⟨_, rfl, _, _, rfl, rfl, ⟨by decide, by decide +kernel⟩, ?_⟩⟩
                · exact decide_eq_false fun z => by
                    injection z with z
                    omega
                refine ⟨_, rfl, _, rfl, _, rfl, _, rfl, _, rfl, ha, pa, f, hs, es, ?_, L4, P4, hl, hle, by omega, by omega, fun o1 ys1 H5 s5 fo1 eo1 w1 => ?_⟩
                · show [_, _, _, V.int _] = _
                  rw [eh]
                have l1 := w1.len
                have fo10 : Fr H o1 := Fr.mk (s04.free fo1.h)
                refine ⟨F, o1, zs, ys1, rfl, rfl, s5 _ _ eF, eo1, by rw [sizeLine_eq]; omega, fun q1 nq1 => ?_⟩
                have fq1 := Fr.mk nq1
                have s6 := same_newF (o := .lst (zs ++ ys1)) fq1
                have eq1 : upd H5 q1 (.lst (zs ++ ys1)) q1 = some (.lst (zs ++ ys1)) := upd_same
                have w6 : WLog (upd H5 q1 (.lst (zs ++ ys1))) (zs ++ ys1) (pushW (nodesOf es f (2 ^ (j + 1))) ++ walkW (nodesOf es) (hs.map HEv.isAsk) j f) := ((wl.kp (kp_same (cs := []) s5) mu_nil).app w1).kp (kp_same (cs := []) s6) mu_nil
                have s06 := (s04.trans s5).trans s6
                have eD6 := s6 _ _ (s5 _ _ eD4)
                refine ⟨_, rfl, _, rfl, _, rfl, _, rfl, _, _, rfl, rfl, _, rfl, ha, pa, f + 2 ^ j, hs, es, ?_, LH.same ⟨xs, hha, hh⟩ s06, hP.same s06, hl, hle, by omega, by omega, fun o2 ys2 H7 s7 fo2 eo2 w2 => ?_⟩
                · show [_, _, V.int ((f : Int) + (((2 ^ (j + 1) : Nat) : Int) / 2)), V.int (((2 ^ (j + 1) : Nat) : Int) / 2)] = _
                  rw [eh, Int.natCast_add]
                have l2 := w2.len
                refine ⟨q1, o2, _, ys2, rfl, rfl, s7 _ _ eq1, eo2, by rw [List.length_append, sizeLine_eq]; omega, fun q2 nq2 => ?_⟩
                have fq2 := Fr.mk nq2
                have s8 := same_newF (o := .lst (zs ++ ys1 ++ ys2)) fq2
                have s08 := (s06.trans s7).trans s8
                refine ⟨q2, _, _, rfl, s08, s8 _ _ (s7 _ _ eD6), upd_same, Fr.mk ((s06.trans s7).free nq2), ?_⟩
                rw [hm, ← List.append_assoc]
                exact ((w6.kp (kp_same (cs := []) s7) mu_nil).app w2).kp (kp_same (cs := []) s8) mu_nil
            · rintro σ H6 ⟨F2, zs2, y6, rfl, s06, eD6, eF6, fF6, wl6⟩
              have l6 := wl6.len
              rw [List.length_append, lp] at l6
              refine ⟨_, rfl, ?_⟩
              refine t_went (k := 8) (wd := "pop") (ns := (nodesOf es f (2 ^ k)).reverse) (fun K' kk => pRev ⟨_, rfl, D2, _, rfl, sqlOf eD6, fun r nr => kk r _ (same_newF (Fr.mk nr)) (by rw [upd_same, List.map_reverse])⟩) (fun _ => rfl) (fun _ => rfl) (by rw [List.length_reverse]; omega) fun F3 zs3 H7 fF3 s7 eF3 w3 => ?_
              have l3 := w3.len
              rw [List.length_map, List.length_reverse] at l3
              refine ⟨F2, F3, zs2, zs3, rfl, rfl, s7 _ _ eF6, eF3, by rw [sizeLine_eq]; omega, fun r nr => ?_⟩
              have fr := Fr.mk nr
              have s8 := same_newF (o := .lst (zs2 ++ zs3)) fr
              exact q r _ _ ((s06.trans s7).trans s8) (Fr.mk ((s06.trans s7).free nr)) upd_same (((wl6.kp (kp_same (cs := []) s7) mu_nil).app w3).kp (kp_same (cs := []) s8) mu_nil)
        · rw [if_neg c] at q
          refine ifT (by rw [Bool.eq_false_iff.mpr c]; rfl) ⟨Nat.zero_le _, fun o no => ?_⟩
          have fo := Fr.mk no
          exact q o [] _ (s02.trans (same_newF fo)) (Fr.mk (s02.free no)) upd_same WLog.nil
end
end Ob

set_option Elab.async false
set_option linter.all false
set_option maxRecDepth 100000
set_option maxHeartbeats 1000000
namespace Ob
open PySem PySem.Spec PyProof.Rows L2
open LamX (Tabs TabB TabS ExtN)

set_option hygiene false in
local macro_rules
  | `(tactic| kp_flats) => `(tactic| first
    | assumption
    | exact upd_same
    | (apply atNew; assumption; kp_flats)
    | (apply atNe; (next => kbo_bools); kp_flats)
    | (apply atSame; assumption; kp_flats)
    | (apply atKp; assumption; (next => kaf_pre); kp_flats))
set_option hygiene false in
local macro_rules
  | `(tactic| kaf_pre) => `(tactic| first
    | assumption
    | exact not_nil
    | (apply not_cons; (next => kbo_bools); kaf_pre)
    | (apply not_app; (next => kaf_pre); kaf_pre))
set_option hygiene false in
local macro_rules
  | `(tactic| kbo_bools) => `(tactic| first
    | assumption
    | (apply Ne.symm; assumption)
    | (apply neN; assumption; kp_flats)
    | (apply neN'; assumption; kp_flats))
set_option hygiene false in
local macro_rules
  | `(tactic| o_reads) => `(tactic| first
    | with_reducible rfl
    | assumption
    | rfl
    | kp_flats
    | (show SqL _ _ _ _; first | assumption | (apply sqlOf; kp_flats) | (apply sqlSame; assumption; o_reads))
    | (show SqT _ _ _ _; first | assumption | (apply sqtOf; kp_flats) | (apply sqtAll; assumption) | (apply sqtSame; assumption; o_reads))
    | (show Cls _ _; first | skip)
    | (show NoAttr _ _ _; first | skip)
    | (apply Or.inl; o_reads)
    | (apply Or.inr; o_reads)
    | (apply And.intro; (next => o_reads); o_reads)
    | (apply Exists.intro; o_reads)
    | exact Nat.le_of_ble_eq_true rfl
    | exact Nat.succ_ne_zero _
    | (show Fr _ _; kba_ints)
    | (show Same _ _; kd_subs)
    | (show Kp _ _ _; kxs_still)
    | (show (_ : Nat) ≤ _; simp only [List.length_append, List.length_map, List.length_cons, List.length_nil, List.length_take, List.length_drop, List.length_replicate, List.length_range, sizeLine_eq]; omega)
    | (show _ = none; apply Fr.h; kba_ints)
    | (show Bag _ _; first | assumption | (apply bag_putF; assumption; o_reads) | (apply bag_neF; (next => kbo_bools); o_reads) | (apply bag_kpR; assumption; (next => kaf_pre); o_reads))
    | omega
    | decide)
local macro_rules
  | `(tactic| o_readsAll) => `(tactic| repeat (first
    | (refine fun (pNew : Addr) (nNew : _ = none) => ?_; replace nNew := Fr.mk nNew)
    | (refine fun (xNew dNew : Addr) (nNew : _ = none) (mNew : _ = none) (eNew : dNew ≠ xNew) => ?_; replace nNew := Fr.mk nNew; replace mNew := Fr.mk mNew)
    | (apply And.intro; next => o_reads)
    | apply Exists.intro (α := V)
    | apply Exists.intro (α := Addr)
    | apply Exists.intro (α := Int)
    | apply Exists.intro (α := Bool)
    | apply Exists.intro (α := List V)
    | apply Exists.intro (α := List Nat)
    | apply Exists.intro (α := List (Str × V))
    | apply Exists.intro (α := List _)
    | apply Exists.intro (α := Str)
    | apply Exists.intro (α := HO)
    | apply Exists.intro (α := Sp)
    | apply Exists.intro (α := VK)))
set_option hygiene false in
local macro_rules
  | `(tactic| kba_ints) => `(tactic| first
    | assumption
    | (apply frUp; (first | assumption | (apply Ne.symm; assumption)); kba_ints)
    | (apply noneOf; assumption; intro oF eF; apply Exists.intro; kp_flats)
    | (apply frUp; (next => kbo_bools); kba_ints))
set_option hygiene false in
local macro_rules
  | `(tactic| kxs_still) => `(tactic| first
    | assumption
    | exact kp_refl _ _
    | (apply kp_newF; assumption; kxs_still)
    | (apply kp_new; assumption; kxs_still)
    | (apply kp_up; (next => o_fieldsN); kxs_still)
    | (apply kp_new; (next => kba_ints); kxs_still)
    | (apply kp_sameR; assumption; kxs_still)
    | (apply kp_transR; assumption; kxs_still)
    | (apply kp_freshR; assumption; (next => kaf_suf); kxs_still))
set_option hygiene false in
local macro_rules
  | `(tactic| kaf_suf) => `(tactic| first
    | assumption
    | exact subNil
    | (apply subCons; (first | (apply Or.inl; o_fieldsN) | (apply Or.inr; kba_ints)); kaf_suf)
    | (apply subApp; (next => kaf_suf); kaf_suf))
set_option hygiene false in
local macro_rules
  | `(tactic| o_fieldsN) => `(tactic| first
    | assumption
    | exact memA
    | (apply memB; o_fieldsN)
    | (apply memL; o_fieldsN)
    | (apply memR; o_fieldsN))
set_option hygiene false in
local macro_rules
  | `(tactic| kd_subs) => `(tactic| first
    | assumption
    | exact Same.refl _
    | (apply same_putF; assumption; kd_subs)
    | (apply same_putG; assumption; kd_subs)
    | (apply same_putF; (next => kba_ints); kd_subs)
    | (apply same_transR; assumption; kd_subs))

set_option pp.maxSteps 900
open NdefX (TabsN)
theorem pow_uniq {n i j : Nat} (h1 : n ≤ 2 ^ i) (h2 : i = 0 ∨ 2 ^ (i - 1) < n) (g1 : n ≤ 2 ^ j) (g2 : j = 0 ∨ 2 ^ (j - 1) < n) : i = j := by
  have key : ∀ a b : Nat, n ≤ 2 ^ a → (b = 0 ∨ 2 ^ (b - 1) < n) → b ≤ a := fun a b x y => by
    rcases y with y | y
    · omega
    · refine Nat.le_of_not_lt fun z => ?_
      have : (2 : Nat) ^ a ≤ 2 ^ (b - 1) := Nat.pow_le_pow_right (by decide) (by omega)
      omega
  exact Nat.le_antisymm (key j i g1 h2) (key i j h1 g2)
theorem same_kp {cs : List Addr} {H0 H H1 : Hp} (s : Same H0 H) (k : Kp cs H H1) (f : ∀ x ∈ cs, Fr H0 x) : Same H0 H1 := fun b o e => k.at_ b o (s b o e) fun m => ne_of_none e (f b m).h rfl
theorem LD.lh {cs : List Addr} {H : Hp} {c : Addr} {hs : List HEv} {ds : List PyData} (h : LD cs H c hs ds) : LH H c hs := by
  obtain ⟨xs, h1, h2, _⟩ := h
  exact ⟨xs, h1, h2⟩
theorem dp_ld {K : PySem.W.Frag} {cs : List Addr} {H : Hp} {c : Addr} {hs : List HEv} {ds : List PyData} (h : LD cs H c hs ds) (hl : hs.length ≤ 100) : Dp K H (.ref c) (.list ds) ∧ Shw (2 ^ 20) 64 (.list ds) := by
  obtain ⟨xs, h1, h2, h3⟩ := h
  exact dp_hist h1 h3 (by rw [← h3.len, h2.len]; exact hl)
/-- the members with their pieces, none of which is the list itself -/
def PartsD (H : Hp) (pa : Addr) (es : List (Nat × Nat)) : Prop := ∃ ts : List Addr, H pa = some (.lst (ts.map V.ref)) ∧ ts.length = es.length ∧ ∀ (q : Nat) (t : Addr) (e : Nat × Nat), ts[q]? = some t → es[q]? = some e → ∃ l, H t = some (.tup [.int (e.1 : Int), .ref l]) ∧ PL H l (pcF 201 e.1 (e.2 - e.1)) ∧ l ≠ pa
theorem PartsD.at_ {H : Hp} {pa : Addr} {es : List (Nat × Nat)} (h : PartsD H pa es) : PartsAt H pa es := by
  obtain ⟨ts, h1, h2, h3⟩ := h
  exact ⟨ts, h1, h2, fun q t e a b => (h3 q t e a b).imp fun l g => ⟨g.1, g.2.1⟩⟩
theorem PartsD.same {H H1 : Hp} {pa : Addr} {es : List (Nat × Nat)} (h : PartsD H pa es) (s : Same H H1) : PartsD H1 pa es := by
  obtain ⟨ts, h1, h2, h3⟩ := h
  refine ⟨ts, s _ _ h1, h2, fun q t e a b => ?_⟩
  obtain ⟨l, g1, g2, g3⟩ := h3 q t e a b
  exact ⟨l, s _ _ g1, g2.same s, g3⟩
/-- one more -/
theorem PartsD.add {H : Hp} {D t l : Addr} {es : List (Nat × Nat)} {e : Nat × Nat} (h : PartsD H D es) (ht : H t = some (.tup [.int (e.1 : Int), .ref l])) (hp : PL H l (pcF 201 e.1 (e.2 - e.1))) (nl : l ≠ D) : ∃ xs, H D = some (.lst xs) ∧ xs.length = es.length ∧ PartsD (upd H D (.lst (xs ++ [V.ref t]))) D (es ++ [e]) := by
  obtain ⟨ts, h1, h2, h3⟩ := h
  have mD : Mu H [D] := mu_lst h1 mu_nil
  have kD : Kp [D] H (upd H D (.lst (ts.map V.ref ++ [V.ref t]))) := kp_up memA (kp_refl _ _)
  have keep : ∀ {l : Addr} {ps : List (Nat × Nat)}, l ≠ D → PL H l ps → PL (upd H D (.lst (ts.map V.ref ++ [V.ref t]))) l ps := fun n h => by
    obtain ⟨us, g1, g2, g3⟩ := h
    exact ⟨us, kD.at_ _ _ g1 (not_cons n not_nil), g2, fun i u x a b => kp_tup kD mD (g3 i u x a b)⟩
  refine ⟨_, h1, by rw [List.length_map, h2], ts ++ [t], by rw [upd_same, List.map_append]; rfl, by rw [List.length_append, List.length_append, h2]; rfl, fun q u x a b => ?_⟩
  by_cases c : q < ts.length
  · rw [List.getElem?_append_left c] at a
    rw [List.getElem?_append_left (by omega)] at b
    obtain ⟨l', g1, g2, g3⟩ := h3 q u x a b
    exact ⟨l', kp_tup kD mD g1, keep g3 g2, g3⟩
  · rw [List.getElem?_append_right (by omega)] at a
    rw [List.getElem?_append_right (by omega), ← h2] at b
    match q - ts.length, a, b with
    | 0, a, b =>
      cases a
      cases b
      exact ⟨l, kp_tup kD mD ht, keep nl hp, nl⟩
    | r + 1, a, _ => cases r <;> cases a
theorem shw_plan {hs : List HEv} {j : Nat} (hl : hs.length ≤ 50) (hj : hs.length ≤ 2 ^ j) (hj2 : j = 0 ∨ 2 ^ (j - 1) < hs.length) : (planW hs j).length ≤ 2000 ∧ Shw (2 ^ 20) 64 (.list ((planW hs j).map entW)) := by
  have hj6 : j ≤ 6 := by
    refine Nat.le_of_not_lt fun z => ?_
    rcases hj2 with h | h
    · omega
    · have h1 : (2 : Nat) ^ 6 ≤ 2 ^ (j - 1) := Nat.pow_le_pow_right (by decide) (by omega)
      have h2 : (2 : Nat) ^ 6 = 64 := by decide
      omega
  have h1 := walk_len (N := nodesOf (endsU hs hs.length)) (bs := hs.map HEv.isAsk) (k := j) (f := 0)
  have h2 := tot_foldH (k := j) (f := 0) (h := j) (es := endsU hs hs.length) (N := fun _ _ => []) fun e m => by
    have := ends_lt (hs := hs) (Nat.le_refl _) e m
    omega
  rw [tot_nil, Nat.zero_add] at h2
  have h3 := ends_len (hs := hs) (k := hs.length)
  have h4 : (2 : Nat) ^ j ≤ 64 := Nat.le_trans (Nat.pow_le_pow_right (by decide) hj6) (by decide)
  have h5 : 2 * (j + 1) * (endsU hs hs.length).length ≤ 14 * 50 := Nat.mul_le_mul (by omega) (by omega)
  have hlen : (planW hs j).length ≤ 2000 := by
    have h6 : (planW hs j).length = (walkW (nodesOf (endsU hs hs.length)) (hs.map HEv.isAsk) j 0).length := rfl
    have h7 : totW (nodesOf (endsU hs hs.length)) j 0 ≤ 2 * (j + 1) * (endsU hs hs.length).length := h2
    omega
  refine ⟨hlen, (Shw.lst (w := 84) (p := 1) fun d m => ?_).mono ?_ (by decide)⟩
  · obtain ⟨e, he, rfl⟩ := List.mem_map.mp m
    refine (Shw.tup (w := 41) (p := 0) (ds := [.str e.1, .int (e.2 : Int)]) fun d m => ?_).mono (Nat.le_refl _) (Nat.le_refl _)
    rcases plan_ok e he with ⟨w, v, hv⟩ | ⟨w, v, hv⟩
    · have hi := (List.getElem?_eq_some_iff.mp hv).1
      rcases List.mem_cons.mp m with rfl | m
      · rcases w with w | w
        · rw [w]
          exact (Shw.str (x := "push") (by decide +kernel)).mono (by decide +kernel) (by decide)
        · rw [w]
          exact (Shw.str (x := "pop") (by decide +kernel)).mono (by decide +kernel) (by decide)
      · rw [List.mem_singleton.mp m]
        exact Shw.int (by have : (10 : Nat) ^ 12 = 1000000000000 := by decide
                          omega)
    · have hi := (List.getElem?_eq_some_iff.mp hv).1
      rcases List.mem_cons.mp m with rfl | m
      · rw [w]
        exact (Shw.str (x := "ask") (by decide +kernel)).mono (by decide +kernel) (by decide)
      · rw [List.mem_singleton.mp m]
        exact Shw.int (by have : (10 : Nat) ^ 12 = 1000000000000 := by decide
                          omega)
  · rw [List.length_map]
    have := Nat.mul_le_mul_right (84 + 1) hlen
    have : (2 : Nat) ^ 20 = 1048576 := by decide
    omega
section
variable {P : Program} {w : World} {K : PySem.W.Frag} {mg : Str → Option Value} {base : Heap}
def spLaw (T : Txt K mg) : Sp := fun vs H Q _ => ∃ (a : Addr) (ns : List Int), vs = [.ref a] ∧ SqL K H a (ns.map V.int) ∧ ns.length ≤ 63 ∧ ∀ H', Q (.bl true) H'
theorem ok_law (T : Txt K mg) {f : Addr} {d : FuncData} (F : Fun K "law" "law" s_law f d) : Inf.FnOkG P w K mg base CX0 40 f d ["_law_script"] (spLaw T) := by
  have G_l_bag := ok_bag (P := P) (w := w) (base := base) T
  have G_l_take := ok_takeK (P := P) (w := w) (base := base) T
  have G_l_history := ok_hist (P := P) (w := w) (base := base) T
  have G_l_ends := ok_ends (P := P) (w := w) (base := base) T
  have G_l_split := ok_split (P := P) (w := w) (base := base) T
  have G_plan_answers := ok_plan (P := P) (w := w) (base := base) T
  have G_l_visit : FnOk P w K mg base CX0 16 T.f_l_visit T.d_l_visit ["_law_history_here", "_law_parts", "_law_first", "_law_size"] (fun vs H Q E => ∃ j : Nat, j ≤ 12 ∧ spLV (j + 1) vs H Q E) := ⟨fun vs H Q E ⟨j, hj, h⟩ => (ok_lv (P := P) (w := w) (base := base) T (j + 1)).1 vs H Q E h, fun A outer s H args us vs Q E hr e0 hb r ⟨j, hj, h⟩ => (ok_lv (P := P) (w := w) (base := base) T (j + 1)).2 A outer s H args us vs Q E (hr.mono (by omega)) e0 hb r h⟩
  refine Inf.okG F sc_law (fun vs H Q E h => ?_) (fun cdv A outer s H vs Q E hG hr h => ?_)
  · obtain ⟨a, ns, rfl, _⟩ := h
    rfl
  · obtain ⟨a0, ns0, rfl, hS, hlen, q⟩ := h
    refine ⟨_, (pss_cons (ps_for PassesOwn.never rfl (pi_range1 (by rfl) T.z_range (pa_cons (pe_callB (call_max2 rfl) (by rfl) T.z_max (by decide +kernel) (pa_cons pe_int (pa_cons (pe_callB (call_min2 rfl) (by rfl) T.z_min (by decide +kernel) (pa_cons pe_int (pa_cons (pe_callB call_len_seq (by rfl) T.z_len (by decide +kernel) (pa_cons (pv 0) pa_nil)) pa_nil))) pa_nil))) pa_nil)) (pg_name (i := 1) sc_law.nd rfl (.inl rfl)) (pss_cons (ps_set (i := 2) sc_law.nd rfl (.inl rfl) (pe_call G_l_bag (hr.mono (by omega)) rfl T.g_l_bag T.F_l_bag.kp T.b_l_bag .nil pass0 (pa_cons (pv 0) (pa_cons (pv 1) pa_nil))))
        (pss_cons (ps_par (i := 3) (j := 4) (by rfl) sc_law.nd rfl rfl (by decide) rfl rfl (pa_cons (pe_call G_l_history (hr.mono (by omega)) rfl T.g_l_history T.F_l_history.kp T.b_l_history .nil pass0 (pa_cons (pv 2) (pa_cons pe_int pa_nil))) (pa_cons pe_int pa_nil)) (by rfl))
        (pss_cons (ps_while PassesOwn.never (pt_cmpR op_lt (pv 4) (pe_callB call_len_seq (by rfl) T.z_len (by decide +kernel) (pa_cons (pv 3) pa_nil)) (nomark _)) (pss_one (ps_set (i := 4) sc_law.nd rfl (.inl rfl) (pe_op op_mul pe_int (pv 4)))))
        (pss_cons (ps_setLc (i := 5) (own := [("_law_index", 11), ("_law_end", 10)]) (g := (gTup K 2 (gCons (gName 11) (gCons (gName 10) gNil)))) (tt := tYes) rfl sc_law.nd rfl rfl (sw_true rfl rfl rfl (by decide +kernel)) (pi_list (pe_call G_l_ends (hr.mono (by omega)) rfl T.g_l_ends T.F_l_ends.kp T.b_l_ends .nil pass0 (pa_cons (pv 3) pa_nil))) (blkOk_by (N := n_law) (sc := defScope s_law) (by decide +kernel)) (fun _ _ _ _ _ => (pg_tup (by rfl) (pgs_cons (pg_name (i := 11) sc_law.nd rfl (.inl rfl)) (pgs_cons (pg_name (i := 10) sc_law.nd rfl (.inl rfl)) pgs_nil)))) (fun _ _ _ _ _ => pts_nil) (fun _ _ _ _ _ => (pe_tup (pa_cons (pv 11) (pa_cons (pe_call G_l_split (hr.mono (by omega)) rfl T.g_l_split T.F_l_split.kp T.b_l_split .nil pass0 (pa_cons (pv 11) (pa_cons (pv 10) pa_nil))) pa_nil)))))
        (pss_cons (ps_par (i := 6) (j := 7) (by rfl) sc_law.nd rfl rfl (by decide) rfl rfl (pa_cons (pe_call G_l_visit (hr.mono (by omega)) rfl T.g_l_visit T.F_l_visit.kp T.b_l_visit .nil pass0 (pa_cons (pv 3) (pa_cons (pv 5) (pa_cons pe_int (pa_cons (pv 4) pa_nil))))) (pa_cons (pe_callB (Inf.call_reprD hG (u16 hr)) (by rfl) T.z_repr (by decide +kernel) (pa_cons (pv 3) pa_nil)) pa_nil)) (by rfl))
        (pss_one (ps_for PassesOwn.never rfl (pi_range1 (by rfl) T.z_range (pa_cons pe_int pa_nil)) (pg_name (i := 8) sc_law.nd rfl (.inl rfl)) (pss_cons (ps_set (i := 9) sc_law.nd rfl (.inl rfl) (pe_call G_plan_answers (hr.mono (by omega)) rfl T.g_plan_answers T.F_plan_answers.kp T.b_plan_answers .nil pass0 (pa_cons (pv 3) pa_nil)))
          (pss_cons (ps_if (PW.pt (pw_or (pt_not (pt_val (pe_callB call_isi (by rfl) T.z_isinstance (by decide +kernel) (pa_cons (pv 9) (pa_cons (pe_bltn (v := .ty "list") (by rfl) T.z_list (by decide +kernel) rfl) pa_nil))))) (pw_or (pt_cmpR op_ne (pe_callB (Inf.call_reprD hG (u16 hr)) (by rfl) T.z_repr (by decide +kernel) (pa_cons (pv 9) pa_nil)) (pe_callB (Inf.call_reprD hG (u16 hr)) (by rfl) T.z_repr (by decide +kernel) (pa_cons (pv 6) pa_nil)) (nomark _)) (pw_or1 (pt_cmpR op_ne (pe_callB (Inf.call_reprD hG (u16 hr)) (by rfl) T.z_repr (by decide +kernel) (pa_cons (pv 3) pa_nil)) (pv 7) (nomark _)))))) (pss_one (ps_ret pe_bl)) pss_nil)
          (pss_one (ps_expr (pe_bm PySem.F.plainAttrs_list PySem.F.slot_list_append PySem.F.type_list_append mt_append (pv 9) (pa_cons pe_non pa_nil))))))))))))))
      (pss_one (ps_ret pe_bl))), ?_⟩
    refine ⟨_, rfl, a0, _, rfl, .inl hS, 4, _, rfl, 1, _, rfl, _, rfl, ?_, ?_, ?_⟩
    · split <;> split <;> omega
    · split <;> split <;> omega
    generalize hN : ((if (if (((ns0.map V.int).length : Nat) : Int) < 4 then (((ns0.map V.int).length : Nat) : Int) else 4) > 1 then (if (((ns0.map V.int).length : Nat) : Int) < 4 then (((ns0.map V.int).length : Nat) : Int) else 4) else 1) : Int).toNat = N
    have hN2 : N ≤ 5 := by
      rw [← hN]
      split <;> split <;> omega
    refine for_range (n := N) (fun i σ H' => ∃ y1 y2 y3 y4 y5 y6 y7 y8 y9 y10 y11, σ = [some (.ref a0), y1, y2, y3, y4, y5, y6, y7, y8, y9, y10, y11] ∧ Same H H') ⟨_, _, _, _, _, _, _, _, _, _, _, rfl, Same.refl _⟩ ?_ ?_
    · rintro i σ Hz hi ⟨y1, y2, y3, y4, y5, y6, y7, y8, y9, y10, y11, rfl, x1⟩
      refine ⟨_, rfl, _, rfl, a0, ns0, i, by rw [Int.zero_add]; rfl, x1.seq hS, by omega, fun p H1 np s1 b1 => pGN ?_⟩
      have fp := Fr.mk np
      dsimp only []
      refine ⟨_, rfl, p, 50, rfl, by decide, b1, fun c hs ds cs H3 k3 b3 fc L ok hl => ⟨_, _, rfl, ?_⟩⟩
      have s3 : Same Hz H3 := same_kp s1 k3 (subCons fp subNil)
      dsimp only []
      simp only [List.set_cons_succ, List.set_cons_zero]
      have Lh := L.lh
      obtain ⟨xs, e3, h3⟩ := id Lh
      have hlx := h3.len
      refine pSeq (while_by (fun σ H' => ∃ j : Nat, σ = [some (.ref a0), some (.int (0 + (i : Int))), some (.ref p), some (.ref c), some (.int ((2 ^ j : Nat) : Int)), y5, y6, y7, y8, y9, y10, y11] ∧ (j = 0 ∨ 2 ^ (j - 1) < hs.length) ∧ H' = H3) (fun σ _ => hs.length - intAt σ 4) ⟨0, rfl, .inl rfl, rfl⟩ ?_ ?_)
      · rintro σ H' ⟨j, rfl, hj, rfl⟩
        refine ⟨_, rfl, _, rfl, c, xs, rfl, .inl (sqlOf e3), _, _, rfl, rfl, _, rfl, ?_⟩
        rw [hlx]
        refine ite2 (fun e => ?_) (fun e => ?_)
        · have e1 := of_decide_eq_true e
          have e2 : 2 ^ j < hs.length := by omega
          have hp := Nat.two_pow_pos j
          refine ⟨_, rfl, _, _, rfl, rfl, .inl ⟨by decide, by decide⟩, ⟨j + 1, ?_, .inr e2, rfl⟩, ?_⟩
          · have : (2 : Int) * ((2 ^ j : Nat) : Int) = ((2 ^ (j + 1) : Nat) : Int) := by
              rw [Nat.pow_succ, Nat.mul_comm, Int.natCast_mul]
              rfl
            show [_, _, _, _, some (V.int ((2 : Int) * ((2 ^ j : Nat) : Int))), _, _, _, _, _, _, _] = _
            rw [this]
          · show hs.length - ((2 : Int) * ((2 ^ j : Nat) : Int)).toNat < hs.length - (((2 ^ j : Nat) : Int)).toNat
            omega
        · have e1 : hs.length ≤ 2 ^ j := by
            have : ¬ (((2 ^ j : Nat) : Int) < (hs.length : Int)) := fun z => e (decide_eq_true z)
            omega
          dsimp only []
          have lte := ends_len (hs := hs) (k := hs.length)
          have hends := fun e m => ends_lt (hs := hs) (Nat.le_refl _) e m
          refine pSeq (pAsg ⟨_, rfl, c, hs, rfl, Lh, ok, by omega, fun o H4 s4 fo pl => ?_⟩)
          obtain ⟨ts, t1, t2, t3⟩ := pl
          refine ⟨o, rfl, ⟨_, sqlOf t1⟩, fun D nD => ?_⟩
          have fD := Fr.mk nD
          have fD3 : Fr H' D := Fr.mk (s4.free nD)
          refine lc_it (walk_list (K := K) (a := o) (xs := ts.map V.ref)) (fun i' H5 => Same H4 H5 ∧ PartsD H5 D ((endsU hs hs.length).take i')) ⟨same_newF fD, [], upd_same, rfl, fun q t e a => by cases q <;> cases a⟩ (fun i' H5 _ z => sqlOf (z.1 _ _ t1)) ?_ ?_
          · rintro i' x H5' H5 hi' ⟨s5, pd⟩ ⟨rfl, hx⟩
            rw [List.length_map] at hi'
            rw [List.getElem?_map] at hx
            obtain ⟨t, ht, rfl⟩ := Option.map_eq_some_iff.mp hx
            obtain ⟨e, hee⟩ : ∃ e, (endsU hs hs.length)[i']? = some e := ⟨_, List.getElem?_eq_getElem (by omega)⟩
            have het := s5 _ _ (t3 i' t e ht hee)
            obtain ⟨b1', b2', b3'⟩ := hends e (List.mem_of_getElem? hee)
            refine ⟨t, _, rfl, sqtOf het, rfl, _, _, rfl, _, _, rfl, rfl, rfl, ?_⟩
            unfold tYes
            refine ifT rfl ?_
            refine ⟨_, rfl, _, rfl, _, rfl, e.1, e.2 - e.1, ?_, by omega, fun p2 H6 fp2 s6 pl2 => ⟨le2, fun t6 nt6 => ?_⟩⟩
            · show [V.int (e.1 : Int), V.int (e.2 : Int)] = _
              rw [show e.1 + (e.2 - e.1) = e.2 by omega]
            have ft6 := Fr.mk nt6
            have s7 := same_newF (o := .tup [.int (e.1 : Int), .ref p2]) ft6
            obtain ⟨_, hDl, _⟩ := id pd
            have npD : p2 ≠ D := (ne_of_none hDl fp2.h).symm
            obtain ⟨xs7, g1, g2, g3⟩ := ((pd.same s6).same s7).add (t := t6) (e := e) upd_same (pl2.same s7) npD
            refine ⟨xs7, g1, ?_, same_putG fD (s5.trans (s6.trans s7)), ?_⟩
            · rw [g2, List.length_take, sizeLine_eq]
              omega
            · rw [List.take_succ, hee]
              exact g3
          · rintro H5 ⟨s5, pd⟩
            rw [List.take_of_length_le (by rw [List.length_map, t2]; exact Nat.le_refl _)] at pd
            have pa := pd.at_
            refine pGN ?_
            dsimp only []
            simp only [List.set_cons_succ, List.set_cons_zero]
            have s35 := s4.trans s5
            have L5 := L.same s35
            obtain ⟨hpl, hshw⟩ := shw_plan (by omega) e1 hj
            have hj12 := (plan_lt (hs := hs) (j := j) (by omega) hj).1
            have hp4096 : (2 : Nat) ^ j ≤ 4096 := Nat.le_trans (Nat.pow_le_pow_right (by decide) hj12) (by decide)
            have h20 : (2 : Nat) ^ 20 = 1048576 := by decide
            refine pSeq ?_
            refine ⟨_, rfl, _, rfl, _, rfl, j, hj12, c, D, 0, hs, _, rfl, L5.lh, pa, by omega, by omega, by omega, by show (planW hs j).length < _; omega, fun od yd H6 s6 fod eod wld => ?_⟩
            have L6 := L5.same s6
            obtain ⟨dl, shl⟩ := dp_ld (K := K) L6 (by omega)
            refine ⟨_, rfl, .ref c, .list ds, rfl, dl, shl.sh, shl.nd, shl.dp, shl.fits (Nat.le_refl _), dp_int dl shl.sh, _, _, rfl, ?_⟩
            dsimp only []
            simp only [List.set_cons_succ, List.set_cons_zero]
            have wld : WLog H6 yd (planW hs j) := wld
            have s06 : Same H H6 := x1.trans (s3.trans (s35.trans s6))
            have dd6 := dp_wl (K := K) eod wld
            have hne : ∀ z : Str, (!decide (V.str z = V.str z)) = false := fun z => by rw [decide_eq_true rfl]; rfl
            refine ⟨_, rfl, by decide, by decide, ?_⟩
            refine for_range (n := ((2 : Int)).toNat) (fun i' σ H' => ∃ y8 y9, σ = [some (.ref a0), some (.int (0 + (i : Int))), some (.ref p), some (.ref c), some (.int ((2 ^ j : Nat) : Int)), some (.ref D), some (.ref od), some (.str (PyData.list ds).shown), y8, y9, y10, y11] ∧ Same H6 H') ⟨_, _, rfl, Same.refl _⟩ ?_ ?_
            · rintro i' σ H7 hi7 ⟨y8, y9, rfl, s7⟩
              have L7 := L6.same s7
              obtain ⟨x7, e7, h7⟩ := L7.lh
              refine ⟨_, rfl, c, x7, hs, rfl, e7, h7, ok, by omega, fun j2 ys o7 H8 g1 g2 s8 fo7 e8 w8 => ?_⟩
              obtain rfl : j = j2 := pow_uniq e1 hj g1 g2
              have d8 := dp_wl (K := K) e8 w8
              have s68 := s7.trans s8
              have dd8 := dp_wl (K := K) (s68 _ _ eod) (wld.kp (cs := []) (kp_same s68) mu_nil)
              obtain ⟨dl8, _⟩ := dp_ld (K := K) (L6.same s68) (by omega)
              refine ⟨_, rfl, _, _, _, _, true, rfl, .ty _, .base (.lst e8), kit_ty (by decide +kernel), true, rfl, ifF rfl ?_⟩
              refine ⟨_, rfl, .ref o7, _, rfl, d8, hshw.sh, hshw.nd, hshw.dp, hshw.fits (Nat.le_refl _), dp_int d8 hshw.sh, _, rfl, .ref od, _, rfl, dd8, hshw.sh, hshw.nd, hshw.dp, hshw.fits (Nat.le_refl _), dp_int dd8 hshw.sh, rfl, _, rfl, ifF (hne _) ?_⟩
              refine ⟨_, rfl, .ref c, .list ds, rfl, dl8, shl.sh, shl.nd, shl.dp, shl.fits (Nat.le_refl _), dp_int dl8 shl.sh, _, rfl, rfl, _, rfl, ifF (hne _) ?_⟩
              have l8 := w8.len
              refine ⟨_, rfl, .inl ⟨rfl, _, sqlOf e8⟩, o7, ys, _, rfl, rfl, e8, by rw [sizeLine_eq]; omega, ?_⟩
              exact ⟨_, _, rfl, same_putG (Fr.mk (s7.free fo7.h)) s68⟩
            · rintro σ H7 ⟨y8, y9, rfl, s7⟩
              exact ⟨_, _, _, _, _, _, _, _, _, _, _, rfl, s06.trans s7⟩
      · rintro σ H' Q1 Q2 m ⟨x, hx, y, hy, p, ys, e3, e4, a, b, e5, e6, k, e7, q⟩
        exact ⟨x, hx, y, hy, p, ys, e3, e4, a, b, e5, e6, k, e7, m _ _ q⟩
    · rintro σ H' ⟨y1, y2, y3, y4, y5, y6, y7, y8, y9, y10, y11, rfl, x1⟩
      exact q _
end
end Ob

set_option Elab.async false
set_option linter.all false
set_option maxRecDepth 100000
set_option maxHeartbeats 1000000
namespace Ob
open PySem PySem.Spec PyProof.Rows L2
open LamX (Tabs TabB TabS ExtN)

set_option hygiene false in
local macro_rules
  | `(tactic| kp_flats) => `(tactic| first
    | assumption
    | exact upd_same
    | (apply atNew; assumption; kp_flats)
    | (apply atNe; (next => kbo_bools); kp_flats)
    | (apply atSame; assumption; kp_flats)
    | (apply atKp; assumption; (next => kaf_pre); kp_flats))
set_option hygiene false in
local macro_rules
  | `(tactic| kaf_pre) => `(tactic| first
    | assumption
    | exact not_nil
    | (apply not_cons; (next => kbo_bools); kaf_pre)
    | (apply not_app; (next => kaf_pre); kaf_pre))
set_option hygiene false in
local macro_rules
  | `(tactic| kbo_bools) => `(tactic| first
    | assumption
    | (apply Ne.symm; assumption)
    | (apply neN; assumption; kp_flats)
    | (apply neN'; assumption; kp_flats))
set_option hygiene false in
local macro_rules
  | `(tactic| o_reads) => `(tactic| first
    | with_reducible rfl
    | assumption
    | rfl
    | kp_flats
    | (show SqL _ _ _ _; first | assumption | (apply sqlOf; kp_flats) | (apply sqlSame; assumption; o_reads))
    | (show SqT _ _ _ _; first | assumption | (apply sqtOf; kp_flats) | (apply sqtAll; assumption) | (apply sqtSame; assumption; o_reads))
    | (show Cls _ _; first | skip)
    | (show NoAttr _ _ _; first | skip)
    | (apply Or.inl; o_reads)
    | (apply Or.inr; o_reads)
    | (apply And.intro; (next => o_reads); o_reads)
    | (apply Exists.intro; o_reads)
    | exact Nat.le_of_ble_eq_true rfl
    | exact Nat.succ_ne_zero _
    | (show Fr _ _; kba_ints)
    | (show Same _ _; kd_subs)
    | (show Kp _ _ _; kxs_still)
    | (show (_ : Nat) ≤ _; simp only [List.length_append, List.length_map, List.length_cons, List.length_nil, List.length_take, List.length_drop, List.length_replicate, List.length_range, sizeLine_eq]; omega)
    | (show _ = none; apply Fr.h; kba_ints)
    | (show Bag _ _; first | assumption | (apply bag_putF; assumption; o_reads) | (apply bag_neF; (next => kbo_bools); o_reads) | (apply bag_kpR; assumption; (next => kaf_pre); o_reads))
    | omega
    | decide)
local macro_rules
  | `(tactic| o_readsAll) => `(tactic| repeat (first
    | (refine fun (pNew : Addr) (nNew : _ = none) => ?_; replace nNew := Fr.mk nNew)
    | (refine fun (xNew dNew : Addr) (nNew : _ = none) (mNew : _ = none) (eNew : dNew ≠ xNew) => ?_; replace nNew := Fr.mk nNew; replace mNew := Fr.mk mNew)
    | (apply And.intro; next => o_reads)
    | apply Exists.intro (α := V)
    | apply Exists.intro (α := Addr)
    | apply Exists.intro (α := Int)
    | apply Exists.intro (α := Bool)
    | apply Exists.intro (α := List V)
    | apply Exists.intro (α := List Nat)
    | apply Exists.intro (α := List (Str × V))
    | apply Exists.intro (α := List _)
    | apply Exists.intro (α := Str)
    | apply Exists.intro (α := HO)
    | apply Exists.intro (α := Sp)
    | apply Exists.intro (α := VK)))
set_option hygiene false in
local macro_rules
  | `(tactic| kba_ints) => `(tactic| first
    | assumption
    | (apply frUp; (first | assumption | (apply Ne.symm; assumption)); kba_ints)
    | (apply noneOf; assumption; intro oF eF; apply Exists.intro; kp_flats)
    | (apply frUp; (next => kbo_bools); kba_ints))
set_option hygiene false in
local macro_rules
  | `(tactic| kxs_still) => `(tactic| first
    | assumption
    | exact kp_refl _ _
    | (apply kp_newF; assumption; kxs_still)
    | (apply kp_new; assumption; kxs_still)
    | (apply kp_up; (next => o_fieldsN); kxs_still)
    | (apply kp_new; (next => kba_ints); kxs_still)
    | (apply kp_sameR; assumption; kxs_still)
    | (apply kp_transR; assumption; kxs_still)
    | (apply kp_freshR; assumption; (next => kaf_suf); kxs_still))
set_option hygiene false in
local macro_rules
  | `(tactic| kaf_suf) => `(tactic| first
    | assumption
    | exact subNil
    | (apply subCons; (first | (apply Or.inl; o_fieldsN) | (apply Or.inr; kba_ints)); kaf_suf)
    | (apply subApp; (next => kaf_suf); kaf_suf))
set_option hygiene false in
local macro_rules
  | `(tactic| o_fieldsN) => `(tactic| first
    | assumption
    | exact memA
    | (apply memB; o_fieldsN)
    | (apply memL; o_fieldsN)
    | (apply memR; o_fieldsN))
set_option hygiene false in
local macro_rules
  | `(tactic| kd_subs) => `(tactic| first
    | assumption
    | exact Same.refl _
    | (apply same_putF; assumption; kd_subs)
    | (apply same_putG; assumption; kd_subs)
    | (apply same_putF; (next => kba_ints); kd_subs)
    | (apply same_transR; assumption; kd_subs))

open NdefX (TabsN)
set_option pp.maxSteps 700
theorem all_mk {QQ : Program} {l : PySem.W.OpenLaw} {w : World} {K : PySem.W.Frag} {h : Heap} {mg : Str → Option Value} {fa : Addr} (X : K.In h) (G : h.Ns mainGlobals mg) (hfa : mg "law" = some (.ref fa)) (tt : Inf.TopTabs QQ K mg h)
    {a0 : Addr} {oc0 kV0 dc0 pm0 ct0 : Value} {od0 an0 : Option Addr} {sl0 : Array (Option Value)} {cd0 : Value} {a1 : Addr} {oc1 kV1 dc1 pm1 ct1 : Value} {od1 an1 : Option Addr} {sl1 : Array (Option Value)} {cd1 : Value} {a2 : Addr} {oc2 kV2 dc2 pm2 ct2 : Value} {od2 an2 : Option Addr} {sl2 : Array (Option Value)} {cd2 : Value} {a3 : Addr} {oc3 kV3 dc3 pm3 ct3 : Value} {od3 an3 : Option Addr} {sl3 : Array (Option Value)} {cd3 : Value} {a4 : Addr} {oc4 kV4 dc4 pm4 ct4 : Value} {od4 an4 : Option Addr} {sl4 : Array (Option Value)} {cd4 : Value} {a5 : Addr} {oc5 kV5 dc5 pm5 ct5 : Value} {od5 an5 : Option Addr} {sl5 : Array (Option Value)} {cd5 : Value} {a6 : Addr} {oc6 kV6 dc6 pm6 ct6 : Value} {od6 an6 : Option Addr} {sl6 : Array (Option Value)} {cd6 : Value} {a7 : Addr} {oc7 kV7 dc7 pm7 ct7 : Value} {od7 an7 : Option Addr} {sl7 : Array (Option Value)} {cd7 : Value} {a8 : Addr} {oc8 kV8 dc8 pm8 ct8 : Value} {od8 an8 : Option Addr} {sl8 : Array (Option Value)} {cd8 : Value} {a9 : Addr} {oc9 kV9 dc9 pm9 ct9 : Value} {od9 an9 : Option Addr} {sl9 : Array (Option Value)} {cd9 : Value} {a10 : Addr} {oc10 kV10 dc10 pm10 ct10 : Value} {od10 an10 : Option Addr} {sl10 : Array (Option Value)} {cd10 : Value} {a11 : Addr} {oc11 kV11 dc11 pm11 ct11 : Value} {od11 an11 : Option Addr} {sl11 : Array (Option Value)} {cd11 : Value} {a12 : Addr} {oc12 kV12 dc12 pm12 ct12 : Value} {od12 an12 : Option Addr} {sl12 : Array (Option Value)} {cd12 : Value} {a13 : Addr} {oc13 kV13 dc13 pm13 ct13 : Value} {od13 an13 : Option Addr} {sl13 : Array (Option Value)} {cd13 : Value} {a14 : Addr} {oc14 kV14 dc14 pm14 ct14 : Value} {od14 an14 : Option Addr} {sl14 : Array (Option Value)} {cd14 : Value} {a15 : Addr} {oc15 kV15 dc15 pm15 ct15 : Value} {od15 an15 : Option Addr} {sl15 : Array (Option Value)} {cd15 : Value} {a16 : Addr} {oc16 kV16 dc16 pm16 ct16 : Value} {od16 an16 : Option Addr} {sl16 : Array (Option Value)} {cd16 : Value} {a17 : Addr} {oc17 kV17 dc17 pm17 ct17 : Value} {od17 an17 : Option Addr} {sl17 : Array (Option Value)} {cd17 : Value} {a18 : Addr} {oc18 kV18 dc18 pm18 ct18 : Value} {od18 an18 : Option Addr} {sl18 : Array (Option Value)} {cd18 : Value} {a19 : Addr} {oc19 kV19 dc19 pm19 ct19 : Value} {od19 an19 : Option Addr} {sl19 : Array (Option Value)} {cd19 : Value} {a20 : Addr} {oc20 kV20 dc20 pm20 ct20 : Value} {od20 an20 : Option Addr} {sl20 : Array (Option Value)} {cd20 : Value} {a21 : Addr} {oc21 kV21 dc21 pm21 ct21 : Value} {od21 an21 : Option Addr} {sl21 : Array (Option Value)} {cd21 : Value} {t_GREATEST : Tok} {cW : Addr} {pW : Option Addr} {nW : Nat} {sW : Array (Option Value)} {tW1 tW2 tW3 : Tok}
    (ga0 : PySem.W.nsIn K mainGlobals "plan_pushes" = some (some (.ref a0)))
    (l0 : K.lookup a0 = some ⟨oc0, od0, .func (PySem.W.fnOf "plan_pushes" "plan_pushes" (defArgs s_plan_pushes) (defBody s_plan_pushes) (defScope s_plan_pushes) .none kV0 dc0 pm0 an0 cd0 ct0), sl0⟩) (c0 : PySem.W.codeIn K cd0 "plan_pushes" = true) (k0 : PySem.W.keepIn K (.ref a0) = true)
    (ga1 : PySem.W.nsIn K mainGlobals "plan_pops" = some (some (.ref a1)))
    (l1 : K.lookup a1 = some ⟨oc1, od1, .func (PySem.W.fnOf "plan_pops" "plan_pops" (defArgs s_plan_pops) (defBody s_plan_pops) (defScope s_plan_pops) .none kV1 dc1 pm1 an1 cd1 ct1), sl1⟩) (c1 : PySem.W.codeIn K cd1 "plan_pops" = true) (k1 : PySem.W.keepIn K (.ref a1) = true)
    (ga2 : PySem.W.nsIn K mainGlobals "pieces" = some (some (.ref a2)))
    (l2 : K.lookup a2 = some ⟨oc2, od2, .func (PySem.W.fnOf "pieces" "pieces" (defArgs s_pieces) (defBody s_pieces) (defScope s_pieces) .none kV2 dc2 pm2 an2 cd2 ct2), sl2⟩) (c2 : PySem.W.codeIn K cd2 "pieces" = true) (k2 : PySem.W.keepIn K (.ref a2) = true)
    (ga3 : PySem.W.nsIn K mainGlobals "piece_size" = some (some (.ref a3)))
    (l3 : K.lookup a3 = some ⟨oc3, od3, .func (PySem.W.fnOf "piece_size" "piece_size" (defArgs s_piece_size) (defBody s_piece_size) (defScope s_piece_size) .none kV3 dc3 pm3 an3 cd3 ct3), sl3⟩) (c3 : PySem.W.codeIn K cd3 "piece_size" = true) (k3 : PySem.W.keepIn K (.ref a3) = true)
    (ga4 : PySem.W.nsIn K mainGlobals "lowest_power" = some (some (.ref a4)))
    (l4 : K.lookup a4 = some ⟨oc4, od4, .func (PySem.W.fnOf "lowest_power" "lowest_power" (defArgs s_lowest_power) (defBody s_lowest_power) (defScope s_lowest_power) .none kV4 dc4 pm4 an4 cd4 ct4), sl4⟩) (c4 : PySem.W.codeIn K cd4 "lowest_power" = true) (k4 : PySem.W.keepIn K (.ref a4) = true)
    (ga5 : PySem.W.nsIn K mainGlobals "greatest_power" = some (some (.ref a5)))
    (l5 : K.lookup a5 = some ⟨oc5, od5, .func (PySem.W.fnOf "greatest_power" "greatest_power" (defArgs s_greatest_power) (defBody s_greatest_power) (defScope s_greatest_power) .none kV5 dc5 pm5 an5 cd5 ct5), sl5⟩) (c5 : PySem.W.codeIn K cd5 "greatest_power" = true) (k5 : PySem.W.keepIn K (.ref a5) = true)
    (ga6 : PySem.W.nsIn K mainGlobals "is_integer" = some (some (.ref a6)))
    (l6 : K.lookup a6 = some ⟨oc6, od6, .func (PySem.W.fnOf "is_integer" "is_integer" (defArgs s_is_integer) (defBody s_is_integer) (defScope s_is_integer) .none kV6 dc6 pm6 an6 cd6 ct6), sl6⟩) (c6 : PySem.W.codeIn K cd6 "is_integer" = true) (k6 : PySem.W.keepIn K (.ref a6) = true)
    (ga7 : PySem.W.nsIn K mainGlobals "check_integer" = some (some (.ref a7)))
    (l7 : K.lookup a7 = some ⟨oc7, od7, .func (PySem.W.fnOf "check_integer" "check_integer" (defArgs s_check_integer) (defBody s_check_integer) (defScope s_check_integer) .none kV7 dc7 pm7 an7 cd7 ct7), sl7⟩) (c7 : PySem.W.codeIn K cd7 "check_integer" = true) (k7 : PySem.W.keepIn K (.ref a7) = true)
    (ga8 : PySem.W.nsIn K mainGlobals "check_number" = some (some (.ref a8)))
    (l8 : K.lookup a8 = some ⟨oc8, od8, .func (PySem.W.fnOf "check_number" "check_number" (defArgs s_check_number) (defBody s_check_number) (defScope s_check_number) .none kV8 dc8 pm8 an8 cd8 ct8), sl8⟩) (c8 : PySem.W.codeIn K cd8 "check_number" = true) (k8 : PySem.W.keepIn K (.ref a8) = true)
    (ga9 : PySem.W.nsIn K mainGlobals "plan_answers" = some (some (.ref a9)))
    (l9 : K.lookup a9 = some ⟨oc9, od9, .func (PySem.W.fnOf "plan_answers" "plan_answers" (defArgs s_plan_answers) (defBody s_plan_answers) (defScope s_plan_answers) .none kV9 dc9 pm9 an9 cd9 ct9), sl9⟩) (c9 : PySem.W.codeIn K cd9 "plan_answers" = true) (k9 : PySem.W.keepIn K (.ref a9) = true)
    (ga10 : PySem.W.nsIn K mainGlobals "present_ends" = some (some (.ref a10)))
    (l10 : K.lookup a10 = some ⟨oc10, od10, .func (PySem.W.fnOf "present_ends" "present_ends" (defArgs s_present_ends) (defBody s_present_ends) (defScope s_present_ends) .none kV10 dc10 pm10 an10 cd10 ct10), sl10⟩) (c10 : PySem.W.codeIn K cd10 "present_ends" = true) (k10 : PySem.W.keepIn K (.ref a10) = true)
    (ga11 : PySem.W.nsIn K mainGlobals "is_entry" = some (some (.ref a11)))
    (l11 : K.lookup a11 = some ⟨oc11, od11, .func (PySem.W.fnOf "is_entry" "is_entry" (defArgs s_is_entry) (defBody s_is_entry) (defScope s_is_entry) .none kV11 dc11 pm11 an11 cd11 ct11), sl11⟩) (c11 : PySem.W.codeIn K cd11 "is_entry" = true) (k11 : PySem.W.keepIn K (.ref a11) = true)
    (ga12 : PySem.W.nsIn K mainGlobals "members_by_nodes" = some (some (.ref a12)))
    (l12 : K.lookup a12 = some ⟨oc12, od12, .func (PySem.W.fnOf "members_by_nodes" "members_by_nodes" (defArgs s_members_by_nodes) (defBody s_members_by_nodes) (defScope s_members_by_nodes) .none kV12 dc12 pm12 an12 cd12 ct12), sl12⟩) (c12 : PySem.W.codeIn K cd12 "members_by_nodes" = true) (k12 : PySem.W.keepIn K (.ref a12) = true)
    (ga13 : PySem.W.nsIn K mainGlobals "walk_size" = some (some (.ref a13)))
    (l13 : K.lookup a13 = some ⟨oc13, od13, .func (PySem.W.fnOf "walk_size" "walk_size" (defArgs s_walk_size) (defBody s_walk_size) (defScope s_walk_size) .none kV13 dc13 pm13 an13 cd13 ct13), sl13⟩) (c13 : PySem.W.codeIn K cd13 "walk_size" = true) (k13 : PySem.W.keepIn K (.ref a13) = true)
    (ga14 : PySem.W.nsIn K mainGlobals "visit" = some (some (.ref a14)))
    (l14 : K.lookup a14 = some ⟨oc14, od14, .func (PySem.W.fnOf "visit" "visit" (defArgs s_visit) (defBody s_visit) (defScope s_visit) .none kV14 dc14 pm14 an14 cd14 ct14), sl14⟩) (c14 : PySem.W.codeIn K cd14 "visit" = true) (k14 : PySem.W.keepIn K (.ref a14) = true)
    (ga15 : PySem.W.nsIn K mainGlobals "_law_bag" = some (some (.ref a15)))
    (l15 : K.lookup a15 = some ⟨oc15, od15, .func (PySem.W.fnOf "_law_bag" "_law_bag" (defArgs s_l_bag) (defBody s_l_bag) (defScope s_l_bag) .none kV15 dc15 pm15 an15 cd15 ct15), sl15⟩) (c15 : PySem.W.codeIn K cd15 "_law_bag" = true) (k15 : PySem.W.keepIn K (.ref a15) = true)
    (ga16 : PySem.W.nsIn K mainGlobals "_law_take" = some (some (.ref a16)))
    (l16 : K.lookup a16 = some ⟨oc16, od16, .func (PySem.W.fnOf "_law_take" "_law_take" (defArgs s_l_take) (defBody s_l_take) (defScope s_l_take) .none kV16 dc16 pm16 an16 cd16 ct16), sl16⟩) (c16 : PySem.W.codeIn K cd16 "_law_take" = true) (k16 : PySem.W.keepIn K (.ref a16) = true)
    (ga17 : PySem.W.nsIn K mainGlobals "_law_history" = some (some (.ref a17)))
    (l17 : K.lookup a17 = some ⟨oc17, od17, .func (PySem.W.fnOf "_law_history" "_law_history" (defArgs s_l_history) (defBody s_l_history) (defScope s_l_history) .none kV17 dc17 pm17 an17 cd17 ct17), sl17⟩) (c17 : PySem.W.codeIn K cd17 "_law_history" = true) (k17 : PySem.W.keepIn K (.ref a17) = true)
    (ga18 : PySem.W.nsIn K mainGlobals "_law_ends" = some (some (.ref a18)))
    (l18 : K.lookup a18 = some ⟨oc18, od18, .func (PySem.W.fnOf "_law_ends" "_law_ends" (defArgs s_l_ends) (defBody s_l_ends) (defScope s_l_ends) .none kV18 dc18 pm18 an18 cd18 ct18), sl18⟩) (c18 : PySem.W.codeIn K cd18 "_law_ends" = true) (k18 : PySem.W.keepIn K (.ref a18) = true)
    (ga19 : PySem.W.nsIn K mainGlobals "_law_split" = some (some (.ref a19)))
    (l19 : K.lookup a19 = some ⟨oc19, od19, .func (PySem.W.fnOf "_law_split" "_law_split" (defArgs s_l_split) (defBody s_l_split) (defScope s_l_split) .none kV19 dc19 pm19 an19 cd19 ct19), sl19⟩) (c19 : PySem.W.codeIn K cd19 "_law_split" = true) (k19 : PySem.W.keepIn K (.ref a19) = true)
    (ga20 : PySem.W.nsIn K mainGlobals "_law_visit" = some (some (.ref a20)))
    (l20 : K.lookup a20 = some ⟨oc20, od20, .func (PySem.W.fnOf "_law_visit" "_law_visit" (defArgs s_l_visit) (defBody s_l_visit) (defScope s_l_visit) .none kV20 dc20 pm20 an20 cd20 ct20), sl20⟩) (c20 : PySem.W.codeIn K cd20 "_law_visit" = true) (k20 : PySem.W.keepIn K (.ref a20) = true)
    (ga21 : PySem.W.nsIn K mainGlobals "law" = some (some (.ref a21)))
    (l21 : K.lookup a21 = some ⟨oc21, od21, .func (PySem.W.fnOf "law" "law" (defArgs s_law) (defBody s_law) (defScope s_law) .none kV21 dc21 pm21 an21 cd21 ct21), sl21⟩) (c21 : PySem.W.codeIn K cd21 "law" = true) (k21 : PySem.W.keepIn K (.ref a21) = true)
    (z_abs : PySem.W.nsIn K mainGlobals "abs" = some none)
    (z_any : PySem.W.nsIn K mainGlobals "any" = some none)
    (z_bool : PySem.W.nsIn K mainGlobals "bool" = some none)
    (z_enumerate : PySem.W.nsIn K mainGlobals "enumerate" = some none)
    (z_int : PySem.W.nsIn K mainGlobals "int" = some none)
    (z_isinstance : PySem.W.nsIn K mainGlobals "isinstance" = some none)
    (z_len : PySem.W.nsIn K mainGlobals "len" = some none)
    (z_list : PySem.W.nsIn K mainGlobals "list" = some none)
    (z_max : PySem.W.nsIn K mainGlobals "max" = some none)
    (z_min : PySem.W.nsIn K mainGlobals "min" = some none)
    (z_range : PySem.W.nsIn K mainGlobals "range" = some none)
    (z_repr : PySem.W.nsIn K mainGlobals "repr" = some none)
    (z_reversed : PySem.W.nsIn K mainGlobals "reversed" = some none)
    (z_str : PySem.W.nsIn K mainGlobals "str" = some none)
    (z_tuple : PySem.W.nsIn K mainGlobals "tuple" = some none)
    (v_GREATEST : PySem.W.nsIn K mainGlobals "GREATEST" = some (some (.int (10 ^ (30 : Nat)) t_GREATEST)))
    (gW : PySem.W.nsIn K mainGlobals "WORDS" = some (some (.ref cW)))
    (lW : K.lookup cW = some ⟨.type "tuple", pW, .seq (List.toArray [.str "add" tW1, .str "remove" tW2, .str "ask" tW3]) nW, sW⟩) : Inf.LawAtG l w K CX0 40 63 "_law_script" mg fa h := by
  have e := hfa.symm.trans (PySem.W.mg_of X G ga21)
  cases e
  have F0 := fun_mk (st := s_plan_pushes) l0 c0 k0
  have F1 := fun_mk (st := s_plan_pops) l1 c1 k1
  have F2 := fun_mk (st := s_pieces) l2 c2 k2
  have F3 := fun_mk (st := s_piece_size) l3 c3 k3
  have F4 := fun_mk (st := s_lowest_power) l4 c4 k4
  have F5 := fun_mk (st := s_greatest_power) l5 c5 k5
  have F6 := fun_mk (st := s_is_integer) l6 c6 k6
  have F7 := fun_mk (st := s_check_integer) l7 c7 k7
  have F8 := fun_mk (st := s_check_number) l8 c8 k8
  have F9 := fun_mk (st := s_plan_answers) l9 c9 k9
  have F10 := fun_mk (st := s_present_ends) l10 c10 k10
  have F11 := fun_mk (st := s_is_entry) l11 c11 k11
  have F12 := fun_mk (st := s_members_by_nodes) l12 c12 k12
  have F13 := fun_mk (st := s_walk_size) l13 c13 k13
  have F14 := fun_mk (st := s_visit) l14 c14 k14
  have F15 := fun_mk (st := s_l_bag) l15 c15 k15
  have F16 := fun_mk (st := s_l_take) l16 c16 k16
  have F17 := fun_mk (st := s_l_history) l17 c17 k17
  have F18 := fun_mk (st := s_l_ends) l18 c18 k18
  have F19 := fun_mk (st := s_l_split) l19 c19 k19
  have F20 := fun_mk (st := s_l_visit) l20 c20 k20
  have F21 := fun_mk (st := s_law) l21 c21 k21
  let T : Txt K mg := {
    f_plan_pushes := a0,
    d_plan_pushes := _,
    F_plan_pushes := F0,
    b_plan_pushes := (F0.binds (ps := ["numbers"]) fun _ _ _ _ _ _ us hl => match us, hl with | [_], _ => rfl),
    g_plan_pushes := PySem.W.mg_of X G ga0,
    f_plan_pops := a1,
    d_plan_pops := _,
    F_plan_pops := F1,
    b_plan_pops := (F1.binds (ps := ["numbers"]) fun _ _ _ _ _ _ us hl => match us, hl with | [_], _ => rfl),
    g_plan_pops := PySem.W.mg_of X G ga1,
    f_pieces := a2,
    d_pieces := _,
    F_pieces := F2,
    b_pieces := (F2.binds (ps := ["begin", "end"]) fun _ _ _ _ _ _ us hl => match us, hl with | [_, _], _ => rfl),
    g_pieces := PySem.W.mg_of X G ga2,
    f_piece_size := a3,
    d_piece_size := _,
    F_piece_size := F3,
    b_piece_size := (F3.binds (ps := ["first", "room"]) fun _ _ _ _ _ _ us hl => match us, hl with | [_, _], _ => rfl),
    g_piece_size := PySem.W.mg_of X G ga3,
    f_lowest_power := a4,
    d_lowest_power := _,
    F_lowest_power := F4,
    b_lowest_power := (F4.binds (ps := ["number"]) fun _ _ _ _ _ _ us hl => match us, hl with | [_], _ => rfl),
    g_lowest_power := PySem.W.mg_of X G ga4,
    f_greatest_power := a5,
    d_greatest_power := _,
    F_greatest_power := F5,
    b_greatest_power := (F5.binds (ps := ["number"]) fun _ _ _ _ _ _ us hl => match us, hl with | [_], _ => rfl),
    g_greatest_power := PySem.W.mg_of X G ga5,
    f_is_integer := a6,
    d_is_integer := _,
    F_is_integer := F6,
    b_is_integer := (F6.binds (ps := ["value"]) fun _ _ _ _ _ _ us hl => match us, hl with | [_], _ => rfl),
    g_is_integer := PySem.W.mg_of X G ga6,
    f_check_integer := a7,
    d_check_integer := _,
    F_check_integer := F7,
    b_check_integer := (F7.binds (ps := ["value"]) fun _ _ _ _ _ _ us hl => match us, hl with | [_], _ => rfl),
    g_check_integer := PySem.W.mg_of X G ga7,
    f_check_number := a8,
    d_check_number := _,
    F_check_number := F8,
    b_check_number := (F8.binds (ps := ["value"]) fun _ _ _ _ _ _ us hl => match us, hl with | [_], _ => rfl),
    g_check_number := PySem.W.mg_of X G ga8,
    f_plan_answers := a9,
    d_plan_answers := _,
    F_plan_answers := F9,
    b_plan_answers := (F9.binds (ps := ["history"]) fun _ _ _ _ _ _ us hl => match us, hl with | [_], _ => rfl),
    g_plan_answers := PySem.W.mg_of X G ga9,
    f_present_ends := a10,
    d_present_ends := _,
    F_present_ends := F10,
    b_present_ends := (F10.binds (ps := ["history"]) fun _ _ _ _ _ _ us hl => match us, hl with | [_], _ => rfl),
    g_present_ends := PySem.W.mg_of X G ga10,
    f_is_entry := a11,
    d_is_entry := _,
    F_is_entry := F11,
    b_is_entry := (F11.binds (ps := ["entry", "present"]) fun _ _ _ _ _ _ us hl => match us, hl with | [_, _], _ => rfl),
    g_is_entry := PySem.W.mg_of X G ga11,
    f_members_by_nodes := a12,
    d_members_by_nodes := _,
    F_members_by_nodes := F12,
    b_members_by_nodes := (F12.binds (ps := ["ends"]) fun _ _ _ _ _ _ us hl => match us, hl with | [_], _ => rfl),
    g_members_by_nodes := PySem.W.mg_of X G ga12,
    f_walk_size := a13,
    d_walk_size := _,
    F_walk_size := F13,
    b_walk_size := (F13.binds (ps := ["length"]) fun _ _ _ _ _ _ us hl => match us, hl with | [_], _ => rfl),
    g_walk_size := PySem.W.mg_of X G ga13,
    f_visit := a14,
    d_visit := _,
    F_visit := F14,
    b_visit := (F14.binds (ps := ["entries", "nodes", "asked", "first", "size"]) fun _ _ _ _ _ _ us hl => match us, hl with | [_, _, _, _, _], _ => rfl),
    g_visit := PySem.W.mg_of X G ga14,
    f_l_bag := a15,
    d_l_bag := _,
    F_l_bag := F15,
    b_l_bag := (F15.binds (ps := ["_law_script", "_law_at"]) fun _ _ _ _ _ _ us hl => match us, hl with | [_, _], _ => rfl),
    g_l_bag := PySem.W.mg_of X G ga15,
    f_l_take := a16,
    d_l_take := _,
    F_l_take := F16,
    b_l_take := (F16.binds (ps := ["_law_bag_here", "_law_many"]) fun _ _ _ _ _ _ us hl => match us, hl with | [_, _], _ => rfl),
    g_l_take := PySem.W.mg_of X G ga16,
    f_l_history := a17,
    d_l_history := _,
    F_l_history := F17,
    b_l_history := (F17.binds (ps := ["_law_bag_here", "_law_most"]) fun _ _ _ _ _ _ us hl => match us, hl with | [_, _], _ => rfl),
    g_l_history := PySem.W.mg_of X G ga17,
    f_l_ends := a18,
    d_l_ends := _,
    F_l_ends := F18,
    b_l_ends := (F18.binds (ps := ["_law_history_here"]) fun _ _ _ _ _ _ us hl => match us, hl with | [_], _ => rfl),
    g_l_ends := PySem.W.mg_of X G ga18,
    f_l_split := a19,
    d_l_split := _,
    F_l_split := F19,
    b_l_split := (F19.binds (ps := ["_law_first", "_law_end"]) fun _ _ _ _ _ _ us hl => match us, hl with | [_, _], _ => rfl),
    g_l_split := PySem.W.mg_of X G ga19,
    f_l_visit := a20,
    d_l_visit := _,
    F_l_visit := F20,
    b_l_visit := (F20.binds (ps := ["_law_history_here", "_law_parts", "_law_first", "_law_size"]) fun _ _ _ _ _ _ us hl => match us, hl with | [_, _, _, _], _ => rfl),
    g_l_visit := PySem.W.mg_of X G ga20,
    z_abs := PySem.W.mg_none_of X G z_abs,
    z_any := PySem.W.mg_none_of X G z_any,
    z_bool := PySem.W.mg_none_of X G z_bool,
    z_enumerate := PySem.W.mg_none_of X G z_enumerate,
    z_int := PySem.W.mg_none_of X G z_int,
    z_isinstance := PySem.W.mg_none_of X G z_isinstance,
    z_len := PySem.W.mg_none_of X G z_len,
    z_list := PySem.W.mg_none_of X G z_list,
    z_max := PySem.W.mg_none_of X G z_max,
    z_min := PySem.W.mg_none_of X G z_min,
    z_range := PySem.W.mg_none_of X G z_range,
    z_repr := PySem.W.mg_none_of X G z_repr,
    z_reversed := PySem.W.mg_none_of X G z_reversed,
    z_str := PySem.W.mg_none_of X G z_str,
    z_tuple := PySem.W.mg_none_of X G z_tuple,
    u_GREATEST := _,
    v_GREATEST := PySem.W.mg_of X G v_GREATEST,
    r_GREATEST := ⟨_, rfl⟩,
    c_WORDS := cW,
    g_WORDS := PySem.W.mg_of X G gW,
    s_WORDS := fun _ => .inr ⟨_, _, _, lW, rfl, rfl, (show (3 : Nat) ≤ sizeLine from le3), .cons ⟨_, rfl⟩ (.cons ⟨_, rfl⟩ (.cons ⟨_, rfl⟩ .nil))⟩ }
  refine ⟨PySem.W.fnOf "law" "law" (defArgs s_law) (defBody s_law) (defScope s_law) .none kV21 dc21 pm21 an21 cd21 ct21, [], spLaw T, (fun _ z => nomatch z), (fun _ z => nomatch z), (fun _ z => nomatch z), fun s v => .of_eq rfl, fun H a ns hl ht hS => ⟨a, ns, rfl, hS, hl, fun _ => rfl⟩, fun base _ _ tb => (ok_law T F21)⟩
end Ob
open PySem PySem.W PyProof.Rows
set_option maxHeartbeats 0 in
theorem PySem.Challenge.cw_oncebuilt_k72_plans_of_histories_holds : PySem.Challenge.rw_oncebuilt_k72_plans_of_histories.Holds := by
  w_on; o_law; k_head; (case hw => w_witness2)
  k_fill
  refine Inf.walk_topG (l := PySem.Challenge.rw_oncebuilt_k72_plans_of_histories) (n := 63) (k := 40) (x := "_law_script") (YP := _) (CX := fun _ => L2.CX0) rfl (by decide) rfl ⟨rfl, by decide, by decide⟩ (fun w h Y => by first | exact PySem.W.kIn_of Y | exact PySem.W.km_in_of Y) ?F (fun _ _ _ _ _ h => h)
  case F =>
    intro w mg fa h Y KX G hmg tt
    refine' Ob.all_mk KX G hmg tt ?ga0 ?l0 ?c0 ?k0 ?ga1 ?l1 ?c1 ?k1 ?ga2 ?l2 ?c2 ?k2 ?ga3 ?l3 ?c3 ?k3 ?ga4 ?l4 ?c4 ?k4 ?ga5 ?l5 ?c5 ?k5 ?ga6 ?l6 ?c6 ?k6 ?ga7 ?l7 ?c7 ?k7 ?ga8 ?l8 ?c8 ?k8 ?ga9 ?l9 ?c9 ?k9 ?ga10 ?l10 ?c10 ?k10 ?ga11 ?l11 ?c11 ?k11 ?ga12 ?l12 ?c12 ?k12 ?ga13 ?l13 ?c13 ?k13 ?ga14 ?l14 ?c14 ?k14 ?ga15 ?l15 ?c15 ?k15 ?ga16 ?l16 ?c16 ?k16 ?ga17 ?l17 ?c17 ?k17 ?ga18 ?l18 ?c18 ?k18 ?ga19 ?l19 ?c19 ?k19 ?ga20 ?l20 ?c20 ?k20 ?ga21 ?l21 ?c21 ?k21 ?z_abs ?z_any ?z_bool ?z_enumerate ?z_int ?z_isinstance ?z_len ?z_list ?z_max ?z_min ?z_range ?z_repr ?z_reversed ?z_str ?z_tuple ?v_GREATEST ?gW ?lW
    (case ga0 => k_is); (case l0 => k_is); (case c0 => k_is); (case k0 => k_is); (case ga1 => k_is); (case l1 => k_is); (case c1 => k_is); (case k1 => k_is); (case ga2 => k_is); (case l2 => k_is); (case c2 => k_is); (case k2 => k_is); (case ga3 => k_is); (case l3 => k_is); (case c3 => k_is); (case k3 => k_is); (case ga4 => k_is); (case l4 => k_is); (case c4 => k_is); (case k4 => k_is); (case ga5 => k_is); (case l5 => k_is); (case c5 => k_is); (case k5 => k_is); (case ga6 => k_is); (case l6 => k_is); (case c6 => k_is); (case k6 => k_is); (case ga7 => k_is); (case l7 => k_is); (case c7 => k_is); (case k7 => k_is); (case ga8 => k_is); (case l8 => k_is); (case c8 => k_is); (case k8 => k_is); (case ga9 => k_is); (case l9 => k_is); (case c9 => k_is); (case k9 => k_is); (case ga10 => k_is); (case l10 => k_is); (case c10 => k_is); (case k10 => k_is); (case ga11 => k_is); (case l11 => k_is); (case c11 => k_is); (case k11 => k_is); (case ga12 => k_is); (case l12 => k_is); (case c12 => k_is); (case k12 => k_is); (case ga13 => k_is); (case l13 => k_is); (case c13 => k_is); (case k13 => k_is); (case ga14 => k_is); (case l14 => k_is); (case c14 => k_is); (case k14 => k_is); (case ga15 => k_is); (case l15 => k_is); (case c15 => k_is); (case k15 => k_is); (case ga16 => k_is); (case l16 => k_is); (case c16 => k_is); (case k16 => k_is); (case ga17 => k_is); (case l17 => k_is); (case c17 => k_is); (case k17 => k_is); (case ga18 => k_is); (case l18 => k_is); (case c18 => k_is); (case k18 => k_is); (case ga19 => k_is); (case l19 => k_is); (case c19 => k_is); (case k19 => k_is); (case ga20 => k_is); (case l20 => k_is); (case c20 => k_is); (case k20 => k_is); (case ga21 => k_is); (case l21 => k_is); (case c21 => k_is); (case k21 => k_is); (case z_abs => k_is); (case z_any => k_is); (case z_bool => k_is); (case z_enumerate => k_is); (case z_int => k_is); (case z_isinstance => k_is); (case z_len => k_is); (case z_list => k_is); (case z_max => k_is); (case z_min => k_is); (case z_range => k_is); (case z_repr => k_is); (case z_reversed => k_is); (case z_str => k_is); (case z_tuple => k_is); (case v_GREATEST => k_is); (case gW => k_is); (case lW => k_is)


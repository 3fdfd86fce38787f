import PyProof.Rows.All
import Wide.All
import OpenK.AllK
import Wide.FinOn
import HandS.ForMost
import HandS.ForExc
import HandS.Nested
import HandS.Star
import HandS.Finally
import HandS.EndTab
import HandS.Replace
import HandS.Defaults
import HandS.ClsMeth
import HandS.MakeKwOnly
import KE.KMinKey
import HandS.SortKw
import KE.KDictCopyH
import KE.KDictIter
import HandS.IterVal
import HandS.Wide
import HandS.WideBits
import HandS.IsInst
import HandS.Codes
import HandS.Comp
import HandS.Conv
import HandS.SortInts
import HandS.MethStar
import PySem.Challenge.RW_oncebuilt_k61_calls_of_join
import HandS.DictComp
import KE.KItemsList
import HandS.Rev
import HandS.DictTup
import HandS.Style
import HandS.Small
import HandS.Zip
set_option Elab.async false
set_option linter.all false
set_option maxRecDepth 100000
set_option maxHeartbeats 4000000
namespace Inf
open PySem PySem.Spec PyProof.Rows L2 NdefX LamX
/-! ### a cell that is told -/
def CellO (c : Addr) (v : V) : HO := .ext fun h => ∃ u, L2.RelV v u ∧ h.IsCell c (some u)
theorem cellO_at {P : Program} {w : World} {H : Hp} {h : Heap} {c : Addr} {v : V} (hok : HOk P w H h) (e : H c = some (CellO c v)) : ∃ u, L2.RelV v u ∧ h.IsCell c (some u) := by
  obtain ⟨z, _, _⟩ := hok c _ e
  exact z
theorem cellO_ok {P : Program} {w : World} {H : Hp} {h : Heap} {c : Addr} {v : V} (x : ∃ u, L2.RelV v u ∧ h.IsCell c (some u)) : ObjOk P w H h c (CellO c v) := by
  refine ⟨x, ?_, fun h1 h2 ⟨u, r, o, e, d⟩ k => ⟨u, r, o, k o e, d⟩⟩
  obtain ⟨u, _, o, e, _⟩ := x
  exact ⟨o, e⟩
/-! ### cells left out, and put back -/
def cut (cs : List Addr) (H : Hp) : Hp := fun b => if b ∈ cs then Option.none else H b
def mend (cs : List Addr) (H H1 : Hp) : Hp := fun b => if b ∈ cs then H b else H1 b
theorem cut_in {cs : List Addr} {H : Hp} {b : Addr} (h : b ∈ cs) : cut cs H b = Option.none := if_pos h
theorem cut_out {cs : List Addr} {H : Hp} {b : Addr} (h : b ∉ cs) : cut cs H b = H b := if_neg h
theorem mend_in {cs : List Addr} {H H1 : Hp} {b : Addr} (h : b ∈ cs) : mend cs H H1 b = H b := if_pos h
theorem mend_out {cs : List Addr} {H H1 : Hp} {b : Addr} (h : b ∉ cs) : mend cs H H1 b = H1 b := if_neg h
def cellsOf (F : NF) (fr : List Str) : List Addr := fr.filterMap fun y => F.cl.lookup y
theorem mem_cells {F : NF} {fr : List Str} {c : Addr} : c ∈ cellsOf F fr ↔ ∃ y ∈ fr, F.cl.lookup y = some c := List.mem_filterMap
/-- the function F stands at f, and its captured cells hold ws -/
structure Clo (H : Hp) (f : Addr) (F : NF) (fr : List Str) (ws : List V) : Prop where
  fn : H f = some (FnO f F)
  code : H F.c = some (CodeO F.c F.qual)
  len : ws.length = fr.length
  dom : ∀ y c, F.cl.lookup y = some c → y ∈ fr
  inj : ∀ x y c, F.cl.lookup x = some c → F.cl.lookup y = some c → x = y
  at_ : ∀ (i : Nat) (y : Str), fr[i]? = some y → ∃ c v, F.cl.lookup y = some c ∧ ws[i]? = some v ∧ H c = some (CellO c v)
theorem Clo.same {H H1 : Hp} {f : Addr} {F : NF} {fr : List Str} {ws : List V} (h : Clo H f F fr ws) (s : Same H H1) : Clo H1 f F fr ws :=
  ⟨s _ _ h.fn, s _ _ h.code, h.len, h.dom, h.inj, fun i y e => by
    obtain ⟨c, v, a, b, d⟩ := h.at_ i y e
    exact ⟨c, v, a, b, s _ _ d⟩⟩
theorem Clo.cell {H : Hp} {f : Addr} {F : NF} {fr : List Str} {ws : List V} (h : Clo H f F fr ws) {b : Addr} (hb : b ∈ cellsOf F fr) : ∃ v, H b = some (CellO b v) := by
  obtain ⟨y, hy, e⟩ := mem_cells.mp hb
  obtain ⟨i, hi⟩ := List.mem_iff_getElem?.mp hy
  obtain ⟨c, v, a, _, d⟩ := h.at_ i y hi
  rw [e] at a
  cases a
  exact ⟨v, d⟩
/-- what is no thing by a word of its own is no cell -/
theorem Clo.out {H : Hp} {f : Addr} {F : NF} {fr : List Str} {ws : List V} (h : Clo H f F fr ws) {b : Addr} {o : HO} (e : H b = some o) (n : ∀ φ, o ≠ .ext φ) : b ∉ cellsOf F fr := fun hb => by
  obtain ⟨v, d⟩ := h.cell hb
  rw [e] at d
  exact n _ (Option.some.inj d)
section
variable {P : Program} {w : World} {K : PySem.W.Frag} {mg : Str → Option Value} {base : Heap} {k : Nat} {f : Addr} {F : NF} {ps fr : List Str} {sp : List (Option V) → Sp}
/-- A FUNCTION THAT WAS MADE IN A DEF, called from anywhere: its cells are told; while it runs they are left out, behind it they are put back -/
theorem clo_fnR (N : NOk P w K mg base CX0 k f F ps fr sp) :
    FnR P w K mg base CX0 k f (fun vs H Q E => ∃ ws, Clo H f F fr ws ∧ sp (ws.map some) vs (cut (cellsOf F fr) H) (fun v H1 => (∀ b, b ∈ cellsOf F fr → H1 b = Option.none) → Q v (mend (cellsOf F fr) H H1)) E) := by
  intro A outer s H us vs Q E hr e0 r hsp
  obtain ⟨ws, hc, hsp⟩ := hsp
  have cellAt : ∀ b, b ∈ cellsOf F fr → ∃ v, H b = some (CellO b v) := fun b hb => hc.cell hb
  have fnout : f ∉ cellsOf F fr := fun hb => by
    obtain ⟨v, e⟩ := cellAt f hb
    obtain ⟨u, _, o, e1, e2⟩ := cellO_at e0.hok e
    obtain ⟨od, sl, doc, pm, ctv, e3⟩ := fnO_at e0.hok hc.fn
    rw [e1] at e3
    cases e3
    cases e2
  have cout : F.c ∉ cellsOf F fr := fun hb => by
    obtain ⟨v, e⟩ := cellAt F.c hb
    obtain ⟨u, _, o, e1, e2⟩ := cellO_at e0.hok e
    obtain ⟨⟨oc, vs', t, h1, h2, h3⟩, _, _⟩ := e0.hok F.c _ hc.code
    rw [e1] at h1
    cases h1
    rw [e2] at h2
    cases h2
  have hokc : HOk P w (cut (cellsOf F fr) H) s.heap := fun b o e => by
    by_cases hb : b ∈ cellsOf F fr
    · rw [cut_in hb] at e
      cases e
    · rw [cut_out hb] at e
      refine (e0.hok b o e).stay (fun c u _ q => q) (fun c q => ?_) fun c xs q => ?_
      · rw [cut_out (hc.out q (fun φ z => nomatch z))]
        exact q
      · rw [cut_out (hc.out q (fun φ z => nomatch z))]
        exact q
  have noneC : ∀ b, H b = Option.none → cut (cellsOf F fr) H b = Option.none := fun b e => by
    by_cases hb : b ∈ cellsOf F fr
    · exact cut_in hb
    · rw [cut_out hb]
      exact e
  have e1 : Env0 P w K mg base A outer s (cut (cellsOf F fr) H) := ⟨e0.frames, e0.mod, fun b o q => ⟨(e0.bs b o q).1, noneC b (e0.bs b o q).2⟩, e0.bsz, e0.funs, fun b hb => noneC b (e0.frf b hb), hokc, e0.bare⟩
  have C : CellsAt F.cl fr (ws.map some) s.heap (cut (cellsOf F fr) H) := by
    refine ⟨by rw [List.length_map]; exact hc.len, fun y c e => ?_, hc.inj, fun i y e => ?_⟩
    · have hb : c ∈ cellsOf F fr := mem_cells.mpr ⟨y, hc.dom y c e, e⟩
      obtain ⟨v, d⟩ := cellAt c hb
      obtain ⟨u, _, z⟩ := cellO_at e0.hok d
      exact ⟨cut_in hb, _, z⟩
    · obtain ⟨c, v, a, b, d⟩ := hc.at_ i y e
      refine ⟨c, a, fun v' e' => ?_⟩
      rw [List.getElem?_map, b] at e'
      cases e'
      obtain ⟨u, r', z⟩ := cellO_at e0.hok d
      exact ⟨u, r', z⟩
  refine codeAny_mono (N.run A outer s (cut (cellsOf F fr) H) us vs (ws.map some) _ E hr e1 (by rw [cut_out fnout]; exact hc.fn) (by rw [cut_out cout]; exact hc.code) C r hsp) fun res s' hq => ?_
  cases res with
  | error e => exact hq
  | ok fl =>
    cases fl with
    | next => exact hq
    | brk => exact hq
    | cont => exact hq
    | ret u =>
      obtain ⟨v, H1, os, bare, un, hok1, rv, q⟩ := hq
      have gone : ∀ b, b ∈ cellsOf F fr → H1 b = Option.none := fun b hb => by
        obtain ⟨v, d⟩ := cellAt b hb
        obtain ⟨u, _, o, z1, z2⟩ := cellO_at e0.hok d
        exact un.free b o z1 (cut_in hb) (by simp)
      have notfr : ∀ b, b ∈ cellsOf F fr → b ∉ frs outer := fun b hb z => by
        obtain ⟨v, d⟩ := cellAt b hb
        rw [e0.frf b z] at d
        cases d
      refine ⟨v, mend (cellsOf F fr) H H1, os, bare, ⟨fun b o a n h1 h2 => un.keep b o a (noneC b n) h1 h2, fun b o a n h1 h2 => un.slot b o a (noneC b n) h1 h2, fun b o a n h2 => ?_, un.there, fun b xs e => ?_, fun b o u e => ?_, fun b ps e => ?_⟩, fun b o e => ?_, rv, q gone⟩
      · by_cases hb : b ∈ cellsOf F fr
        · rw [mend_in hb]
          exact n
        · rw [mend_out hb]
          exact un.free b o a (noneC b n) h2
      · have hb := hc.out e (fun φ z => nomatch z)
        rw [mend_out hb]
        exact un.tups b xs (by rw [cut_out hb]; exact e)
      · have hb := hc.out e (fun φ z => nomatch z)
        rw [mend_out hb]
        exact un.frzs b o u (by rw [cut_out hb]; exact e)
      · have hb := hc.out e (fun φ z => nomatch z)
        rw [mend_out hb]
        exact un.tbls b ps (by rw [cut_out hb]; exact e)
      · by_cases hb : b ∈ cellsOf F fr
        · rw [mend_in hb] at e
          obtain ⟨v', d⟩ := cellAt b hb
          rw [d] at e
          cases e
          obtain ⟨u', r', o', z1, z2⟩ := cellO_at e0.hok d
          exact cellO_ok ⟨u', r', o', un.keep b o' z1 (cut_in hb) (notfr b hb) (by simp), z2⟩
        · rw [mend_out hb] at e
          refine (hok1 b o e).stay (fun c u _ q => q) (fun c q => ?_) fun c xs q => ?_
          · have hb' : c ∉ cellsOf F fr := fun z => by
              rw [gone c z] at q
              cases q
            rw [mend_out hb']
            exact q
          · have hb' : c ∉ cellsOf F fr := fun z => by
              rw [gone c z] at q
              cases q
            rw [mend_out hb']
            exact q
end
theorem mend_at {cs : List Addr} {H H1 : Hp} {a : Addr} {o : HO} (g : ∀ b, b ∈ cs → H1 b = Option.none) (e : H1 a = some o) : mend cs H H1 a = some o := by
  rw [mend_out fun z => by rw [g a z] at e; cases e]
  exact e
theorem cut_at {cs : List Addr} {H : Hp} {a : Addr} {o : HO} (n : a ∉ cs) (e : H a = some o) : cut cs H a = some o := (cut_out n).trans e
end Inf

set_option Elab.async false
set_option linter.all false
set_option maxRecDepth 100000
set_option maxHeartbeats 4000000
namespace Inf
open PySem PySem.Spec PyProof.Rows L2 NdefX LamX
/-! ### a body that ends in a return: what its names hold there is told -/
abbrev TSR := (L2.St → V → Hp → Prop) → L2.St → Hp → Prop
structure PSsR (X : Cx) (ss : List Stmt) (t : TSR) : Prop where
  run : ∀ (pins : List (Addr × Obj)) (s : Shared) (σ : L2.St) (H : Hp) (R : L2.St → V → Hp → Prop), Inv X pins σ H s → t R σ H →
    wpAny (model X.prog X.w) X.A (execs ss X.env) (fun fl s' => ∃ u v σ' H', fl = .ret u ∧ Inv X pins σ' H' s' ∧ L2.RelV v u ∧ R σ' v H') X.xe s
theorem psr_cons {X : Cx} {st : Stmt} {rest : List Stmt} {t : TS} {u : TSR} (h1 : PS X st t) (h2 : PSsR X rest u) : PSsR X (st :: rest) (fun R σ H => t { nx := fun σ' H' => u R σ' H', rt := fun _ _ => False } σ H) := by
  refine ⟨fun pins s σ H R I h => ?_⟩
  refine wpAny_execs_cons (thn (h1.run pins s σ H { nx := fun σ' H' => u R σ' H', rt := fun _ _ => False } I h) fun fl s1 q => ?_)
  cases fl with
  | next =>
    obtain ⟨σ1, H1, I1, q1⟩ := q
    exact h2.run pins s1 σ1 H1 R I1 q1
  | brk =>
    obtain ⟨_, _, _, q1⟩ := q
    exact False.elim q1
  | cont =>
    obtain ⟨_, _, _, q1⟩ := q
    exact False.elim q1
  | ret v =>
    obtain ⟨_, _, _, _, _, q1⟩ := q
    exact False.elim q1
theorem psr_ret {X : Cx} {e : Expr} {pos : Pos} {te : TE} (he : PE X e te) : PSsR X [.Return (some e) pos] (fun R σ H => te σ H (R σ)) := by
  refine ⟨fun pins s σ H R I h => ?_⟩
  refine wpAny_execs_cons (wpAny_Return_some (thn (he.run pins s σ H _ I h) fun v s1 ⟨x, H1, I1, r1, q1⟩ => ?_))
  exact ⟨v, x, σ, H1, rfl, I1, r1, q1⟩
/-! ### a def that returns things that hold its names -/
/-- the heap behind the return: the def's cells are told -/
structure Fin (cells : List (Str × Addr)) (names : List (Str × NameKind)) (N : List Str) (σ : L2.St) (H H' : Hp) : Prop where
  same : Same H H'
  gone : ∀ b, H' b = Option.none → H b = Option.none
  inj : ∀ x y c, cells.lookup x = some c → cells.lookup y = some c → x = y
  at_ : ∀ (i : Nat) (y : Str) (c : Addr) (v : V), N[i]? = some y → names.lookup y = some .cell → cells.lookup y = some c → σ[i]? = some (some v) → H' c = some (CellO c v)
theorem cells_big : ∀ (names : List (Str × NameKind)) (n lo : Nat) (acc : List (Str × Addr)), (∀ p ∈ acc, lo ≤ p.2) → lo ≤ n → ∀ p ∈ cellsFrom n names acc, lo ≤ p.2
  | [], n, lo, acc, h, _ => h
  | (x, kd) :: r, n, lo, acc, h, hn => by
    unfold cellsFrom
    split
    · exact cells_big r (n + 1) lo _ (fun p hp => by
        rcases List.mem_cons.mp hp with rfl | hp
        · exact hn
        · exact h p hp) (by omega)
    · exact cells_big r n lo acc h hn
section
variable {CX : CXT} {P : Program} {w : World} {K : PySem.W.Frag} {mg : Str → Option Value} {base : Heap} {N ps : List Str} {qual : Str} {scope : Scope} {f : Addr} {cdv : Value} {A : Around} {outer : List Env} {s s' : Shared} {H H' : Hp} {E : XK} {σ : L2.St} {Q : VK}
open Classical in
theorem fin_make (nd : N.Nodup) (J : Inv (cxOf CX P w K mg base N qual scope f cdv A outer s H E) [] σ H' s') :
    ∃ H'', Fin (envOfC qual scope s.heap.objs.size f cdv).cells scope.names N σ H' H'' ∧ Un (frs outer) [] H H'' s.heap s'.heap ∧ HOk P w H'' s'.heap := by
  have ge : ∀ (y : Str) (c : Addr), (envOfC qual scope s.heap.objs.size f cdv).cells.lookup y = some c → s.heap.objs.size ≤ c := fun y c e =>
    cells_big scope.names (s.heap.objs.size + 1) s.heap.objs.size [] (fun p hp => by cases hp) (Nat.le_succ _) (y, c) (PySem.mem_of_lookup e)
  have J0 : Un (frs outer) [] H H' s.heap s'.heap := J.base
  have inj := J.ok.inj
  let Pr : Addr → V → Prop := fun b v => ∃ (i : Nat) (y : Str), N[i]? = some y ∧ scope.names.lookup y = some .cell ∧ (envOfC qual scope s.heap.objs.size f cdv).cells.lookup y = some b ∧ σ[i]? = some (some v)
  have gone : ∀ b v, Pr b v → H' b = Option.none := fun b v ⟨i, y, _, _, e, _⟩ => J.freeC y b e
  have uniq : ∀ b v u, Pr b v → Pr b u → v = u := fun b v u ⟨i, y, a1, a2, a3, a4⟩ ⟨j, z, b1, b2, b3, b4⟩ => by
    have e1 : y = z := inj y z b a3 b3
    subst e1
    have e2 : i = j := by
      obtain ⟨h1, g1⟩ := List.getElem?_eq_some_iff.mp a1
      obtain ⟨h2, g2⟩ := List.getElem?_eq_some_iff.mp b1
      exact (List.getElem_inj nd).mp (g1.trans g2.symm)
    subst e2
    rw [a4] at b4
    exact Option.some.inj (Option.some.inj b4)
  let H'' : Hp := fun b => if h : ∃ v, Pr b v then some (CellO b (Classical.choose h)) else H' b
  have inC : ∀ b v, Pr b v → H'' b = some (CellO b v) := fun b v h => by
    have hx : ∃ v, Pr b v := ⟨v, h⟩
    show (if h : ∃ v, Pr b v then some (CellO b (Classical.choose h)) else H' b) = _
    rw [dif_pos hx, uniq b _ v (Classical.choose_spec hx) h]
  have outC : ∀ b, (¬ ∃ v, Pr b v) → H'' b = H' b := fun b h => dif_neg h
  have known : ∀ b o, H' b = some o → H'' b = some o := fun b o e => by
    rw [outC b fun ⟨v, h⟩ => by rw [gone b v h] at e; cases e]
    exact e
  refine ⟨H'', ⟨known, fun b e => ?_, inj, fun i y c v h1 h2 h3 h4 => inC c v ⟨i, y, h1, h2, h3, h4⟩⟩, ⟨J0.keep, J0.slot, fun b o a n h2 => ?_, J0.there, fun b xs e => known _ _ (J0.tups b xs e), fun b o u e => known _ _ (J0.frzs b o u e), fun b ps' e => ?_⟩, fun b o e => ?_⟩
  · by_cases hb : ∃ v, Pr b v
    · obtain ⟨v, h⟩ := hb
      rw [inC b v h] at e
      cases e
    · rw [outC b hb] at e
      exact e
  · rw [outC b fun ⟨v, i, y, _, _, e, _⟩ => by
      exact absurd (Heap.lt_size a) (Nat.not_lt.mpr (ge y b e))]
    exact J0.free b o a n h2
  · obtain ⟨more, e2⟩ := J0.tbls b ps' e
    exact ⟨more, known _ _ e2⟩
  · by_cases hb : ∃ v, Pr b v
    · obtain ⟨v, h⟩ := hb
      rw [inC b v h] at e
      cases e
      obtain ⟨i, y, a1, a2, a3, a4⟩ := h
      obtain ⟨m, hn, hl⟩ := J.loc
      obtain ⟨u, ru, lk⟩ := hl i y v a1 a4 (.inr (.inl a2))
      refine cellO_ok ⟨u, ru, ?_⟩
      rcases lk with ⟨z, _⟩ | ⟨_, c', hc', hcell⟩
      · have z' : scope.names.lookup y = some .local := z
        rw [a2] at z'
        cases z'
      · have hc2 : (envOfC qual scope s.heap.objs.size f cdv).cells.lookup y = some c' := hc'
        rw [a3] at hc2
        cases hc2
        exact hcell
    · rw [outC b hb] at e
      exact (J.hok b o e).stay (fun c u _ q => q) (fun c q => known _ _ q) fun c xs q => known _ _ q
end
/-- THE RULE for such a def -/
theorem Fun.okC {P : Program} {w : World} {K : PySem.W.Frag} {mg : Str → Option Value} {base : Heap} {x qual : Str} {st : Stmt} {f : Addr} {fd : FuncData} {N ps : List Str} {k : Nat} {sp : Sp} (F : L2.Fun K x qual st f fd) (S : FnScope N ps (defScope st)) (len : ∀ vs H Q E, sp vs H Q E → vs.length = ps.length)
    (hbody : ∀ (cdv : Value) (A : Around) (outer : List Env) (s : Shared) (H : Hp) (vs : List V) (Q : VK) (E : XK), Room k (A.deeper (envOfC qual (defScope st) s.heap.objs.size f cdv)) → PySem.W.codeIn K cdv qual = true → sp vs H Q E →
      ∃ t, PSsR (cxOf CX0 P w K mg base N qual (defScope st) f cdv A outer s H E).nox (defBody st) t ∧
        t (fun σ v H' => ∀ H'', Fin (envOfC qual (defScope st) s.heap.objs.size f cdv).cells (defScope st).names N σ H' H'' → Q v H'') (start N vs) H) : FnOk P w K mg base CX0 (k + 1) f fd ps sp := by
  obtain ⟨oc, od, kV, doc, pm, an, cdv, ct, osl, rfl, lk, hcd⟩ := F.ex
  refine ⟨len, fun A outer s H args us vs Q E hr e0 hb r hsp => ?_⟩
  have hl := len _ _ _ _ hsp
  have KX : K.In s.heap := e0.mod.kin.keeps fun b o e => (e0.bs b o e).1
  have lim : s.heap.NoLimit := e0.mod.nolimit.keeps fun b o e => (e0.bs b o e).1
  have hkind : ∀ y ∈ ps.zip us, (defScope st).names.lookup y.1 = some .local ∨ ((defScope st).names.lookup y.1 = some .cell ∧ ((cellsFrom (s.heap.objs.size + 1) (defScope st).names []).lookup y.1).isSome = true) := fun ⟨n, v⟩ hy => by
    rcases S.par n (List.of_mem_zip hy).1 with q | q
    · exact .inl q
    · exact .inr ⟨q, PySem.W.cellsFrom_some _ _ _ (.inl q)⟩
  refine codeAny_call_function hr.depth (KX _ _ lk) rfl S.co S.gen rfl (PySem.W.codeRec_of KX hcd) (hb _ _ _ _ ?_)
  refine wpAny_newFunctionEnv_cells S.kind hkind fun env he s1 xx => ?_
  subst he
  refine ⟨lim.keeps xx.toInCall.keep, codeAny_func ?_⟩
  obtain ⟨t, ht, hq⟩ := hbody cdv A outer s H vs Q E (hr.deeper _) hcd hsp
  have I : Inv (cxOf CX0 P w K mg base N qual (defScope st) f cdv A outer s H E) [] (start N vs) H s1 := inv_start S hr.hd e0 hl r xx
  refine wpAny_mono (ht.run [] s1 (start N vs) H _ (I.wish _) hq) (fun fl s' hs => ?_) fun e s' hs => False.elim hs
  obtain ⟨u, v, σ', H', rfl, J', rv, q⟩ := hs
  have J : Inv (cxOf CX0 P w K mg base N qual (defScope st) f cdv A outer s H E) [] σ' H' s' := J'.unwish
  obtain ⟨H'', hF, hU, hO⟩ := fin_make S.nd J
  exact ⟨v, H'', J.os, J.bare, hU, hO, rv, q H'' hF⟩
end Inf

set_option Elab.async false
set_option linter.all false
set_option maxRecDepth 100000
set_option maxHeartbeats 4000000
namespace Inf
open PySem PySem.Spec PyProof.Rows L2 NdefX LamX
/-! ### f( *values), f a name that holds a function that was made in a def -/
/-- such a thing is a function object -/
def FnHO (f : Addr) (o : HO) : Prop := ∀ (P : Program) (w : World) (H : Hp) (h : Heap), HOk P w H h → H f = some o → PySem.W.FnAt f h
theorem fnHO_of {f : Addr} {F : NF} : FnHO f (FnO f F) := fun P w H h hok e => by
  obtain ⟨od, sl, doc, pm, ctv, z⟩ := fnO_at hok e
  exact ⟨_, od, _, sl, z⟩
def tAct (P : Program) (w : World) (K : PySem.W.Frag) (mg : Str → Option Value) (base : Heap) (CX : CXT) (k i : Nat) (E : L2.St → XK) (te : TE) : TE := fun σ H Q => ∃ f, σ[i]? = some (some (.ref f)) ∧ te σ H fun y H1 => ∃ a xs o sp, y = V.ref a ∧ (SqT K H1 a xs ∨ SqL K H1 a xs) ∧ H1 f = some o ∧ FnHO f o ∧
  FnR P w K mg base CX k f sp ∧ sp xs H1 Q (E σ)
section
variable {X : Cx} {CX : CXT} {k i : Nat} {E : L2.St → XK} {x : Str} {e : Expr} {te : TE} {p sp_ pos : Pos}
theorem run_fnE {pins : List (Addr × Obj)} {σ : L2.St} {H : Hp} {s : Shared} {f : Addr} {sp : Sp} {Q : VK} {us : List Value} {vs : List V} (F : FnR X.prog X.w X.K X.mg X.base CX k f sp) (hr : Room k X.A) (hx : PassesAt CX X σ (E σ)) (I : Inv X pins σ H s) (r : Vals vs us) (h : sp vs H Q (E σ)) :
    wpAny (model X.prog X.w) X.A (call (.ref f) us) (EP X pins σ Q) X.xe s := by
  refine wpAny_call (codeAny_mono (F X.A X.stack s H us vs Q (E σ) hr I.env0 r h) fun r s' hq => ?_)
  match r, hq with
  | .error e, hq => exact hx pins H s e s' I hq
  | .ok (.ret u), hq => exact I.after hq
  | .ok .next, hq => exact False.elim hq
  | .ok .brk, hq => exact False.elim hq
  | .ok .cont, hq => exact False.elim hq
theorem pe_act (hN : X.N[i]? = some x) (hv : Vis X.env.scope x) (hr : Room k X.A) (hx : ∀ σ, PassesAt CX X σ (E σ)) (he : PE X e te) (hd : (x == ("__debug__" : Str)) = false := by decide) (hcd : (x == ("__classdict__" : Str)) = false := by decide)
    (hst : starEach [.Starred e sp_] X.env = [(true, eval e X.env)] := by rfl) : PE X (.Call (.Name x p) [.Starred e sp_] [] pos) (tAct X.prog X.w X.K X.mg X.base CX k i E te) := by
  refine ⟨fun pins s σ H Q I h => ?_⟩
  obtain ⟨f, hs, h⟩ := h
  refine wpAny_Call_Name_kw (thn ((pe_var (pos := p) hN hv hd hcd).run pins s σ H (fun v H1 => v = .ref f ∧ H1 = H) I ⟨.ref f, hs, rfl, rfl⟩) fun u s1 ⟨v, H1, I1, r1, ev, eH⟩ => ?_)
  subst ev
  rw [eH] at I1
  obtain rfl : u = Value.ref f := r1
  rw [show backTo pos (starEach [.Starred e sp_] X.env) = [(true, (do let v ← eval e X.env; standAt pos; pure v))] by rw [hst]; rfl]
  refine PySem.W.ks_call (P := PySem.W.FnAt f) rfl PySem.W.keeps_F (PySem.W.ks_lone ?_)
  refine thn (he.run pins s1 σ H _ I1 h) fun v s2 ⟨y, H2, I2, ry, a, xs, o, sp, ey, hxs, hf, ho, hF, q⟩ => ?_
  subst ey
  obtain rfl : v = Value.ref a := ry
  exact StX.star_any I2 hxs fun us s3 I3 rv => ⟨ho _ _ _ _ I3.hok hf, run_fnE hF hr (hx σ) I3 rv q⟩
end
/-! ### try: body finally: suite, where nothing is raised -/
section
variable {X : Cx} {body : List Stmt} {f₀ : Stmt} {fs : List Stmt} {pos : Pos} {tb tf : TS}
def tFin0 (tb tf : TS) : TS := fun D σ H => tb { nx := fun σ1 H1 => tf D σ1 H1, rt := fun _ _ => False } σ H
theorem ps_fin0 (hb : PSs X.nox body tb) (hf : PSs X.nox (f₀ :: fs) tf) : PS X (.Try body [] [] (f₀ :: fs) pos) (tFin0 tb tf) := by
  refine ⟨fun pins s σ H D I h => wpAny_Try_finally (wpAny_mono (hb.run pins s σ H _ (I.wish _) h) (fun g s1 z => ?_) fun _ _ z => False.elim z)⟩
  match g, z with
  | .ret u, z => exact (z.elim fun _ z => z.elim fun _ z => z.elim fun _ z => z.2.2).elim
  | .brk, z => exact (z.elim fun _ z => z.elim fun _ z => z.2).elim
  | .cont, z => exact (z.elim fun _ z => z.elim fun _ z => z.2).elim
  | .next, z =>
    obtain ⟨σ1, H1, J1, q1⟩ := z
    refine wpAny_execs_nil (wpAny_mono (hf.run pins s1 σ1 H1 D (J1.unwish.wish _) q1) (fun g2 s2 q2 => ?_) fun _ _ e => False.elim e)
    have q3 : SP X pins D g2 s2 := q2.unwish
    cases g2 <;> exact q3
end
end Inf

set_option Elab.async false
set_option linter.all false
set_option maxRecDepth 100000
set_option maxHeartbeats 4000000
namespace Inf
open PySem PySem.Spec PyProof.Rows L2 NdefX LamX
/-- the tables of the code objects of the top's defs, as the written part and the head tell them -/
def TopTabs (q : Program) (K : PySem.W.Frag) (mg : Str → Option Value) (h : Heap) : Prop := ∀ (x : Str) (f c P : Addr) (o1 : Obj) (fd1 : FuncData) (e : Value) (dd : Option Addr) (vs1 : Array Value) (sl : Array (Option Value)),
  (recsOf q).any (fun d => d.name == x) = true → mg x = some (.ref f) → K.lookup f = some o1 → o1.data = .func fd1 → fd1.code = .ref c → K.lookup c = some ⟨e, dd, .fields vs1, sl⟩ → vs1[11]? = some (.ref P) →
    PySem.W.CodeHd h c P ∧ h.get? P = some { cls := .none, data := .fields #[] }
theorem walk_top {l : PySem.W.OpenLaw} {n k : Nat} {q : Program} {loose : List Str} {XP : (Str → Option Value) → Heap → Prop} {YP : World → Heap → Prop} {d : DefRec} {K : Params → PySem.W.Frag} {CX : World → CXT} {x : Str}
    (hn : l.most = some n) (hn2 : n ≤ sizeLine) (hdf : d.params.defaults = []) (hr : Room k callerA) (hY : ∀ (w : World) (h : Heap), YP w h → (K w.params).In h)
    (F : ∀ (w : World) (mg : Str → Option Value) (fa : Addr) (h : Heap), YP w h → (K w.params).In h → h.Ns mainGlobals mg → mg d.name = some (.ref fa) → TopTabs q (K w.params) mg h → LawAtS l w (K w.params) (CX w) k n x mg fa h)
    (hCX : ∀ (w : World) (H : Hp) (s : Shared) (e : Value) (s' : Shared), CX w [] H s (fun _ _ _ => False) e s' → False) :
    PySem.W.WalkO q loose XP YP l.row.toRowW d [] (fun f vs => PySem.call f vs) :=
  Att.attach_callB hn hdf fun w s₀ s₁ mg mb fa o pm cd doc a vs ns G Y ho hd hcd hmg hobj hints hlen hbits hg => by
    have KX := hY w _ Y
    have tabs : TopTabs q (K w.params) mg s₁.heap := fun x f c P o1 fd1 e dd vs1 sl hrec hx k1 k2 k3 k4 k5 => by
      obtain ⟨dL, hm, hn1⟩ := List.any_eq_true.mp hrec
      have hn2 : dL.name = x := beq_iff_eq.mp hn1
      obtain ⟨a', o', fd', c', P', h1, h2, h3, h4, h5, h6⟩ := G.T.tab dL hm
      rw [hn2, hx] at h1
      cases h1
      have g1 := KX _ _ k1
      rw [g1] at h2
      cases h2
      rw [k2] at h3
      cases h3
      rw [k3] at h4
      cases h4
      have hC := PySem.W.CodeHd.of h5 h6
      obtain ⟨⟨oc, vc, e1, _, e3, e4⟩, hP⟩ := h6
      have g2 := KX _ _ k4
      rw [g2] at e1
      cases e1
      cases e3
      rw [k5] at e4
      cases e4
      exact ⟨hC, hP⟩
    obtain ⟨fd, cs, sp, hT, nT, C, hb, hsp, hF⟩ := F w mg fa _ Y KX G.T.g hmg tabs
    exact law_callTs KX G.T.g G.T.b G.T.builtins G.T.nolimit hg hT nT C G.T.bmain hobj hints (Nat.le_trans hlen hn2) hr hF hb (fun H hH hS => hsp H a ns hlen hbits hH hS) fun H e s' => hCX w H s₁ e s'
end Inf

set_option Elab.async false
set_option linter.all false
set_option maxRecDepth 100000
set_option maxHeartbeats 4000000
namespace Inf
open PySem PySem.Spec PyProof.Rows L2 NdefX LamX
/-! ### promises of defs that are called where no repr is under way -/
structure FnOkG (P : Program) (w : World) (K : PySem.W.Frag) (mg : Str → Option Value) (base : Heap) (CX : CXT) (k : Nat) (f : Addr) (fd : FuncData) (ps : List Str) (sp : Sp) : Prop where
  len : ∀ vs H Q E, sp vs H Q E → vs.length = ps.length
  run : ∀ (A : Around) (outer : List Env) (s : Shared) (H : Hp) (args : Args) (us : List Value) (vs : List V) (Q : VK) (E : XK), A.guards = some [] → Room k A → Env0 P w K mg base A outer s H → BindsTo s fd args (ps.zip us) → Vals vs us → sp vs H Q E →
    codeAny (model P w) A (.call (.ref f) args) (CR CX outer P w H s Q E) s
theorem FnOkG.of {P : Program} {w : World} {K : PySem.W.Frag} {mg : Str → Option Value} {base : Heap} {CX : CXT} {k : Nat} {f : Addr} {fd : FuncData} {ps : List Str} {sp : Sp} (F : FnOk P w K mg base CX k f fd ps sp) : FnOkG P w K mg base CX k f fd ps sp :=
  ⟨F.len, fun A outer s H args us vs Q E _ => F.run A outer s H args us vs Q E⟩
section
variable {P : Program} {w : World} {K : PySem.W.Frag} {mg mb : Str → Option Value} {CX : CXT} {k : Nat} {fa a : Addr} {cs : List (Addr × Addr)} {fd : FuncData} {x : Str} {sp : Sp} {s₁ : Shared} {vs : List Value} {ns : List Int}
/-- the law's call, from such a promise -/
theorem call_lawG (KX : K.In s₁.heap) (hns : s₁.heap.Ns mainGlobals mg) (hb : s₁.heap.Ns builtinsNs mb) (hbb : ∀ x : Str, x ≠ "__name__" → mb x = bootBuiltins x) (hlim : s₁.heap.NoLimit) (hg : s₁.gens = #[])
    (hT : ∀ p ∈ cs, s₁.heap.get? p.2 = some { cls := .none, data := .fields #[] }) (nT : ∀ p ∈ cs, K.lookup p.2 = none) (C : ∀ p ∈ cs, PySem.W.CodeHd s₁.heap p.1 p.2)
    (hbm : ∃ (bm : Addr) (ob : Obj), mg "__builtins__" = some (.ref bm) ∧ bm ≠ builtinsNs ∧ s₁.heap.get? bm = some ob ∧ ob.cls = .type "module" ∧ ob.dict = some builtinsNs ∧ ob.data = .plain)
    (ha : s₁.heap.get? a = some { cls := .type "list", data := .seq vs.toArray }) (hi : IntsAre vs ns) (hl : ns.length ≤ sizeLine) (hr : Room k callerA)
    (F : ∀ base : Heap, K.In base → base.Ns mainGlobals mg → (∀ p ∈ cs, TabB base mg p.1 p.2) → FnOkG P w K mg base CX k fa fd [x] sp) (hbind : ∀ (s : Shared) (u : Value), BindsTo s fd ⟨[u], []⟩ [(x, u)])
    (hsp : ∀ H : Hp, (∀ p ∈ cs, H p.2 = some (.tbl #[])) → SqL K H a (ns.map V.int) → sp [.ref a] H (fun v _ => v = .bl true) fun _ _ _ => False)
    (hCX : ∀ H e s', CX [] H s₁ (fun _ _ _ => False) e s' → False) :
    codeAny (model P w) callerA (.call (.ref fa) ⟨[.ref a], []⟩) (fun r s' => r = .ok (.ret (.bool true)) ∧ OldK s₁.heap s'.heap ∧ s'.os = s₁.os ∧ AllBare s'.gens) s₁ := by
  have tabAt : ∀ b, b ∈ cs.map (·.2) → s₁.heap.get? b = some { cls := .none, data := .fields #[] } := fun b hb => (List.mem_map.mp hb).elim fun p hp => hp.2 ▸ hT p hp.1
  have tabK : ∀ b, b ∈ cs.map (·.2) → K.lookup b = none := fun b hb => (List.mem_map.mp hb).elim fun p hp => hp.2 ▸ nT p hp.1
  -- the abstract heap: the tables, and the script where the written part doesn't hold it
  let H : Hp := fun b => if b ∈ cs.map (·.2) then some (.tbl #[]) else if b = a ∧ K.lookup a = none then some (.frz { cls := .type "list", data := .seq vs.toArray } (.lst (ns.map V.int))) else none
  have aNot : a ∉ cs.map (·.2) := fun z => by
    have := tabAt a z
    rw [ha] at this
    cases this
  have Htab : ∀ b, b ∈ cs.map (·.2) → H b = some (.tbl #[]) := fun b hb => if_pos hb
  have Hcase : ∀ b u, H b = some u → (b ∈ cs.map (·.2) ∧ u = .tbl #[]) ∨ (b = a ∧ K.lookup a = none ∧ u = .frz { cls := .type "list", data := .seq vs.toArray } (.lst (ns.map V.int))) := fun b u e => by
    by_cases h1 : b ∈ cs.map (·.2)
    · exact .inl ⟨h1, Option.some.inj (e.symm.trans (Htab b h1))⟩
    · by_cases h2 : b = a ∧ K.lookup a = none
      · exact .inr ⟨h2.1, h2.2, Option.some.inj (e.symm.trans ((if_neg h1).trans (if_pos h2)))⟩
      · exact absurd (e.symm.trans ((if_neg h1).trans (if_neg h2))) (fun z => nomatch z)
  have other : ∀ b o, s₁.heap.get? b = some o → (∀ its n, o.data ≠ .seq its n) → o.data ≠ .fields #[] → H b = none := fun b o e n1 n2 => by
    match q : H b with
    | none => rfl
    | some u =>
      rcases Hcase b u q with ⟨z, _⟩ | ⟨z, _, _⟩
      · rw [tabAt b z] at e
        exact absurd (by cases e; rfl) n2
      · rw [z, ha] at e
        exact absurd (by cases e; rfl) (n1 vs.toArray 0)
  have hok : HOk P w H s₁.heap := fun b u e => by
    rcases Hcase b u e with ⟨z, rfl⟩ | ⟨rfl, _, rfl⟩
    · exact tabAt b z
    · exact ⟨ha, by rw [List.length_map]; exact hl, vs, _, vals_ints hi, ha⟩
  have hS : SqL K H a (ns.map V.int) := by
    match hk : K.lookup a with
    | none => exact .inl (.inr ⟨_, (if_neg aNot).trans (if_pos ⟨rfl, hk⟩)⟩)
    | some o =>
      have e := KX a o hk
      rw [ha] at e
      cases e
      have lenV := hi.length
      exact .inr ⟨_, vs.toArray, _, hk, rfl, rfl, rfl, by rw [List.size_toArray, lenV]; exact hl, by simpa using vals_ints hi⟩
  have low : ∀ b o, s₁.heap.get? b = some o → H b = none → (hidT s₁.heap H).get? b = some o := fun b o e n => hidT_get e n
  have lowNs : ∀ {b : Addr} {m : Str → Option Value}, s₁.heap.Ns b m → (hidT s₁.heap H).Ns b m := fun {b m} h => by
    obtain ⟨o, es, ep, e, d, r⟩ := h
    exact ⟨o, es, ep, low b o e (other b o e (fun its n z => by rw [d] at z; cases z) fun z => by rw [d] at z; cases z), d, r⟩
  have lowK : K.In (hidT s₁.heap H) := fun b o e => low b o (KX b o e) (by
    match q : H b with
    | none => rfl
    | some u =>
      rcases Hcase b u q with ⟨z, _⟩ | ⟨rfl, z, _⟩
      · rw [tabK b z] at e
        cases e
      · rw [z] at e
        cases e)
  have notG : ∀ b o, s₁.heap.get? b = some o → (∀ es ep, o.data ≠ .dict es ep) → b ≠ mainGlobals := fun b o e n z => by
    obtain ⟨o', es, ep, e', d, _⟩ := hns
    rw [z, e'] at e
    cases e
    exact n es ep d
  have lowT : ∀ p ∈ cs, TabB (hidT s₁.heap H) mg p.1 p.2 := fun p hp => by
    refine ⟨?_, ?_, Ne.symm (notG p.2 _ (hT p hp) (fun es ep z => nomatch z))⟩
    · obtain ⟨o, us, file, tf, flags, tg, inF, text, tt, e1, r1, r2, r3, rest⟩ := C p hp
      refine ⟨o, us, file, tf, flags, tg, inF, text, tt, low _ o e1 (other _ o e1 (fun its n z => by rw [r2] at z; cases z) fun z => ?_), r1, r2, r3, rest⟩
      rw [r2] at z
      cases z
      simp at r3
    · obtain ⟨bm, ob, b1, b2, b3, b4, b5, b6⟩ := hbm
      refine ⟨bm, ob, b1, b2, notG bm ob b3 (fun es ep z => by rw [b6] at z; cases z), fun z => ?_, low bm ob b3 (other bm ob b3 (fun its n z => by rw [b6] at z; cases z) fun z => by rw [b6] at z; cases z), b4, b5, b6⟩
      rw [z, hT p hp] at b3
      cases b3
      cases b6
  have lowM : L2.Mod K mg (hidT s₁.heap H) := ⟨lowK, lowNs hns, ⟨mb, lowNs hb, hbb⟩, hlim.elim fun mc h => ⟨mc, lowNs h.1, h.2⟩⟩
  have e0 : Env0 P w K mg (hidT s₁.heap H) callerA [] s₁ H := ⟨rfl, lowM, fun b o e => of_hidT e, Nat.le_of_eq (hidT_size _ _), trivial, fun b hb => absurd (show b ∈ ([] : List Addr) from hb) (List.not_mem_nil), hok, .of_eq hg⟩
  refine codeAny_mono ((F _ lowK (lowNs hns) lowT).run callerA [] s₁ H ⟨[.ref a], []⟩ [.ref a] [.ref a] _ _ rfl hr e0 (hbind s₁ (.ref a)) (.cons rfl .nil) (hsp H (fun p hp => Htab _ (List.mem_map.mpr ⟨p, hp, rfl⟩)) hS)) fun r s' h => ?_
  match r, h with
  | .error e, h => exact (hCX H e s' h).elim
  | .ok .next, h => exact False.elim h
  | .ok .brk, h => exact False.elim h
  | .ok .cont, h => exact False.elim h
  | .ok (.ret u), h =>
    obtain ⟨v, H', os, bare, un, hok', r', q⟩ := h
    have q2 : v = .bl true := q
    subst q2
    obtain rfl : u = Value.bool true := r'
    have stays : ∀ b o, b ∉ cs.map (·.2) → s₁.heap.get? b = some o → s'.heap.get? b = some o := fun b o nb e => by
      match z : H b with
      | none => exact un.keep b o e z (fun z => nomatch z) (fun z => nomatch z)
      | some u =>
        rcases Hcase b u z with ⟨y, _⟩ | ⟨rfl, _, rfl⟩
        · exact absurd y nb
        · obtain ⟨e1, _⟩ := hok' b _ (un.frzs b _ _ z)
          rw [ha] at e
          cases e
          exact e1
    have tabs : ∀ p ∈ cs, ∃ more : Array Value, s'.heap.get? p.2 = some { cls := .none, data := .fields more } := fun p hp =>
      (un.tbls p.2 #[] (Htab _ (List.mem_map.mpr ⟨p, hp, rfl⟩))).elim fun more z => ⟨_, hok' p.2 _ z⟩
    refine ⟨rfl, ⟨fun b o e => ?_, fun b o e => ?_⟩, os, bare⟩
    · by_cases nb : b ∈ cs.map (·.2)
      · obtain ⟨p, hp, rfl⟩ := List.mem_map.mp nb
        rw [hT p hp] at e
        cases e
        exact (tabs p hp).elim fun more hm => .inr (.inl ⟨((C p hp).tab (hT p hp)).isCodeTable, rfl, #[], more, rfl, hm.trans (by rw [Array.empty_append])⟩)
      · exact .inl (stays b o nb e)
    · by_cases nb : b ∈ cs.map (·.2)
      · obtain ⟨p, hp, rfl⟩ := List.mem_map.mp nb
        exact (tabs p hp).elim fun more hm => ⟨_, hm⟩
      · exact ⟨o, stays b o nb e⟩
end
/-- what is known of the law's promise at the head's heap, where no repr is under way -/
def LawAtG (l : PySem.W.OpenLaw) (w : World) (K : PySem.W.Frag) (CX : CXT) (k n : Nat) (x : Str) (mg : Str → Option Value) (fa : Addr) (h : Heap) : Prop :=
  ∃ (fd : FuncData) (cs : List (Addr × Addr)) (sp : Sp), (∀ p ∈ cs, h.get? p.2 = some { cls := .none, data := .fields #[] }) ∧ (∀ p ∈ cs, K.lookup p.2 = none) ∧ (∀ p ∈ cs, PySem.W.CodeHd h p.1 p.2) ∧ (∀ (s : Shared) (u : Value), BindsTo s fd ⟨[u], []⟩ [(x, u)]) ∧
    (∀ (H : Hp) (a : Addr) (ns : List Int), ns.length ≤ n → (∀ p ∈ cs, H p.2 = some (.tbl #[])) → SqL K H a (ns.map V.int) → sp [.ref a] H (fun v _ => v = .bl true) fun _ _ _ => False) ∧
    ∀ base : Heap, K.In base → base.Ns mainGlobals mg → (∀ p ∈ cs, TabB base mg p.1 p.2) → FnOkG l.prog w K mg base CX k fa fd [x] sp
theorem walk_topG {l : PySem.W.OpenLaw} {n k : Nat} {q : Program} {loose : List Str} {XP : (Str → Option Value) → Heap → Prop} {YP : World → Heap → Prop} {d : DefRec} {K : Params → PySem.W.Frag} {CX : World → CXT} {x : Str}
    (hn : l.most = some n) (hn2 : n ≤ sizeLine) (hdf : d.params.defaults = []) (hr : Room k callerA) (hY : ∀ (w : World) (h : Heap), YP w h → (K w.params).In h)
    (F : ∀ (w : World) (mg : Str → Option Value) (fa : Addr) (h : Heap), YP w h → (K w.params).In h → h.Ns mainGlobals mg → mg d.name = some (.ref fa) → TopTabs q (K w.params) mg h → LawAtG l w (K w.params) (CX w) k n x mg fa h)
    (hCX : ∀ (w : World) (H : Hp) (s : Shared) (e : Value) (s' : Shared), CX w [] H s (fun _ _ _ => False) e s' → False) :
    PySem.W.WalkO q loose XP YP l.row.toRowW d [] (fun f vs => PySem.call f vs) :=
  Att.attach_callB hn hdf fun w s₀ s₁ mg mb fa o pm cd doc a vs ns G Y ho hd hcd hmg hobj hints hlen hbits hg => by
    have KX := hY w _ Y
    have tabs : TopTabs q (K w.params) mg s₁.heap := fun x f c P o1 fd1 e dd vs1 sl hrec hx k1 k2 k3 k4 k5 => by
      obtain ⟨dL, hm, hn1⟩ := List.any_eq_true.mp hrec
      have hn2 : dL.name = x := beq_iff_eq.mp hn1
      obtain ⟨a', o', fd', c', P', h1, h2, h3, h4, h5, h6⟩ := G.T.tab dL hm
      rw [hn2, hx] at h1
      cases h1
      have g1 := KX _ _ k1
      rw [g1] at h2
      cases h2
      rw [k2] at h3
      cases h3
      rw [k3] at h4
      cases h4
      have hC := PySem.W.CodeHd.of h5 h6
      obtain ⟨⟨oc, vc, e1, _, e3, e4⟩, hP⟩ := h6
      have g2 := KX _ _ k4
      rw [g2] at e1
      cases e1
      cases e3
      rw [k5] at e4
      cases e4
      exact ⟨hC, hP⟩
    obtain ⟨fd, cs, sp, hT, nT, C, hb, hsp, hF⟩ := F w mg fa _ Y KX G.T.g hmg tabs
    exact call_lawG KX G.T.g G.T.b G.T.builtins G.T.nolimit hg hT nT C G.T.bmain hobj hints (Nat.le_trans hlen hn2) hr hF hb (fun H hH hS => hsp H a ns hlen hH hS) fun H e s' => hCX w H s₁ e s'
/-! ### bodies and calls of such defs -/
theorem okG {P : Program} {w : World} {K : PySem.W.Frag} {mg : Str → Option Value} {base : Heap} {x qual : Str} {st : Stmt} {f : Addr} {fd : FuncData} {N ps : List Str} {k : Nat} {sp : Sp} (F : L2.Fun K x qual st f fd) (S : FnScope N ps (defScope st)) (len : ∀ vs H Q E, sp vs H Q E → vs.length = ps.length)
    (hbody : ∀ (cdv : Value) (A : Around) (outer : List Env) (s : Shared) (H : Hp) (vs : List V) (Q : VK) (E : XK), (A.deeper (envOfC qual (defScope st) s.heap.objs.size f cdv)).guards = some [] → Room k (A.deeper (envOfC qual (defScope st) s.heap.objs.size f cdv)) → sp vs H Q E →
      ∃ t, PSs (cxOf CX0 P w K mg base N qual (defScope st) f cdv A outer s H E).nox (defBody st) t ∧ t { nx := fun _ H' => Q .non H', rt := Q } (start N vs) H) : FnOkG P w K mg base CX0 (k + 1) f fd ps sp := by
  obtain ⟨oc, od, kV, doc, pm, an, cdv, ct, osl, rfl, lk, hcd⟩ := F.ex
  refine ⟨len, fun A outer s H args us vs Q E hga hr e0 hb r hsp => ?_⟩
  have KX : K.In s.heap := e0.mod.kin.keeps fun b o e => (e0.bs b o e).1
  have lim : s.heap.NoLimit := e0.mod.nolimit.keeps fun b o e => (e0.bs b o e).1
  have hl := len _ _ _ _ hsp
  have hkind : ∀ y ∈ ps.zip us, (defScope st).names.lookup y.1 = some .local ∨ ((defScope st).names.lookup y.1 = some .cell ∧ ((cellsFrom (s.heap.objs.size + 1) (defScope st).names []).lookup y.1).isSome = true) := fun ⟨n, v⟩ hy =>
    (S.par n (List.of_mem_zip hy).1).elim .inl fun q => .inr ⟨q, PySem.W.cellsFrom_some _ _ _ (.inl q)⟩
  refine codeAny_call_function hr.depth (KX _ _ lk) rfl S.co S.gen rfl (PySem.W.codeRec_of KX hcd) (hb _ _ _ _ (wpAny_newFunctionEnv_cells S.kind hkind fun env he s1 xx => ?_))
  subst he
  obtain ⟨t, ht, hq⟩ := hbody cdv A outer s H vs Q E hga (hr.deeper _) hsp
  have I : Inv (cxOf CX0 P w K mg base N qual (defScope st) f cdv A outer s H E) [] (start N vs) H s1 := inv_start S hr.hd e0 hl r xx
  refine ⟨lim.keeps xx.toInCall.keep, codeAny_func (wpAny_mono (ht.run [] s1 (start N vs) H _ (I.wish _) hq) (fun fl s' hs => ?_) fun e s' hs => False.elim hs)⟩
  have fin : ∀ {σ' : L2.St} {H' : Hp} {v : V} {u : Value}, Inv (cxOf CX0 P w K mg base N qual (defScope st) f cdv A outer s H E).nox [] σ' H' s' → L2.RelV v u → Q v H' → CE outer P w H s Q u s' :=
    fun {σ' H' v u} J rv q => ⟨v, H', J.os, J.bare, J.base, J.hok, rv, q⟩
  match fl, hs with
  | .ret u, hs => exact hs.elim fun v z => z.elim fun σ' z => z.elim fun H' z => fin z.1 z.2.1 z.2.2
  | .next, hs => exact hs.elim fun σ' z => z.elim fun H' z => fin (v := V.non) (u := Value.none) z.1 rfl z.2
  | .brk, hs => exact hs.elim fun _ z => z.elim fun _ z => False.elim z.2
  | .cont, hs => exact hs.elim fun _ z => z.elim fun _ z => False.elim z.2
section
variable {X : Cx} {CX : CXT} {k : Nat} {f : Addr} {fd : FuncData} {ps : List Str} {sp : Sp} {E : XK} {x : Str} {p pos : Pos} {e : Expr} {es : List Expr} {t : TA}
/-- f(e, ..), f such a def -/
theorem pe_callG (F : FnOkG X.prog X.w X.K X.mg X.base CX k f fd ps sp) (hG : X.A.guards = some []) (hr : Room k X.A) (hg : Gl X x) (hm : X.mg x = some (.ref f)) (hk : PySem.W.keepIn X.K (.ref f) = true) (hb : L2.Binds X.K fd ps []) (hx : Passes CX X E)
    (ha : PA X (e :: es) t) (hdb : (x == ("__debug__" : Str)) = false := by decide) (he : starEach (e :: es) X.env = (false, eval e X.env) :: starEach es X.env := by rfl) (hpl : (backTo pos (starEach es X.env)).any (·.1) = false := by rfl) :
    PE X (.Call (.Name x p) (e :: es) [] pos) (fun σ H Q => t σ H fun vs H1 => sp vs H1 Q E) := by
  refine ⟨fun pins s σ H Q I h => wpAny_Call_Name_kw (ld_glob I hg hm (PySem.W.callWith_K (h₀ := X.base) I.ok.mod.kin hk (thn (ha.run pos pins s σ H _ I h) fun us s1 ⟨vs, H1, I1, r, q⟩ => ⟨I1.kIn, ?_⟩) he hpl) hdb)⟩
  have hl : us.length = ps.length := r.length.symm.trans (F.len _ _ _ _ q)
  have hb2 : BindsTo s1 fd ⟨us, []⟩ (ps.zip us) := by
    have := hb s1 us I1.kIn (by rw [List.append_nil]; exact hl)
    rwa [List.append_nil] at this
  refine wpAny_call (codeAny_mono (F.run X.A X.stack s1 H1 ⟨us, []⟩ us vs Q E hG hr I1.env0 hb2 r q) fun res s' hq => ?_)
  match res, hq with
  | .error er, hq => exact hx pins σ H1 s1 er s' I1 hq
  | .ok (.ret u), hq => exact I1.after hq
  | .ok .next, hq => exact False.elim hq
  | .ok .brk, hq => exact False.elim hq
  | .ok .cont, hq => exact False.elim hq
/-- repr of data: what PyData.shown says -/
theorem call_reprD (hG : X.A.guards = some []) (hu : X.A.units + 64 + 16 < cLine) : CallR X (.builtin "repr") (fun xs H Q => ∃ (v : V) (d : PyData), xs = [v] ∧ Dp X.K H v d ∧ d.showable = true ∧ d.hasDict = false ∧ d.depth ≤ 64 ∧ d.shown.length ≤ sizeLine ∧ (∀ i, v = .int i → i.natAbs.log2 < 1920) ∧ Q (.str d.shown) H) := by
  intro pins s σ H xs us Q I r h
  obtain ⟨v, d, rfl, hd, hs, hnd, hdp, hsz, hi, q⟩ := h
  obtain ⟨u, rfl, ru⟩ := vals1 r
  have txt : ∀ tk, ∃ (y : V) (H1 : Hp), Inv X pins σ H1 { s with toks := tk } ∧ L2.RelV y (.str d.shown s.toks) ∧ Q y H1 := fun tk => ⟨.str d.shown, H, I.kept (t' := tk) fun _ _ z => z, ⟨_, rfl⟩, q⟩
  have obj : ∀ (a : Addr), u = .ref a → wpAny (model X.prog X.w) X.A (call (.builtin "repr") [u]) (EP X pins σ Q) X.xe s := fun a e => by
    subst e
    obtain ⟨as, rd⟩ := Dp.reads I _ _ _ hd ru
    exact repr_of_reads' rd hs (fun z => by rw [hnd] at z; cases z) hG (by omega) (fun _ _ z => z) (fun h' u tk hk => ⟨.str d.shown, H, I.kept (h' := h') (t' := tk) hk, ⟨_, rfl⟩, q⟩) hsz
  cases hd with
  | non =>
    obtain rfl : u = Value.none := ru
    exact P.repr_of_none (txt _)
  | bl b =>
    obtain rfl : u = Value.bool b := ru
    exact P.repr_of_bool (by cases b <;> exact txt _)
  | int i =>
    obtain ⟨t, rfl⟩ := ru
    exact P.repr_of_int (hi i rfl) (txt _)
  | str y =>
    obtain ⟨t, rfl⟩ := ru
    exact P.repr_of_str (txt _) hsz
  | lst h1 h2 => exact obj _ ru
  | tup h1 h2 => exact obj _ ru
end
end Inf

set_option Elab.async false
set_option linter.all false
set_option maxRecDepth 100000
set_option maxHeartbeats 4000000
namespace Inf
open PySem PySem.Spec PyProof.Rows L2 NdefX LamX
/-! ### a lambda as a value: a function that stands where it was made -/
/-- its words, the cells that it captured, its code object -/
structure LF where
  qual : Str
  params : Arguments
  body : Expr
  scope : Scope
  cl : List (Str × Addr)
  c : Addr
def LamO (f : Addr) (F : LF) : HO := .ext fun h => ∃ (pm ctv : Value), h.get? f = some (PySem.W.kla_obj "<lambda>" F.qual F.params F.body F.scope F.cl pm F.c ctv)
theorem lamO_at {P : Program} {w : World} {H : Hp} {h : Heap} {f : Addr} {F : LF} (hok : HOk P w H h) (e : H f = some (LamO f F)) : ∃ (pm ctv : Value), h.get? f = some (PySem.W.kla_obj "<lambda>" F.qual F.params F.body F.scope F.cl pm F.c ctv) := by
  obtain ⟨z, _, _⟩ := hok f _ e
  exact z
theorem lamO_ok {P : Program} {w : World} {H : Hp} {h : Heap} {f : Addr} {F : LF} (e : ∃ (pm ctv : Value), h.get? f = some (PySem.W.kla_obj "<lambda>" F.qual F.params F.body F.scope F.cl pm F.c ctv)) : ObjOk P w H h f (LamO f F) := by
  refine ⟨e, ?_, fun h1 h2 ⟨pm, ctv, z⟩ k => ⟨pm, ctv, k _ z⟩⟩
  obtain ⟨pm, ctv, z⟩ := e
  exact ⟨_, z⟩
theorem lamHO {f : Addr} {F : LF} : FnHO f (LamO f F) := fun P w H h hok e => by
  obtain ⟨pm, ctv, z⟩ := lamO_at hok e
  exact ⟨_, _, _, _, z⟩
section
variable {X : Cx} {pins : List (Addr × Obj)} {σ : L2.St} {H : Hp} {s : Shared}
/-- the lambda is made and told where it stands; its code object is new, or found in the table -/
theorem lam_told {T : List (Addr × Str)} {c P : Addr} {params : Arguments} {body : Expr} {scope : Scope} {pos : Pos} {E : Value → Shared → Prop} {Q : Value → Shared → Prop} (I : Inv X pins σ H s) (TB : TabB X.base X.mg c P) (hcode : X.env.code = .ref c)
    (hm : (P, X.env.qual ++ "<lambda>") ∈ T) (hu : ∀ p ∈ T, p.1 = P → p.2 = X.env.qual ++ "<lambda>") (hT : Tabs T H) (hdef : defaultsOf params X.env = ([], [])) (hfree : ∀ y ∈ scope.names, y.2 = .free → ∃ c, X.env.cells.lookup y.1 = some c)
    (h : ∀ (f c' : Addr) (H1 : Hp) (s' : Shared), Inv X pins σ (upd H1 f (LamO f ⟨X.env.qual ++ "<lambda>", params, body, scope, cloFrom X.env.cells scope.names [], c'⟩)) s' → (∀ b o, H b = some o → b ≠ P → H1 b = some o) → (∀ b, H1 b = none → H b = none) → Tabs T H1 → H1 f = none → H1 c' = some (CodeO c' (X.env.qual ++ "<lambda>")) → Q (.ref f) s') :
    wpAny (model X.prog X.w) X.A (eval (.Lambda params body scope pos) X.env) Q E s := by
  obtain ⟨ps, tP, tO, tA⟩ := hT _ hm
  have bP := TB.bm.keeps (h' := s.heap) I.bk
  have gP : s.heap.get? P = some { cls := .none, data := .fields ps } := I.hok P _ tP
  refine PySem.W.kla_eval hdef ?_
  cases cd : codeAmong pos ps.toList with
  | none =>
    refine PySem.W.kla_makeFunction (mg := X.mg) (c := c) (P := P) (ps := ps) (closure_ok hfree) I.ok.glob (I.mod.glob.keeps I.bk) hcode (TB.code.keeps I.bk) gP tO cd TB.gP bP fun c' ctv h' tk hx hge hlt hrec htb => ?_
    obtain ⟨c2, oc, vs, t, e2, hoc, hd, hv⟩ := hrec
    cases e2
    have nC : H c' = none := I.hok.fresh hge
    have I0 := inv_table (q := X.env.qual ++ "<lambda>") (t' := tk) (more := #[rawInt pos.line, rawInt pos.col, .ref c']) (h' := h') I tP hx htb hge ⟨oc, vs, t, hoc, hd, hv⟩
    have I1 := I0.laid (a := h'.objs.size) (o := LamO h'.objs.size ⟨X.env.qual ++ "<lambda>", params, body, scope, cloFrom X.env.cells scope.names [], c'⟩) (h' := h'.push (PySem.W.kla_obj "<lambda>" (X.env.qual ++ "<lambda>") params body scope (cloFrom X.env.cells scope.names []) ((X.mg "__name__").getD .none) c' ctv)) (t' := tk)
      (fun b u z => Heap.get?_push_of_some _ z) (Nat.le_refl _) (lamO_ok ⟨_, _, Heap.get?_push_size _ rfl⟩)
    have stays : ∀ b o, H b = some o → b ≠ P → (upd (upd H P (.tbl (ps ++ #[rawInt pos.line, rawInt pos.col, .ref c']))) c' (CodeO c' (X.env.qual ++ "<lambda>"))) b = some o := fun b o e n => by
      rw [upd_ne (ne_of_none e nC), upd_ne n]
      exact e
    have neP : ∀ {b : Addr} {c2 : Addr} {q : Str}, H b = some (CodeO c2 q) → b ≠ P := fun e z => by
      rw [z, tP] at e
      exact codeO_ne _ (Option.some.inj e).symm
    refine h _ c' _ _ I1 stays (fun b z => ?_) (fun p hp => ?_) (I0.hok.fresh (Nat.le_refl _)) upd_same
    · by_cases b1 : b = c'
      · rw [b1]
        exact nC
      · rw [upd_ne b1] at z
        by_cases b2 : b = P
        · rw [b2, upd_same] at z
          cases z
        · rw [upd_ne b2] at z
          exact z
    · obtain ⟨qs, a1, a2, a3⟩ := hT p hp
      by_cases hb : p.1 = P
      · have eL : (ps ++ #[rawInt pos.line, rawInt pos.col, .ref c']).toList = ps.toList ++ [rawInt pos.line, rawInt pos.col, .ref c'] := by simp
        refine ⟨_, by rw [hb, upd_ne (ne_of_none tP nC), upd_same], ?_, fun p' cv y => ?_⟩
        · rw [eL]
          exact PySem.TriplesOk_snoc _ _ _ _ tO
        · rw [eL] at y
          rw [hu p hp hb]
          rcases among_app _ tO y with z | z
          · obtain ⟨c0, k1, k2⟩ := tA p' cv z
            exact ⟨c0, k1, stays _ _ k2 (neP k2)⟩
          · exact ⟨c', z, upd_same⟩
      · refine ⟨qs, ?_, a2, fun p' cv y => ?_⟩
        · rw [upd_ne (ne_of_none a1 nC), upd_ne hb]
          exact a1
        · obtain ⟨c0, k1, k2⟩ := a3 p' cv y
          exact ⟨c0, k1, stays _ _ k2 (neP k2)⟩
  | some cv =>
    obtain ⟨c', e, hco⟩ := tA pos cv cd
    subst e
    refine PySem.W.kla_makeFunctionHit (mg := X.mg) (c := c) (P := P) (ps := ps) (closure_ok hfree) I.ok.glob (I.mod.glob.keeps I.bk) hcode (TB.code.keeps I.bk) gP tO cd bP fun ctv h' tk hx hsz => ?_
    have I0 : Inv X pins σ H { s with heap := h', toks := tk } := I.kept hx
    have I1 := I0.laid (a := h'.objs.size) (o := LamO h'.objs.size ⟨X.env.qual ++ "<lambda>", params, body, scope, cloFrom X.env.cells scope.names [], c'⟩) (h' := h'.push (PySem.W.kla_obj "<lambda>" (X.env.qual ++ "<lambda>") params body scope (cloFrom X.env.cells scope.names []) ((X.mg "__name__").getD .none) c' ctv)) (t' := tk)
      (fun b u z => Heap.get?_push_of_some _ z) (Nat.le_refl _) (lamO_ok ⟨_, _, Heap.get?_push_size _ rfl⟩)
    exact h _ c' H _ I1 (fun _ _ e _ => e) (fun _ z => z) hT (I0.hok.fresh (Nat.le_refl _)) hco
end
def tLamO (T : List (Addr × Str)) (P : Addr) (F : Addr → LF) : TE := fun σ H Q => Tabs T H ∧ ∀ (f c' : Addr) (H1 : Hp), (∀ b o, H b = some o → b ≠ P → H1 b = some o) → (∀ b, H1 b = none → H b = none) → Tabs T H1 → H1 f = none → H1 c' = some (CodeO c' (F c').qual) → Q (.ref f) (upd H1 f (LamO f (F c')))
theorem pe_lamO {X : Cx} {T : List (Addr × Str)} {c P : Addr} {params : Arguments} {body : Expr} {scope : Scope} {pos : Pos} (TB : TabB X.base X.mg c P) (hcode : X.env.code = .ref c) (hm : (P, X.env.qual ++ "<lambda>") ∈ T) (hu : ∀ p ∈ T, p.1 = P → p.2 = X.env.qual ++ "<lambda>")
    (hdef : defaultsOf params X.env = ([], [])) (hfree : ∀ y ∈ scope.names, y.2 = .free → X.env.scope.names.lookup y.1 = some .cell ∨ X.env.scope.names.lookup y.1 = some .free) :
    PE X (.Lambda params body scope pos) (tLamO T P fun c' => ⟨X.env.qual ++ "<lambda>", params, body, scope, cloFrom X.env.cells scope.names [], c'⟩) := by
  refine ⟨fun pins s σ H Q I h => ?_⟩
  obtain ⟨hT, q⟩ := h
  exact lam_told I TB hcode hm hu hT hdef (fun y hy e => (hfree y hy e).elim (fun z => I.ok.has _ (.inl z)) fun z => I.ok.has _ (.inr z)) fun f c' H1 s' I1 e1 n1 t1 nf hc => ⟨.ref f, _, I1, rfl, q f c' H1 e1 n1 t1 nf hc⟩
end Inf

set_option Elab.async false
set_option linter.all false
set_option maxRecDepth 100000
set_option maxHeartbeats 4000000
namespace Inf
open PySem PySem.Spec PyProof.Rows L2 NdefX LamX
/-- its words as those of a function: for the frame alone -/
def LF.nf (F : LF) : NF := ⟨"<lambda>", F.qual, F.params, [], F.scope, F.cl, F.c⟩
section
variable {P : Program} {w : World} {K : PySem.W.Frag} {mg : Str → Option Value} {base : Heap} {k : Nat} {f : Addr} {F : LF} {N ps : List Str} {sp : Sp}
/-- a lambda that captures nothing, called from anywhere -/
theorem lam_fnR (S : NScope N ps [] F.scope) (hcl : F.cl = []) (hb : ∀ (pm ctv : Value) (us : List Value), us.length = ps.length → bindArgs (PySem.W.kla_fn "<lambda>" F.qual F.params F.body F.scope F.cl pm (.ref F.c) ctv) ⟨us, []⟩ = pure (ps.zip us))
    (len : ∀ vs H Q E, sp vs H Q E → vs.length = ps.length)
    (hbody : ∀ (A : Around) (outer : List Env) (s : Shared) (H : Hp) (vs : List V) (Q : VK) (E : XK), Room k (A.deeper (envF F.nf f s.heap.objs.size)) → sp vs H Q E → ∃ te, PE (ncx CX0 P w K mg base N F.nf f A outer s H E) F.body te ∧ te (startF N vs []) H Q) :
    FnR P w K mg base CX0 (k + 1) f (fun vs H Q E => H f = some (LamO f F) ∧ H F.c = some (CodeO F.c F.qual) ∧ sp vs H Q E) := by
  intro A outer s H us vs Q E hr e0 r hsp
  obtain ⟨hf, hc, hsp⟩ := hsp
  have hl := len _ _ _ _ hsp
  have lim : s.heap.NoLimit := e0.mod.nolimit.keeps fun b o e => (e0.bs b o e).1
  obtain ⟨pm, ctv, ho⟩ := lamO_at e0.hok hf
  have C : CellsAt F.nf.cl [] [] s.heap H := by
    show CellsAt F.cl [] [] s.heap H
    rw [hcl]
    exact ⟨rfl, (fun y c e => nomatch e), (fun x y c e => nomatch e), (fun i y e => nomatch e)⟩
  refine PySem.W.kla_callFunE hr.depth ho rfl S.co S.gen rfl (codeO_at e0.hok hc) ?_
  rw [hb pm ctv us (by rw [← r.length]; exact hl)]
  refine wpAny_pure (wpAny_newFunctionEnv S.nocell (fun ⟨n, _⟩ hy => S.par n (List.of_mem_zip hy).1) (fun h₁ hns hsb => ⟨lim.fresh _ hsb, ?_⟩) S.kind)
  obtain ⟨te, ht, hq⟩ := hbody A outer s H vs Q E (hr.deeper _) hsp
  have kp : ∀ b o, s.heap.get? b = some o → h₁.get? b = some o := fun b o e => hsb.extBut b o (Nat.ne_of_lt (Heap.lt_size e)) (Heap.get?_push_of_some _ e)
  have I := inv_startN (CX := CX0) (P := P) (w := w) (K := K) (mg := mg) (base := base) (F := F.nf) (f := f) (A := A) (outer := outer) (E := E) (tk := s.toks + (ps.zip us).length) S hr.hd e0 hl r C hns kp
  refine PySem.W.kla_codeExpr (wpAny_mono (ht.run [] _ (startF N vs []) H Q I hq) (fun u s' hs => ?_) fun e s' hs => hs)
  obtain ⟨v, H', J, rv, q⟩ := hs
  exact ⟨v, H', J.os, J.bare, J.base, J.hok, rv, q⟩
end
end Inf

set_option Elab.async false
set_option linter.all false
set_option maxRecDepth 100000
set_option maxHeartbeats 4000000
namespace Inf
open PySem PySem.Spec PyProof.Rows L2 NdefX LamX
/-- a def that returns things that hold its names, by what K knows of it -/
theorem okC_of {P : Program} {w : World} {K : PySem.W.Frag} {mg : Str → Option Value} {base : Heap} {x qual : Str} {st : Stmt} {f : Addr} {N ps : List Str} {k : Nat} {sp : Sp} {oc : Value} {od : Option Addr} {kV doc pm cdv ct : Value} {an : Option Addr} {osl : Array (Option Value)}
    (lk : K.lookup f = some ⟨oc, od, .func (PySem.W.fnOf x qual (defArgs st) (defBody st) (defScope st) .none kV doc pm an cdv ct), osl⟩) (hcd : PySem.W.codeIn K cdv qual = true) (S : FnScope N ps (defScope st)) (len : ∀ vs H Q E, sp vs H Q E → vs.length = ps.length)
    (hbody : ∀ (A : Around) (outer : List Env) (s : Shared) (H : Hp) (vs : List V) (Q : VK) (E : XK), Room k (A.deeper (envOfC qual (defScope st) s.heap.objs.size f cdv)) → sp vs H Q E →
      ∃ t, PSsR (cxOf CX0 P w K mg base N qual (defScope st) f cdv A outer s H E).nox (defBody st) t ∧
        t (fun σ v H' => ∀ H'', Fin (envOfC qual (defScope st) s.heap.objs.size f cdv).cells (defScope st).names N σ H' H'' → Q v H'') (start N vs) H) :
    FnOk P w K mg base CX0 (k + 1) f (PySem.W.fnOf x qual (defArgs st) (defBody st) (defScope st) .none kV doc pm an cdv ct) ps sp := by
  refine ⟨len, fun A outer s H args us vs Q E hr e0 hb r hsp => ?_⟩
  have hl := len _ _ _ _ hsp
  have KX : K.In s.heap := e0.mod.kin.keeps fun b o e => (e0.bs b o e).1
  have lim : s.heap.NoLimit := e0.mod.nolimit.keeps fun b o e => (e0.bs b o e).1
  have hkind : ∀ y ∈ ps.zip us, (defScope st).names.lookup y.1 = some .local ∨ ((defScope st).names.lookup y.1 = some .cell ∧ ((cellsFrom (s.heap.objs.size + 1) (defScope st).names []).lookup y.1).isSome = true) := fun ⟨n, v⟩ hy => by
    rcases S.par n (List.of_mem_zip hy).1 with q | q
    · exact .inl q
    · exact .inr ⟨q, PySem.W.cellsFrom_some _ _ _ (.inl q)⟩
  refine codeAny_call_function hr.depth (KX _ _ lk) rfl S.co S.gen rfl (PySem.W.codeRec_of KX hcd) (hb _ _ _ _ ?_)
  refine wpAny_newFunctionEnv_cells S.kind hkind fun env he s1 xx => ?_
  subst he
  refine ⟨lim.keeps xx.toInCall.keep, codeAny_func ?_⟩
  obtain ⟨t, ht, hq⟩ := hbody A outer s H vs Q E (hr.deeper _) hsp
  have I : Inv (cxOf CX0 P w K mg base N qual (defScope st) f cdv A outer s H E) [] (start N vs) H s1 := inv_start S hr.hd e0 hl r xx
  refine wpAny_mono (ht.run [] s1 (start N vs) H _ (I.wish _) hq) (fun fl s' hs => ?_) fun e s' hs => False.elim hs
  obtain ⟨u, v, σ', H', rfl, J', rv, q⟩ := hs
  have J : Inv (cxOf CX0 P w K mg base N qual (defScope st) f cdv A outer s H E) [] σ' H' s' := J'.unwish
  obtain ⟨H'', hF, hU, hO⟩ := fin_make S.nd J
  exact ⟨v, H'', J.os, J.bare, hU, hO, rv, q H'' hF⟩
/-- a function that the def made, behind its return: its captured cells are told -/
theorem clo_fin {cells : List (Str × Addr)} {names nn : List (Str × NameKind)} {N fr : List Str} {σ : L2.St} {H H' : Hp} {f : Addr} {F : NF} {ws : List V} (X : Fin cells names N σ H H') (hc : ∀ y, names.lookup y = some .cell → (cells.lookup y).isSome = true) (hcl : F.cl = cloFrom cells nn []) (hcel : ∀ y ∈ nn, y.2 = .free → names.lookup y.1 = some .cell)
    (hfr : ∀ y ∈ fr, (y, NameKind.free) ∈ nn) (hrf : ∀ y ∈ nn, y.2 = .free → y.1 ∈ fr) (hf : H f = some (FnO f F)) (hco : H F.c = some (CodeO F.c F.qual)) (len : ws.length = fr.length) (at_ : ∀ (i : Nat) (y : Str), fr[i]? = some y → ∃ (j : Nat) (v : V), N[j]? = some y ∧ ws[i]? = some v ∧ σ[j]? = some (some v)) : Clo H' f F fr ws := by
  have hfree : ∀ y ∈ nn, y.2 = .free → ∃ c, cells.lookup y.1 = some c := fun y hy e => Option.isSome_iff_exists.mp (hc _ (hcel y hy e))
  refine ⟨X.same _ _ hf, X.same _ _ hco, len, fun y c e => ?_, fun x y c e1 e2 => ?_, fun i y e => ?_⟩
  · rw [hcl] at e
    have m := PySem.mem_of_lookup e
    rcases cloFrom_mem m with q | ⟨q, _⟩
    · cases q
    · exact hrf _ q rfl
  · rw [hcl] at e1 e2
    exact X.inj x y c (clo_cm hfree e1) (clo_cm hfree e2)
  · have hy : y ∈ fr := List.mem_of_getElem? e
    have hm := hfr y hy
    have hn := hcel _ hm rfl
    obtain ⟨c, hcc⟩ := Option.isSome_iff_exists.mp (hc y hn)
    obtain ⟨j, v, h1, h2, h3⟩ := at_ i y e
    refine ⟨c, v, ?_, h2, X.at_ j y c v h1 hn hcc h3⟩
    rw [hcl]
    exact clo_has hfree hm hcc
end Inf

set_option Elab.async false
set_option linter.all false
set_option maxRecDepth 100000
set_option maxHeartbeats 4000000
namespace Inf
open PySem PySem.Spec PyProof.Rows L2
section
variable {X : Cx}
/-- o.replace(str(e), "c"), a token out: what is struck is not c -/
def tStrike (to tt : TE) (c : Str) : TE := fun σ H Q => to σ H fun x H1 => ∃ a, x = V.str a ∧ tt σ H1 fun y H2 => ∃ i : Int, y = .int i ∧ i.natAbs.log2 < 1920 ∧ (Str.ofString (toString i) == c) = false ∧ a.length + (a.length + 1) * c.length ≤ 16777216 ∧ Q (.str (Txt.replace a (Str.ofString (toString i)) c)) H2
theorem pet_strike {o e : Expr} {to tt : TE} {c : Str} {ck : Nat} {apos np cp ccp pos : Pos} (ho : PE X o to) (he : PE X e tt) (hg : Gl X "str") (hm : X.mg "str" = none)
    (hbase : attributeBase o "replace" X.env (eval o X.env) = eval o X.env := by rfl)
    (hfew : ((backTo pos (starEach [.Call (.Name "str" np) [e] [] cp, .Constant (.str c) ck ccp] X.env)).all (fun x => !x.1) && (backToKw pos (keywordEach [] X.env)).all (fun x => x.1.isSome)
      && decide (([.Call (.Name "str" np) [e] [] cp, .Constant (.str c) ck ccp] : List Expr).length + ([] : List Keyword).length + (if ([] : List Keyword).isEmpty then 0 else 1) < 30)) = true := by rfl)
    (hline : (apos.endLine == pos.line) = true := by rfl) (hs : starEach [e] X.env = [(false, eval e X.env)] := by rfl) (hpl : (backTo cp (starEach [] X.env)).any (·.1) = false := by rfl) :
    PET X (.Call (.Attribute o "replace" apos) [.Call (.Name "str" np) [e] [] cp, .Constant (.str c) ck ccp] [] pos) (tStrike to tt c) := by
  intro pins s σ H Q h0 I h
  refine wpAny_Call_method_late hbase hfew hline rfl (wpAny_mono (PySem.wpAny_toks (ho.run pins s σ H _ I h)) (fun v s1 q => ?_) fun _ _ z => z.2)
  obtain ⟨hk1, x, H1, I1, r1, a, rfl, q⟩ := q
  obtain ⟨t, rfl⟩ := _root_.id r1
  refine ⟨"str", _, F.plainAttrs_str, F.slot_str_replace, F.type_str_replace, typeIs_str _ _ _, (fun _ e => nomatch e), ?_⟩
  refine Calls.callWith_builtin rfl (Calls.evalArgs_plain ?_)
  show wpAny _ _ (spliced ((false, eval (.Call (.Name "str" np) [e] [] cp) X.env) :: backTo pos (starEach [.Constant (.str c) ck ccp] X.env))) _ _ s1
  refine Calls.spliced_cons ?_
  refine wpAny_Call_Name_kw (ld_blt I1 hg hm (show bootBuiltins "str" = some (.type "str") by decide +kernel) ?_ (by decide) (by decide))
  refine PyProof.Rows.callWith_type1 (wpAny_mono (PySem.wpAny_toks ((pa_cons he pa_nil hs).run cp pins s1 σ H1 (fun vs H2 => match vs with
    | [y] => ∃ i : Int, y = V.int i ∧ i.natAbs.log2 < 1920 ∧ (Str.ofString (toString i) == c) = false ∧ a.length + (a.length + 1) * c.length ≤ 16777216 ∧ Q (.str (Txt.replace a (Str.ofString (toString i)) c)) H2
    | _ => False) I1 q)) (fun us s2 q2 => ?_) fun _ _ z => z.2) hs hpl
  obtain ⟨hk2, vs, H2, I2, r2, q2⟩ := q2
  match vs, r2, q2 with
  | [y], r2, ⟨i, ey, hz, hne, hb, q3⟩ =>
    subst ey
    obtain ⟨u, rfl, t2, rfl⟩ := vals1 r2
    have h2 : 1 ≤ s2.toks := Nat.le_trans h0 (Nat.le_trans hk1 hk2)
    refine PySem.P.str_of_int hz ?_
    refine Calls.spliced_cons (Calls.Constant_str (k := ck) (pos := ccp) (Calls.spliced_nil ?_))
    refine SC.replace (u := s2.toks) (v := s2.toks + 1) (Nat.ne_of_gt h2) (Nat.succ_ne_zero _) (Nat.ne_of_lt (Nat.lt_succ_self _)) hne hb fun t' k => ?_
    exact ⟨.str _, H2, I2.tok _, ⟨_, rfl⟩, q3⟩
/-- one token out: a return -/
theorem pst_ret {e : Expr} {te : TE} {pos : Pos} (he : PET X e te) : PST X (.Return (some e) pos) (tRet te) := fun pins s σ H D h0 I h =>
  wpAny_Return_some (thn (he pins s σ H _ h0 I h) fun v s1 ⟨x, H1, I1, r1, q1⟩ => ⟨x, σ, H1, I1, r1, q1⟩)
theorem psst_one {st : Stmt} {t : TS} (h1 : PST X st t) : PSsT X [st] t := by
  intro pins s σ H D h0 I h
  refine wpAny_execs_cons (thn (h1 pins s σ H D h0 I h) fun f s1 q => ?_)
  cases f with
  | next => exact wpAny_execs_nil q
  | ret v => exact q
  | brk => exact q
  | cont => exact q
/-- if x op 3: behind the test a token is out -/
theorem ps_ifC {a : Expr} {op : CmpOp} {r : R2} {ta : TE} {j : Int} {k : Nat} {cpos cp pos : Pos} {A B : List Stmt} {t u : TS} (ho : OpR X (compareOp op) r) (ha : PE X a ta) (hm : behindInMarks op (.Constant (.int j) k cpos) = false) (hA : PSsT X A t) (hB : PSs X B u) :
    PS X (.If (.Compare a [op] [.Constant (.int j) k cpos] cp) A B pos) (tIfS (tTest (tOp r ta (tC (.int j)))) t u) := by
  refine ⟨fun pins s σ H D I h => ?_⟩
  refine wpAny_If (wpAny_mono (Q := fun d s' => 1 ≤ s'.toks ∧ TP X pins σ (fun b H1 => if b = true then t D σ H1 else u D σ H1) d s') (E := X.xe) ?_ (fun d s1 q => ?_) fun _ _ z => z)
  · refine wpAny_isTrue_Compare1 (thn (ha.run pins s σ H _ I h) fun v s1 ⟨x, H1, I1, r1, q1⟩ => ?_) hm
    refine wpAny_Constant_int ?_
    refine wpAny_mono (PySem.wpAny_toks (ho pins _ σ H1 x (.int j) v (.int j s1.toks) _ (I1.tok _) r1 ⟨_, rfl⟩ q1)) (fun c s3 q3 => ?_) fun _ _ z => z.2
    obtain ⟨hk, z, H3, I3, r3, b, e, q3⟩ := q3
    subst e
    cases r3
    exact wpAny_truthy_bool ⟨Nat.le_trans (Nat.le_add_left 1 _) hk, H3, I3, q3⟩
  · obtain ⟨hk, H1, I1, q1⟩ := q
    cases d with
    | true => exact hA pins s1 σ H1 D hk I1 q1
    | false => exact hB.run pins s1 σ H1 D I1 q1
end
end Inf

set_option Elab.async false
set_option linter.all false
set_option maxRecDepth 100000
set_option maxHeartbeats 4000000
namespace Inf
open PySem PySem.Spec PyProof.Rows L2
section
variable {X : Cx} {CX : CXT} {k n : Nat} {f C : Addr} {fd : FuncData} {ps ks : List Str} {sp : Sp} {E : XK} {m : Str} {pos apos : Pos} {e o : Expr} {es : List Expr} {kws : List Keyword} {ta : TE} {t tk : TA} {g : List Value → List Value → List Value} {gV : List V → List V → List V}
/-- a method called with keywords: n values are written, then j keywords -/
def tMethN (C : Addr) (m : Str) (n j : Nat) (sp : Sp) (gV : List V → List V → List V) (E : XK) (ta : TE) (t tk : TA) : TE := fun σ H Q => ta σ H fun x H1 => ∃ a dx fs, x = V.ref a ∧ H1 a = some (.ins C dx fs) ∧ fs.lookup m = none ∧ t σ H1 fun vs H2 => tk σ H2 fun zs H3 => vs.length = n ∧ zs.length = j ∧ sp (gV (.ref a :: vs) zs) H3 Q E
theorem pe_methK0 {pl : Sem Bool} (he : PE X o ta) (c : Cls X.K C) (hm : Meth X.K C m f) (F : FnOk X.prog X.w X.K X.mg X.base CX k f fd ps sp) (hr : Room k X.A) (hb : KBn X.K fd ps 1 ks g gV) (hx : Passes CX X E) (hkw : PK X kws tk)
    (hall : (backToKw pos (keywordEach kws X.env)).all (·.1.isSome) = true := by rfl) (hks : (backToKw pos (keywordEach kws X.env)).filterMap (·.1) = ks := by rfl)
    (hpl : ((backTo pos (starEach [] X.env)).any (·.1) || (backToKw pos (keywordEach kws X.env)).any (·.1.isNone)) = false := by rfl)
    (ht : eval (.Call (.Attribute o m apos) [] kws pos) X.env = (do
      let ov ← eval o X.env
      standAt apos.atName
      let (f, first) ← holding [ov] (getMethod ov m pl)
      callWith pos f first (backTo pos (starEach [] X.env)) (backToKw pos (keywordEach kws X.env))) := by rfl) :
    PE X (.Call (.Attribute o m apos) [] kws pos) (tMethN C m 0 ks.length sp gV E ta tNil tk) := by
  refine ⟨fun pins s σ H Q I h => ?_⟩
  refine PySem.W.methodCall_KW (pl := pl) (thn (he.run pins s σ H _ I h) fun u s1 ⟨x, H1, I1, rx, a, dx, fs, ex, ea, l, q⟩ => ?_) ht
  subst ex
  obtain rfl : u = Value.ref a := rx
  refine getmeth_ok I1 ea c hm l ?_
  refine PySem.W.callWith_KW0 (first := [.ref a]) (h₀ := X.base) I.ok.mod.kin hm.kp hall (thn (hkw.run pos pins s1 σ H1 _ I1 q) fun ws s2 ⟨zs, H2, I2, rz, l1, l2, q2⟩ => ⟨I2.kIn, ?_⟩) hpl
  rw [hks]
  exact run_fnN (us := [.ref a]) (vs := [.ref a]) F hr hb hx I2 (.cons rfl .nil) rz rfl l2 q2
theorem pe_methK {pl : Sem Bool} (he : PE X o ta) (c : Cls X.K C) (hm : Meth X.K C m f) (F : FnOk X.prog X.w X.K X.mg X.base CX k f fd ps sp) (hr : Room k X.A) (hb : KBn X.K fd ps (n + 1) ks g gV) (hx : Passes CX X E) (ha : PA X (e :: es) t) (hkw : PK X kws tk)
    (hall : (backToKw pos (keywordEach kws X.env)).all (·.1.isSome) = true := by rfl) (hks : (backToKw pos (keywordEach kws X.env)).filterMap (·.1) = ks := by rfl)
    (hst : starEach (e :: es) X.env = (false, eval e X.env) :: starEach es X.env := by rfl)
    (hpl : ((backTo pos (starEach (e :: es) X.env)).any (·.1) || (backToKw pos (keywordEach kws X.env)).any (·.1.isNone)) = false := by rfl)
    (ht : eval (.Call (.Attribute o m apos) (e :: es) kws pos) X.env = (do
      let ov ← eval o X.env
      standAt apos.atName
      let (f, first) ← holding [ov] (getMethod ov m pl)
      callWith pos f first (backTo pos (starEach (e :: es) X.env)) (backToKw pos (keywordEach kws X.env))) := by rfl) :
    PE X (.Call (.Attribute o m apos) (e :: es) kws pos) (tMethN C m n ks.length sp gV E ta t tk) := by
  refine ⟨fun pins s σ H Q I h => ?_⟩
  refine PySem.W.methodCall_KW (pl := pl) (thn (he.run pins s σ H _ I h) fun u s1 ⟨x, H1, I1, rx, a, dx, fs, ex, ea, l, q⟩ => ?_) ht
  subst ex
  obtain rfl : u = Value.ref a := rx
  refine getmeth_ok I1 ea c hm l ?_
  refine PySem.W.callWith_KW (first := [.ref a]) (h₀ := X.base) I.ok.mod.kin hm.kp hall (thn (ha.run pos pins s1 σ H1 _ I1 q) fun us s2 ⟨vs, H2, I2, r, q2⟩ => ?_) hpl hst
  refine thn (hkw.run pos pins s2 σ H2 _ I2 q2) fun ws s3 ⟨zs, H3, I3, rz, l1, l2, q3⟩ => ⟨I3.kIn, ?_⟩
  rw [hks]
  exact run_fnN (us := .ref a :: us) (vs := .ref a :: vs) F hr hb hx I3 (.cons rfl r) rz (congrArg Nat.succ l1) l2 q3
end
end Inf

set_option Elab.async false
set_option linter.all false
set_option maxRecDepth 100000
set_option maxHeartbeats 4000000
namespace Inf
open PySem PySem.Spec PyProof.Rows L2 NdefX LamX
section
variable {X : Cx} {pins : List (Addr × Obj)} {σ : L2.St} {H : Hp} {s : Shared}
/-- a lambda in a def that makes functions by name, too: the table knows the names by their places -/
theorem lam_toldN {T : List NTab} {nm : Nat → Nat → Str} {c P : Addr} {params : Arguments} {body : Expr} {scope : Scope} {pos : Pos} {E : Value → Shared → Prop} {Q : Value → Shared → Prop} (I : Inv X pins σ H s) (TB : TabB X.base X.mg c P) (hcode : X.env.code = .ref c)
    (hm : (P, nm) ∈ T) (hn : nm pos.line pos.col = X.env.qual ++ "<lambda>") (hu : ∀ p ∈ T, p.1 = P → p.2 = nm) (hT : TabsN T H) (hdef : defaultsOf params X.env = ([], [])) (hfree : ∀ y ∈ scope.names, y.2 = .free → ∃ c, X.env.cells.lookup y.1 = some c)
    (h : ∀ (f c' : Addr) (H1 : Hp) (s' : Shared), Inv X pins σ H1 s' → ExtN H H1 → (∀ b, H1 b = Option.none → H b = Option.none) → TabsN T H1 → H f = none → H1 f = some (LamO f ⟨X.env.qual ++ "<lambda>", params, body, scope, cloFrom X.env.cells scope.names [], c'⟩) → H1 c' = some (CodeO c' (X.env.qual ++ "<lambda>")) → Q (.ref f) s') :
    wpAny (model X.prog X.w) X.A (eval (.Lambda params body scope pos) X.env) Q E s := by
  obtain ⟨ps, hP, ht, ha⟩ := (show TabN H P nm from hT _ hm)
  have bP := TB.bm.keeps (h' := s.heap) I.bk
  have gP : s.heap.get? P = some { cls := .none, data := .fields ps } := I.hok P _ hP
  refine PySem.W.kla_eval hdef ?_
  cases cd : codeAmong pos ps.toList with
  | none =>
    refine PySem.W.kla_makeFunction (mg := X.mg) (c := c) (P := P) (ps := ps) (closure_ok hfree) I.ok.glob (I.mod.glob.keeps I.bk) hcode (TB.code.keeps I.bk) gP ht cd TB.gP bP fun c' ctv h' tk hx hge hlt hrec htb => ?_
    obtain ⟨c2, oc, vs, t, e2, hoc, hd, hv⟩ := hrec
    cases e2
    have nC : H c' = none := I.hok.fresh hge
    have I1 := inv_table (q := X.env.qual ++ "<lambda>") (t' := tk) (more := #[rawInt pos.line, rawInt pos.col, .ref c']) (h' := h') I hP hx htb hge ⟨oc, vs, t, hoc, hd, hv⟩
    have hE : ExtN H (upd (upd H P (.tbl (ps ++ #[rawInt pos.line, rawInt pos.col, .ref c']))) c' (CodeO c' (X.env.qual ++ "<lambda>"))) := fun b o e n => by
      rw [upd_ne (ne_of_none e nC), upd_ne (fun z => n ps (Option.some.inj (e.symm.trans (by rw [z]; exact hP))))]
      exact e
    have eL : (ps ++ #[rawInt pos.line, rawInt pos.col, .ref c']).toList = ps.toList ++ [rawInt pos.line, rawInt pos.col, .ref c'] := by simp
    have T1 : TabsN T (upd (upd H P (.tbl (ps ++ #[rawInt pos.line, rawInt pos.col, .ref c']))) c' (CodeO c' (X.env.qual ++ "<lambda>"))) := fun p hp => by
      by_cases hb : p.1 = P
      · rw [hu p hp hb, hb]
        refine ⟨_, by rw [upd_ne (ne_of_none hP nC), upd_same], by rw [eL]; exact PySem.TriplesOk_snoc _ _ _ _ ht, fun p' cv hcv => ?_⟩
        rw [eL] at hcv
        rcases among_app2 _ ht hcv with z | ⟨z, z1, z2⟩
        · obtain ⟨c0, e1, e2⟩ := ha p' cv z
          exact ⟨c0, e1, hE _ _ e2 codeO_ne⟩
        · refine ⟨c', z, ?_⟩
          rw [← z1, ← z2, hn]
          exact upd_same
      · obtain ⟨ps', a1, a2, a3⟩ := hT p hp
        refine ⟨ps', by rw [upd_ne (ne_of_none a1 nC), upd_ne hb]; exact a1, a2, fun p' cv hcv => ?_⟩
        obtain ⟨c0, e1, e2⟩ := a3 p' cv hcv
        exact ⟨c0, e1, hE _ _ e2 codeO_ne⟩
    have nF := I1.hok.fresh (Nat.le_refl h'.objs.size)
    have I2 := I1.laid (a := h'.objs.size) (o := LamO h'.objs.size ⟨X.env.qual ++ "<lambda>", params, body, scope, cloFrom X.env.cells scope.names [], c'⟩) (h' := h'.push (PySem.W.kla_obj "<lambda>" (X.env.qual ++ "<lambda>") params body scope (cloFrom X.env.cells scope.names []) ((X.mg "__name__").getD .none) c' ctv)) (t' := tk)
      (fun b u z => Heap.get?_push_of_some _ z) (Nat.le_refl _) (lamO_ok ⟨_, _, Heap.get?_push_size _ rfl⟩)
    refine h h'.objs.size c' _ _ I2 (fun b o e n => ?_) (fun b e => NdefX.upd_none (NdefX.upd_none (NdefX.upd_none e))) (T1.ext fun b o e => ?_) (I.hok.fresh (Nat.le_trans hge (Nat.le_of_lt hlt))) upd_same ?_
    · have e1 := hE b o e n
      exact (upd_ne (ne_of_none e1 nF)).trans e1
    · exact (upd_ne (ne_of_none e nF)).trans e
    · exact (upd_ne (Nat.ne_of_lt hlt)).trans upd_same
  | some cv =>
    obtain ⟨c', e, hco⟩ := ha pos cv cd
    subst e
    rw [hn] at hco
    refine PySem.W.kla_makeFunctionHit (mg := X.mg) (c := c) (P := P) (ps := ps) (closure_ok hfree) I.ok.glob (I.mod.glob.keeps I.bk) hcode (TB.code.keeps I.bk) gP ht cd bP fun ctv h' tk hx hsz => ?_
    have I0 : Inv X pins σ H { s with heap := h', toks := tk } := I.kept hx
    have nF : H h'.objs.size = none := I0.hok.fresh (Nat.le_refl _)
    have I2 := I0.laid (a := h'.objs.size) (o := LamO h'.objs.size ⟨X.env.qual ++ "<lambda>", params, body, scope, cloFrom X.env.cells scope.names [], c'⟩) (h' := h'.push (PySem.W.kla_obj "<lambda>" (X.env.qual ++ "<lambda>") params body scope (cloFrom X.env.cells scope.names []) ((X.mg "__name__").getD .none) c' ctv)) (t' := tk)
      (fun b u z => Heap.get?_push_of_some _ z) (Nat.le_refl _) (lamO_ok ⟨_, _, Heap.get?_push_size _ rfl⟩)
    refine h h'.objs.size c' _ _ I2 (fun b o e n => ?_) (fun b e => NdefX.upd_none e) (hT.ext fun b o e => ?_) nF upd_same ?_
    · exact (upd_ne (ne_of_none e nF)).trans e
    · exact (upd_ne (ne_of_none e nF)).trans e
    · exact (upd_ne (ne_of_none hco nF)).trans hco
end
def tLamN (T : List NTab) (F : Addr → LF) : TE := fun σ H Q => TabsN T H ∧ ∀ (f c' : Addr) (H1 : Hp), ExtN H H1 → (∀ b, H1 b = Option.none → H b = Option.none) → TabsN T H1 → H f = none → H1 f = some (LamO f (F c')) → H1 c' = some (CodeO c' (F c').qual) → Q (.ref f) H1
theorem pe_lamN {X : Cx} {T : List NTab} {nm : Nat → Nat → Str} {c P : Addr} {params : Arguments} {body : Expr} {scope : Scope} {pos : Pos} (TB : TabB X.base X.mg c P) (hcode : X.env.code = .ref c) (hm : (P, nm) ∈ T) (hn : nm pos.line pos.col = X.env.qual ++ "<lambda>") (hu : ∀ p ∈ T, p.1 = P → p.2 = nm)
    (hdef : defaultsOf params X.env = ([], [])) (hfree : ∀ y ∈ scope.names, y.2 = .free → X.env.scope.names.lookup y.1 = some .cell ∨ X.env.scope.names.lookup y.1 = some .free) :
    PE X (.Lambda params body scope pos) (tLamN T fun c' => ⟨X.env.qual ++ "<lambda>", params, body, scope, cloFrom X.env.cells scope.names [], c'⟩) := by
  refine ⟨fun pins s σ H Q I h => ?_⟩
  obtain ⟨hT, q⟩ := h
  exact lam_toldN I TB hcode hm hn hu hT hdef (fun y hy e => (hfree y hy e).elim (fun z => I.ok.has _ (.inl z)) fun z => I.ok.has _ (.inr z)) fun f c' H1 s' I1 e1 n1 t1 nf hf hc => ⟨.ref f, H1, I1, rfl, q f c' H1 e1 n1 t1 nf hf hc⟩
end Inf

set_option Elab.async false
set_option linter.all false
set_option maxRecDepth 100000
set_option maxHeartbeats 4000000
namespace Inf
open PySem PySem.Spec PyProof.Rows L2 ClX
section
variable {M : Model} {A : Around} {E : Value → Shared → Prop} {s : Shared} {K : PySem.W.Frag} {env : Env} {pos : Pos} {first : List Value} {Q : Value → Shared → Prop} {kws : List Keyword} {q g : Addr} {self : Value}
/-- a bound method, called by names alone -/
theorem callWith_MK0 (hf : PySem.W.fnIn K g = true) (hall : (backToKw pos (keywordEach kws env)).all (·.1.isSome) = true)
    (h : wpAny M A (evalAll ((backToKw pos (keywordEach kws env)).map (·.2))) (fun ks s₂ => PySem.W.MethP K q g self s₂.heap ∧ wpAny M A (call (.ref q) (first ++ []) (((backToKw pos (keywordEach kws env)).filterMap (·.1)).zip ks)) Q E s₂) E s)
    (hplain : ((backTo pos (starEach [] env)).any (·.1) || (backToKw pos (keywordEach kws env)).any (·.1.isNone)) = false := by rfl) :
    wpAny M A (callWith pos (.ref q) first (backTo pos (starEach [] env)) (backToKw pos (keywordEach kws env))) Q E s :=
  PySem.W.callWith_of hplain (PySem.W.keeps_M hf) (evalArgs_kw2_nil hall h)
theorem callWith_MK {e : Expr} {rest : List Expr} (hf : PySem.W.fnIn K g = true) (hall : (backToKw pos (keywordEach kws env)).all (·.1.isSome) = true)
    (h : wpAny M A (spliced (backTo pos (starEach (e :: rest) env))) (fun vs s₁ => wpAny M A (evalAll ((backToKw pos (keywordEach kws env)).map (·.2)))
      (fun ks s₂ => PySem.W.MethP K q g self s₂.heap ∧ wpAny M A (call (.ref q) (first ++ vs) (((backToKw pos (keywordEach kws env)).filterMap (·.1)).zip ks)) Q E s₂) E s₁) E s)
    (hplain : ((backTo pos (starEach (e :: rest) env)).any (·.1) || (backToKw pos (keywordEach kws env)).any (·.1.isNone)) = false := by rfl) (he : starEach (e :: rest) env = (false, eval e env) :: starEach rest env := by rfl) :
    wpAny M A (callWith pos (.ref q) first (backTo pos (starEach (e :: rest) env)) (backToKw pos (keywordEach kws env))) Q E s :=
  PySem.W.callWith_of hplain (PySem.W.keeps_M hf) (evalArgs_kw2 hall h he)
end
section
variable {X : Cx} {CX : CXT} {k n : Nat} {f C p : Addr} {mc : Value} {fd : FuncData} {ps ks : List Str} {sp : Sp} {E : XK} {m x : Str} {pos apos : Pos} {e o : Expr} {es : List Expr} {kws : List Keyword} {ta : TE} {t tk : TA} {g : List Value → List Value → List Value} {gV : List V → List V → List V}
/-- the call of a bound classmethod by values and names -/
theorem run_cmN {pins : List (Addr × Obj)} {σ : L2.St} {H : Hp} {s : Shared} {Q : VK} {q : Addr} {us ws : List Value} {vs zs : List V} (F : FnOk X.prog X.w X.K X.mg X.base CX k f fd ps sp) (hr : Room k X.A) (hb : KBn X.K fd ps (n + 1) ks g gV) (hx : Passes CX X E)
    (I : Inv X ((q, PySem.W.methodObj (.ref f) (.ref C)) :: pins) σ H s) (r : Vals vs us) (rz : Vals zs ws) (l1 : vs.length = n) (l2 : zs.length = ks.length) (h : sp (gV (.ref C :: vs) zs) H Q E) :
    wpAny (model X.prog X.w) X.A (call (.ref q) us (ks.zip ws)) (EP X pins σ Q) X.xe s := by
  have r1 : Vals (V.ref C :: vs) (Value.ref C :: us) := .cons rfl r
  have r2 := hb.rel r1 rz
  have n1 : (Value.ref C :: us).length = n + 1 := by
    rw [List.length_cons, ← r.length, l1]
  have z : wpAny (model X.prog X.w) X.A (call (.ref q) us (ks.zip ws)) (EP X ((q, PySem.W.methodObj (.ref f) (.ref C)) :: pins) σ Q) X.xe s := by
    refine wpAny_call (PySem.W.method_call (pin_at I) (codeAny_mono (F.run X.A X.stack s H ⟨Value.ref C :: us, ks.zip ws⟩ (g (Value.ref C :: us) ws) _ Q E hr I.env0 (hb.to s _ ws I.kIn n1 (rz.length.symm.trans l2)) r2 h) fun r s' hq => ?_))
    cases r with
    | error e => exact hx _ σ H s e s' I hq
    | ok fl =>
      cases fl with
      | ret u => exact I.after hq
      | next => exact False.elim hq
      | brk => exact False.elim hq
      | cont => exact False.elim hq
  exact thn z fun _ _ y => unpinE y
/-- C.m(k = v, ..), m a classmethod: n values are written, then j names -/
def tCMethN (C : Addr) (n j : Nat) (sp : Sp) (gV : List V → List V → List V) (E : XK) (ta : TE) (t tk : TA) : TE := fun σ H Q => ta σ H fun x H1 => x = .ref C ∧ t σ H1 fun vs H2 => tk σ H2 fun zs H3 => vs.length = n ∧ zs.length = j ∧ sp (gV (.ref C :: vs) zs) H3 Q E
theorem pe_cmethK0 {pl : Sem Bool} (he : PE X o ta) (r : CRead X.K C mc) (c : CMet X.K C mc m p f) (F : FnOk X.prog X.w X.K X.mg X.base CX k f fd ps sp) (hr : Room k X.A) (hb : KBn X.K fd ps 1 ks g gV) (hx : Passes CX X E) (hkw : PK X kws tk)
    (hall : (backToKw pos (keywordEach kws X.env)).all (·.1.isSome) = true := by rfl) (hks : (backToKw pos (keywordEach kws X.env)).filterMap (·.1) = ks := by rfl)
    (hpl : ((backTo pos (starEach [] X.env)).any (·.1) || (backToKw pos (keywordEach kws X.env)).any (·.1.isNone)) = false := by rfl)
    (ht : eval (.Call (.Attribute o m apos) [] kws pos) X.env = (do
      let ov ← eval o X.env
      standAt apos.atName
      let (f, first) ← holding [ov] (getMethod ov m pl)
      callWith pos f first (backTo pos (starEach [] X.env)) (backToKw pos (keywordEach kws X.env))) := by rfl) :
    PE X (.Call (.Attribute o m apos) [] kws pos) (tCMethN C 0 ks.length sp gV E ta tNil tk) := by
  refine ⟨fun pins s σ H Q I h => ?_⟩
  refine PySem.W.methodCall_KW (pl := pl) (thn (he.run pins s σ H _ I h) fun u s1 ⟨x, H1, I1, rx, ex, q⟩ => ?_) ht
  subst ex
  obtain rfl : u = Value.ref C := rx
  refine getmethcm_ok I1 r c fun s2 I2 => ?_
  refine callWith_MK0 (first := []) c.fi hall (thn (hkw.run pos _ s2 σ H1 _ I2 q) fun ws s3 ⟨zs, H2, I3, rz, l1, l2, q2⟩ => ⟨⟨pin_at I3, I3.kIn⟩, ?_⟩) hpl
  rw [hks]
  exact run_cmN (us := []) (vs := []) F hr hb hx I3 .nil rz rfl l2 q2
theorem pe_cmethK {pl : Sem Bool} (he : PE X o ta) (r : CRead X.K C mc) (c : CMet X.K C mc m p f) (F : FnOk X.prog X.w X.K X.mg X.base CX k f fd ps sp) (hr : Room k X.A) (hb : KBn X.K fd ps (n + 1) ks g gV) (hx : Passes CX X E) (ha : PA X (e :: es) t) (hkw : PK X kws tk)
    (hall : (backToKw pos (keywordEach kws X.env)).all (·.1.isSome) = true := by rfl) (hks : (backToKw pos (keywordEach kws X.env)).filterMap (·.1) = ks := by rfl)
    (hst : starEach (e :: es) X.env = (false, eval e X.env) :: starEach es X.env := by rfl)
    (hpl : ((backTo pos (starEach (e :: es) X.env)).any (·.1) || (backToKw pos (keywordEach kws X.env)).any (·.1.isNone)) = false := by rfl)
    (ht : eval (.Call (.Attribute o m apos) (e :: es) kws pos) X.env = (do
      let ov ← eval o X.env
      standAt apos.atName
      let (f, first) ← holding [ov] (getMethod ov m pl)
      callWith pos f first (backTo pos (starEach (e :: es) X.env)) (backToKw pos (keywordEach kws X.env))) := by rfl) :
    PE X (.Call (.Attribute o m apos) (e :: es) kws pos) (tCMethN C n ks.length sp gV E ta t tk) := by
  refine ⟨fun pins s σ H Q I h => ?_⟩
  refine PySem.W.methodCall_KW (pl := pl) (thn (he.run pins s σ H _ I h) fun u s1 ⟨x, H1, I1, rx, ex, q⟩ => ?_) ht
  subst ex
  obtain rfl : u = Value.ref C := rx
  refine getmethcm_ok I1 r c fun s2 I2 => ?_
  refine callWith_MK (self := .ref C) (first := []) c.fi hall (thn (ha.run pos _ s2 σ H1 _ I2 q) fun us s3 ⟨vs, H2, I3, rv, q2⟩ => ?_) hpl hst
  refine thn (hkw.run pos _ s3 σ H2 _ I3 q2) fun ws s4 ⟨zs, H3, I4, rz, l1, l2, q3⟩ => ⟨⟨pin_at I4, I4.kIn⟩, ?_⟩
  rw [hks]
  exact run_cmN F hr hb hx I4 rv rz l1 l2 q3
/-- c(e, .., k = v, ..), c a local name that holds the class at C -/
def tMakeL (C : Addr) (n j : Nat) (sp : Sp) (gV : List V → List V → List V) (E : XK) (ta : TE) (t tk : TA) : TE := fun σ H Q => ta σ H fun x H0 => x = .ref C ∧ tMakeK C n j sp gV E t tk σ H0 Q
theorem pe_makeL (hc : PE X (.Name x pos) ta) (M : Mk X.K C f) (F : FnOk X.prog X.w X.K X.mg X.base CX k f fd ps sp) (hr : Room (k + 1) X.A) (hb : KBn X.K fd ps (n + 1) ks g gV) (hx : Passes CX X E) (ha : PA X (e :: es) t) (hkw : PK X kws tk)
    (hall : (backToKw apos (keywordEach kws X.env)).all (·.1.isSome) = true := by rfl) (hks : (backToKw apos (keywordEach kws X.env)).filterMap (·.1) = ks := by rfl)
    (he : starEach (e :: es) X.env = (false, eval e X.env) :: starEach es X.env := by rfl) (hpl : ((backTo apos (starEach (e :: es) X.env)).any (·.1) || (backToKw apos (keywordEach kws X.env)).any (·.1.isNone)) = false := by rfl) :
    PE X (.Call (.Name x pos) (e :: es) kws apos) (tMakeL C n ks.length sp gV E ta t tk) := by
  refine ⟨fun pins s σ H Q I h => ?_⟩
  refine wpAny_Call_Name_kw (thn (hc.run pins s σ H _ I h) fun u s0 ⟨y, H0, I0, ry, ey, h0⟩ => ?_)
  subst ey
  obtain rfl : u = Value.ref C := ry
  refine PySem.W.callWith_KW (h₀ := X.base) I0.ok.mod.kin M.kp hall (thn (ha.run apos pins s0 σ H0 _ I0 h0) fun us s1 ⟨vs, H1, I1, r, q⟩ => ?_) hpl he
  refine thn (hkw.run apos pins s1 σ H1 _ I1 q) fun ws s2 ⟨zs, H2, I2, rz, l1, l2, q2⟩ => ⟨I2.kIn, ?_⟩
  rw [hks]
  exact run_makeK M F hr hb hx I2 r rz l1 l2 q2
end
end Inf

set_option Elab.async false
set_option linter.all false
set_option maxRecDepth 100000
set_option maxHeartbeats 4000000
namespace Inf
open PySem PySem.Spec PyProof.Rows L2 NdefX LamX
/-! ### a lambda that captures cells -/
/-- a cell at c that holds v -/
def CellAt (H : Hp) (c : Addr) (v : V) : Prop := ∃ φ, H c = some (.ext φ) ∧ ∀ h : Heap, φ h → ∃ u, L2.RelV v u ∧ h.IsCell c (some u)
theorem CellAt.of {H : Hp} {c : Addr} {v : V} (h : H c = some (CellO c v)) : CellAt H c v := ⟨_, h, fun _ z => z⟩
theorem CellAt.at_ {P : Program} {w : World} {H : Hp} {h : Heap} {c : Addr} {v : V} (hok : HOk P w H h) (e : CellAt H c v) : ∃ u, L2.RelV v u ∧ h.IsCell c (some u) := by
  obtain ⟨φ, e1, e2⟩ := e
  obtain ⟨z, _, _⟩ := hok c _ e1
  exact e2 _ z
theorem CellAt.same {H H1 : Hp} {c : Addr} {v : V} (h : CellAt H c v) (s : Same H H1) : CellAt H1 c v := by
  obtain ⟨φ, e1, e2⟩ := h
  exact ⟨φ, s _ _ e1, e2⟩
/-- the lambda F stands at f, and its captured cells hold ws -/
structure LClo (H : Hp) (f : Addr) (F : LF) (fr : List Str) (ws : List V) : Prop where
  fn : H f = some (LamO f F)
  code : H F.c = some (CodeO F.c F.qual)
  len : ws.length = fr.length
  dom : ∀ y c, F.cl.lookup y = some c → y ∈ fr
  inj : ∀ x y c, F.cl.lookup x = some c → F.cl.lookup y = some c → x = y
  at_ : ∀ (i : Nat) (y : Str), fr[i]? = some y → ∃ c v, F.cl.lookup y = some c ∧ ws[i]? = some v ∧ CellAt H c v
theorem LClo.same {H H1 : Hp} {f : Addr} {F : LF} {fr : List Str} {ws : List V} (h : LClo H f F fr ws) (s : Same H H1) : LClo H1 f F fr ws :=
  ⟨s _ _ h.fn, s _ _ h.code, h.len, h.dom, h.inj, fun i y e => by
    obtain ⟨c, v, a, b, d⟩ := h.at_ i y e
    exact ⟨c, v, a, b, d.same s⟩⟩
theorem LClo.cell {H : Hp} {f : Addr} {F : LF} {fr : List Str} {ws : List V} (h : LClo H f F fr ws) {b : Addr} (hb : b ∈ cellsOf F.nf fr) : ∃ v, CellAt H b v := by
  obtain ⟨y, hy, e⟩ := mem_cells.mp hb
  obtain ⟨i, hi⟩ := List.mem_iff_getElem?.mp hy
  obtain ⟨c, v, a, _, d⟩ := h.at_ i y hi
  have e' : F.cl.lookup y = some b := e
  rw [e'] at a
  cases a
  exact ⟨v, d⟩
theorem LClo.out {H : Hp} {f : Addr} {F : LF} {fr : List Str} {ws : List V} (h : LClo H f F fr ws) {b : Addr} {o : HO} (e : H b = some o) (n : ∀ φ, o ≠ .ext φ) : b ∉ cellsOf F.nf fr := fun hb => by
  obtain ⟨v, φ, d, _⟩ := h.cell hb
  rw [e] at d
  exact n _ (Option.some.inj d)
section
variable {P : Program} {w : World} {K : PySem.W.Frag} {mg : Str → Option Value} {base : Heap} {k : Nat} {f : Addr} {F : LF} {N ps fr : List Str} {sp : List (Option V) → Sp}
theorem lam_run (S : NScope N ps fr F.scope) (hb : ∀ (pm ctv : Value) (us : List Value), us.length = ps.length → bindArgs (PySem.W.kla_fn "<lambda>" F.qual F.params F.body F.scope F.cl pm (.ref F.c) ctv) ⟨us, []⟩ = pure (ps.zip us))
    (len : ∀ ws vs H Q E, sp ws vs H Q E → vs.length = ps.length)
    (hbody : ∀ (A : Around) (outer : List Env) (s : Shared) (H : Hp) (vs : List V) (ws : List (Option V)) (Q : VK) (E : XK), Room k (A.deeper (envF F.nf f s.heap.objs.size)) → ws.length = fr.length → sp ws vs H Q E → ∃ te, PE (ncx CX0 P w K mg base N F.nf f A outer s H E) F.body te ∧ te (startF N vs ws) H Q)
    (A : Around) (outer : List Env) (s : Shared) (H : Hp) (us : List Value) (vs : List V) (ws : List (Option V)) (Q : VK) (E : XK) (hr : Room (k + 1) A) (e0 : Env0 P w K mg base A outer s H) (hf : H f = some (LamO f F)) (hc : H F.c = some (CodeO F.c F.qual)) (C : CellsAt F.cl fr ws s.heap H) (r : Vals vs us) (hsp : sp ws vs H Q E) :
    codeAny (model P w) A (.call (.ref f) ⟨us, []⟩) (CR CX0 outer P w H s Q E) s := by
  have hl := len _ _ _ _ _ hsp
  have lim : s.heap.NoLimit := e0.mod.nolimit.keeps fun b o e => (e0.bs b o e).1
  obtain ⟨pm, ctv, ho⟩ := lamO_at e0.hok hf
  refine PySem.W.kla_callFunE hr.depth ho rfl S.co S.gen rfl (codeO_at e0.hok hc) ?_
  rw [hb pm ctv us (by rw [← r.length]; exact hl)]
  refine wpAny_pure (wpAny_newFunctionEnv S.nocell (fun ⟨n, _⟩ hy => S.par n (List.of_mem_zip hy).1) (fun h₁ hns hsb => ⟨lim.fresh _ hsb, ?_⟩) S.kind)
  obtain ⟨te, ht, hq⟩ := hbody A outer s H vs ws Q E (hr.deeper _) C.len hsp
  have kp : ∀ b o, s.heap.get? b = some o → h₁.get? b = some o := fun b o e => hsb.extBut b o (Nat.ne_of_lt (Heap.lt_size e)) (Heap.get?_push_of_some _ e)
  have I := inv_startN (CX := CX0) (P := P) (w := w) (K := K) (mg := mg) (base := base) (F := F.nf) (f := f) (A := A) (outer := outer) (E := E) (tk := s.toks + (ps.zip us).length) S hr.hd e0 hl r C hns kp
  refine PySem.W.kla_codeExpr (wpAny_mono (ht.run [] _ (startF N vs ws) H Q I hq) (fun u s' hs => ?_) fun e s' hs => hs)
  obtain ⟨v, H', J, rv, q⟩ := hs
  exact ⟨v, H', J.os, J.bare, J.base, J.hok, rv, q⟩
/-- A LAMBDA THAT CAPTURES CELLS, called from anywhere: its cells are told; while it runs they are left out, behind it they are put back -/
theorem lam_cloR (S : NScope N ps fr F.scope) (hb : ∀ (pm ctv : Value) (us : List Value), us.length = ps.length → bindArgs (PySem.W.kla_fn "<lambda>" F.qual F.params F.body F.scope F.cl pm (.ref F.c) ctv) ⟨us, []⟩ = pure (ps.zip us))
    (len : ∀ ws vs H Q E, sp ws vs H Q E → vs.length = ps.length)
    (hbody : ∀ (A : Around) (outer : List Env) (s : Shared) (H : Hp) (vs : List V) (ws : List (Option V)) (Q : VK) (E : XK), Room k (A.deeper (envF F.nf f s.heap.objs.size)) → ws.length = fr.length → sp ws vs H Q E → ∃ te, PE (ncx CX0 P w K mg base N F.nf f A outer s H E) F.body te ∧ te (startF N vs ws) H Q) :
    FnR P w K mg base CX0 (k + 1) f (fun vs H Q E => ∃ ws, LClo H f F fr ws ∧ sp (ws.map some) vs (cut (cellsOf F.nf fr) H) (fun v H1 => (∀ b, b ∈ cellsOf F.nf fr → H1 b = Option.none) → Q v (mend (cellsOf F.nf fr) H H1)) E) := by
  intro A outer s H us vs Q E hr e0 r hsp
  obtain ⟨ws, hc, hsp⟩ := hsp
  have cellAt : ∀ b, b ∈ cellsOf F.nf fr → ∃ v, CellAt H b v := fun b hb => hc.cell hb
  have isC : ∀ b, b ∈ cellsOf F.nf fr → ∃ u, s.heap.IsCell b (some u) := fun b hb => by
    obtain ⟨v, e⟩ := cellAt b hb
    obtain ⟨u, _, z⟩ := e.at_ e0.hok
    exact ⟨u, z⟩
  have fnout : f ∉ cellsOf F.nf fr := fun hb => by
    obtain ⟨u, o, e1, e2⟩ := isC f hb
    obtain ⟨pm, ctv, e3⟩ := lamO_at e0.hok hc.fn
    rw [e1] at e3
    cases e3
    cases e2
  have cout : F.c ∉ cellsOf F.nf fr := fun hb => by
    obtain ⟨u, o, e1, e2⟩ := isC F.c hb
    obtain ⟨⟨oc, vs', t, h1, h2, h3⟩, _, _⟩ := e0.hok F.c _ hc.code
    rw [e1] at h1
    cases h1
    rw [e2] at h2
    cases h2
  have hokc : HOk P w (cut (cellsOf F.nf fr) H) s.heap := fun b o e => by
    by_cases hb : b ∈ cellsOf F.nf fr
    · rw [cut_in hb] at e
      cases e
    · rw [cut_out hb] at e
      refine (e0.hok b o e).stay (fun c u _ q => q) (fun c q => ?_) fun c xs q => ?_
      · rw [cut_out (hc.out q (fun φ z => nomatch z))]
        exact q
      · rw [cut_out (hc.out q (fun φ z => nomatch z))]
        exact q
  have noneC : ∀ b, H b = Option.none → cut (cellsOf F.nf fr) H b = Option.none := fun b e => by
    by_cases hb : b ∈ cellsOf F.nf fr
    · exact cut_in hb
    · rw [cut_out hb]
      exact e
  have e1 : Env0 P w K mg base A outer s (cut (cellsOf F.nf fr) H) := ⟨e0.frames, e0.mod, fun b o q => ⟨(e0.bs b o q).1, noneC b (e0.bs b o q).2⟩, e0.bsz, e0.funs, fun b hb => noneC b (e0.frf b hb), hokc, e0.bare⟩
  have C : CellsAt F.cl fr (ws.map some) s.heap (cut (cellsOf F.nf fr) H) := by
    refine ⟨by rw [List.length_map]; exact hc.len, fun y c e => ?_, hc.inj, fun i y e => ?_⟩
    · have hb : c ∈ cellsOf F.nf fr := mem_cells.mpr ⟨y, hc.dom y c e, e⟩
      obtain ⟨u, z⟩ := isC c hb
      exact ⟨cut_in hb, _, z⟩
    · obtain ⟨c, v, a, b, d⟩ := hc.at_ i y e
      refine ⟨c, a, fun v' e' => ?_⟩
      rw [List.getElem?_map, b] at e'
      cases e'
      obtain ⟨u, r', z⟩ := d.at_ e0.hok
      exact ⟨u, r', z⟩
  refine codeAny_mono (lam_run S hb len hbody A outer s (cut (cellsOf F.nf fr) H) us vs (ws.map some) _ E hr e1 (by rw [cut_out fnout]; exact hc.fn) (by rw [cut_out cout]; exact hc.code) C r hsp) fun res s' hq => ?_
  cases res with
  | error e => exact hq
  | ok fl =>
    cases fl with
    | next => exact hq
    | brk => exact hq
    | cont => exact hq
    | ret u =>
      obtain ⟨v, H1, os, bare, un, hok1, rv, q⟩ := hq
      have gone : ∀ b, b ∈ cellsOf F.nf fr → H1 b = Option.none := fun b hb => by
        obtain ⟨u, o, z1, z2⟩ := isC b hb
        exact un.free b o z1 (cut_in hb) (by simp)
      have notfr : ∀ b, b ∈ cellsOf F.nf fr → b ∉ frs outer := fun b hb z => by
        obtain ⟨v, φ, d, _⟩ := cellAt b hb
        rw [e0.frf b z] at d
        cases d
      refine ⟨v, mend (cellsOf F.nf fr) H H1, os, bare, ⟨fun b o a n h1 h2 => un.keep b o a (noneC b n) h1 h2, fun b o a n h1 h2 => un.slot b o a (noneC b n) h1 h2, fun b o a n h2 => ?_, un.there, fun b xs e => ?_, fun b o u e => ?_, fun b ps e => ?_⟩, fun b o e => ?_, rv, q gone⟩
      · by_cases hb : b ∈ cellsOf F.nf fr
        · rw [mend_in hb]
          exact n
        · rw [mend_out hb]
          exact un.free b o a (noneC b n) h2
      · have hb := hc.out e (fun φ z => nomatch z)
        rw [mend_out hb]
        exact un.tups b xs (by rw [cut_out hb]; exact e)
      · have hb := hc.out e (fun φ z => nomatch z)
        rw [mend_out hb]
        exact un.frzs b o u (by rw [cut_out hb]; exact e)
      · have hb := hc.out e (fun φ z => nomatch z)
        rw [mend_out hb]
        exact un.tbls b ps (by rw [cut_out hb]; exact e)
      · by_cases hb : b ∈ cellsOf F.nf fr
        · rw [mend_in hb] at e
          obtain ⟨v', φ, d, _⟩ := cellAt b hb
          rw [d] at e
          cases e
          obtain ⟨z, ⟨o', z1⟩, st⟩ := e0.hok b _ d
          have z2 := un.keep b o' z1 (cut_in hb) (notfr b hb) (by simp)
          refine ⟨st _ _ z (fun x hx => ?_), ⟨o', z2⟩, st⟩
          rw [z1] at hx
          cases hx
          exact z2
        · rw [mend_out hb] at e
          refine (hok1 b o e).stay (fun c u _ q => q) (fun c q => ?_) fun c xs q => ?_
          · have hb' : c ∉ cellsOf F.nf fr := fun z => by
              rw [gone c z] at q
              cases q
            rw [mend_out hb']
            exact q
          · have hb' : c ∉ cellsOf F.nf fr := fun z => by
              rw [gone c z] at q
              cases q
            rw [mend_out hb']
            exact q
end
/-! ### a call while the def's cells are told -/
/-- HT is H with the def's cells cs told -/
structure Tel (cells : List (Str × Addr)) (names : List (Str × NameKind)) (N : List Str) (σ : L2.St) (H : Hp) (cs : List Addr) (HT : Hp) : Prop where
  no : ∀ b, b ∈ cs → H b = Option.none
  ext : ∀ b, b ∈ cs → ∃ φ, HT b = some (.ext φ)
  out : ∀ b, b ∉ cs → HT b = H b
  inj : ∀ x y c, cells.lookup x = some c → cells.lookup y = some c → x = y
  has : ∀ y, names.lookup y = some .cell → ∃ c, cells.lookup y = some c
  at_ : ∀ (i : Nat) (y : Str) (c : Addr) (v : V), N[i]? = some y → names.lookup y = some .cell → cells.lookup y = some c → σ[i]? = some (some v) → CellAt HT c v
theorem Tel.same {cells : List (Str × Addr)} {names : List (Str × NameKind)} {N : List Str} {σ : L2.St} {H HT : Hp} {cs : List Addr} (t : Tel cells names N σ H cs HT) : Same H HT := fun b o e => by
  rw [t.out b fun z => by rw [t.no b z] at e; cases e]
  exact e
theorem Tel.cut_at {cells : List (Str × Addr)} {names : List (Str × NameKind)} {N : List Str} {σ : L2.St} {H HT H1 : Hp} {cs : List Addr} (t : Tel cells names N σ H cs HT) (g : ∀ b, b ∈ cs → H1 b = HT b) {b : Addr} {o : HO} (e : H1 b = some o) (n : ∀ φ, o ≠ .ext φ) : cut cs H1 b = some o := by
  rw [cut_out fun z => ?_]
  · exact e
  · obtain ⟨φ, f⟩ := t.ext b z
    rw [g b z, f] at e
    exact n _ (Option.some.inj e).symm
theorem Tel.cut_same {cells : List (Str × Addr)} {names : List (Str × NameKind)} {N : List Str} {σ : L2.St} {H HT H1 : Hp} {cs : List Addr} (t : Tel cells names N σ H cs HT) (s : Same HT H1) : Same H (cut cs H1) := fun b o e => by
  rw [cut_out fun z => by rw [t.no b z] at e; cases e]
  exact s _ _ (t.same _ _ e)
theorem Tel.back {cells : List (Str × Addr)} {names : List (Str × NameKind)} {N : List Str} {σ : L2.St} {H HT : Hp} {cs : List Addr} (t : Tel cells names N σ H cs HT) : cut cs HT = H := funext fun b => by
  by_cases hb : b ∈ cs
  · rw [cut_in hb, t.no b hb]
  · rw [cut_out hb, t.out b hb]
theorem mend_cut {cs : List Addr} {H : Hp} : mend cs H (cut cs H) = H := funext fun b => by
  by_cases hb : b ∈ cs
  · rw [mend_in hb]
  · rw [mend_out hb, cut_out hb]
/-- a lambda that was made in the def, while the def's cells are told -/
theorem Tel.lclo {cells : List (Str × Addr)} {names : List (Str × NameKind)} {N : List Str} {σ : L2.St} {H HT : Hp} {cs : List Addr} (t : Tel cells names N σ H cs HT) {NL psL fr : List Str} {F : LF} {f : Addr} {js : List Nat} {ws : List V}
    (S : NScope NL psL fr F.scope) (hcl : F.cl = cloFrom cells F.scope.names []) (hfree : ∀ y ∈ fr, names.lookup y = some .cell)
    (hN : js.map (fun j => N[j]?) = fr.map some) (hσ : js.map (fun j => σ[j]?) = ws.map fun v => some (some v))
    (hf : H f = some (LamO f F)) (hc : H F.c = some (CodeO F.c F.qual)) : LClo HT f F fr ws := by
  have hfr : ∀ y ∈ F.scope.names, y.2 = .free → ∃ c, cells.lookup y.1 = some c := fun y hy e => t.has _ (hfree _ (S.free y hy e))
  have l1 := congrArg List.length hN
  have l2 := congrArg List.length hσ
  rw [List.length_map, List.length_map] at l1 l2
  refine ⟨t.same _ _ hf, t.same _ _ hc, by omega, fun y c e => ?_, fun x y c e1 e2 => ?_, fun i y e => ?_⟩
  · rw [hcl] at e
    rcases cloFrom_mem (PySem.mem_of_lookup e) with h | ⟨h, _⟩
    · cases h
    · exact S.free _ h rfl
  · rw [hcl] at e1 e2
    exact t.inj x y c (clo_cm hfr e1) (clo_cm hfr e2)
  · have my : y ∈ fr := List.mem_of_getElem? e
    obtain ⟨c, hc⟩ := t.has y (hfree y my)
    have li : i < fr.length := (List.getElem?_eq_some_iff.mp e).1
    obtain ⟨j, hj⟩ : ∃ j, js[i]? = some j := ⟨_, List.getElem?_eq_getElem (by omega)⟩
    obtain ⟨v, hv⟩ : ∃ v, ws[i]? = some v := ⟨_, List.getElem?_eq_getElem (by omega)⟩
    have n1 : (js.map fun j => N[j]?)[i]? = some (some y) := by
      rw [hN, List.getElem?_map, e]
      rfl
    have n2 : (js.map fun j => σ[j]?)[i]? = some (some (some v)) := by
      rw [hσ, List.getElem?_map, hv]
      rfl
    rw [List.getElem?_map, hj] at n1 n2
    exact ⟨c, v, by rw [hcl]; exact clo_has hfr (PySem.mem_of_lookup (S.frk y my)) hc, hv, t.at_ j y c v (Option.some.inj n1) (hfree y my) hc (Option.some.inj n2)⟩
section
variable {X : Cx} {pins : List (Addr × Obj)} {σ : L2.St} {H : Hp} {s : Shared}
def frCells (l : List (Str × Addr)) : List Addr := l.filterMap fun p => l.lookup p.1
theorem mem_frCells {l : List (Str × Addr)} {b : Addr} (h : b ∈ frCells l) : ∃ x, l.lookup x = some b := by
  obtain ⟨p, _, e⟩ := List.mem_filterMap.mp h
  exact ⟨p.1, e⟩
theorem frCells_mem {l : List (Str × Addr)} {x : Str} {b : Addr} (h : l.lookup x = some b) : b ∈ frCells l := List.mem_filterMap.mpr ⟨(x, b), PySem.mem_of_lookup h, h⟩
theorem tel_run {k : Nat} {f : Addr} {fd : FuncData} {ps : List Str} {ds : List Value} {dvs : List V} {sp : Sp} {Q : VK} {us : List Value} {vs : List V} (F : FnOk X.prog X.w X.K X.mg X.base CX0 k f fd ps sp) (hr : Room k X.A) (hb : Binds X.K fd ps ds) (hd : Vals dvs ds) (hfn : ∀ x, X.fn x = true)
    (I : Inv X pins σ H s) (r : Vals vs us) (h : ∀ cs HT, Tel X.env.cells X.env.scope.names X.N σ H cs HT → sp (vs ++ dvs) HT (fun v H1 => (∀ b, b ∈ cs → H1 b = HT b) ∧ Q v (cut cs H1)) E0) : wpAny (model X.prog X.w) X.A (call (.ref f) us) (EP X pins σ Q) X.xe s := by
  let cs := frCells X.env.cells
  let HT : Hp := fun b => if b ∈ cs then (match s.heap.get? b with | some o => some (.ext fun h => h.get? b = some o) | Option.none => Option.none) else H b
  have big : ∀ b, b ∈ cs → X.s_0.heap.objs.size ≤ b := fun b hb => by
    obtain ⟨x, e⟩ := mem_frCells hb
    exact I.ok.cab x b (hfn x) e
  have no : ∀ b, b ∈ cs → H b = Option.none := fun b hb => by
    obtain ⟨x, e⟩ := mem_frCells hb
    exact I.freeC x b e
  have inT : ∀ b, b ∈ cs → ∃ v o, s.heap.get? b = some o ∧ o.data = .cell v ∧ HT b = some (.ext fun h => h.get? b = some o) := fun b hb => by
    obtain ⟨x, e⟩ := mem_frCells hb
    obtain ⟨v, o, e1, e2⟩ := I.cell x b e
    refine ⟨v, o, e1, e2, ?_⟩
    show (if b ∈ cs then _ else _) = _
    rw [if_pos hb, e1]
  have outT : ∀ b, b ∉ cs → HT b = H b := fun b hb => if_neg hb
  have nonT : ∀ b, b ∉ cs → H b = Option.none → HT b = Option.none := fun b hb e => (outT b hb).trans e
  have T : Tel X.env.cells X.env.scope.names X.N σ H cs HT := by
    refine ⟨no, fun b hb => ?_, outT, I.ok.inj, fun y h => I.ok.has _ (.inl h), fun i y c v h1 h2 h3 h4 => ?_⟩
    · obtain ⟨v, o, _, _, e⟩ := inT b hb
      exact ⟨_, e⟩
    · obtain ⟨v', o, e1, e2, e3⟩ := inT c (frCells_mem h3)
      obtain ⟨m, hn, hl⟩ := I.loc
      obtain ⟨u, ru, lk⟩ := hl i y v h1 h4 (.inr (.inl h2))
      refine ⟨_, e3, fun h hh => ⟨u, ru, o, hh, ?_⟩⟩
      rcases lk with ⟨z, _⟩ | ⟨_, c', hc', hcell⟩
      · have z' : X.env.scope.names.lookup y = some .local := z
        rw [h2] at z'
        cases z'
      · rw [h3] at hc'
        cases hc'
        obtain ⟨o', g1, g2⟩ := hcell
        rw [e1] at g1
        cases g1
        exact g2
  have ncs : ∀ b, b < X.s_0.heap.objs.size → b ∉ cs := fun b l m => Nat.not_lt.mpr (big b m) l
  have e0 := I.env0
  have notfr : ∀ b, b ∈ frs X.stack → b ∉ cs := fun b hb m => by
    rcases List.mem_cons.mp (I.stkSub b hb) with e | hb'
    · obtain ⟨x, ex⟩ := mem_frCells m
      exact I.cne x b ex e
    · obtain ⟨_, o, ho, _⟩ := I.ok.funs.mem hb'
      exact ncs b (Heap.lt_size ho) m
  have nonext : ∀ {b : Addr} {o : HO}, H b = some o → b ∉ cs := fun e m => by
    rw [no _ m] at e
    cases e
  have e1 : Env0 X.prog X.w X.K X.mg X.base X.A X.stack s HT := by
    refine ⟨e0.frames, e0.mod, fun b o q => ⟨(e0.bs b o q).1, nonT b (ncs b (Nat.lt_of_lt_of_le (Heap.lt_size q) I.ok.bsz)) (e0.bs b o q).2⟩, e0.bsz, e0.funs, fun b hb => nonT b (notfr b hb) (e0.frf b hb), fun b o e => ?_, e0.bare⟩
    by_cases hb : b ∈ cs
    · obtain ⟨v, o', g1, g2, g3⟩ := inT b hb
      rw [g3] at e
      cases e
      exact ⟨g1, ⟨o', g1⟩, fun h1 h2 z k => k _ z⟩
    · rw [outT b hb] at e
      refine (e0.hok b o e).stay (fun c u _ q => q) (fun c q => ?_) fun c xs q => ?_
      · rw [outT c (nonext q)]
        exact q
      · rw [outT c (nonext q)]
        exact q
  have hq0 := h cs HT T
  have r2 : Vals (vs ++ dvs) (us ++ ds) := r.append hd
  have hl : (us ++ ds).length = ps.length := by rw [← r2.length]; exact F.len _ _ _ _ hq0
  refine wpAny_call (codeAny_mono (F.run X.A X.stack s HT ⟨us, []⟩ (us ++ ds) (vs ++ dvs) _ E0 hr e1 (hb s us I.kIn hl) r2 hq0) fun r s' hq => ?_)
  cases r with
  | error e => exact False.elim hq
  | ok fl =>
    cases fl with
    | next => exact False.elim hq
    | brk => exact False.elim hq
    | cont => exact False.elim hq
    | ret u =>
      obtain ⟨v, H1, os, bare, un, hok1, rv, kc, q⟩ := hq
      have notin : ∀ {b : Addr} {o : HO}, H1 b = some o → (∀ φ, o ≠ .ext φ) → b ∉ cs := fun {b o} e n m => by
        obtain ⟨v, o', _, _, g3⟩ := inT b m
        rw [kc b m, g3] at e
        exact n _ (Option.some.inj e).symm
      have keepC : ∀ b o, b ∈ cs → s.heap.get? b = some o → s'.heap.get? b = some o := fun b o m e => by
        obtain ⟨v, o', g1, _, g3⟩ := inT b m
        rw [g1] at e
        cases e
        have := hok1 b _ ((kc b m).trans g3)
        exact this.1
      refine I.after ⟨v, cut cs H1, os, bare, ⟨fun b o a n h1 h2 => ?_, fun b o a n h1 h2 => ?_, fun b o a n h2 => ?_, un.there, fun b xs e => ?_, fun b o u e => ?_, fun b ps e => ?_⟩, fun b o e => ?_, rv, q⟩
      · by_cases m : b ∈ cs
        · exact keepC b o m a
        · exact un.keep b o a (nonT b m n) h1 h2
      · exact un.slot b o a (nonT b (notfr b h1) n) h1 h2
      · by_cases m : b ∈ cs
        · exact cut_in m
        · rw [cut_out m]
          exact un.free b o a (nonT b m n) h2
      · have m := nonext e
        rw [cut_out m]
        exact un.tups b xs ((outT b m).trans e)
      · have m := nonext e
        rw [cut_out m]
        exact un.frzs b o u ((outT b m).trans e)
      · have m := nonext e
        rw [cut_out m]
        exact un.tbls b ps ((outT b m).trans e)
      · by_cases m : b ∈ cs
        · rw [cut_in m] at e
          cases e
        · rw [cut_out m] at e
          refine (hok1 b o e).stay (fun c u _ q => q) (fun c q => ?_) fun c xs q => ?_
          · rw [cut_out (notin q (fun φ z => nomatch z))]
            exact q
          · rw [cut_out (notin q (fun φ z => nomatch z))]
            exact q
end
/-- f(..) while the cells are told -/
def tCallT (X : Cx) (sp : Sp) (dvs : List V) (t : TA) : TE := fun σ H Q => t σ H fun vs H1 => ∀ cs HT, Tel X.env.cells X.env.scope.names X.N σ H1 cs HT → sp (vs ++ dvs) HT (fun v H2 => (∀ b, b ∈ cs → H2 b = HT b) ∧ Q v (cut cs H2)) E0
theorem pe_callT {X : Cx} {k : Nat} {f : Addr} {fd : FuncData} {ps : List Str} {ds : List Value} {dvs : List V} {sp : Sp} {x : Str} {p pos : Pos} {e : Expr} {es : List Expr} {t : TA} (hfn : ∀ x, X.fn x = true) (F : FnOk X.prog X.w X.K X.mg X.base CX0 k f fd ps sp) (hr : Room k X.A) (hg : Gl X x) (hm : X.mg x = some (.ref f)) (hk : PySem.W.keepIn X.K (.ref f) = true) (hb : Binds X.K fd ps ds) (hd : Vals dvs ds)
    (ha : PA X (e :: es) t) (hdb : (x == ("__debug__" : Str)) = false := by decide) (he : starEach (e :: es) X.env = (false, eval e X.env) :: starEach es X.env := by rfl) (hpl : (backTo pos (starEach es X.env)).any (·.1) = false := by rfl) :
    PE X (.Call (.Name x p) (e :: es) [] pos) (tCallT X sp dvs t) := by
  refine ⟨fun pins s σ H Q I h => ?_⟩
  refine wpAny_Call_Name_kw (ld_glob I hg hm ?_ hdb)
  refine PySem.W.callWith_K (h₀ := X.base) I.ok.mod.kin hk (thn (ha.run pos pins s σ H _ I h) fun us s1 ⟨vs, H1, I1, r, q⟩ => ⟨I1.kIn, ?_⟩) he hpl
  exact tel_run F hr hb hd hfn I1 r q
section
variable {X : Cx} {pins : List (Addr × Obj)} {σ : L2.St} {H : Hp} {s : Shared}
/-- a lambda in a def that makes functions by name, too: the table knows the names by their places -/
theorem lam_toldP {T : List NTab} {nm : Nat → Nat → Str} {c P : Addr} {params : Arguments} {body : Expr} {scope : Scope} {pos : Pos} {E : Value → Shared → Prop} {Q : Value → Shared → Prop} (I : Inv X pins σ H s) (TB : TabB X.base X.mg c P) (hcode : X.env.code = .ref c)
    (hm : (P, nm) ∈ T) (hn : nm pos.line pos.col = X.env.qual ++ "<lambda>") (hu : ∀ p ∈ T, p.1 = P → p.2 = nm) (hT : TabsN T H) (hdef : defaultsOf params X.env = ([], [])) (hfree : ∀ y ∈ scope.names, y.2 = .free → ∃ c, X.env.cells.lookup y.1 = some c)
    (h : ∀ (f c' : Addr) (H1 : Hp) (s' : Shared), Inv X pins σ H1 s' → (∀ b o, H b = some o → b ≠ P → H1 b = some o) → (∀ b, H1 b = Option.none → H b = Option.none) → TabsN T H1 → H f = none → H1 f = some (LamO f ⟨X.env.qual ++ "<lambda>", params, body, scope, cloFrom X.env.cells scope.names [], c'⟩) → H1 c' = some (CodeO c' (X.env.qual ++ "<lambda>")) → Q (.ref f) s') :
    wpAny (model X.prog X.w) X.A (eval (.Lambda params body scope pos) X.env) Q E s := by
  obtain ⟨ps, hP, ht, ha⟩ := (show TabN H P nm from hT _ hm)
  have bP := TB.bm.keeps (h' := s.heap) I.bk
  have gP : s.heap.get? P = some { cls := .none, data := .fields ps } := I.hok P _ hP
  refine PySem.W.kla_eval hdef ?_
  cases cd : codeAmong pos ps.toList with
  | none =>
    refine PySem.W.kla_makeFunction (mg := X.mg) (c := c) (P := P) (ps := ps) (closure_ok hfree) I.ok.glob (I.mod.glob.keeps I.bk) hcode (TB.code.keeps I.bk) gP ht cd TB.gP bP fun c' ctv h' tk hx hge hlt hrec htb => ?_
    obtain ⟨c2, oc, vs, t, e2, hoc, hd, hv⟩ := hrec
    cases e2
    have nC : H c' = none := I.hok.fresh hge
    have I1 := inv_table (q := X.env.qual ++ "<lambda>") (t' := tk) (more := #[rawInt pos.line, rawInt pos.col, .ref c']) (h' := h') I hP hx htb hge ⟨oc, vs, t, hoc, hd, hv⟩
    have hE : ExtN H (upd (upd H P (.tbl (ps ++ #[rawInt pos.line, rawInt pos.col, .ref c']))) c' (CodeO c' (X.env.qual ++ "<lambda>"))) := fun b o e n => by
      rw [upd_ne (ne_of_none e nC), upd_ne (fun z => n ps (Option.some.inj (e.symm.trans (by rw [z]; exact hP))))]
      exact e
    have eL : (ps ++ #[rawInt pos.line, rawInt pos.col, .ref c']).toList = ps.toList ++ [rawInt pos.line, rawInt pos.col, .ref c'] := by simp
    have T1 : TabsN T (upd (upd H P (.tbl (ps ++ #[rawInt pos.line, rawInt pos.col, .ref c']))) c' (CodeO c' (X.env.qual ++ "<lambda>"))) := fun p hp => by
      by_cases hb : p.1 = P
      · rw [hu p hp hb, hb]
        refine ⟨_, by rw [upd_ne (ne_of_none hP nC), upd_same], by rw [eL]; exact PySem.TriplesOk_snoc _ _ _ _ ht, fun p' cv hcv => ?_⟩
        rw [eL] at hcv
        rcases among_app2 _ ht hcv with z | ⟨z, z1, z2⟩
        · obtain ⟨c0, e1, e2⟩ := ha p' cv z
          exact ⟨c0, e1, hE _ _ e2 codeO_ne⟩
        · refine ⟨c', z, ?_⟩
          rw [← z1, ← z2, hn]
          exact upd_same
      · obtain ⟨ps', a1, a2, a3⟩ := hT p hp
        refine ⟨ps', by rw [upd_ne (ne_of_none a1 nC), upd_ne hb]; exact a1, a2, fun p' cv hcv => ?_⟩
        obtain ⟨c0, e1, e2⟩ := a3 p' cv hcv
        exact ⟨c0, e1, hE _ _ e2 codeO_ne⟩
    have nF := I1.hok.fresh (Nat.le_refl h'.objs.size)
    have I2 := I1.laid (a := h'.objs.size) (o := LamO h'.objs.size ⟨X.env.qual ++ "<lambda>", params, body, scope, cloFrom X.env.cells scope.names [], c'⟩) (h' := h'.push (PySem.W.kla_obj "<lambda>" (X.env.qual ++ "<lambda>") params body scope (cloFrom X.env.cells scope.names []) ((X.mg "__name__").getD .none) c' ctv)) (t' := tk)
      (fun b u z => Heap.get?_push_of_some _ z) (Nat.le_refl _) (lamO_ok ⟨_, _, Heap.get?_push_size _ rfl⟩)
    have hX : ∀ b o, H b = some o → b ≠ P → (upd (upd H P (.tbl (ps ++ #[rawInt pos.line, rawInt pos.col, .ref c']))) c' (CodeO c' (X.env.qual ++ "<lambda>"))) b = some o := fun b o e n => by
      rw [upd_ne (ne_of_none e nC), upd_ne n]
      exact e
    refine h h'.objs.size c' _ _ I2 (fun b o e n => ?_) (fun b e => NdefX.upd_none (NdefX.upd_none (NdefX.upd_none e))) (T1.ext fun b o e => ?_) (I.hok.fresh (Nat.le_trans hge (Nat.le_of_lt hlt))) upd_same ?_
    · have e1 := hX b o e n
      exact (upd_ne (ne_of_none e1 nF)).trans e1
    · exact (upd_ne (ne_of_none e nF)).trans e
    · exact (upd_ne (Nat.ne_of_lt hlt)).trans upd_same
  | some cv =>
    obtain ⟨c', e, hco⟩ := ha pos cv cd
    subst e
    rw [hn] at hco
    refine PySem.W.kla_makeFunctionHit (mg := X.mg) (c := c) (P := P) (ps := ps) (closure_ok hfree) I.ok.glob (I.mod.glob.keeps I.bk) hcode (TB.code.keeps I.bk) gP ht cd bP fun ctv h' tk hx hsz => ?_
    have I0 : Inv X pins σ H { s with heap := h', toks := tk } := I.kept hx
    have nF : H h'.objs.size = none := I0.hok.fresh (Nat.le_refl _)
    have I2 := I0.laid (a := h'.objs.size) (o := LamO h'.objs.size ⟨X.env.qual ++ "<lambda>", params, body, scope, cloFrom X.env.cells scope.names [], c'⟩) (h' := h'.push (PySem.W.kla_obj "<lambda>" (X.env.qual ++ "<lambda>") params body scope (cloFrom X.env.cells scope.names []) ((X.mg "__name__").getD .none) c' ctv)) (t' := tk)
      (fun b u z => Heap.get?_push_of_some _ z) (Nat.le_refl _) (lamO_ok ⟨_, _, Heap.get?_push_size _ rfl⟩)
    refine h h'.objs.size c' _ _ I2 (fun b o e n => ?_) (fun b e => NdefX.upd_none e) (hT.ext fun b o e => ?_) nF upd_same ?_
    · exact (upd_ne (ne_of_none e nF)).trans e
    · exact (upd_ne (ne_of_none e nF)).trans e
    · exact (upd_ne (ne_of_none hco nF)).trans hco
end
def tLamP (T : List NTab) (P : Addr) (F : Addr → LF) : TE := fun σ H Q => TabsN T H ∧ ∀ (f c' : Addr) (H1 : Hp), (∀ b o, H b = some o → b ≠ P → H1 b = some o) → (∀ b, H1 b = Option.none → H b = Option.none) → TabsN T H1 → H f = none → H1 f = some (LamO f (F c')) → H1 c' = some (CodeO c' (F c').qual) → Q (.ref f) H1
theorem pe_lamP {X : Cx} {T : List NTab} {nm : Nat → Nat → Str} {c P : Addr} {params : Arguments} {body : Expr} {scope : Scope} {pos : Pos} (TB : TabB X.base X.mg c P) (hcode : X.env.code = .ref c) (hm : (P, nm) ∈ T) (hn : nm pos.line pos.col = X.env.qual ++ "<lambda>") (hu : ∀ p ∈ T, p.1 = P → p.2 = nm)
    (hdef : defaultsOf params X.env = ([], [])) (hfree : ∀ y ∈ scope.names, y.2 = .free → X.env.scope.names.lookup y.1 = some .cell ∨ X.env.scope.names.lookup y.1 = some .free) :
    PE X (.Lambda params body scope pos) (tLamP T P fun c' => ⟨X.env.qual ++ "<lambda>", params, body, scope, cloFrom X.env.cells scope.names [], c'⟩) := by
  refine ⟨fun pins s σ H Q I h => ?_⟩
  obtain ⟨hT, q⟩ := h
  exact lam_toldP I TB hcode hm hn hu hT hdef (fun y hy e => (hfree y hy e).elim (fun z => I.ok.has _ (.inl z)) fun z => I.ok.has _ (.inr z)) fun f c' H1 s' I1 e1 n1 t1 nf hf hc => ⟨.ref f, H1, I1, rfl, q f c' H1 e1 n1 t1 nf hf hc⟩
/-! ### f(e, ..), f a name that holds a function that was made in a def -/
def tActP (P : Program) (w : World) (K : PySem.W.Frag) (mg : Str → Option Value) (base : Heap) (CX : CXT) (k i : Nat) (E : L2.St → XK) (t : TA) : TE := fun σ H Q => ∃ f, σ[i]? = some (some (.ref f)) ∧ t σ H fun vs H1 => ∃ o sp, H1 f = some o ∧ FnHO f o ∧ FnR P w K mg base CX k f sp ∧ sp vs H1 Q (E σ)
theorem lamHO2 {f : Addr} {F : LF} : FnHO f (LamO f F) := lamHO
theorem pe_actP {X : Cx} {CX : CXT} {k i : Nat} {E : L2.St → XK} {x : Str} {e : Expr} {es : List Expr} {t : TA} {p pos : Pos} (hN : X.N[i]? = some x) (hv : Vis X.env.scope x) (hr : Room k X.A) (hx : ∀ σ, PassesAt CX X σ (E σ)) (ha : PA X (e :: es) t) (hd : (x == ("__debug__" : Str)) = false := by decide) (hcd : (x == ("__classdict__" : Str)) = false := by decide)
    (he : starEach (e :: es) X.env = (false, eval e X.env) :: starEach es X.env := by rfl) (hpl : (backTo pos (starEach es X.env)).any (·.1) = false := by rfl) : PE X (.Call (.Name x p) (e :: es) [] pos) (tActP X.prog X.w X.K X.mg X.base CX k i E t) := by
  refine ⟨fun pins s σ H Q I h => ?_⟩
  obtain ⟨f, hs, h⟩ := h
  refine wpAny_Call_Name_kw (thn ((pe_var (pos := p) hN hv hd hcd).run pins s σ H (fun v H1 => v = .ref f ∧ H1 = H) I ⟨.ref f, hs, rfl, rfl⟩) fun u s1 ⟨v, H1, I1, r1, ev, eH⟩ => ?_)
  subst ev
  rw [eH] at I1
  obtain rfl : u = Value.ref f := r1
  rw [he]
  refine PySem.W.callWith_of (P := PySem.W.FnAt f) (by show ((false || (backTo pos (starEach es X.env)).any (·.1)) || false) = false; rw [hpl]; rfl) PySem.W.keeps_F (PySem.Calls.evalArgs_plain (?_ : wpAny _ _ (spliced (backTo pos ((false, eval e X.env) :: starEach es X.env))) _ _ _))
  rw [← he]
  exact thn (ha.run pos pins s1 σ H _ I1 h) fun us s2 ⟨vs, H2, I2, r, o, sp, hf, ho, hF, q⟩ => ⟨ho _ _ _ _ I2.hok hf, run_fnE hF hr (hx σ) I2 r q⟩
/-! ### f( *values), f a name that holds a function: one of a def, or one of the module -/
def FnIs (K : PySem.W.Frag) (H : Hp) (f : Addr) : Prop := (∃ o, H f = some o ∧ FnHO f o) ∨ ∃ (oc : Value) (od : Option Addr) (fd : FuncData) (sl : Array (Option Value)), K.lookup f = some ⟨oc, od, .func fd, sl⟩
theorem FnIs.at_ {K : PySem.W.Frag} {P : Program} {w : World} {H : Hp} {h : Heap} {f : Addr} (g : FnIs K H f) (hok : HOk P w H h) (k : K.In h) : PySem.W.FnAt f h := by
  rcases g with ⟨o, e, z⟩ | ⟨oc, od, fd, sl, e⟩
  · exact z _ _ _ _ hok e
  · exact ⟨_, _, _, _, k _ _ e⟩
def tActG (P : Program) (w : World) (K : PySem.W.Frag) (mg : Str → Option Value) (base : Heap) (CX : CXT) (k i : Nat) (E : L2.St → XK) (te : TE) : TE := fun σ H Q => ∃ f, σ[i]? = some (some (.ref f)) ∧ te σ H fun y H1 => ∃ a xs sp, y = V.ref a ∧ (SqT K H1 a xs ∨ SqL K H1 a xs) ∧ FnIs K H1 f ∧
  FnR P w K mg base CX k f sp ∧ sp xs H1 Q (E σ)
theorem pe_actG {X : Cx} {CX : CXT} {k i : Nat} {E : L2.St → XK} {x : Str} {e : Expr} {te : TE} {p sp_ pos : Pos} (hN : X.N[i]? = some x) (hv : Vis X.env.scope x) (hr : Room k X.A) (hx : ∀ σ, PassesAt CX X σ (E σ)) (he : PE X e te) (hd : (x == ("__debug__" : Str)) = false := by decide) (hcd : (x == ("__classdict__" : Str)) = false := by decide)
    (hst : starEach [.Starred e sp_] X.env = [(true, eval e X.env)] := by rfl) : PE X (.Call (.Name x p) [.Starred e sp_] [] pos) (tActG X.prog X.w X.K X.mg X.base CX k i E te) := by
  refine ⟨fun pins s σ H Q I h => ?_⟩
  obtain ⟨f, hs, h⟩ := h
  refine wpAny_Call_Name_kw (thn ((pe_var (pos := p) hN hv hd hcd).run pins s σ H (fun v H1 => v = .ref f ∧ H1 = H) I ⟨.ref f, hs, rfl, rfl⟩) fun u s1 ⟨v, H1, I1, r1, ev, eH⟩ => ?_)
  subst ev
  rw [eH] at I1
  obtain rfl : u = Value.ref f := r1
  rw [show backTo pos (starEach [.Starred e sp_] X.env) = [(true, (do let v ← eval e X.env; standAt pos; pure v))] by rw [hst]; rfl]
  refine PySem.W.ks_call (P := PySem.W.FnAt f) rfl PySem.W.keeps_F (PySem.W.ks_lone ?_)
  refine thn (he.run pins s1 σ H _ I1 h) fun v s2 ⟨y, H2, I2, ry, a, xs, sp, ey, hxs, hf, hF, q⟩ => ?_
  subst ey
  obtain rfl : v = Value.ref a := ry
  exact StX.star_any I2 hxs fun us s3 I3 rv => ⟨hf.at_ I3.hok I3.kIn, run_fnE hF hr (hx σ) I3 rv q⟩
end Inf

set_option Elab.async false
set_option linter.all false
set_option maxRecDepth 100000
set_option maxHeartbeats 4000000
namespace Inf
open PySem PySem.Spec PyProof.Rows L2 NdefX LamX
/-! ### min(xs, default=d) -/
/-- what the walk has kept behind j items -/
def OldAt (P : Nat → Value → Prop) (bt : Nat → Nat → Bool) : Nat → Array Value → Prop
  | 0, old => old = #[]
  | j + 1, old => ∃ v, old = #[v, v] ∧ P (argBest bt j) v
/-- what it ends with -/
def EndAt (P : Nat → Value → Prop) (bt : Nat → Nat → Bool) (n : Nat) (d v : Value) : Prop := (n = 0 ∧ v = d) ∨ (0 < n ∧ P (argBest bt (n - 1)) v)
def kwD (d : Value) : List (Str × Value) := [(Str.ofString "default", d)]
theorem nameD : (toString "min" ++ toString ".loop" : String) = "min.loop" := by decide
theorem minD_loop {prog : Program} {w : World} {A : Around} {R : Result → Shared → Prop} {I : Addr} {fp wr : List Addr} {n : Nat} {P : Nat → Value → Prop} {St : Nat → Heap → Prop} (W : Walks prog w A.in1 I fp wr n P St) {bt : Nat → Nat → Bool} (hc : CmpOf prog w A.in1 .Lt P bt) {S : Addr} (hSf : S ∉ fp) (d : Value) :
    ∀ (k j : Nat) (s : Shared) (old : Array Value) (c : Nat), n = j + k → St j s.heap → OldAt P bt j old → s.heap.get? S = some { cls := .type "list", dict := none, data := .seq old c, slots := #[] } →
      (∀ v h' tk, EndAt P bt n d v → (∀ b o, b ∉ wr → b ≠ S → s.heap.get? b = some o → h'.get? b = some o) → R (.ok (.ret v)) { s with heap := h', toks := tk }) → codeAny (model prog w) A (.builtin "min.loop" ⟨[.ref I, .none, .ref S], kwD d⟩) R s := by
  have hSw : S ∉ wr := fun h => hSf (W.sub _ h)
  intro k
  induction k with
  | zero =>
    intro j s old c hk hst ho hS hR
    obtain rfl : n = j := hk
    refine codeAny_builtin F.entry_min_loop (?_ : wpAny _ _ _ _ _ _)
    rw [Around.under_plainId F.plain_min_loop _]
    refine wpAny_bind (wpAny_seqItems hS rfl (?_ : wpAny _ _ (tryCatch (pyNext (.ref I)) _ >>= _) _ _ _))
    refine wpAny_bind (wpAny_tryCatch (W.done s _ _ hst fun h' tk hk' => ?_))
    cases n with
    | zero =>
      obtain rfl : old = #[] := ho
      refine wpAny_bind (wpAny_rule (wpAny_pure (hR d h' tk (.inl ⟨rfl, rfl⟩) fun b o hb _ e => hk' b o hb e)))
    | succ j =>
      obtain ⟨v, rfl, hv⟩ := ho
      have hS' := hk' S _ hSw hS
      refine wpAny_bind (?_ : wpAny _ _ (updateSeq S fun _ => #[]) _ _ _)
      refine wpAny_updateSeq hS' rfl (wpAny_bind (wpAny_letGo (wpAny_pure (hR v _ tk (.inr ⟨Nat.succ_pos j, hv⟩) fun b o hb n e => ?_))))
      exact (Heap.get?_update_other _ _ (Ne.symm n)).trans (hk' b o hb e)
  | succ k ih =>
    intro j s old c hk hst ho hS hR
    refine codeAny_builtin F.entry_min_loop (?_ : wpAny _ _ _ _ _ _)
    rw [Around.under_plainId F.plain_min_loop _]
    refine wpAny_bind (wpAny_seqItems hS rfl (?_ : wpAny _ _ (tryCatch (pyNext (.ref I)) _ >>= _) _ _ _))
    refine wpAny_bind (wpAny_tryCatch (W.item j s _ _ (by omega) hst fun v h' tk hP hst' hk' => ?_))
    have hS' := hk' S _ hSw hS
    have off : ∀ (g : Array Value → Array Value) (b : Addr) (o : Obj), b ≠ S → h'.get? b = some o → (h'.update S (Obj.mapSeq g)).get? b = some o := fun g b o n e => (Heap.get?_update_other _ _ (Ne.symm n)).trans e
    cases j with
    | zero =>
      obtain rfl : old = #[] := ho
      refine wpAny_bind (wpAny_pure ?_)
      refine wpAny_bind (?_ : wpAny _ _ (updateSeq S fun _ => #[v, v]) _ _ _)
      refine wpAny_updateSeq hS' rfl ?_
      rw [nameD]
      refine wpAny_pure ⟨plainId_quiet F.plain_min_loop _, ih 1 _ #[v, v] _ (by omega) (W.frame _ _ _ hst' fun b hb o e => off _ b o (fun z => hSf (by rw [← z]; exact hb)) e) ⟨v, rfl, hP⟩ (Heap.get?_update_self _ hS' rfl) fun v' h'' tk'' he hk'' => ?_⟩
      exact hR v' h'' tk'' he fun b o hb n e => hk'' b o hb n (off _ b o n (hk' b o hb e))
    | succ j =>
      obtain ⟨vb, rfl, hPb⟩ := ho
      refine wpAny_bind (wpAny_pure ?_)
      refine wpAny_bind (wpAny_tryCatch (wpAny_holding (wpAny_bind (hc (j + 1) (argBest bt j) v vb _ _ _ hP hPb ?_))))
      refine wpAny_bind (wpAny_holding (wpAny_truthy_bool (wpAny_bind (wpAny_letGo (wpAny_pure ?_)))))
      cases hb : bt (j + 1) (argBest bt j) with
      | true =>
        rw [if_pos rfl]
        refine wpAny_bind (?_ : wpAny _ _ (updateSeq S fun _ => #[v, v]) _ _ _)
        refine wpAny_updateSeq hS' rfl (wpAny_bind (wpAny_letGo ?_))
        rw [nameD]
        refine wpAny_pure ⟨plainId_quiet F.plain_min_loop _, ih (j + 2) _ #[v, v] _ (by omega) (W.frame _ _ _ hst' fun b hb o e => off _ b o (fun z => hSf (by rw [← z]; exact hb)) e) ⟨v, rfl, by rw [argBest, hb]; exact hP⟩ (Heap.get?_update_self _ hS' rfl) fun v' h'' tk'' he hk'' => ?_⟩
        exact hR v' h'' tk'' he fun b o hb n e => hk'' b o hb n (off _ b o n (hk' b o hb e))
      | false =>
        rw [if_neg Bool.false_ne_true]
        refine wpAny_bind (wpAny_letGo ?_)
        rw [nameD]
        refine wpAny_pure ⟨plainId_quiet F.plain_min_loop _, ih (j + 2) _ #[vb, vb] c (by omega) hst' ⟨vb, rfl, by rw [argBest, hb]; exact hPb⟩ hS' fun v' h'' tk'' he hk'' => ?_⟩
        exact hR v' h'' tk'' he fun b o hb n e => hk'' b o hb n (hk' b o hb e)
theorem args_minD (a d : Value) : argsOk "min" ⟨[a], kwD d⟩ := by unfold argsOk; kernel_rfl
theorem call_minD {prog : Program} {w : World} {A : Around} {E : Value → Shared → Prop} {s : Shared} {l : Addr} {d : Value} {xs : Array (Int × Tok)} {Q : Value → Shared → Prop} (hh : A.handled = none) (hl : s.heap.IsList l (intItems xs))
    (h : ∀ v h' tk, EndAt (fun i v => (intItems xs)[i]? = some v) (fun i j => decide (numAt xs i < numAt xs j)) xs.size d v → (∀ b o, s.heap.get? b = some o → h'.get? b = some o) → Q v { s with heap := h', toks := tk }) :
    wpAny (model prog w) A (call (.builtin "min") [.ref l] (kwD d)) Q E s := by
  refine PyProof.Rows.kmk_tree PySem.F.kind_min PySem.F.plain_min PySem.F.entry_min (args_minD _ _) ?_
  refine wpAny_bind (m := Builtin.Builtins.bindParams "min" ["key", "default"] 0 ⟨[], kwD d⟩) (wpAny_of_eq (show Builtin.Builtins.bindParams "min" ["key", "default"] 0 ⟨[], kwD d⟩ = pure [none, some d] from rfl) (wpAny_bind (wpAny_pure ?_)))
  refine wpAny_bind (iter_intList hl fun s₂ e st hfp hne => ?_)
  subst e
  refine wpAny_bind (wpAny_newObj_type ?_)
  rw [nameD]
  have hlt : l < s.heap.objs.size := by
    obtain ⟨_, e, _⟩ := hl
    exact Heap.lt_size e
  refine wpAny_pure ⟨plainId_quiet F.plain_min_loop _, minD_loop (Walks.list (A := A.in1) hh _ l hne (intItems xs)) (CmpOf.ints_lt (numAt xs) (fun _ _ => intItems_at)) (fun hm => Nat.lt_irrefl _ (hfp _ hm)) d (intItems xs).size 0 _ #[] _ (Nat.zero_add _).symm ?_ rfl (Heap.get?_push_size _ rfl) fun v h' tk he hk => ?_⟩
  · exact (Walks.list (prog := prog) (w := w) (A := A.in1) hh _ l hne (intItems xs)).frame _ _ _ st fun b _ o e => Heap.get?_push_of_some _ e
  · refine h v h' tk (by simpa [intItems] using he) fun b o e => ?_
    have lb := Heap.lt_size e
    have sz : (s.heap.push { cls := .type "list_iterator", data := .fields #[.ref l, .int 0 0] }).objs.size = s.heap.objs.size + 1 := Heap.size_push ..
    refine hk b o (fun m => ?_) (fun z => ?_) (Heap.get?_push_of_some _ (Heap.get?_push_of_some _ e))
    · rw [List.mem_singleton.mp m] at lb
      exact Nat.lt_irrefl _ lb
    · have z : b = (s.heap.push { cls := .type "list_iterator", data := .fields #[.ref l, .int 0 0] }).objs.size := z
      rw [z, sz] at lb
      exact absurd lb (Nat.not_lt.mpr (Nat.le_succ _))
/-- min(xs, default=d) of a list of ints, any number of them -/
def rMinD (K : PySem.W.Frag) : List V → List V → Hp → VK → Prop := fun vs zs H Q => ∃ (a : Addr) (ns : List Int) (d : V), vs = [V.ref a] ∧ zs = [d] ∧ SqL K H a (ns.map V.int) ∧ (ns = [] → Q d H) ∧ ∀ m ∈ ns, (∀ y ∈ ns, m ≤ y) → Q (.int m) H
theorem cr_minD {X : Cx} (hc : X.calm = true) : CallRK X (.builtin "min") [Str.ofString "default"] (rMinD X.K) := by
  intro pins s σ H vs zs us ws Q I r rz h
  obtain ⟨a, ns, d, rfl, rfl, hs, q0, q1⟩ := h
  obtain rfl := Vals.ref1 r
  obtain ⟨wd, rfl, ed⟩ := vals1 rz
  obtain ⟨its, rv, hl, hz⟩ := I.list hs
  have hi := rv.ints
  obtain ⟨xs, e⟩ := hi.allInts.items
  have hn : numsOf (intItems xs).toList = ns := by rw [← e]; exact hi.numsOf
  rw [nums_intItems] at hn
  subst hn
  have hl2 := hl.isList
  rw [e] at hl2
  refine call_minD (d := wd) (I.ok.hd hc) hl2 fun v h' tk he hk => ?_
  have lx : (xs.toList.map (·.1)).length = xs.size := by rw [List.length_map, Array.length_toList]
  rcases he with ⟨h0, rfl⟩ | ⟨h0, he⟩
  · exact ⟨d, H, I.kept hk, ed, q0 (List.length_eq_zero_iff.mp (lx.trans h0))⟩
  · obtain ⟨t, rfl⟩ := intItems_at he
    obtain ⟨h1, h2⟩ := argBest_lt (numAt xs) (xs.size - 1)
    refine ⟨.int _, H, I.kept hk, ⟨t, rfl⟩, q1 _ ?_ fun y my => ?_⟩
    · rw [numAt_eq]
      exact PySem.getD_mem (by rw [lx]; omega)
    · obtain ⟨j, hj, rfl⟩ := mem_getD my
      rw [lx] at hj
      rw [← numAt_eq]
      exact h2 j (by omega)
end Inf

set_option Elab.async false
set_option linter.all false
set_option maxRecDepth 100000
set_option maxHeartbeats 4000000
namespace Inf
open PySem PySem.Spec PyProof.Rows
/-! ### {**d, k: v} -/
section
variable {prog : Program} {w : World} {K : Type} [DecidableEq K] {knd : KeyKind prog w K} {A : Around} {E : Value → Shared → Prop} {s : Shared}
theorem idx_list {es : Array DictEntry} {p : DictEntry → Bool} : es.findIdx? p = es.toList.findIdx? p := by
  obtain ⟨l⟩ := es
  simp
/-- what a stored pair makes of a dict, on either way -/
theorem put_hit {h : Heap} {d : Addr} {o : Obj} {es : Array DictEntry} {ep i : Nat} {kvs : List (K × Value)} {k : K} {v : Value} (ho : h.get? d = some o) (hc : o.ExactDict) (hd : o.data = .dict es ep) (hk : KeysOf knd es) (hp : Pairs knd es.toList kvs) (hn : (kvs.map (·.1)).Nodup) (hi : es.findIdx? (fun e => knd.is k e.key) = some i) :
    (h.update d (Obj.mapDict fun es => es.modify i fun e => { e with val := v })).DictOf knd d (stored kvs k v) := by
  have hl : es.toList.findIdx? (fun e => knd.is k e.key) = some i := idx_list.symm.trans hi
  have hx : kvs.findIdx? (fun kv => decide (kv.1 = k)) = some i := (hp.findIdx k).symm.trans hl
  have e : stored kvs k v = kvs.map fun kv => if kv.1 = k then (kv.1, v) else kv := by
    unfold stored
    exact if_pos (any_of_findIdx_some hx)
  have h1 := hp.modify hn hl v
  refine ⟨_, _, ep, Heap.get?_update_self _ ho (Obj.isFreed_of_dict (Obj.data_mapDict hd _)), hc.mapDict _, Obj.data_mapDict hd _, hk.modify _ _, ?_, ?_⟩
  · rw [e]
    obtain ⟨l⟩ := es
    simpa using h1
  · rw [e, keys_map_store]
    exact hn
theorem put_new {h : Heap} {d : Addr} {o : Obj} {es : Array DictEntry} {ep : Nat} {kvs : List (K × Value)} {k : K} {key v : Value} (hkey : knd.is k key = true) (ho : h.get? d = some o) (hc : o.ExactDict) (hd : o.data = .dict es ep) (hk : KeysOf knd es) (hp : Pairs knd es.toList kvs) (hn : (kvs.map (·.1)).Nodup) (hi : es.findIdx? (fun e => knd.is k e.key) = none) :
    (h.update d (Obj.mapDictKeys (·.push ⟨knd.hash k, key, v⟩))).DictOf knd d (stored kvs k v) := by
  have hx : kvs.findIdx? (fun kv => decide (kv.1 = k)) = none := (hp.findIdx k).symm.trans (idx_list.symm.trans hi)
  have hm : k ∉ kvs.map (·.1) := not_mem_of_findIdx_none hx
  have e : stored kvs k v = kvs ++ [(k, v)] := by
    unfold stored
    refine if_neg fun z => ?_
    obtain ⟨kv, m, q⟩ := List.any_eq_true.mp z
    exact hm (List.mem_map.mpr ⟨kv, m, of_decide_eq_true q⟩)
  have h1 := hp.append hkey (knd.hash k) v
  refine ⟨_, _, ep + 1, Heap.get?_update_self _ ho (Obj.isFreed_of_dict (Obj.data_mapDictKeys hd _)), hc.mapDictKeys _, Obj.data_mapDictKeys hd _, hk.push hkey _, ?_, ?_⟩
  · rw [e]
    obtain ⟨l⟩ := es
    simpa using h1
  · rw [e, List.map_append]
    refine List.nodup_append.mpr ⟨hn, List.nodup_cons.mpr ⟨(fun z => nomatch z), List.nodup_nil⟩, fun a ha b hb z => ?_⟩
    rw [z, List.mem_singleton.mp hb] at ha
    exact hm ha
theorem put_ok {d : Addr} {kvs : List (K × Value)} {k : K} {key v : Value} {Q : Unit → Shared → Prop} (hkey : knd.is k key = true) (hm : s.heap.DictOf knd d kvs) (hsz : kvs.length ≤ sizeLine)
    (hQ : ∀ h', h'.DictOf knd d (stored kvs k v) → Heap.SameBut d s.heap h' → Q () { s with heap := h' }) : wpAny (model prog w) A (dictPut d (knd.hash k) key v) Q E s := by
  obtain ⟨o, es, ep, ho, hc, hd, hk, hp, hn⟩ := hm
  have hes : es.size ≤ sizeLine := by
    have := hp.length
    rw [Array.length_toList] at this
    omega
  unfold dictPut
  refine wpAny_bind (wpAny_dictFind_of hkey ho hd hk ?_)
  cases hi : es.findIdx? fun e => knd.is k e.key with
  | some i => exact wpAny_updateDict ho hd (hQ _ (put_hit ho hc hd hk hp hn hi) (Heap.SameBut.update ..))
  | none => exact wpAny_updateDictKeys (hz := hes) ho hd (hQ _ (put_new hkey ho hc hd hk hp hn hi) (Heap.SameBut.update ..))
theorem ite_same {M : Model} {c : Prop} [Decidable c] {a b : Sem Unit} {Q : Unit → Shared → Prop} (hb : wpAny M A b Q E s) (ha : wpAny M A b Q E s → wpAny M A a Q E s) : wpAny M A (if c then a else b) Q E s := by
  by_cases z : c
  · rw [if_pos z]
    exact ha hb
  · rw [if_neg z]
    exact hb
theorem merge_ok {d o : Addr} {kvs more : List (K × Value)} {Q : Unit → Shared → Prop} (hdo : d ≠ o) (hoS : (o == sysModules) = false) (hd : s.heap.DictOf knd d kvs) (ho : s.heap.DictOf knd o more) (hsz : kvs.length + more.length ≤ sizeLine)
    (hQ : ∀ h', h'.DictOf knd d (merged kvs more) → Heap.SameBut d s.heap h' → Q () { s with heap := h' }) : wpAny (model prog w) A (mergeMapping d (.ref o) false) Q E s := by
  obtain ⟨od, esd, epd, hod, hcd, hdd, hkd, hpd, hnd⟩ := id hd
  obtain ⟨oo, eso, epo, hoo, hco, hdo', hko, hpo, hno⟩ := id ho
  have hlen : more.length = eso.size := by
    rw [← hpo.length, Array.length_toList]
  unfold mergeMapping
  refine wpAny_bind (wpAny_isInstance ho.typeIs isSubtype_dict_dict ?_)
  dsimp only
  rw [if_pos rfl]
  refine wpAny_bind (wpAny_specialOf ho.typeIs F.slot_dict_iter.lookup ?_)
  refine wpAny_bind (wpAny_pure ?_)
  rw [show (some (Value.builtin "dict.__iter__") == some (Value.builtin "dict.__iter__")) = true from beq_self_eq_true _]
  dsimp only
  rw [if_neg (by rw [hoS]; exact Bool.false_ne_true)]
  refine wpAny_bind (wpAny_dictEntries hod hdd ?_)
  refine ite_same ?_ fun loop => ?_
  · refine wpAny_bind (wpAny_dictEntries hoo hdo' (wpAny_bind (wpAny_dictEpoch hoo hdo' (wpAny_bind ?_))))
    refine wpAny_forIn_list _ (fun rest _ s' => ∃ h' i, s' = { s with heap := h' } ∧ rest = (List.range eso.size).drop i ∧ i ≤ eso.size ∧ h'.DictOf knd d (merged kvs (more.take i)) ∧ h'.get? o = some oo ∧ Heap.SameBut d s.heap h')
      _ ?_ ?_ _ _ ⟨s.heap, 0, rfl, rfl, Nat.zero_le _, hd, hoo, Heap.SameBut.refl _ _⟩
    · rintro x rest b s' ⟨h', i, rfl, hr, hi, hd', hoo', hs'⟩
      have hlt : i < eso.size := by
        refine Nat.lt_of_not_le fun z => ?_
        rw [List.drop_eq_nil_of_le (by rw [List.length_range]; exact z)] at hr
        cases hr
      rw [List.drop_eq_getElem_cons (by rw [List.length_range]; exact hlt)] at hr
      obtain ⟨hx, hrest⟩ := List.cons.inj hr
      rw [List.getElem_range] at hx
      subst hx
      have hml : x < more.length := by omega
      obtain ⟨hkey, hval⟩ := hpo.get? (e := eso[x]) (k := more[x].1) (v := more[x].2) (by rw [Array.getElem?_toList, Array.getElem?_eq_getElem hlt]) (List.getElem?_eq_getElem hml)
      obtain ⟨k', hkey', hhash⟩ := hko eso[x] (Array.getElem_mem hlt)
      have ek : k' = more[x].1 := knd.inj _ _ _ hkey' hkey
      refine wpAny_bind (wpAny_dictEntries hoo' hdo' ?_)
      rw [Array.getElem?_eq_getElem hlt]
      dsimp only
      rw [if_neg Bool.false_ne_true, hhash, ek]
      have hz : (merged kvs (more.take x)).length ≤ sizeLine := by
        have h1 := merged_length_le kvs (more.take x)
        rw [List.length_take] at h1
        omega
      refine wpAny_bind (wpAny_holding (put_ok hkey hd' hz fun h'' hd'' hs'' => ?_))
      have hoo'' : h''.get? o = some oo := (hs''.2 o (Ne.symm hdo)).trans hoo'
      refine wpAny_bind (wpAny_dictEpoch hoo'' hdo' ?_)
      rw [if_neg (by simp)]
      refine wpAny_pure ⟨h'', x + 1, rfl, hrest, hlt, ?_, hoo'', hs'.trans hs''⟩
      rw [merged_take_succ kvs more x more[x] (List.getElem?_eq_getElem hml), ← hval]
      exact hd''
    · rintro b s' ⟨h', i, rfl, hr, hi, hd', hoo', hs'⟩
      have hin : i = eso.size := by
        refine Nat.le_antisymm hi (Nat.le_of_not_lt fun z => ?_)
        rw [List.drop_eq_getElem_cons (by rw [List.length_range]; exact z)] at hr
        cases hr
      rw [hin, ← hlen, List.take_length] at hd'
      exact wpAny_pure (hQ h' hd' hs')
  · refine wpAny_bind (wpAny_dictEntries hoo hdo' (wpAny_bind (wpAny_of_eq (a := PUnit.unit) ?_ loop)))
    rw [← Array.forIn_toList]
    refine forIn_yield_id _ fun e he c => ?_
    obtain ⟨k, hkey, _⟩ := hko e (Array.mem_toList_iff.mp he)
    have := knd.byValue k _ hkey
    cases hek : e.key with
    | ref a =>
      rw [hek] at this
      cases this
    | _ => rfl
/-- {**m, k: v} -/
theorem star_ok {m tk tv : Sem Value} {Q : Value → Shared → Prop}
    (h : wpAny (model prog w) A m (fun mv s1 => ∃ o more, mv = .ref o ∧ s.heap.objs.size ≠ o ∧ (o == sysModules) = false ∧ more.length < sizeLine ∧ s1.heap.DictOf knd s.heap.objs.size [] ∧ s1.heap.DictOf knd o more ∧
      ∀ h', h'.DictOf knd s.heap.objs.size more → Heap.SameBut s.heap.objs.size s1.heap h' →
        wpAny (model prog w) A (subDict [(tk, tv)]) (fun b s2 => ∃ more2 k v, s.heap.objs.size ≠ b ∧ (b == sysModules) = false ∧ more2.length < sizeLine ∧ s2.heap.DictOf knd s.heap.objs.size more2 ∧ s2.heap.DictOf knd b [(k, v)] ∧
          ∀ h'', h''.DictOf knd s.heap.objs.size (stored more2 k v) → Heap.SameBut s.heap.objs.size s2.heap h'' → Q (.ref s.heap.objs.size) { s2 with heap := h'' }) E { s1 with heap := h' }) E
      { s with heap := s.heap.push { cls := .type "dict", data := .dict #[] } }) :
    wpAny (model prog w) A (dictDisplay [(none, m), (some tk, tv)]) Q E s := by
  unfold dictDisplay
  dsimp only
  refine wpAny_bind ?_
  rw [List.forIn_cons]
  dsimp only
  refine wpAny_bind (wpAny_bind ?_)
  rw [if_pos (show ([] : List (Sem Value × Sem Value)).isEmpty = true from rfl)]
  refine wpAny_pure ?_
  dsimp only
  refine wpAny_bind (wpAny_alloc ?_)
  refine wpAny_bind (wpAny_holding (wpAny_mono h (fun mv s1 h1 => ?_) fun _ _ e => e))
  obtain ⟨o, more, rfl, hdo, hoS, hz, hd, ho, q⟩ := h1
  have hn : (more.map (·.1)).Nodup := let ⟨_, _, _, _, _, _, _, _, hn⟩ := ho; hn
  refine wpAny_bind (wpAny_onRaise (wpAny_tryCatch (wpAny_onRaise (wpAny_holding (merge_ok hdo hoS hd ho (by rw [List.length_nil]; omega) fun h' hd' hs' => ?_)))))
  rw [merged_nil_of_nodup more hn] at hd'
  refine wpAny_pure ?_
  dsimp only
  rw [List.forIn_cons]
  dsimp only
  rw [if_neg (by simp)]
  refine wpAny_bind (wpAny_pure ?_)
  dsimp only
  rw [List.forIn_nil]
  refine wpAny_pure ?_
  dsimp only
  refine wpAny_bind ?_
  rw [if_neg (by simp)]
  refine wpAny_bind (wpAny_holding (wpAny_mono (q h' hd' hs') (fun b s2 h2 => ?_) fun _ _ e => e))
  obtain ⟨more2, k, v, hdb, hbS, hz2, hd2, hb2, q2⟩ := h2
  refine wpAny_bind (wpAny_onRaise (wpAny_holding (merge_ok hdb hbS hd2 hb2 (by rw [List.length_singleton]; omega) fun h'' hd'' hs'' => ?_)))
  refine wpAny_pure ?_
  dsimp only
  exact wpAny_pure (q2 h'' hd'' hs'')
end
section
open L2
variable {X : Cx} {pos : Pos}
/-- {**e, k: v}: a new dict, and one more for the pair -/
def tStar (te tk tv : TE) : TE := fun σ H Q => ∀ p, H p = none → te σ (upd H p (.dK [])) fun x H1 => ∃ (a : Addr) (kvs : List (Key × V)), x = .ref a ∧ a ≠ p ∧ H1 p = some (.dK []) ∧ Rd H1 a (.dK kvs) ∧ kvs.length < sizeLine ∧
  ∀ b, upd H1 p (.dK kvs) b = none → tk σ (upd (upd H1 p (.dK kvs)) b (.dK [])) fun y H2 => tv σ H2 fun z H3 => ∃ k z', [(y, z)] = [(kV k, z')] ∧ p ≠ b ∧ H3 p = some (.dK kvs) ∧ H3 b = some (.dK []) ∧ Q (.ref p) (upd (upd H3 b (.dK [(k, z')])) p (.dK (putK kvs k z')))
theorem pe_dstar {e k v : Expr} {te tk tv : TE} (he : PE X e te) (hk : PE X k tk) (hv : PE X v tv) : PE X (.Dict [none, some k] [e, v] pos) (tStar te tk tv) := by
  refine ⟨fun pins s σ H Q I q => ?_⟩
  rw [arm_eval_Dict]
  show wpAny _ _ (do standAt pos; dictDisplay [(none, do let x ← eval e X.env; standAt pos; pure x), (some (eval k X.env), do let x ← eval v X.env; standAt pos; pure x)]) _ _ _
  refine wpAny_bind (wpAny_standAt (star_ok (knd := mixKind X.prog X.w) ?_))
  have hn := I.hok.fresh (Nat.le_refl s.heap.objs.size)
  have I1 := I.laid (a := s.heap.objs.size) (o := .dK []) (h' := s.heap.push { cls := .type "dict", data := .dict #[] }) (t' := s.toks) (fun _ _ q => Heap.get?_push_of_some _ q) (Nat.le_refl _) (dk_empty s.heap I.big)
  refine wpAny_bind (thn (he.run pins _ σ _ _ I1 (q _ hn)) fun u s1 ⟨x, H1, I2, rx, a, kvs, ex, na, hp, hr, hz, q2⟩ => ?_)
  subst ex
  obtain rfl : u = .ref a := rx
  obtain ⟨z, lo, vs, rel, dd⟩ := dk_rd I2.hok hr
  obtain ⟨z0, lo0, vs0, r0, dd0⟩ := dk_of I2.hok hp
  cases r0
  have hl : vs.length < sizeLine := by rw [← rel.length]; exact hz
  refine wpAny_bind (wpAny_standAt (wpAny_pure ⟨a, vs, rfl, Ne.symm na, lo, hl, dd0, dd, fun h' d' hs => ?_⟩))
  have he0 : ∃ q, h'.get? s.heap.objs.size = some q := let ⟨q, _, _, hq, _⟩ := d'; ⟨q, hq⟩
  have I3 := d_write (t' := s1.toks) I2 (by rw [hp]; exact True.intro) hs he0 (dk_new z lo0 rel d')
  have I4 := I3.laid (a := h'.objs.size) (o := .dK []) (h' := h'.push { cls := .type "dict", data := .dict #[] }) (t' := s1.toks) (fun _ _ q => Heap.get?_push_of_some _ q) (Nat.le_refl _) (dk_empty h' I3.big)
  refine wpAny_subDict (knd := mixKind X.prog X.w) (Nat.le_of_ble_eq_true rfl) ?_
  refine thn ((pps_cons hk hv pps_nil).run pins _ σ _ (fun ps H3 => ∃ k z', ps = [(kV k, z')] ∧ s.heap.objs.size ≠ h'.objs.size ∧ H3 s.heap.objs.size = some (.dK kvs) ∧ H3 h'.objs.size = some (.dK []) ∧ Q (.ref s.heap.objs.size) (upd (upd H3 h'.objs.size (.dK [(k, z')])) s.heap.objs.size (.dK (putK kvs k z')))) I4 (q2 _ (I3.hok.fresh (Nat.le_refl _)))) fun ws s2 ⟨ps, H3, I5, rel2, k, z', eps, npb, hp3, hb3, q3⟩ => ?_
  subst eps
  obtain ⟨rs, c, rk⟩ := carries_of (P := X.prog) (w := X.w) (kvs := [(k, z')]) rel2
  obtain ⟨zb, hdb, vsb, rb, ddb⟩ := dk_of I5.hok hb3
  cases rb
  refine ⟨rs, c, ddb, fun h2 d2 hs2 => ?_⟩
  obtain ⟨zp, hdp, vsp, rp, ddp⟩ := dk_of I5.hok hp3
  cases rk with
  | @cons p1 q1 ps1 qs1 hpq t1 =>
    cases t1
    obtain ⟨kq, wq⟩ := q1
    obtain ⟨ek, rw'⟩ := hpq
    have ek : k = kq := ek
    subst ek
    have ddp2 : h2.DictOf (mixKind X.prog X.w) s.heap.objs.size vsp := ddp.sameBut hs2 npb
    have he2 : ∃ q, h2.get? h'.objs.size = some q := let ⟨q, _, _, hq, _⟩ := d2; ⟨q, hq⟩
    have I6 := d_write (t' := s2.toks + ws.length) I5 (by rw [hb3]; exact True.intro) hs2 he2 (dk_new (kvs := [(k, z')]) (vs := [(k, wq)]) (by rw [sizeLine_eq, List.length_singleton]; omega) hdb (.cons ⟨rfl, rw'⟩ .nil) d2)
    have hp6 : upd H3 h'.objs.size (.dK [(k, z')]) s.heap.objs.size = some (.dK kvs) := by
      rw [upd_ne npb]
      exact hp3
    refine ⟨vsp, k, wq, npb, hdb, by rw [← rp.length]; exact hz, ddp2, d2, fun h3 d3 hs3 => ⟨.ref s.heap.objs.size, _, ?_, rfl, q3⟩⟩
    have he3 : ∃ q, h3.get? s.heap.objs.size = some q := let ⟨q, _, _, hq, _⟩ := d3; ⟨q, hq⟩
    have hz3 : (putK kvs k z').length ≤ sizeLine := Nat.le_trans (length_putK _ _ _) hz
    exact d_write (t' := s2.toks + ws.length) I6 (by rw [hp6]; exact True.intro) hs3 he3 (dk_new hz3 hdp (rp.put k rw') d3)
end
end Inf

set_option Elab.async false
set_option linter.all false
set_option maxRecDepth 100000
set_option maxHeartbeats 4000000
namespace Inf
open PySem PySem.Spec PyProof.Rows L2
/-! ### next(iter(d), None) -/
section
variable {prog : Program} {w : World} {K : Type} [DecidableEq K] {knd : PySem.KeyKind prog w K} {A : Around} {E : Value → Shared → Prop} {s : Shared} {d it : Addr} {kvs : List (K × Value)} {ep : Nat} {v : Value}
theorem itr_ok {Q : Value → Shared → Prop} (lo : (d == sysModules) = false) (hm : s.heap.DictAt knd d kvs ep)
    (h : ∀ o, (s.heap.push o).IsKeyIter s.heap.objs.size d 0 kvs.length ep → Q (.ref s.heap.objs.size) { s with heap := s.heap.push o }) : wpAny (model prog w) A (call (.builtin "iter") [.ref d]) Q E s := by
  refine Calls.call_function_entry (by decide +kernel) (by decide +kernel) PySem.W.kdk_entry_iter (PySem.W.kdk_args_iter _) ?_
  unfold Builtin.«iter»
  refine wpAny_bind (m := someArgs "iter" 1 2 _) (wpAny_of_eq (a := [Value.ref d]) (by first | rfl | kernel_rfl!) ?_)
  show wpAny _ _ (pyIter (.ref d) >>= _) _ _ _
  refine wpAny_bind (wpAny_pyIter_dict lo hm ?_)
  exact wpAny_pure ⟨_, rfl, h _ ⟨_, Heap.get?_push_size _ rfl, rfl, rfl⟩⟩
theorem nxt_ok {Q : Value → Shared → Prop} (hh : A.handled = none) (hit : s.heap.IsKeyIter it d 0 kvs.length ep) (hm : s.heap.DictAt knd d kvs ep)
    (h : ∀ u h', (match kvs with | [] => u = v | kv :: _ => knd.is kv.1 u = true) → Heap.ExtBut it s.heap h' → Q u { s with heap := h' }) : wpAny (model prog w) A (call (.builtin "next") [.ref it, v]) Q E s := by
  refine Calls.call_function_entry (by decide +kernel) (by decide +kernel) PySem.W.kdk_entry_next (PySem.W.kdk_args_next2 _ _) ?_
  unfold Builtin.«next»
  refine wpAny_bind (m := someArgs "next" 1 2 _) (wpAny_of_eq (a := [Value.ref it, v]) (by first | rfl | kernel_rfl!) ?_)
  dsimp only
  refine wpAny_bind (wpAny_specialOf (name := Str.ofString "__next__") hit.typeIs PySem.F.slot_dict_keyiterator_next.lookup ?_)
  refine wpAny_ite_split (fun hab => absurd hab (by decide)) (fun _ => ?_)
  match kvs, hit, hm, h with
  | [], hit, hm, h => exact wpAny_bind (wpAny_pyNext_dict_end (A := A.in1) hh hit hm rfl fun h' k => wpAny_pure ⟨_, rfl, h _ _ rfl k⟩)
  | kv :: r, hit, hm, h => exact wpAny_bind (wpAny_pyNext_dict_item (k := kv.1) (v := kv.2) hit hm rfl fun key h' hk _ sb => wpAny_pure ⟨_, rfl, h _ _ hk sb.extBut⟩)
end
section
variable {X : Cx} {e : Expr} {te : TE}
def fstV (kvs : List (Key × V)) : V := match kvs with
  | [] => .non
  | kv :: _ => kV kv.1
/-- the first key of a dict, None without one -/
def tFirst (te : TE) : TE := fun σ H Q => te σ H fun x H1 => ∃ (a : Addr) (kvs : List (Key × V)), x = .ref a ∧ Rd H1 a (.dK kvs) ∧ Q (fstV kvs) H1
theorem key_rel {k : Key} {u : Value} (h : keyIs k u = true) : RelV (kV k) u := by
  rcases keyIs_shape h with ⟨i, t, ek, ev⟩ | ⟨z, t, ek, ev⟩
  · subst ek
    exact ⟨t, ev⟩
  · subst ek
    exact ⟨t, ev⟩
theorem pe_first {p p2 p3 pos pos2 : Pos} {j : Nat} (hc : X.calm = true) (hgi : Gl X "iter") (hmi : X.mg "iter" = none) (hgn : Gl X "next") (hmn : X.mg "next" = none) (he : PE X e te)
    (hs : starEach [e] X.env = (false, eval e X.env) :: starEach [] X.env := by rfl)
    (hs2 : ∀ a b : Expr, starEach [.Call a [e] [] pos2, b] X.env = (false, eval (.Call a [e] [] pos2) X.env) :: starEach [b] X.env := by intros; rfl) :
    PE X (.Call (.Name "next" p) [.Call (.Name "iter" p2) [e] [] pos2, .Constant .none j p3] [] pos) (tFirst te) := by
  refine ⟨fun pins s σ H Q I h => ?_⟩
  refine wpAny_Call_Name_kw (ld_blt (u := .builtin "next") I hgn hmn (by first | rfl | decide +kernel) ?_ (by decide) (by decide))
  refine PyProof.Rows.callWith_builtin1 ?_ (hs2 _ _) rfl
  rw [hs2]
  show wpAny _ _ (spliced ((false, eval (.Call (.Name "iter" p2) [e] [] pos2) X.env) :: [(false, eval (.Constant .none j p3) X.env)])) _ _ s
  refine Calls.spliced_cons ?_
  refine wpAny_Call_Name_kw (ld_blt (u := .builtin "iter") I hgi hmi (by first | rfl | decide +kernel) ?_ (by decide) (by decide))
  refine PyProof.Rows.callWith_builtin1 ?_ hs rfl
  rw [hs]
  show wpAny _ _ (spliced [(false, eval e X.env)]) _ _ s
  refine Calls.spliced_cons (thn (he.run pins s σ H _ I h) fun u s1 ⟨x, H1, I1, r1, a, kvs, ex, hr, q⟩ => Calls.spliced_nil ?_)
  subst ex
  obtain rfl : u = .ref a := r1
  obtain ⟨z, lo, vs, rel, dd⟩ := dk_rd I1.hok hr
  obtain ⟨ep, hat⟩ := dd.dictAt
  refine itr_ok lo hat fun o hit => ?_
  have hat2 : (s1.heap.push o).DictAt (mixKind X.prog X.w) a vs ep := let ⟨o', es, ho, r⟩ := hat; ⟨o', es, Heap.get?_push_of_some _ ho, r⟩
  refine Calls.spliced_cons (Constant_none (Calls.spliced_nil ?_))
  refine nxt_ok (I1.ok.hd hc) hit hat2 fun u h' hu k => ?_
  have I2 : L2.Inv X pins σ H1 { s1 with heap := h' } := I1.kept (t' := s1.toks) fun b w' e => k b w' (fun z => by
    rw [z] at e
    exact absurd (Heap.lt_size e) (Nat.lt_irrefl _)) (Heap.get?_push_of_some _ e)
  refine ⟨fstV kvs, H1, I2, ?_, q⟩
  cases rel with
  | nil => exact hu
  | @cons a1 b1 _ _ hh t =>
    show L2.RelV (kV a1.1) u
    rw [hh.1]
    exact key_rel hu
end
end Inf

set_option Elab.async false
set_option linter.all false
set_option maxRecDepth 100000
set_option maxHeartbeats 4000000
namespace Inf
open PySem PySem.Spec PyProof.Rows L2 NdefX LamX
/-! ### o.m(..) while the def's cells are told -/
def tMethT (X : Cx) (C : Addr) (m : Str) (sp : Sp) (dvs : List V) (ta : TE) (t : TA) : TE := fun σ H Q => ta σ H fun x H1 => ∃ a dx fs, x = .ref a ∧ H1 a = some (.ins C dx fs) ∧ fs.lookup m = none ∧
  t σ H1 fun vs H2 => ∀ cs HT, Tel X.env.cells X.env.scope.names X.N σ H2 cs HT → sp (x :: (vs ++ dvs)) HT (fun v H3 => (∀ b, b ∈ cs → H3 b = HT b) ∧ Q v (cut cs H3)) E0
section
variable {X : Cx} {k : Nat} {C f : Addr} {m : Str} {fd : FuncData} {ps : List Str} {ds : List Value} {dvs : List V} {sp : Sp} {o e : Expr} {es : List Expr} {ta : TE} {t : TA} {apos pos : Pos} {pl : Sem Bool}
theorem pe_methT (hfn : ∀ x, X.fn x = true) (he : PE X o ta) (c : Cls X.K C) (hm : Meth X.K C m f) (F : FnOk X.prog X.w X.K X.mg X.base CX0 k f fd ps sp) (hr : Room k X.A) (hb : Binds X.K fd ps ds) (hd : Vals dvs ds) (ha : PA X (e :: es) t)
    (hst : starEach (e :: es) X.env = (false, eval e X.env) :: starEach es X.env := by rfl) (hpl : (backTo pos (starEach es X.env)).any (·.1) = false := by rfl)
    (ht : eval (.Call (.Attribute o m apos) (e :: es) [] pos) X.env = (do
      let ov ← eval o X.env
      standAt apos.atName
      let (f, first) ← holding [ov] (getMethod ov m pl)
      callWith pos f first (backTo pos (starEach (e :: es) X.env)) (backToKw pos (keywordEach [] X.env))) := by rfl) :
    PE X (.Call (.Attribute o m apos) (e :: es) [] pos) (tMethT X C m sp dvs ta t) := by
  refine ⟨fun pins s σ H Q I h => ?_⟩
  refine PySem.W.methodCall_KW (pl := pl) (thn (he.run pins s σ H _ I h) fun u s1 ⟨x, H1, I1, rx, a, dx, fs, ex, ea, l, q⟩ => ?_) ht
  subst ex
  obtain rfl : u = Value.ref a := rx
  refine getmeth_ok I1 ea c hm l ?_
  refine PySem.W.callWith_K (first := [.ref a]) (h₀ := X.base) I.ok.mod.kin hm.kp (thn (ha.run pos pins s1 σ H1 _ I1 q) fun us s2 ⟨vs, H2, I2, r, q2⟩ => ⟨I2.kIn, ?_⟩) hst hpl
  exact tel_run (us := .ref a :: us) (vs := .ref a :: vs) F hr hb hd hfn I2 (.cons rfl r) q2
theorem pe_methT0 (hfn : ∀ x, X.fn x = true) (he : PE X o ta) (c : Cls X.K C) (hm : Meth X.K C m f) (F : FnOk X.prog X.w X.K X.mg X.base CX0 k f fd ps sp) (hr : Room k X.A) (hb : Binds X.K fd ps ds) (hd : Vals dvs ds)
    (ht : eval (.Call (.Attribute o m apos) [] [] pos) X.env = (do
      let ov ← eval o X.env
      standAt apos.atName
      let (f, first) ← holding [ov] (getMethod ov m pl)
      callWith pos f first (backTo pos (starEach [] X.env)) (backToKw pos (keywordEach [] X.env))) := by rfl) :
    PE X (.Call (.Attribute o m apos) [] [] pos) (tMethT X C m sp dvs ta tNil) := by
  refine ⟨fun pins s σ H Q I h => ?_⟩
  refine PySem.W.methodCall_KW (pl := pl) (thn (he.run pins s σ H _ I h) fun u s1 ⟨x, H1, I1, rx, a, dx, fs, ex, ea, l, q⟩ => ?_) ht
  subst ex
  obtain rfl : u = Value.ref a := rx
  refine getmeth_ok I1 ea c hm l ?_
  exact PySem.W.callWith_K0 (first := [.ref a]) I1.kIn hm.kp (tel_run (us := [.ref a]) (vs := [.ref a]) F hr hb hd hfn I1 (.cons rfl .nil) q)
end
end Inf


set_option Elab.async false
set_option linter.all false
set_option maxRecDepth 100000
set_option maxHeartbeats 4000000
namespace Ob
open PySem PySem.Spec PyProof.Rows L2
/-! ### a def whose code object is named: it makes functions -/
structure FunT (K : PySem.W.Frag) (x qual : Str) (st : Stmt) (f : Addr) (fd : FuncData) (c : Addr) : Prop where
  ex : ∃ (oc : Value) (od : Option Addr) (kV doc pm : Value) (an : Option Addr) (ct : Value) (osl : Array (Option Value)),
    fd = PySem.W.fnOf x qual (defArgs st) (defBody st) (defScope st) .none kV doc pm an (.ref c) ct ∧ K.lookup f = some ⟨oc, od, .func fd, osl⟩ ∧ PySem.W.codeIn K (.ref c) qual = true
  kp : PySem.W.keepIn K (.ref f) = true
theorem FunT.ok {P : Program} {w : World} {K : PySem.W.Frag} {mg : Str → Option Value} {base : Heap} {x qual : Str} {st : Stmt} {f c : Addr} {fd : FuncData} {CX : CXT} {N ps : List Str} {k : Nat} {sp : Sp} (F : FunT K x qual st f fd c) (S : FnScope N ps (defScope st)) (len : ∀ vs H Q E, sp vs H Q E → vs.length = ps.length)
    (hbody : ∀ (A : Around) (outer : List Env) (s : Shared) (H : Hp) (vs : List V) (Q : VK) (E : XK), Room k (A.deeper (envOfC qual (defScope st) s.heap.objs.size f (.ref c))) → sp vs H Q E →
      ∃ t, PSs (cxOf CX P w K mg base N qual (defScope st) f (.ref c) A outer s H E) (defBody st) t ∧ t { nx := fun _ H' => Q .non H', rt := Q } (L2.start N vs) H) : FnOk P w K mg base CX (k + 1) f fd ps sp := by
  obtain ⟨oc, od, kV, doc, pm, an, ct, osl, rfl, lk, hcd⟩ := F.ex
  exact fn_of lk hcd S len fun A outer s H vs Q E hr hsp => hbody A outer s H vs Q E hr hsp
theorem FunT.okC {P : Program} {w : World} {K : PySem.W.Frag} {mg : Str → Option Value} {base : Heap} {x qual : Str} {st : Stmt} {f c : Addr} {fd : FuncData} {N ps : List Str} {k : Nat} {sp : Sp} (F : FunT K x qual st f fd c) (S : FnScope N ps (defScope st)) (len : ∀ vs H Q E, sp vs H Q E → vs.length = ps.length)
    (hbody : ∀ (A : Around) (outer : List Env) (s : Shared) (H : Hp) (vs : List V) (Q : VK) (E : XK), Room k (A.deeper (envOfC qual (defScope st) s.heap.objs.size f (.ref c))) → sp vs H Q E →
      ∃ t, Inf.PSsR (cxOf CX0 P w K mg base N qual (defScope st) f (.ref c) A outer s H E).nox (defBody st) t ∧
        t (fun σ v H' => ∀ H'', Inf.Fin (envOfC qual (defScope st) s.heap.objs.size f (.ref c)).cells (defScope st).names N σ H' H'' → Q v H'') (L2.start N vs) H) : FnOk P w K mg base CX0 (k + 1) f fd ps sp := by
  obtain ⟨oc, od, kV, doc, pm, an, ct, osl, rfl, lk, hcd⟩ := F.ex
  exact Inf.okC_of lk hcd S len hbody
theorem all_cons {α : Type} {P : α → Prop} {a : α} {l : List α} (h : P a) (t : ∀ x ∈ l, P x) : ∀ x ∈ a :: l, P x := fun x m => (List.mem_cons.mp m).elim (fun e => by rw [e]; exact h) (t x)

/-! ### the text -/
def topS (i : Nat) : Stmt := PySem.Challenge.pw_oncebuilt_k61_calls_of_join.main.body.getD i (.Pass ⟨0, 0, 0, 0⟩)
abbrev s_Calls_init : Stmt := inClass (topS 5) 0
abbrev n_Calls_init : List Str := ["self"]
theorem sc_Calls_init : FnScope n_Calls_init ["self"] (defScope s_Calls_init) := ⟨rfl, rfl, rfl, by decide +kernel, rfl, by decide +kernel, by decide +kernel⟩
abbrev s_Calls_check : Stmt := inClass (topS 5) 1
abbrev n_Calls_check : List Str := ["self"]
theorem sc_Calls_check : FnScope n_Calls_check ["self"] (defScope s_Calls_check) := ⟨rfl, rfl, rfl, by decide +kernel, rfl, by decide +kernel, by decide +kernel⟩
abbrev s_Calls_run : Stmt := inClass (topS 5) 2
abbrev n_Calls_run : List Str := ["self", "entry", "action", "values", "result"]
theorem sc_Calls_run : FnScope n_Calls_run ["self", "entry", "action", "values"] (defScope s_Calls_run) := ⟨rfl, rfl, rfl, by decide +kernel, rfl, by decide +kernel, by decide +kernel⟩
abbrev s_check_filled : Stmt := topS 7
abbrev n_check_filled : List Str := ["held"]
theorem sc_check_filled : FnScope n_check_filled ["held"] (defScope s_check_filled) := ⟨rfl, rfl, rfl, by decide +kernel, rfl, by decide +kernel, by decide +kernel⟩
abbrev s_oldest : Stmt := topS 8
abbrev n_oldest : List Str := ["held"]
theorem sc_oldest : FnScope n_oldest ["held"] (defScope s_oldest) := ⟨rfl, rfl, rfl, by decide +kernel, rfl, by decide +kernel, by decide +kernel⟩
abbrev s_without : Stmt := topS 9
abbrev n_without : List Str := ["held", "numbers", "member", "number"]
theorem sc_without : FnScope n_without ["held", "numbers"] (defScope s_without) := ⟨rfl, rfl, rfl, by decide +kernel, rfl, by decide +kernel, by decide +kernel⟩
abbrev s_Joiner_init : Stmt := inClass (topS 11) 0
abbrev n_Joiner_init : List Str := ["self", "calls", "join"]
theorem sc_Joiner_init : FnScope n_Joiner_init ["self", "calls", "join"] (defScope s_Joiner_init) := ⟨rfl, rfl, rfl, by decide +kernel, rfl, by decide +kernel, by decide +kernel⟩
abbrev s_Joiner_joined : Stmt := inClass (topS 11) 1
abbrev n_Joiner_joined : List Str := ["self", "one", "other", "value"]
theorem sc_Joiner_joined : FnScope n_Joiner_joined ["self", "one", "other"] (defScope s_Joiner_joined) := ⟨rfl, rfl, rfl, by decide +kernel, rfl, by decide +kernel, by decide +kernel⟩
abbrev s_Planner_init : Stmt := inClass (topS 12) 0
abbrev n_Planner_init : List Str := ["self"]
theorem sc_Planner_init : FnScope n_Planner_init ["self"] (defScope s_Planner_init) := ⟨rfl, rfl, rfl, by decide +kernel, rfl, by decide +kernel, by decide +kernel⟩
abbrev s_Planner_joined : Stmt := inClass (topS 12) 1
abbrev n_Planner_joined : List Str := ["self", "one", "other"]
theorem sc_Planner_joined : FnScope n_Planner_joined ["self", "one", "other"] (defScope s_Planner_joined) := ⟨rfl, rfl, rfl, by decide +kernel, rfl, by decide +kernel, by decide +kernel⟩
abbrev s_join_entry : Stmt := topS 13
abbrev n_join_entry : List Str := ["one", "other"]
theorem sc_join_entry : FnScope n_join_entry ["one", "other"] (defScope s_join_entry) := ⟨rfl, rfl, rfl, by decide +kernel, rfl, by decide +kernel, by decide +kernel⟩
abbrev s_single : Stmt := topS 14
abbrev n_single : List Str := ["number", "member"]
theorem sc_single : FnScope n_single ["number", "member"] (defScope s_single) := ⟨rfl, rfl, rfl, by decide +kernel, rfl, by decide +kernel, by decide +kernel⟩
abbrev s_span_length : Stmt := topS 15
abbrev n_span_length : List Str := ["span"]
theorem sc_span_length : FnScope n_span_length ["span"] (defScope s_span_length) := ⟨rfl, rfl, rfl, by decide +kernel, rfl, by decide +kernel, by decide +kernel⟩
abbrev s_extended : Stmt := topS 16
abbrev n_extended : List Str := ["joiner", "span", "number", "member"]
theorem sc_extended : FnScope n_extended ["joiner", "span", "number", "member"] (defScope s_extended) := ⟨rfl, rfl, rfl, by decide +kernel, rfl, by decide +kernel, by decide +kernel⟩
abbrev s_deepened : Stmt := topS 17
abbrev n_deepened : List Str := ["joiner", "spans", "number", "member", "alone"]
theorem sc_deepened : FnScope n_deepened ["joiner", "spans", "number", "member"] (defScope s_deepened) := ⟨rfl, rfl, rfl, by decide +kernel, rfl, by decide +kernel, by decide +kernel⟩
abbrev s_all_spans : Stmt := topS 18
abbrev n_all_spans : List Str := ["joiner", "held", "spans", "number", "member"]
theorem sc_all_spans : FnScope n_all_spans ["joiner", "held"] (defScope s_all_spans) := ⟨rfl, rfl, rfl, by decide +kernel, rfl, by decide +kernel, by decide +kernel⟩
abbrev s_whole_span : Stmt := topS 19
abbrev n_whole_span : List Str := ["joiner", "spans", "whole", "span"]
theorem sc_whole_span : FnScope n_whole_span ["joiner", "spans"] (defScope s_whole_span) := ⟨rfl, rfl, rfl, by decide +kernel, rfl, by decide +kernel, by decide +kernel⟩
abbrev s_TwoStacks_init : Stmt := inClass (topS 21) 1
abbrev n_TwoStacks_init : List Str := ["self", "join", "zero"]
theorem sc_TwoStacks_init : FnScope n_TwoStacks_init ["self", "join", "zero"] (defScope s_TwoStacks_init) := ⟨rfl, rfl, rfl, by decide +kernel, rfl, by decide +kernel, by decide +kernel⟩
abbrev s_TwoStacks_add : Stmt := inClass (topS 21) 2
abbrev n_TwoStacks_add : List Str := ["self", "member", "number"]
theorem sc_TwoStacks_add : FnScope n_TwoStacks_add ["self", "member"] (defScope s_TwoStacks_add) := ⟨rfl, rfl, rfl, by decide +kernel, rfl, by decide +kernel, by decide +kernel⟩
abbrev s_TwoStacks_remove_oldest : Stmt := inClass (topS 21) 3
abbrev n_TwoStacks_remove_oldest : List Str := ["self", "number"]
theorem sc_TwoStacks_remove_oldest : FnScope n_TwoStacks_remove_oldest ["self"] (defScope s_TwoStacks_remove_oldest) := ⟨rfl, rfl, rfl, by decide +kernel, rfl, by decide +kernel, by decide +kernel⟩
abbrev s_TwoStacks_total : Stmt := inClass (topS 21) 4
abbrev n_TwoStacks_total : List Str := ["self"]
theorem sc_TwoStacks_total : FnScope n_TwoStacks_total ["self"] (defScope s_TwoStacks_total) := ⟨rfl, rfl, rfl, by decide +kernel, rfl, by decide +kernel, by decide +kernel⟩
abbrev s_TwoStacks_plan_add : Stmt := inClass (topS 21) 8
abbrev n_TwoStacks_plan_add : List Str := ["self", "planner"]
theorem sc_TwoStacks_plan_add : FnScope n_TwoStacks_plan_add ["self"] (defScope s_TwoStacks_plan_add) := ⟨rfl, rfl, rfl, by decide +kernel, rfl, by decide +kernel, by decide +kernel⟩
abbrev s_TwoStacks_plan_remove : Stmt := inClass (topS 21) 9
abbrev n_TwoStacks_plan_remove : List Str := ["self", "planner"]
theorem sc_TwoStacks_plan_remove : FnScope n_TwoStacks_plan_remove ["self"] (defScope s_TwoStacks_plan_remove) := ⟨rfl, rfl, rfl, by decide +kernel, rfl, by decide +kernel, by decide +kernel⟩
abbrev s_TwoStacks_plan_total : Stmt := inClass (topS 21) 10
abbrev n_TwoStacks_plan_total : List Str := ["self", "planner"]
theorem sc_TwoStacks_plan_total : FnScope n_TwoStacks_plan_total ["self"] (defScope s_TwoStacks_plan_total) := ⟨rfl, rfl, rfl, by decide +kernel, rfl, by decide +kernel, by decide +kernel⟩
abbrev s_TwoStacks_log : Stmt := inClass (topS 21) 11
abbrev n_TwoStacks_log : List Str := ["self"]
theorem sc_TwoStacks_log : FnScope n_TwoStacks_log ["self"] (defScope s_TwoStacks_log) := ⟨rfl, rfl, rfl, by decide +kernel, rfl, by decide +kernel, by decide +kernel⟩
abbrev s_EvenSums_init : Stmt := inClass (topS 22) 1
abbrev n_EvenSums_init : List Str := ["self", "join", "zero"]
theorem sc_EvenSums_init : FnScope n_EvenSums_init ["self", "join", "zero"] (defScope s_EvenSums_init) := ⟨rfl, rfl, rfl, by decide +kernel, rfl, by decide +kernel, by decide +kernel⟩
abbrev s_EvenSums_add : Stmt := inClass (topS 22) 2
abbrev n_EvenSums_add : List Str := ["self", "member", "number", "held"]
theorem sc_EvenSums_add : FnScope n_EvenSums_add ["self", "member"] (defScope s_EvenSums_add) := ⟨rfl, rfl, rfl, by decide +kernel, rfl, by decide +kernel, by decide +kernel⟩
abbrev s_EvenSums_remove_oldest : Stmt := inClass (topS 22) 3
abbrev n_EvenSums_remove_oldest : List Str := ["self", "number", "held"]
theorem sc_EvenSums_remove_oldest : FnScope n_EvenSums_remove_oldest ["self"] (defScope s_EvenSums_remove_oldest) := ⟨rfl, rfl, rfl, by decide +kernel, rfl, by decide +kernel, by decide +kernel⟩
abbrev s_EvenSums_total : Stmt := inClass (topS 22) 4
abbrev n_EvenSums_total : List Str := ["self"]
theorem sc_EvenSums_total : FnScope n_EvenSums_total ["self"] (defScope s_EvenSums_total) := ⟨rfl, rfl, rfl, by decide +kernel, rfl, by decide +kernel, by decide +kernel⟩
abbrev s_EvenSums_plan_add : Stmt := inClass (topS 22) 8
abbrev n_EvenSums_plan_add : List Str := ["self", "planner"]
theorem sc_EvenSums_plan_add : FnScope n_EvenSums_plan_add ["self"] (defScope s_EvenSums_plan_add) := ⟨rfl, rfl, rfl, by decide +kernel, rfl, by decide +kernel, by decide +kernel⟩
abbrev s_EvenSums_plan_remove : Stmt := inClass (topS 22) 9
abbrev n_EvenSums_plan_remove : List Str := ["self", "planner"]
theorem sc_EvenSums_plan_remove : FnScope n_EvenSums_plan_remove ["self"] (defScope s_EvenSums_plan_remove) := ⟨rfl, rfl, rfl, by decide +kernel, rfl, by decide +kernel, by decide +kernel⟩
abbrev s_EvenSums_plan_total : Stmt := inClass (topS 22) 10
abbrev n_EvenSums_plan_total : List Str := ["self", "planner"]
theorem sc_EvenSums_plan_total : FnScope n_EvenSums_plan_total ["self"] (defScope s_EvenSums_plan_total) := ⟨rfl, rfl, rfl, by decide +kernel, rfl, by decide +kernel, by decide +kernel⟩
abbrev s_EvenSums_log : Stmt := inClass (topS 22) 11
abbrev n_EvenSums_log : List Str := ["self"]
theorem sc_EvenSums_log : FnScope n_EvenSums_log ["self"] (defScope s_EvenSums_log) := ⟨rfl, rfl, rfl, by decide +kernel, rfl, by decide +kernel, by decide +kernel⟩
abbrev s_Shape_init : Stmt := inClass (topS 23) 0
abbrev n_Shape_init : List Str := ["self", "front", "back", "late", "renewed"]
theorem sc_Shape_init : FnScope n_Shape_init ["self", "front", "back", "late", "renewed"] (defScope s_Shape_init) := ⟨rfl, rfl, rfl, by decide +kernel, rfl, by decide +kernel, by decide +kernel⟩
abbrev s_shape_after_addition : Stmt := topS 24
abbrev n_shape_after_addition : List Str := ["joiner", "shape", "held", "number", "back", "late"]
theorem sc_shape_after_addition : FnScope n_shape_after_addition ["joiner", "shape", "held", "number"] (defScope s_shape_after_addition) := ⟨rfl, rfl, rfl, by decide +kernel, rfl, by decide +kernel, by decide +kernel⟩
abbrev s_shape_after_removal : Stmt := topS 25
abbrev n_shape_after_removal : List Str := ["joiner", "shape", "held"]
theorem sc_shape_after_removal : FnScope n_shape_after_removal ["joiner", "shape", "held"] (defScope s_shape_after_removal) := ⟨rfl, rfl, rfl, by decide +kernel, rfl, by decide +kernel, by decide +kernel⟩
abbrev s_worked_shape : Stmt := topS 26
abbrev n_worked_shape : List Str := ["joiner", "shape", "held", "renewed", "number"]
theorem sc_worked_shape : FnScope n_worked_shape ["joiner", "shape", "held"] (defScope s_worked_shape) := ⟨rfl, rfl, rfl, by decide +kernel, rfl, by decide +kernel, by decide +kernel⟩
abbrev s_reaches : Stmt := topS 27
abbrev n_reaches : List Str := ["renewed", "number"]
theorem sc_reaches : FnScope n_reaches ["renewed", "number"] (defScope s_reaches) := ⟨rfl, rfl, rfl, by decide +kernel, rfl, by decide +kernel, by decide +kernel⟩
abbrev s_shape_spans : Stmt := topS 28
abbrev n_shape_spans : List Str := ["shape"]
theorem sc_shape_spans : FnScope n_shape_spans ["shape"] (defScope s_shape_spans) := ⟨rfl, rfl, rfl, by decide +kernel, rfl, by decide +kernel, by decide +kernel⟩
abbrev s_filled_spans : Stmt := topS 29
abbrev n_filled_spans : List Str := ["front", "backs", "span"]
theorem sc_filled_spans : FnScope n_filled_spans ["front", "backs"] (defScope s_filled_spans) := ⟨rfl, rfl, rfl, by decide +kernel, rfl, by decide +kernel, by decide +kernel⟩
abbrev s_l_bag : Stmt := topS 31
abbrev n_l_bag : List Str := ["_law_script", "_law_at", "_law_cell", "_law_great", "_law_primes"]
theorem sc_l_bag : FnScope n_l_bag ["_law_script", "_law_at"] (defScope s_l_bag) := ⟨rfl, rfl, rfl, by decide +kernel, rfl, by decide +kernel, by decide +kernel⟩
abbrev s_l_take : Stmt := topS 32
abbrev n_l_take : List Str := ["_law_bag_here", "_law_many", "_law_digit"]
theorem sc_l_take : FnScope n_l_take ["_law_bag_here", "_law_many"] (defScope s_l_take) := ⟨rfl, rfl, rfl, by decide +kernel, rfl, by decide +kernel, by decide +kernel⟩
abbrev s_l_queue : Stmt := topS 33
abbrev n_l_queue : List Str := ["_law_form", "_law_call_here", "_law_empty"]
theorem sc_l_queue : FnScope n_l_queue ["_law_form", "_law_call_here", "_law_empty"] (defScope s_l_queue) := ⟨rfl, rfl, rfl, by decide +kernel, rfl, by decide +kernel, by decide +kernel⟩
abbrev s_l_new_model : Stmt := topS 34
abbrev n_l_new_model : List Str := []
theorem sc_l_new_model : FnScope n_l_new_model [] (defScope s_l_new_model) := ⟨rfl, rfl, rfl, by decide +kernel, rfl, by decide +kernel, by decide +kernel⟩
abbrev s_l_added : Stmt := topS 35
abbrev n_l_added : List Str := ["_law_form", "_law_model", "_law_number", "_law_spot", "_law_first", "_law_end", "_law_entries"]
theorem sc_l_added : FnScope n_l_added ["_law_form", "_law_model", "_law_number"] (defScope s_l_added) := ⟨rfl, rfl, rfl, by decide +kernel, rfl, by decide +kernel, by decide +kernel⟩
abbrev s_l_removed : Stmt := topS 36
abbrev n_l_removed : List Str := ["_law_form", "_law_model", "_law_entries", "_law_first", "_law_end", "_law_number"]
theorem sc_l_removed : FnScope n_l_removed ["_law_form", "_law_model"] (defScope s_l_removed) := ⟨rfl, rfl, rfl, by decide +kernel, rfl, by decide +kernel, by decide +kernel⟩
abbrev s_l_stepped : Stmt := topS 37
abbrev n_l_stepped : List Str := ["_law_form", "_law_model", "_law_front", "_law_back", "_law_entries", "_law_oldest"]
theorem sc_l_stepped : FnScope n_l_stepped ["_law_form", "_law_model"] (defScope s_l_stepped) := ⟨rfl, rfl, rfl, by decide +kernel, rfl, by decide +kernel, by decide +kernel⟩
abbrev s_l_summed : Stmt := topS 38
abbrev n_l_summed : List Str := ["_law_model", "_law_parts", "_law_one", "_law_other", "_law_word"]
theorem sc_l_summed : FnScope n_l_summed ["_law_model"] (defScope s_l_summed) := ⟨rfl, rfl, rfl, by decide +kernel, rfl, by decide +kernel, by decide +kernel⟩
abbrev s_l_noting : Stmt := topS 39
abbrev n_l_noting : List Str := ["_law_notes", "_law_one", "_law_other", "_law_odd"]
theorem sc_l_noting : FnScope n_l_noting ["_law_notes", "_law_one", "_law_other", "_law_odd"] (defScope s_l_noting) := ⟨rfl, rfl, rfl, by decide +kernel, rfl, by decide +kernel, by decide +kernel⟩
abbrev s_l_range : Stmt := topS 40
abbrev n_l_range : List Str := ["_law_first", "_law_end"]
theorem sc_l_range : FnScope n_l_range ["_law_first", "_law_end"] (defScope s_l_range) := ⟨rfl, rfl, rfl, by decide +kernel, rfl, by decide +kernel, by decide +kernel⟩
abbrev s_l_call : Stmt := topS 41
abbrev n_l_call : List Str := ["_law_queue_here", "_law_model", "_law_form", "_law_kind", "_law_number", "_law_thing", "_law_told", "_law_due", "_law_oldest"]
theorem sc_l_call : FnScope n_l_call ["_law_queue_here", "_law_model", "_law_form", "_law_kind", "_law_number", "_law_thing"] (defScope s_l_call) := ⟨rfl, rfl, rfl, by decide +kernel, rfl, by decide +kernel, by decide +kernel⟩
abbrev s_l_right : Stmt := topS 42
abbrev n_l_right : List Str := ["_law_bag_here", "_law_form", "_law_notes", "_law_log", "_law_number", "_law_gone", "_law_road", "_law_odd", "_law_model", "_law_queue_here", "_law_turn", "_law_kind", "_law_told", "_law_due", "_law_right_here", "_law_asked", "_law_a", "_law_b", "_law_c", "_law_d", "_law_word"]
theorem sc_l_right : FnScope n_l_right ["_law_bag_here", "_law_form"] (defScope s_l_right) := ⟨rfl, rfl, rfl, by decide +kernel, rfl, by decide +kernel, by decide +kernel⟩
abbrev s_law : Stmt := topS 43
abbrev n_law : List Str := ["_law_script", "_law_at", "_law_bag_here"]
theorem sc_law : FnScope n_law ["_law_script"] (defScope s_law) := ⟨rfl, rfl, rfl, by decide +kernel, rfl, by decide +kernel, by decide +kernel⟩
structure Txt (K : PySem.W.Frag) (mg : Str → Option Value) where
  C_Calls : Addr
  gc_Calls : mg "Calls" = some (.ref C_Calls)
  C_Joiner : Addr
  gc_Joiner : mg "Joiner" = some (.ref C_Joiner)
  C_Planner : Addr
  gc_Planner : mg "Planner" = some (.ref C_Planner)
  C_EvenSums : Addr
  gc_EvenSums : mg "EvenSums" = some (.ref C_EvenSums)
  C_Shape : Addr
  gc_Shape : mg "Shape" = some (.ref C_Shape)
  C_TwoStacks : Addr
  gc_TwoStacks : mg "TwoStacks" = some (.ref C_TwoStacks)
  f_Calls_init : Addr
  d_Calls_init : FuncData
  -- 
  F_Calls_init : Fun K "__init__" "Calls.__init__" s_Calls_init f_Calls_init d_Calls_init
  b_Calls_init : Binds K d_Calls_init ["self"] []
  m_Calls_init : PySem.W.findIn K (.ref C_Calls) "__init__" = some (some (.ref f_Calls_init))
  t_Calls_init : PySem.W.isFn K (.ref f_Calls_init) = true
  y_Calls_init : PySem.W.typeIn K (.ref f_Calls_init) = some (.type "function")
  k_Calls_init : PySem.W.keepIn K (.ref f_Calls_init) = true
  f_Calls_check : Addr
  d_Calls_check : FuncData
  -- 
  F_Calls_check : Fun K "check" "Calls.check" s_Calls_check f_Calls_check d_Calls_check
  b_Calls_check : Binds K d_Calls_check ["self"] []
  m_Calls_check : PySem.W.findIn K (.ref C_Calls) "check" = some (some (.ref f_Calls_check))
  t_Calls_check : PySem.W.isFn K (.ref f_Calls_check) = true
  y_Calls_check : PySem.W.typeIn K (.ref f_Calls_check) = some (.type "function")
  k_Calls_check : PySem.W.keepIn K (.ref f_Calls_check) = true
  f_Calls_run : Addr
  d_Calls_run : FuncData
  -- 
  F_Calls_run : Fun K "run" "Calls.run" s_Calls_run f_Calls_run d_Calls_run
  m_Calls_run : PySem.W.findIn K (.ref C_Calls) "run" = some (some (.ref f_Calls_run))
  t_Calls_run : PySem.W.isFn K (.ref f_Calls_run) = true
  y_Calls_run : PySem.W.typeIn K (.ref f_Calls_run) = some (.type "function")
  k_Calls_run : PySem.W.keepIn K (.ref f_Calls_run) = true
  f_Joiner_init : Addr
  d_Joiner_init : FuncData
  -- 
  F_Joiner_init : Fun K "__init__" "Joiner.__init__" s_Joiner_init f_Joiner_init d_Joiner_init
  b_Joiner_init : Binds K d_Joiner_init ["self", "calls", "join"] []
  m_Joiner_init : PySem.W.findIn K (.ref C_Joiner) "__init__" = some (some (.ref f_Joiner_init))
  t_Joiner_init : PySem.W.isFn K (.ref f_Joiner_init) = true
  y_Joiner_init : PySem.W.typeIn K (.ref f_Joiner_init) = some (.type "function")
  k_Joiner_init : PySem.W.keepIn K (.ref f_Joiner_init) = true
  f_Joiner_joined : Addr
  d_Joiner_joined : FuncData
  -- 
  F_Joiner_joined : Fun K "joined" "Joiner.joined" s_Joiner_joined f_Joiner_joined d_Joiner_joined
  b_Joiner_joined : Binds K d_Joiner_joined ["self", "one", "other"] []
  m_Joiner_joined : PySem.W.findIn K (.ref C_Joiner) "joined" = some (some (.ref f_Joiner_joined))
  t_Joiner_joined : PySem.W.isFn K (.ref f_Joiner_joined) = true
  y_Joiner_joined : PySem.W.typeIn K (.ref f_Joiner_joined) = some (.type "function")
  k_Joiner_joined : PySem.W.keepIn K (.ref f_Joiner_joined) = true
  f_Planner_init : Addr
  d_Planner_init : FuncData
  -- 
  F_Planner_init : Fun K "__init__" "Planner.__init__" s_Planner_init f_Planner_init d_Planner_init
  b_Planner_init : Binds K d_Planner_init ["self"] []
  m_Planner_init : PySem.W.findIn K (.ref C_Planner) "__init__" = some (some (.ref f_Planner_init))
  t_Planner_init : PySem.W.isFn K (.ref f_Planner_init) = true
  y_Planner_init : PySem.W.typeIn K (.ref f_Planner_init) = some (.type "function")
  k_Planner_init : PySem.W.keepIn K (.ref f_Planner_init) = true
  f_Planner_joined : Addr
  d_Planner_joined : FuncData
  -- 
  F_Planner_joined : Fun K "joined" "Planner.joined" s_Planner_joined f_Planner_joined d_Planner_joined
  b_Planner_joined : Binds K d_Planner_joined ["self", "one", "other"] []
  m_Planner_joined : PySem.W.findIn K (.ref C_Planner) "joined" = some (some (.ref f_Planner_joined))
  t_Planner_joined : PySem.W.isFn K (.ref f_Planner_joined) = true
  y_Planner_joined : PySem.W.typeIn K (.ref f_Planner_joined) = some (.type "function")
  k_Planner_joined : PySem.W.keepIn K (.ref f_Planner_joined) = true
  f_TwoStacks_init : Addr
  d_TwoStacks_init : FuncData
  -- 
  F_TwoStacks_init : FunD K "__init__" "TwoStacks.__init__" (defArgs s_TwoStacks_init) (defBody s_TwoStacks_init) (defScope s_TwoStacks_init) [] [("zero", V.non)] f_TwoStacks_init d_TwoStacks_init
  m_TwoStacks_init : PySem.W.findIn K (.ref C_TwoStacks) "__init__" = some (some (.ref f_TwoStacks_init))
  t_TwoStacks_init : PySem.W.isFn K (.ref f_TwoStacks_init) = true
  y_TwoStacks_init : PySem.W.typeIn K (.ref f_TwoStacks_init) = some (.type "function")
  k_TwoStacks_init : PySem.W.keepIn K (.ref f_TwoStacks_init) = true
  f_TwoStacks_add : Addr
  d_TwoStacks_add : FuncData
  -- 
  F_TwoStacks_add : Fun K "add" "TwoStacks.add" s_TwoStacks_add f_TwoStacks_add d_TwoStacks_add
  b_TwoStacks_add : Binds K d_TwoStacks_add ["self", "member"] []
  m_TwoStacks_add : PySem.W.findIn K (.ref C_TwoStacks) "add" = some (some (.ref f_TwoStacks_add))
  t_TwoStacks_add : PySem.W.isFn K (.ref f_TwoStacks_add) = true
  y_TwoStacks_add : PySem.W.typeIn K (.ref f_TwoStacks_add) = some (.type "function")
  k_TwoStacks_add : PySem.W.keepIn K (.ref f_TwoStacks_add) = true
  f_TwoStacks_remove_oldest : Addr
  d_TwoStacks_remove_oldest : FuncData
  -- 
  F_TwoStacks_remove_oldest : Fun K "remove_oldest" "TwoStacks.remove_oldest" s_TwoStacks_remove_oldest f_TwoStacks_remove_oldest d_TwoStacks_remove_oldest
  b_TwoStacks_remove_oldest : Binds K d_TwoStacks_remove_oldest ["self"] []
  m_TwoStacks_remove_oldest : PySem.W.findIn K (.ref C_TwoStacks) "remove_oldest" = some (some (.ref f_TwoStacks_remove_oldest))
  t_TwoStacks_remove_oldest : PySem.W.isFn K (.ref f_TwoStacks_remove_oldest) = true
  y_TwoStacks_remove_oldest : PySem.W.typeIn K (.ref f_TwoStacks_remove_oldest) = some (.type "function")
  k_TwoStacks_remove_oldest : PySem.W.keepIn K (.ref f_TwoStacks_remove_oldest) = true
  f_TwoStacks_total : Addr
  d_TwoStacks_total : FuncData
  -- 
  F_TwoStacks_total : Fun K "total" "TwoStacks.total" s_TwoStacks_total f_TwoStacks_total d_TwoStacks_total
  b_TwoStacks_total : Binds K d_TwoStacks_total ["self"] []
  m_TwoStacks_total : PySem.W.findIn K (.ref C_TwoStacks) "total" = some (some (.ref f_TwoStacks_total))
  t_TwoStacks_total : PySem.W.isFn K (.ref f_TwoStacks_total) = true
  y_TwoStacks_total : PySem.W.typeIn K (.ref f_TwoStacks_total) = some (.type "function")
  k_TwoStacks_total : PySem.W.keepIn K (.ref f_TwoStacks_total) = true
  f_TwoStacks_plan_add : Addr
  d_TwoStacks_plan_add : FuncData
  -- 
  F_TwoStacks_plan_add : Fun K "plan_add" "TwoStacks.plan_add" s_TwoStacks_plan_add f_TwoStacks_plan_add d_TwoStacks_plan_add
  b_TwoStacks_plan_add : Binds K d_TwoStacks_plan_add ["self"] []
  m_TwoStacks_plan_add : PySem.W.findIn K (.ref C_TwoStacks) "plan_add" = some (some (.ref f_TwoStacks_plan_add))
  t_TwoStacks_plan_add : PySem.W.isFn K (.ref f_TwoStacks_plan_add) = true
  y_TwoStacks_plan_add : PySem.W.typeIn K (.ref f_TwoStacks_plan_add) = some (.type "function")
  k_TwoStacks_plan_add : PySem.W.keepIn K (.ref f_TwoStacks_plan_add) = true
  f_TwoStacks_plan_remove : Addr
  d_TwoStacks_plan_remove : FuncData
  -- 
  F_TwoStacks_plan_remove : Fun K "plan_remove" "TwoStacks.plan_remove" s_TwoStacks_plan_remove f_TwoStacks_plan_remove d_TwoStacks_plan_remove
  b_TwoStacks_plan_remove : Binds K d_TwoStacks_plan_remove ["self"] []
  m_TwoStacks_plan_remove : PySem.W.findIn K (.ref C_TwoStacks) "plan_remove" = some (some (.ref f_TwoStacks_plan_remove))
  t_TwoStacks_plan_remove : PySem.W.isFn K (.ref f_TwoStacks_plan_remove) = true
  y_TwoStacks_plan_remove : PySem.W.typeIn K (.ref f_TwoStacks_plan_remove) = some (.type "function")
  k_TwoStacks_plan_remove : PySem.W.keepIn K (.ref f_TwoStacks_plan_remove) = true
  f_TwoStacks_plan_total : Addr
  d_TwoStacks_plan_total : FuncData
  -- 
  F_TwoStacks_plan_total : Fun K "plan_total" "TwoStacks.plan_total" s_TwoStacks_plan_total f_TwoStacks_plan_total d_TwoStacks_plan_total
  b_TwoStacks_plan_total : Binds K d_TwoStacks_plan_total ["self"] []
  m_TwoStacks_plan_total : PySem.W.findIn K (.ref C_TwoStacks) "plan_total" = some (some (.ref f_TwoStacks_plan_total))
  t_TwoStacks_plan_total : PySem.W.isFn K (.ref f_TwoStacks_plan_total) = true
  y_TwoStacks_plan_total : PySem.W.typeIn K (.ref f_TwoStacks_plan_total) = some (.type "function")
  k_TwoStacks_plan_total : PySem.W.keepIn K (.ref f_TwoStacks_plan_total) = true
  f_TwoStacks_log : Addr
  d_TwoStacks_log : FuncData
  -- 
  F_TwoStacks_log : Fun K "log" "TwoStacks.log" s_TwoStacks_log f_TwoStacks_log d_TwoStacks_log
  b_TwoStacks_log : Binds K d_TwoStacks_log ["self"] []
  m_TwoStacks_log : PySem.W.findIn K (.ref C_TwoStacks) "log" = some (some (.ref f_TwoStacks_log))
  t_TwoStacks_log : PySem.W.isFn K (.ref f_TwoStacks_log) = true
  y_TwoStacks_log : PySem.W.typeIn K (.ref f_TwoStacks_log) = some (.type "function")
  k_TwoStacks_log : PySem.W.keepIn K (.ref f_TwoStacks_log) = true
  f_EvenSums_init : Addr
  d_EvenSums_init : FuncData
  -- 
  F_EvenSums_init : FunD K "__init__" "EvenSums.__init__" (defArgs s_EvenSums_init) (defBody s_EvenSums_init) (defScope s_EvenSums_init) [] [("zero", V.non)] f_EvenSums_init d_EvenSums_init
  m_EvenSums_init : PySem.W.findIn K (.ref C_EvenSums) "__init__" = some (some (.ref f_EvenSums_init))
  t_EvenSums_init : PySem.W.isFn K (.ref f_EvenSums_init) = true
  y_EvenSums_init : PySem.W.typeIn K (.ref f_EvenSums_init) = some (.type "function")
  k_EvenSums_init : PySem.W.keepIn K (.ref f_EvenSums_init) = true
  f_EvenSums_add : Addr
  d_EvenSums_add : FuncData
  -- 
  F_EvenSums_add : Fun K "add" "EvenSums.add" s_EvenSums_add f_EvenSums_add d_EvenSums_add
  b_EvenSums_add : Binds K d_EvenSums_add ["self", "member"] []
  m_EvenSums_add : PySem.W.findIn K (.ref C_EvenSums) "add" = some (some (.ref f_EvenSums_add))
  t_EvenSums_add : PySem.W.isFn K (.ref f_EvenSums_add) = true
  y_EvenSums_add : PySem.W.typeIn K (.ref f_EvenSums_add) = some (.type "function")
  k_EvenSums_add : PySem.W.keepIn K (.ref f_EvenSums_add) = true
  f_EvenSums_remove_oldest : Addr
  d_EvenSums_remove_oldest : FuncData
  -- 
  F_EvenSums_remove_oldest : Fun K "remove_oldest" "EvenSums.remove_oldest" s_EvenSums_remove_oldest f_EvenSums_remove_oldest d_EvenSums_remove_oldest
  b_EvenSums_remove_oldest : Binds K d_EvenSums_remove_oldest ["self"] []
  m_EvenSums_remove_oldest : PySem.W.findIn K (.ref C_EvenSums) "remove_oldest" = some (some (.ref f_EvenSums_remove_oldest))
  t_EvenSums_remove_oldest : PySem.W.isFn K (.ref f_EvenSums_remove_oldest) = true
  y_EvenSums_remove_oldest : PySem.W.typeIn K (.ref f_EvenSums_remove_oldest) = some (.type "function")
  k_EvenSums_remove_oldest : PySem.W.keepIn K (.ref f_EvenSums_remove_oldest) = true
  f_EvenSums_total : Addr
  d_EvenSums_total : FuncData
  -- 
  F_EvenSums_total : Fun K "total" "EvenSums.total" s_EvenSums_total f_EvenSums_total d_EvenSums_total
  b_EvenSums_total : Binds K d_EvenSums_total ["self"] []
  m_EvenSums_total : PySem.W.findIn K (.ref C_EvenSums) "total" = some (some (.ref f_EvenSums_total))
  t_EvenSums_total : PySem.W.isFn K (.ref f_EvenSums_total) = true
  y_EvenSums_total : PySem.W.typeIn K (.ref f_EvenSums_total) = some (.type "function")
  k_EvenSums_total : PySem.W.keepIn K (.ref f_EvenSums_total) = true
  f_EvenSums_plan_add : Addr
  d_EvenSums_plan_add : FuncData
  -- 
  F_EvenSums_plan_add : Fun K "plan_add" "EvenSums.plan_add" s_EvenSums_plan_add f_EvenSums_plan_add d_EvenSums_plan_add
  b_EvenSums_plan_add : Binds K d_EvenSums_plan_add ["self"] []
  m_EvenSums_plan_add : PySem.W.findIn K (.ref C_EvenSums) "plan_add" = some (some (.ref f_EvenSums_plan_add))
  t_EvenSums_plan_add : PySem.W.isFn K (.ref f_EvenSums_plan_add) = true
  y_EvenSums_plan_add : PySem.W.typeIn K (.ref f_EvenSums_plan_add) = some (.type "function")
  k_EvenSums_plan_add : PySem.W.keepIn K (.ref f_EvenSums_plan_add) = true
  f_EvenSums_plan_remove : Addr
  d_EvenSums_plan_remove : FuncData
  -- 
  F_EvenSums_plan_remove : Fun K "plan_remove" "EvenSums.plan_remove" s_EvenSums_plan_remove f_EvenSums_plan_remove d_EvenSums_plan_remove
  b_EvenSums_plan_remove : Binds K d_EvenSums_plan_remove ["self"] []
  m_EvenSums_plan_remove : PySem.W.findIn K (.ref C_EvenSums) "plan_remove" = some (some (.ref f_EvenSums_plan_remove))
  t_EvenSums_plan_remove : PySem.W.isFn K (.ref f_EvenSums_plan_remove) = true
  y_EvenSums_plan_remove : PySem.W.typeIn K (.ref f_EvenSums_plan_remove) = some (.type "function")
  k_EvenSums_plan_remove : PySem.W.keepIn K (.ref f_EvenSums_plan_remove) = true
  f_EvenSums_plan_total : Addr
  d_EvenSums_plan_total : FuncData
  -- 
  F_EvenSums_plan_total : Fun K "plan_total" "EvenSums.plan_total" s_EvenSums_plan_total f_EvenSums_plan_total d_EvenSums_plan_total
  b_EvenSums_plan_total : Binds K d_EvenSums_plan_total ["self"] []
  m_EvenSums_plan_total : PySem.W.findIn K (.ref C_EvenSums) "plan_total" = some (some (.ref f_EvenSums_plan_total))
  t_EvenSums_plan_total : PySem.W.isFn K (.ref f_EvenSums_plan_total) = true
  y_EvenSums_plan_total : PySem.W.typeIn K (.ref f_EvenSums_plan_total) = some (.type "function")
  k_EvenSums_plan_total : PySem.W.keepIn K (.ref f_EvenSums_plan_total) = true
  f_EvenSums_log : Addr
  d_EvenSums_log : FuncData
  -- 
  F_EvenSums_log : Fun K "log" "EvenSums.log" s_EvenSums_log f_EvenSums_log d_EvenSums_log
  b_EvenSums_log : Binds K d_EvenSums_log ["self"] []
  m_EvenSums_log : PySem.W.findIn K (.ref C_EvenSums) "log" = some (some (.ref f_EvenSums_log))
  t_EvenSums_log : PySem.W.isFn K (.ref f_EvenSums_log) = true
  y_EvenSums_log : PySem.W.typeIn K (.ref f_EvenSums_log) = some (.type "function")
  k_EvenSums_log : PySem.W.keepIn K (.ref f_EvenSums_log) = true
  f_Shape_init : Addr
  d_Shape_init : FuncData
  -- 
  F_Shape_init : Fun K "__init__" "Shape.__init__" s_Shape_init f_Shape_init d_Shape_init
  b_Shape_init : Binds K d_Shape_init ["self", "front", "back", "late", "renewed"] []
  m_Shape_init : PySem.W.findIn K (.ref C_Shape) "__init__" = some (some (.ref f_Shape_init))
  t_Shape_init : PySem.W.isFn K (.ref f_Shape_init) = true
  y_Shape_init : PySem.W.typeIn K (.ref f_Shape_init) = some (.type "function")
  k_Shape_init : PySem.W.keepIn K (.ref f_Shape_init) = true
  f_check_filled : Addr
  d_check_filled : FuncData
  F_check_filled : Fun K "check_filled" "check_filled" s_check_filled f_check_filled d_check_filled
  b_check_filled : Binds K d_check_filled ["held"] []
  g_check_filled : mg "check_filled" = some (.ref f_check_filled)
  f_oldest : Addr
  d_oldest : FuncData
  F_oldest : Fun K "oldest" "oldest" s_oldest f_oldest d_oldest
  b_oldest : Binds K d_oldest ["held"] []
  g_oldest : mg "oldest" = some (.ref f_oldest)
  f_without : Addr
  d_without : FuncData
  F_without : Fun K "without" "without" s_without f_without d_without
  b_without : Binds K d_without ["held", "numbers"] []
  g_without : mg "without" = some (.ref f_without)
  f_join_entry : Addr
  d_join_entry : FuncData
  F_join_entry : Fun K "join_entry" "join_entry" s_join_entry f_join_entry d_join_entry
  b_join_entry : Binds K d_join_entry ["one", "other"] []
  g_join_entry : mg "join_entry" = some (.ref f_join_entry)
  f_single : Addr
  d_single : FuncData
  F_single : Fun K "single" "single" s_single f_single d_single
  b_single : Binds K d_single ["number", "member"] []
  g_single : mg "single" = some (.ref f_single)
  f_span_length : Addr
  d_span_length : FuncData
  F_span_length : Fun K "span_length" "span_length" s_span_length f_span_length d_span_length
  b_span_length : Binds K d_span_length ["span"] []
  g_span_length : mg "span_length" = some (.ref f_span_length)
  f_extended : Addr
  d_extended : FuncData
  F_extended : Fun K "extended" "extended" s_extended f_extended d_extended
  b_extended : Binds K d_extended ["joiner", "span", "number", "member"] []
  g_extended : mg "extended" = some (.ref f_extended)
  f_deepened : Addr
  d_deepened : FuncData
  F_deepened : Fun K "deepened" "deepened" s_deepened f_deepened d_deepened
  b_deepened : Binds K d_deepened ["joiner", "spans", "number", "member"] []
  g_deepened : mg "deepened" = some (.ref f_deepened)
  f_all_spans : Addr
  d_all_spans : FuncData
  F_all_spans : Fun K "all_spans" "all_spans" s_all_spans f_all_spans d_all_spans
  b_all_spans : Binds K d_all_spans ["joiner", "held"] []
  g_all_spans : mg "all_spans" = some (.ref f_all_spans)
  f_whole_span : Addr
  d_whole_span : FuncData
  F_whole_span : Fun K "whole_span" "whole_span" s_whole_span f_whole_span d_whole_span
  b_whole_span : Binds K d_whole_span ["joiner", "spans"] []
  g_whole_span : mg "whole_span" = some (.ref f_whole_span)
  f_shape_after_addition : Addr
  d_shape_after_addition : FuncData
  F_shape_after_addition : Fun K "shape_after_addition" "shape_after_addition" s_shape_after_addition f_shape_after_addition d_shape_after_addition
  b_shape_after_addition : Binds K d_shape_after_addition ["joiner", "shape", "held", "number"] []
  g_shape_after_addition : mg "shape_after_addition" = some (.ref f_shape_after_addition)
  f_shape_after_removal : Addr
  d_shape_after_removal : FuncData
  F_shape_after_removal : Fun K "shape_after_removal" "shape_after_removal" s_shape_after_removal f_shape_after_removal d_shape_after_removal
  b_shape_after_removal : Binds K d_shape_after_removal ["joiner", "shape", "held"] []
  g_shape_after_removal : mg "shape_after_removal" = some (.ref f_shape_after_removal)
  f_worked_shape : Addr
  d_worked_shape : FuncData
  F_worked_shape : Fun K "worked_shape" "worked_shape" s_worked_shape f_worked_shape d_worked_shape
  b_worked_shape : Binds K d_worked_shape ["joiner", "shape", "held"] []
  g_worked_shape : mg "worked_shape" = some (.ref f_worked_shape)
  f_reaches : Addr
  d_reaches : FuncData
  F_reaches : Fun K "reaches" "reaches" s_reaches f_reaches d_reaches
  b_reaches : Binds K d_reaches ["renewed", "number"] []
  g_reaches : mg "reaches" = some (.ref f_reaches)
  f_shape_spans : Addr
  d_shape_spans : FuncData
  F_shape_spans : Fun K "shape_spans" "shape_spans" s_shape_spans f_shape_spans d_shape_spans
  b_shape_spans : Binds K d_shape_spans ["shape"] []
  g_shape_spans : mg "shape_spans" = some (.ref f_shape_spans)
  f_filled_spans : Addr
  d_filled_spans : FuncData
  F_filled_spans : Fun K "filled_spans" "filled_spans" s_filled_spans f_filled_spans d_filled_spans
  b_filled_spans : Binds K d_filled_spans ["front", "backs"] []
  g_filled_spans : mg "filled_spans" = some (.ref f_filled_spans)
  f_l_bag : Addr
  d_l_bag : FuncData
  F_l_bag : Fun K "_law_bag" "_law_bag" s_l_bag f_l_bag d_l_bag
  b_l_bag : Binds K d_l_bag ["_law_script", "_law_at"] []
  g_l_bag : mg "_law_bag" = some (.ref f_l_bag)
  f_l_take : Addr
  d_l_take : FuncData
  F_l_take : Fun K "_law_take" "_law_take" s_l_take f_l_take d_l_take
  b_l_take : Binds K d_l_take ["_law_bag_here", "_law_many"] []
  g_l_take : mg "_law_take" = some (.ref f_l_take)
  f_l_queue : Addr
  d_l_queue : FuncData
  F_l_queue : Fun K "_law_queue" "_law_queue" s_l_queue f_l_queue d_l_queue
  b_l_queue : Binds K d_l_queue ["_law_form", "_law_call_here", "_law_empty"] []
  g_l_queue : mg "_law_queue" = some (.ref f_l_queue)
  f_l_new_model : Addr
  d_l_new_model : FuncData
  F_l_new_model : Fun K "_law_new_model" "_law_new_model" s_l_new_model f_l_new_model d_l_new_model
  b_l_new_model : Binds K d_l_new_model [] []
  g_l_new_model : mg "_law_new_model" = some (.ref f_l_new_model)
  f_l_added : Addr
  d_l_added : FuncData
  F_l_added : Fun K "_law_added" "_law_added" s_l_added f_l_added d_l_added
  b_l_added : Binds K d_l_added ["_law_form", "_law_model", "_law_number"] []
  g_l_added : mg "_law_added" = some (.ref f_l_added)
  f_l_removed : Addr
  d_l_removed : FuncData
  F_l_removed : Fun K "_law_removed" "_law_removed" s_l_removed f_l_removed d_l_removed
  b_l_removed : Binds K d_l_removed ["_law_form", "_law_model"] []
  g_l_removed : mg "_law_removed" = some (.ref f_l_removed)
  f_l_stepped : Addr
  d_l_stepped : FuncData
  F_l_stepped : Fun K "_law_stepped" "_law_stepped" s_l_stepped f_l_stepped d_l_stepped
  b_l_stepped : Binds K d_l_stepped ["_law_form", "_law_model"] []
  g_l_stepped : mg "_law_stepped" = some (.ref f_l_stepped)
  f_l_summed : Addr
  d_l_summed : FuncData
  F_l_summed : Fun K "_law_summed" "_law_summed" s_l_summed f_l_summed d_l_summed
  b_l_summed : Binds K d_l_summed ["_law_model"] []
  g_l_summed : mg "_law_summed" = some (.ref f_l_summed)
  f_l_noting : Addr
  d_l_noting : FuncData
  F_l_noting : Fun K "_law_noting" "_law_noting" s_l_noting f_l_noting d_l_noting
  b_l_noting : Binds K d_l_noting ["_law_notes", "_law_one", "_law_other", "_law_odd"] []
  g_l_noting : mg "_law_noting" = some (.ref f_l_noting)
  f_l_range : Addr
  d_l_range : FuncData
  F_l_range : Fun K "_law_range" "_law_range" s_l_range f_l_range d_l_range
  b_l_range : Binds K d_l_range ["_law_first", "_law_end"] []
  g_l_range : mg "_law_range" = some (.ref f_l_range)
  f_l_call : Addr
  d_l_call : FuncData
  F_l_call : Fun K "_law_call" "_law_call" s_l_call f_l_call d_l_call
  b_l_call : Binds K d_l_call ["_law_queue_here", "_law_model", "_law_form", "_law_kind", "_law_number", "_law_thing"] []
  g_l_call : mg "_law_call" = some (.ref f_l_call)
  f_l_right : Addr
  d_l_right : FuncData
  c_l_right : Addr
  p_l_right : Addr
  F_l_right : FunT K "_law_right" "_law_right" s_l_right f_l_right d_l_right c_l_right
  b_l_right : Binds K d_l_right ["_law_bag_here", "_law_form"] []
  g_l_right : mg "_law_right" = some (.ref f_l_right)
  z_abs : mg "abs" = none
  z_enumerate : mg "enumerate" = none
  z_int : mg "int" = none
  z_iter : mg "iter" = none
  z_len : mg "len" = none
  z_list : mg "list" = none
  z_max : mg "max" = none
  z_min : mg "min" = none
  z_next : mg "next" = none
  z_range : mg "range" = none
  z_reversed : mg "reversed" = none
  z_sum : mg "sum" = none
  z_tuple : mg "tuple" = none
  z_zip : mg "zip" = none
  cl_Calls : Cls K C_Calls
  mk_Calls : PySem.W.makesIn K C_Calls = true
  kp_Calls : PySem.W.keepIn K (.ref C_Calls) = true
  n_Calls_entries : NoAttr K C_Calls "entries"
  n_Calls_running : NoAttr K C_Calls "running"
  cl_Joiner : Cls K C_Joiner
  mk_Joiner : PySem.W.makesIn K C_Joiner = true
  kp_Joiner : PySem.W.keepIn K (.ref C_Joiner) = true
  n_Joiner_calls : NoAttr K C_Joiner "calls"
  n_Joiner_join_call : NoAttr K C_Joiner "join_call"
  cl_Planner : Cls K C_Planner
  mk_Planner : PySem.W.makesIn K C_Planner = true
  kp_Planner : PySem.W.keepIn K (.ref C_Planner) = true
  n_Planner_entries : NoAttr K C_Planner "entries"
  cl_EvenSums : Cls K C_EvenSums
  mk_EvenSums : PySem.W.makesIn K C_EvenSums = true
  kp_EvenSums : PySem.W.keepIn K (.ref C_EvenSums) = true
  n_EvenSums_calls : NoAttr K C_EvenSums "calls"
  n_EvenSums_joiner : NoAttr K C_EvenSums "joiner"
  n_EvenSums_zero : NoAttr K C_EvenSums "zero"
  n_EvenSums_given : NoAttr K C_EvenSums "given"
  n_EvenSums_held : NoAttr K C_EvenSums "held"
  n_EvenSums_shape : NoAttr K C_EvenSums "shape"
  cl_Shape : Cls K C_Shape
  mk_Shape : PySem.W.makesIn K C_Shape = true
  kp_Shape : PySem.W.keepIn K (.ref C_Shape) = true
  n_Shape_front : NoAttr K C_Shape "front"
  n_Shape_back : NoAttr K C_Shape "back"
  n_Shape_late : NoAttr K C_Shape "late"
  n_Shape_renewed : NoAttr K C_Shape "renewed"
  cl_TwoStacks : Cls K C_TwoStacks
  mk_TwoStacks : PySem.W.makesIn K C_TwoStacks = true
  kp_TwoStacks : PySem.W.keepIn K (.ref C_TwoStacks) = true
  n_TwoStacks_calls : NoAttr K C_TwoStacks "calls"
  n_TwoStacks_joiner : NoAttr K C_TwoStacks "joiner"
  n_TwoStacks_zero : NoAttr K C_TwoStacks "zero"
  n_TwoStacks_given : NoAttr K C_TwoStacks "given"
  n_TwoStacks_held : NoAttr K C_TwoStacks "held"
  n_TwoStacks_front : NoAttr K C_TwoStacks "front"
  n_TwoStacks_back : NoAttr K C_TwoStacks "back"

theorem log_lo {n : Nat} (h : n ≠ 0) : 2 ^ n.log2 ≤ n := Nat.log2_self_le h
theorem log_hi {n : Nat} : n < 2 ^ (n.log2 + 1) := Nat.lt_log2_self
theorem log_lt {n f : Nat} (h : n ≠ 0) (hf : n < 2 ^ f) : n.log2 < f := (Nat.log2_lt h).mpr hf
theorem rest_lt {n : Nat} (h : n ≠ 0) : n - 2 ^ n.log2 < 2 ^ n.log2 := by
  have a := log_hi (n := n)
  have b := log_lo h
  rw [Nat.pow_succ] at a
  omega
theorem rest_lt' {n f : Nat} (h : n ≠ 0) (hf : n < 2 ^ (f + 1)) : n - 2 ^ n.log2 < 2 ^ f := by
  have a := rest_lt h
  have b := log_lt h hf
  have c : 2 ^ n.log2 ≤ 2 ^ f := Nat.pow_le_pow_right (by decide) (by omega)
  omega
/-- the lowest power -/
def low (n : Nat) : Nat := if h : n = 0 then 1 else if n % 2 = 0 then 2 * low (n / 2) else 1
termination_by n
decreasing_by omega
theorem low_even {n : Nat} (h : n ≠ 0) (e : n % 2 = 0) : low n = 2 * low (n / 2) := by
  rw [low, dif_neg h, if_pos e]
theorem low_odd {n : Nat} (e : n % 2 = 1) : low n = 1 := by
  rw [low, dif_neg (by omega), if_neg (by omega)]
theorem low_is : ∀ (j n : Nat), n ≠ 0 → n % 2 ^ j = 0 → ¬ n % 2 ^ (j + 1) = 0 → low n = 2 ^ j
  | 0, n, h, _, e => by
    rw [Nat.zero_add, Nat.pow_one] at e
    exact low_odd (by omega)
  | j + 1, n, h, a, b => by
    have e2 : n % 2 = 0 := by
      rw [Nat.pow_succ] at a
      have := Nat.mod_mod_of_dvd n (show 2 ∣ 2 ^ j * 2 from ⟨2 ^ j, Nat.mul_comm _ _⟩)
      rw [a] at this
      omega
    obtain ⟨m, rfl⟩ : ∃ m, n = 2 * m := ⟨n / 2, by omega⟩
    have hm : m ≠ 0 := by omega
    rw [low_even h e2, Nat.mul_div_cancel_left _ (by decide), Nat.pow_succ, Nat.mul_comm]
    have a' : m % 2 ^ j = 0 := by
      rw [Nat.pow_succ, Nat.mul_comm (2 ^ j) 2, Nat.mul_mod_mul_left] at a
      omega
    have b' : ¬ m % 2 ^ (j + 1) = 0 := fun z => by
      rw [Nat.pow_succ, Nat.mul_comm (2 ^ (j + 1)) 2, Nat.mul_mod_mul_left, z] at b
      exact b rfl
    rw [low_is j m hm a' b']
theorem low_pow (j : Nat) : low (2 ^ j) = 2 ^ j := by
  refine low_is j _ (Nat.pos_iff_ne_zero.mp (Nat.two_pow_pos j)) (Nat.mod_self _) fun z => ?_
  rw [Nat.mod_eq_of_lt (Nat.pow_lt_pow_right (by decide) (by omega))] at z
  have := Nat.two_pow_pos j
  omega

theorem ifT {c : Bool} {A B : Prop} (hc : c = true) (h : A) : if c = true then A else B := by
  rw [if_pos hc]
  exact h
theorem ifF {c : Bool} {A B : Prop} (hc : c = false) (h : B) : if c = true then A else B := by
  rw [hc, if_neg Bool.false_ne_true]
  exact h
theorem dF {p : Prop} [Decidable p] (h : ¬ p) : decide p = false := decide_eq_false h
theorem dT {p : Prop} [Decidable p] (h : p) : decide p = true := decide_eq_true h
theorem bits_nat {n : Nat} (h : n ≠ 0) : (Builtin.Int.intBits (n : Int) : Nat) = n.log2 + 1 := by
  unfold Builtin.Int.intBits
  rw [if_neg (show ¬ ((n : Int) == 0) = true by simpa using (show (n : Int) ≠ 0 by omega))]
  rfl
theorem gp_eq {n : Nat} (h : n ≠ 0) : (1 : Int) * 2 ^ (((Builtin.Int.intBits (n : Int) : Nat) : Int) - 1).toNat = ((2 ^ n.log2 : Nat) : Int) := by
  rw [bits_nat h, show (((n.log2 + 1 : Nat) : Int) - 1).toNat = n.log2 by omega, Int.one_mul]
  exact (PySem.W.kbt_cast _).symm
theorem gp_ok {n : Nat} (h : n ≠ 0) (hn : n < 2 ^ 200) : CShl 1 (((Builtin.Int.intBits (n : Int) : Nat) : Int) - 1) := by
  have a := log_lt h hn
  rw [bits_nat h, show (((n.log2 + 1 : Nat) : Int) - 1) = (n.log2 : Int) by omega]
  exact shl_ok (n := 1) (by decide) (by omega)
theorem nat_cast_lt {a : Nat} {n : Nat} (h : n < 2 ^ a) : (n : Int).natAbs < 2 ^ a := h
theorem pow_nat (k : Nat) : (2 : Int) ^ k = ((2 ^ k : Nat) : Int) := (PySem.W.kbt_cast k).symm
theorem p10 : (10 : Int) ^ Int.toNat 30 = ((10 ^ 30 : Nat) : Int) := by decide +kernel
theorem le6 : 6 ≤ sizeLine := by decide
theorem p100 : (10 ^ 30 : Nat) < 2 ^ 100 := by decide +kernel
def intAt (σ : L2.St) (i : Nat) : Nat := match σ[i]? with
  | some (some (V.int r)) => r.toNat
  | _ => 0
theorem le2 : 2 ≤ sizeLine := by decide
theorem cdiv_nat (a b : Nat) : ((a : Int) / (b : Int)) = ((a / b : Nat) : Int) := rfl

/-! ### heaps -/
theorem same_put {H H1 : Hp} {p : Addr} {o : HO} (h : Same H H1) (n : H p = none) : Same H (upd H1 p o) := fun b u e => by
  rw [upd_ne (ne_of_none e n)]
  exact h b u e
theorem same_new {H : Hp} {p : Addr} {o : HO} (n : H p = none) : Same H (upd H p o) := same_put (Same.refl H) n
theorem same_no {H H1 : Hp} {p : Addr} (h : Same H H1) (n : H1 p = none) : H p = none := h.free n
/-- all but p is as it was -/
def But (p : Addr) (H H' : Hp) : Prop := ∀ b o, H b = some o → b ≠ p → H' b = some o
theorem but_refl (p : Addr) (H : Hp) : But p H H := fun _ _ h _ => h
theorem but_trans {p : Addr} {H H1 H2 : Hp} (a : But p H H1) (b : But p H1 H2) : But p H H2 := fun c o h n => b c o (a c o h n) n
theorem but_of_same {p : Addr} {H H1 : Hp} (a : Same H H1) : But p H H1 := fun c o h _ => a c o h
theorem but_upd (p : Addr) (H : Hp) (o : HO) : But p H (upd H p o) := fun b u e n => by
  rw [upd_ne n]
  exact e
theorem but_fresh {p : Addr} {H0 H H1 : Hp} (s : Same H0 H) (n : H0 p = none) (b : But p H H1) : Same H0 H1 := fun c o e => b c o (s c o e) (ne_of_none e n)
/-! ### a bag of digits -/
def Bag (H : Hp) (p : Addr) : Prop := ∃ g m c : Int, H p = some (.lst [.int g, .int m, .int c]) ∧ 0 ≤ g ∧ 0 ≤ m ∧ m < 2147483648
theorem fm0 {a b : Int} (h : 0 < b) : 0 ≤ a.fmod b := by
  rw [Int.fmod_eq_emod_of_nonneg a (by omega)]
  exact Int.emod_nonneg a (by omega)
theorem fm1 {a b : Int} (h : 0 < b) : a.fmod b < b := by
  rw [Int.fmod_eq_emod_of_nonneg a (by omega)]
  exact Int.emod_lt_of_pos a h
theorem nz1 : (2147483647 : Int) ≠ 0 := by decide
theorem nz2 : (2147483629 : Int) ≠ 0 := by decide
section
variable {P : Program} {w : World} {K : PySem.W.Frag} {mg : Str → Option Value} {base : Heap}
def spTake : Sp := fun vs H Q _ => ∃ (p : Addr) (n : Int), vs = [.ref p, .int n] ∧ Bag H p ∧ 0 < n ∧ n.natAbs < 2 ^ 200 ∧
  ∀ r H', 0 ≤ r → r < n → Bag H' p → But p H H' → Q (.int r) H'
theorem ok_take (T : Txt K mg) : FnOk P w K mg base CX0 1 T.f_l_take T.d_l_take ["_law_bag_here", "_law_many"] spTake := by
  refine T.F_l_take.ok sc_l_take (fun vs H Q E h => ?_) (fun cdv A outer s H vs Q E hr h => ?_)
  · obtain ⟨p, n, rfl, _⟩ := h
    rfl
  · obtain ⟨p, n, rfl, ⟨g, m, c, hb, g0, m0, m1⟩, n0, n1, q⟩ := h
    refine ⟨_, (pss_cons (ps_if (pt_cmpR op_gt (pe_ix (r := rIxL K) ix_list (pv 0) pe_int (fun _ _ => rfl)) pe_int (nomark _)) (pss_cons (ps_set (i := 2) sc_l_take.nd rfl (.inl rfl) (pe_op op_modN (pe_ix (r := rIxL K) ix_list (pv 0) pe_int (fun _ _ => rfl)) (pv 1)))
        (pss_cons (ps_asg (pe_op op_fdivW (pe_ix (r := rIxL K) ix_list (pv 0) pe_int (fun _ _ => rfl)) (pv 1)) (pg_sub (pv 0) pe_int set_list))
        (pss_one (ps_ret (pv 2))))) pss_nil)
      (pss_cons (ps_asg (pe_op op_add (pe_ix (r := rIxL K) ix_list (pv 0) pe_int (fun _ _ => rfl)) pe_int) (pg_sub (pv 0) pe_int set_list))
      (pss_cons (ps_asg (pe_op op_modN (pe_op op_add (pe_op op_add (pe_op op_mul (pe_ix (r := rIxL K) ix_list (pv 0) pe_int (fun _ _ => rfl)) pe_int) (pe_op op_mul pe_int (pe_ix (r := rIxL K) ix_list (pv 0) pe_int (fun _ _ => rfl)))) pe_int) pe_int) (pg_sub (pv 0) pe_int set_list))
      (pss_one (ps_ret (pe_op op_modN (pe_op op_modN (pe_op op_pow (pe_op op_fdivW (pe_ix (r := rIxL K) ix_list (pv 0) pe_int (fun _ _ => rfl)) pe_int) pe_int) pe_int) (pv 1))))))), ?_⟩
    have hB : SqL K H p [.int g, .int m, .int c] := .inl (.inl hb)
    refine ⟨_, rfl, p, _, 0, .int g, rfl, rfl, hB, atI_nat (j := 0) rfl, _, _, rfl, rfl, _, rfl, ite2 (fun e => ?_) (fun e => ?_)⟩
    · refine ⟨_, rfl, p, _, 0, .int g, rfl, rfl, hB, atI_nat (j := 0) rfl, _, rfl, _, _, rfl, rfl, (by omega), ?_⟩
      refine ⟨_, rfl, p, _, 0, .int g, rfl, rfl, hB, atI_nat (j := 0) rfl, _, rfl, _, _, rfl, rfl, wide_div n0 n1 (by decide) (by decide), ?_⟩
      refine ⟨_, rfl, p, _, _, 0, rfl, rfl, hb, rfl, ?_⟩
      refine ⟨_, rfl, ?_⟩
      exact q _ _ (fm0 n0) (fm1 n0) ⟨g / n, m, c, upd_same, Int.ediv_nonneg g0 (by omega), m0, m1⟩ (but_upd _ _ _)
    · refine ⟨_, rfl, p, _, 2, .int c, rfl, rfl, hB, atI_nat (j := 2) rfl, _, _, rfl, rfl, ?_⟩
      refine ⟨_, rfl, p, _, _, 2, rfl, rfl, hb, rfl, ?_⟩
      have h2 : upd H p (.lst [.int g, .int m, .int (c + 1)]) p = some (.lst [.int g, .int m, .int (c + 1)]) := upd_same
      have hB2 : SqL K (upd H p (.lst [.int g, .int m, .int (c + 1)])) p [.int g, .int m, .int (c + 1)] := .inl (.inl h2)
      refine ⟨_, rfl, p, _, 1, .int m, rfl, rfl, hB2, atI_nat (j := 1) rfl, _, _, rfl, rfl, .inr ⟨by decide, by decide⟩, _, rfl, p, _, 2, .int (c + 1), rfl, rfl, hB2, atI_nat (j := 2) rfl, _, _, rfl, rfl, .inl ⟨by decide, by decide⟩, _, _, rfl, rfl, _, _, rfl, rfl, _, _, rfl, rfl, nz1, ?_⟩
      refine ⟨_, rfl, p, _, _, 1, rfl, rfl, h2, rfl, ?_⟩
      have m0' := fm0 (a := m * 48271 + 6661 * (c + 1) + 17) (show (0 : Int) < 2147483647 by decide)
      have m1' := fm1 (a := m * 48271 + 6661 * (c + 1) + 17) (show (0 : Int) < 2147483647 by decide)
      refine ⟨_, rfl, p, _, 1, _, rfl, rfl, .inl (.inl upd_same), atI_nat (j := 1) rfl, _, _, rfl, rfl, ⟨by decide, by decide⟩, _, _, rfl, rfl, ⟨by decide, by decide, ?_⟩, _, _, rfl, rfl, nz2, _, rfl, _, _, rfl, rfl, (by omega), ?_⟩
      · omega
      exact q _ _ (fm0 n0) (fm1 n0) ⟨g, _, c + 1, upd_same, g0, m0', by omega⟩ (but_trans (but_upd _ _ _) (but_upd _ _ _))
theorem le3 : 3 ≤ sizeLine := by decide
theorem nz3 : (8 : Int) ≠ 0 := by decide
theorem primes_at (k : Nat) : ∃ v : Int, 0 < v ∧ v < 2147483648 ∧ atI [V.int 2147483629, V.int 2147483587, V.int 2147483579, V.int 2147483563, V.int 2147483549, V.int 2147483543, V.int 2147483497, V.int 2147483489] ((k : Int).fmod 8) = some (.int v) := by
  have e : (k : Int).fmod 8 = ((k % 8 : Nat) : Int) := by
    rw [Int.fmod_eq_emod_of_nonneg _ (by decide)]
    rfl
  have h : k % 8 < 8 := Nat.mod_lt _ (by decide)
  rw [e]
  generalize k % 8 = j at h
  match j, h with
  | 0, _ => exact ⟨_, by decide, by decide, atI_nat (j := 0) rfl⟩
  | 1, _ => exact ⟨_, by decide, by decide, atI_nat (j := 1) rfl⟩
  | 2, _ => exact ⟨_, by decide, by decide, atI_nat (j := 2) rfl⟩
  | 3, _ => exact ⟨_, by decide, by decide, atI_nat (j := 3) rfl⟩
  | 4, _ => exact ⟨_, by decide, by decide, atI_nat (j := 4) rfl⟩
  | 5, _ => exact ⟨_, by decide, by decide, atI_nat (j := 5) rfl⟩
  | 6, _ => exact ⟨_, by decide, by decide, atI_nat (j := 6) rfl⟩
  | 7, _ => exact ⟨_, by decide, by decide, atI_nat (j := 7) rfl⟩
  | n + 8, h => exact absurd h (by omega)
def spBag (K : PySem.W.Frag) : Sp := fun vs H Q _ => ∃ (a : Addr) (ns : List Int) (k : Nat), vs = [.ref a, .int (k : Int)] ∧ SqL K H a (ns.map V.int) ∧ k ≤ 1000 ∧
  ∀ p H', H p = none → Same H H' → Bag H' p → Q (.ref p) H'
theorem ok_bag (T : Txt K mg) : FnOk P w K mg base CX0 1 T.f_l_bag T.d_l_bag ["_law_script", "_law_at"] (spBag K) := by
  refine T.F_l_bag.ok sc_l_bag (fun vs H Q E h => ?_) (fun cdv A outer s H vs Q E hr h => ?_)
  · obtain ⟨a, ns, k, rfl, _⟩ := h
    rfl
  · obtain ⟨a, ns, k, rfl, hS, hk, q⟩ := h
    refine ⟨_, (pss_cons (ps_set (i := 2) sc_l_bag.nd rfl (.inl rfl) pe_int)
      (C8.pss_cut (ps_if (pt_cmpR op_lt (pv 1) (pe_callB call_len_seq (by rfl) T.z_len (by decide +kernel) (pa_cons (pv 0) pa_nil)) (nomark _)) (pss_one (ps_set (i := 2) sc_l_bag.nd rfl (.inl rfl) (pe_ix (r := rIxL K) ix_list (pv 0) (pv 1) (fun _ _ => rfl)))) pss_nil)
      (pss_cons (ps_set (i := 3) sc_l_bag.nd rfl (.inl rfl) pe_int)
      (C8.pss_cut (ps_if (pt_cmpR op_ge (pe_callB call_abs (by rfl) T.z_abs (by decide +kernel) (pa_cons (pv 2) pa_nil)) (pe_op op_pow pe_int pe_int) (nomark _)) (pss_one (ps_set (i := 3) sc_l_bag.nd rfl (.inl rfl) (pe_callB call_abs (by rfl) T.z_abs (by decide +kernel) (pa_cons (pv 2) pa_nil)))) pss_nil)
      (pss_cons (ps_set (i := 4) sc_l_bag.nd rfl (.inl rfl) (pe_lst (pa_cons pe_int (pa_cons pe_int (pa_cons pe_int (pa_cons pe_int (pa_cons pe_int (pa_cons pe_int (pa_cons pe_int (pa_cons pe_int pa_nil))))))))))
      (pss_one (ps_ret (pe_lst (pa_cons (pv 3) (pa_cons (pe_op op_modN (pe_op op_pow (pe_op op_add (pe_op op_add (pe_op op_modN (pv 2) pe_int) (pe_op op_mul pe_int (pv 1))) pe_int) pe_int) (pe_ix (r := rIxL K) ix_list (pv 4) (pe_op op_modN (pv 1) pe_int) (fun _ _ => rfl))) (pa_cons pe_int pa_nil))))))))))), ?_⟩
    refine ⟨fun σ' H' => H' = H ∧ ∃ c : Int, σ' = [some (.ref a), some (.int (k : Int)), some (.int c), none, none], ?_, fun σ' H' hM => ?_⟩
    · refine ⟨_, rfl, _, rfl, a, _, rfl, .inl hS, _, _, rfl, rfl, _, rfl, ite2 (fun e => ?_) (fun e => ?_)⟩
      · have e2 := of_decide_eq_true e
        have e3 : k < ns.length := by
          rw [List.length_map] at e2
          omega
        have e4 : (ns.map V.int)[k]? = some (.int ns[k]) := by
          rw [List.getElem?_map, List.getElem?_eq_getElem e3]
          rfl
        exact ⟨_, rfl, _, rfl, a, _, _, _, rfl, rfl, hS, atI_nat e4, rfl, _, rfl⟩
      · exact ⟨rfl, _, rfl⟩
    · obtain ⟨rfl, c, rfl⟩ := hM
      refine ⟨fun σ'' H'' => H'' = H' ∧ ∃ g : Int, σ'' = [some (.ref a), some (.int (k : Int)), some (.int c), some (.int g), none] ∧ 0 ≤ g, ?_, fun σ'' H'' hM => ?_⟩
      · refine ⟨_, rfl, _, rfl, _, _, rfl, rfl, ⟨by decide, by decide, by decide⟩, _, _, rfl, rfl, _, rfl, ite2 (fun e => ?_) (fun e => ?_)⟩
        · refine ⟨_, rfl, _, rfl, rfl, _, rfl, ?_⟩
          split <;> omega
        · exact ⟨rfl, _, rfl, by decide⟩
      · obtain ⟨rfl, g, rfl, g0⟩ := hM
        refine ⟨by decide, fun o no => ?_⟩
        obtain ⟨v, v0, v1, hv⟩ := primes_at k
        have h0 := fm0 (a := c) (show (0 : Int) < 2147483647 by decide)
        have h1 := fm1 (a := c) (show (0 : Int) < 2147483647 by decide)
        refine ⟨_, rfl, _, rfl, _, _, rfl, rfl, nz1, _, rfl, _, _, rfl, rfl, .inl ⟨by decide, by decide⟩, _, _, rfl, rfl, _, _, rfl, rfl, _, _, rfl, rfl, ⟨by decide, by decide, by omega⟩, _, rfl, _, rfl, _, _, rfl, rfl, nz3, o, _, _, _, rfl, rfl, .inl (.inl upd_same), hv, _, _, rfl, rfl, by omega, ?_⟩
        refine ⟨le3, fun p np => ?_⟩
        have np' : H'' p = none := (same_new no).free np
        exact q _ _ np' (same_put (same_new no) np') ⟨g, _, 0, upd_same, g0, fm0 v0, by have := fm1 (a := (c.fmod 2147483647 + 104717 * (k : Int) + 13) ^ Int.toNat 5) v0; omega⟩
end
theorem but_put {p q : Addr} {H H1 : Hp} {o : HO} (b : But p H H1) (n : H1 q = none) : But p H (upd H1 q o) := fun c u e nc => by
  have e1 := b c u e nc
  rw [upd_ne (ne_of_none e1 n)]
  exact e1
theorem bag_put {p q : Addr} {H : Hp} {o : HO} (b : Bag H p) (n : H q = none) : Bag (upd H q o) p := by
  obtain ⟨g, m, c, e, r⟩ := b
  exact ⟨g, m, c, by rw [upd_ne (ne_of_none e n)]; exact e, r⟩
theorem bag_same {p : Addr} {H H1 : Hp} (b : Bag H p) (s : Same H H1) : Bag H1 p := by
  obtain ⟨g, m, c, e, r⟩ := b
  exact ⟨g, m, c, s _ _ e, r⟩
theorem bag_ne {p q : Addr} {H : Hp} (b : Bag H p) (n : H q = none) : q ≠ p := by
  obtain ⟨g, m, c, e, r⟩ := b
  exact (ne_of_none e n).symm

end Ob

set_option Elab.async false
set_option linter.all false
set_option maxRecDepth 100000
set_option maxHeartbeats 1000000
namespace Ob
open PySem PySem.Spec PyProof.Rows L2
open LamX (Tabs TabB TabS ExtN)

/-- nothing stands there -/
structure Fr (H : Hp) (p : Addr) : Prop where
  h : H p = none
theorem neN {H : Hp} {a b : Addr} {o : HO} (h' : Fr H b) (h : H a = some o) : a ≠ b := ne_of_none h h'.h
theorem neN' {H : Hp} {a b : Addr} {o : HO} (h' : Fr H a) (h : H b = some o) : a ≠ b := (ne_of_none h h'.h).symm
theorem atNew {H : Hp} {a p : Addr} {o u : HO} (n : Fr H p) (h : H a = some o) : upd H p u a = some o := (upd_ne (ne_of_none h n.h)).trans h
theorem atNe {H : Hp} {a p : Addr} {o u : HO} (n : a ≠ p) (h : H a = some o) : upd H p u a = some o := (upd_ne n).trans h
theorem atSame {H H1 : Hp} {a : Addr} {o : HO} (s : Same H H1) (h : H a = some o) : H1 a = some o := s _ _ h
/-- all is kept but what stands in cs -/
structure Kp (cs : List Addr) (H H' : Hp) : Prop where
  at_ : ∀ b o, H b = some o → b ∉ cs → H' b = some o
theorem kp_refl (cs : List Addr) (H : Hp) : Kp cs H H := ⟨fun _ _ e _ => e⟩
theorem kp_trans {cs : List Addr} {H H1 H2 : Hp} (a : Kp cs H H1) (b : Kp cs H1 H2) : Kp cs H H2 := ⟨fun c o e n => b.at_ c o (a.at_ c o e n) n⟩
theorem kp_up {cs : List Addr} {H H1 : Hp} {a : Addr} {o : HO} (m : a ∈ cs) (h : Kp cs H H1) : Kp cs H (upd H1 a o) := ⟨fun b u e n => by
  rw [upd_ne (show b ≠ a from fun z => n (by rw [z]; exact m))]
  exact h.at_ b u e n⟩
theorem kp_new {cs : List Addr} {H H1 : Hp} {a : Addr} {o : HO} (m : Fr H1 a) (h : Kp cs H H1) : Kp cs H (upd H1 a o) := ⟨fun b u e n => by
  rw [upd_ne (ne_of_none (h.at_ b u e n) m.h)]
  exact h.at_ b u e n⟩
theorem kp_newF {cs : List Addr} {H H1 : Hp} {a : Addr} {o : HO} (m : Fr H a) (h : Kp cs H H1) : Kp cs H (upd H1 a o) := ⟨fun b u e n => by
  rw [upd_ne (ne_of_none e m.h)]
  exact h.at_ b u e n⟩
theorem kp_same {cs : List Addr} {H H1 : Hp} (s : Same H H1) : Kp cs H H1 := ⟨fun b o e _ => s b o e⟩
theorem kp_more {cs ds : List Addr} {H H1 : Hp} (h : Kp cs H H1) (m : ∀ a ∈ cs, a ∈ ds) : Kp ds H H1 := ⟨fun b o e n => h.at_ b o e fun z => n (m b z)⟩
/-- what is changed is new, as H sees it -/
theorem kp_fresh {cs ds : List Addr} {H H1 H2 : Hp} (a : Kp cs H H1) (b : Kp ds H1 H2) (n : ∀ x ∈ ds, x ∈ cs ∨ Fr H x) : Kp cs H H2 := ⟨fun x o e m => b.at_ x o (a.at_ x o e m) fun z => (n x z).elim m fun f => ne_of_none e f.h rfl⟩
theorem atKp {cs : List Addr} {H H1 : Hp} {a : Addr} {o : HO} (s : Kp cs H H1) (n : a ∉ cs) (h : H a = some o) : H1 a = some o := s.at_ _ _ h n
theorem not_nil {a : Addr} : a ∉ ([] : List Addr) := fun z => nomatch z
theorem not_cons {a b : Addr} {l : List Addr} (h : a ≠ b) (t : a ∉ l) : a ∉ b :: l := fun z => (List.mem_cons.mp z).elim h t
theorem not_app {a : Addr} {l m : List Addr} (h : a ∉ l) (t : a ∉ m) : a ∉ l ++ m := fun z => (List.mem_append.mp z).elim h t
theorem sqlOf {K : PySem.W.Frag} {H : Hp} {a : Addr} {xs : List V} (h : H a = some (.lst xs)) : SqL K H a xs := .inl (.inl h)
theorem sqtOf {K : PySem.W.Frag} {H : Hp} {a : Addr} {xs : List V} (h : H a = some (.tup xs)) : SqT K H a xs := .inl (.inl h)
theorem sqlSame {K : PySem.W.Frag} {H H1 : Hp} {a : Addr} {xs : List V} (s : Same H H1) (h : SqL K H a xs) : SqL K H1 a xs := s.seq h
theorem neO {H : Hp} {a b : Addr} {x y : HO} (ha : H a = some x) (hb : H b = some y) (n : x ≠ y) : a ≠ b := fun z => by
  rw [z, hb] at ha
  exact n (Option.some.inj ha).symm
theorem noneOf {H H1 : Hp} {p : Addr} (h : Fr H1 p) (k : ∀ o, H p = some o → ∃ u, H1 p = some u) : Fr H p := ⟨by
  cases e : H p with
  | none => rfl
  | some o =>
    obtain ⟨u, z⟩ := k o e
    rw [h.h] at z
    cases z⟩
theorem same_newF {H : Hp} {p : Addr} {o : HO} (n : Fr H p) : Same H (upd H p o) := same_new n.h
theorem same_putF {H H1 : Hp} {p : Addr} {o : HO} (n : Fr H1 p) (h : Same H H1) : Same H (upd H1 p o) := h.trans (same_new n.h)
theorem same_putG {H H1 : Hp} {p : Addr} {o : HO} (n : Fr H p) (h : Same H H1) : Same H (upd H1 p o) := same_put h n.h
theorem memA {a : Addr} {l : List Addr} : a ∈ a :: l := List.mem_cons_self ..
theorem memB {a b : Addr} {l : List Addr} (h : a ∈ l) : a ∈ b :: l := List.mem_cons_of_mem _ h
theorem memL {a : Addr} {l m : List Addr} (h : a ∈ l) : a ∈ l ++ m := List.mem_append.mpr (.inl h)
theorem memR {a : Addr} {l m : List Addr} (h : a ∈ m) : a ∈ l ++ m := List.mem_append.mpr (.inr h)
theorem kp_transR {cs : List Addr} {H H1 H2 : Hp} (b : Kp cs H1 H2) (a : Kp cs H H1) : Kp cs H H2 := kp_trans a b
theorem kp_sameR {cs : List Addr} {H H1 H2 : Hp} (b : Same H1 H2) (a : Kp cs H H1) : Kp cs H H2 := kp_trans a (kp_same b)
theorem kp_freshR {cs ds : List Addr} {H H1 H2 : Hp} (b : Kp ds H1 H2) (n : ∀ x ∈ ds, x ∈ cs ∨ Fr H x) (a : Kp cs H H1) : Kp cs H H2 := kp_fresh a b n
theorem same_transR {H H1 H2 : Hp} (b : Same H1 H2) (a : Same H H1) : Same H H2 := a.trans b
theorem subNil {P : Addr → Prop} : ∀ x ∈ ([] : List Addr), P x := fun _ h => nomatch h
theorem subCons {P : Addr → Prop} {a : Addr} {l : List Addr} (h : P a) (t : ∀ x ∈ l, P x) : ∀ x ∈ a :: l, P x := fun x m => (List.mem_cons.mp m).elim (fun e => by rw [e]; exact h) (t x)
theorem subApp {P : Addr → Prop} {l m : List Addr} (h : ∀ x ∈ l, P x) (t : ∀ x ∈ m, P x) : ∀ x ∈ l ++ m, P x := fun x e => (List.mem_append.mp e).elim (h x) (t x)
theorem sqtAll {K : PySem.W.Frag} {H : Hp} {a : Addr} {xs : List V} (h : ∀ H, SqT K H a xs) : SqT K H a xs := h H
theorem sqtSame {K : PySem.W.Frag} {H H1 : Hp} {a : Addr} {xs : List V} (s : Same H H1) (h : SqT K H a xs) : SqT K H1 a xs := by
  rcases h with (h | ⟨o, h⟩) | h
  · exact .inl (.inl (s _ _ h))
  · exact .inl (.inr ⟨o, s _ _ h⟩)
  · exact .inr h
theorem frUp {H : Hp} {a p : Addr} {o : HO} (n : p ≠ a) (h : Fr H p) : Fr (upd H a o) p := ⟨by rw [upd_ne n]; exact h.h⟩
theorem bag_putF {p q : Addr} {H : Hp} {o : HO} (n : Fr H q) (b : Bag H p) : Bag (upd H q o) p := bag_put b n.h
theorem bag_kpR {p : Addr} {cs : List Addr} {H H1 : Hp} (k : Kp cs H H1) (n : p ∉ cs) (h : Bag H p) : Bag H1 p := by
  obtain ⟨g, m, c, e, z⟩ := h
  exact ⟨g, m, c, k.at_ _ _ e n, z⟩

/-- a promise that a run does not open by itself -/
structure Bx (p : Prop) : Prop where
  h : p
def bx (sp : Sp) : Sp := fun vs H Q E => Bx (sp vs H Q E)
theorem fnBx {P : Program} {w : World} {K : PySem.W.Frag} {mg : Str → Option Value} {base : Heap} {CX : CXT} {k : Nat} {f : Addr} {fd : FuncData} {ps : List Str} {sp : Sp} (F : FnOk P w K mg base CX k f fd ps sp) : FnOk P w K mg base CX k f fd ps (bx sp) := F.imp fun _ _ _ _ h => h.h

set_option hygiene false in
local macro_rules
  | `(tactic| kp_flats) => `(tactic| first
    | assumption
    | exact upd_same
    | (apply atNew; assumption; kp_flats)
    | (apply atNe; (next => kbo_bools); kp_flats)
    | (apply atSame; assumption; kp_flats)
    | (apply atKp; assumption; (next => kaf_pre); kp_flats))
set_option hygiene false in
local macro_rules
  | `(tactic| kaf_pre) => `(tactic| first
    | assumption
    | exact not_nil
    | (apply not_cons; (next => kbo_bools); kaf_pre)
    | (apply not_app; (next => kaf_pre); kaf_pre))
set_option hygiene false in
local macro_rules
  | `(tactic| kbo_bools) => `(tactic| first
    | assumption
    | (apply Ne.symm; assumption)
    | (apply neN; assumption; kp_flats)
    | (apply neN'; assumption; kp_flats))
set_option hygiene false in
local macro_rules
  | `(tactic| o_reads) => `(tactic| first
    | with_reducible rfl
    | assumption
    | rfl
    | kp_flats
    | (show SqL _ _ _ _; first | assumption | (apply sqlOf; kp_flats) | (apply sqlSame; assumption; o_reads))
    | (show SqT _ _ _ _; first | assumption | (apply sqtOf; kp_flats) | (apply sqtAll; assumption) | (apply sqtSame; assumption; o_reads))
    | (show Cls _ _; first | exact T.cl_Calls | exact T.cl_Joiner | exact T.cl_Planner | exact T.cl_EvenSums | exact T.cl_Shape | exact T.cl_TwoStacks)
    | (show NoAttr _ _ _; first | exact T.n_Calls_entries | exact T.n_Calls_running | exact T.n_Joiner_calls | exact T.n_Joiner_join_call | exact T.n_Planner_entries | exact T.n_EvenSums_calls | exact T.n_EvenSums_joiner | exact T.n_EvenSums_zero | exact T.n_EvenSums_given | exact T.n_EvenSums_held | exact T.n_EvenSums_shape | exact T.n_Shape_front | exact T.n_Shape_back | exact T.n_Shape_late | exact T.n_Shape_renewed | exact T.n_TwoStacks_calls | exact T.n_TwoStacks_joiner | exact T.n_TwoStacks_zero | exact T.n_TwoStacks_given | exact T.n_TwoStacks_held | exact T.n_TwoStacks_front | exact T.n_TwoStacks_back)
    | (apply Or.inl; o_reads)
    | (apply Or.inr; o_reads)
    | (apply And.intro; (next => o_reads); o_reads)
    | (apply Exists.intro; o_reads)
    | exact Nat.le_of_ble_eq_true rfl
    | exact Nat.succ_ne_zero _
    | (show Fr _ _; kba_ints)
    | (show Same _ _; kd_subs)
    | (show Kp _ _ _; kxs_still)
    | (show (_ : Nat) ≤ _; simp only [List.length_append, List.length_map, List.length_cons, List.length_nil, List.length_take, List.length_drop, List.length_replicate, List.length_range, sizeLine_eq]; omega)
    | (show _ = none; apply Fr.h; kba_ints)
    | (show Bag _ _; first | assumption | (apply bag_putF; assumption; o_reads) | (apply bag_neF; (next => kbo_bools); o_reads) | (apply bag_kpR; assumption; (next => kaf_pre); o_reads))
    | omega
    | decide)
local macro_rules
  | `(tactic| o_readsAll) => `(tactic| repeat (first
    | (refine fun (pNew : Addr) (nNew : _ = none) => ?_; replace nNew := Fr.mk nNew)
    | (refine fun (xNew dNew : Addr) (nNew : _ = none) (mNew : _ = none) (eNew : dNew ≠ xNew) => ?_; replace nNew := Fr.mk nNew; replace mNew := Fr.mk mNew)
    | (apply And.intro; next => o_reads)
    | apply Exists.intro (α := V)
    | apply Exists.intro (α := Addr)
    | apply Exists.intro (α := Int)
    | apply Exists.intro (α := Bool)
    | apply Exists.intro (α := List V)
    | apply Exists.intro (α := List Nat)
    | apply Exists.intro (α := List (Str × V))
    | apply Exists.intro (α := List _)
    | apply Exists.intro (α := Str)
    | apply Exists.intro (α := HO)
    | apply Exists.intro (α := Sp)
    | apply Exists.intro (α := VK)))
set_option hygiene false in
local macro_rules
  | `(tactic| kba_ints) => `(tactic| first
    | assumption
    | (apply frUp; (first | assumption | (apply Ne.symm; assumption)); kba_ints)
    | (apply noneOf; assumption; intro oF eF; apply Exists.intro; kp_flats)
    | (apply frUp; (next => kbo_bools); kba_ints))
set_option hygiene false in
local macro_rules
  | `(tactic| kxs_still) => `(tactic| first
    | assumption
    | exact kp_refl _ _
    | (apply kp_newF; assumption; kxs_still)
    | (apply kp_new; assumption; kxs_still)
    | (apply kp_up; (next => o_fieldsN); kxs_still)
    | (apply kp_new; (next => kba_ints); kxs_still)
    | (apply kp_sameR; assumption; kxs_still)
    | (apply kp_transR; assumption; kxs_still)
    | (apply kp_freshR; assumption; (next => kaf_suf); kxs_still))
set_option hygiene false in
local macro_rules
  | `(tactic| kaf_suf) => `(tactic| first
    | assumption
    | exact subNil
    | (apply subCons; (first | (apply Or.inl; o_fieldsN) | (apply Or.inr; kba_ints)); kaf_suf)
    | (apply subApp; (next => kaf_suf); kaf_suf))
set_option hygiene false in
local macro_rules
  | `(tactic| o_fieldsN) => `(tactic| first
    | assumption
    | exact memA
    | (apply memB; o_fieldsN)
    | (apply memL; o_fieldsN)
    | (apply memR; o_fieldsN))
set_option hygiene false in
local macro_rules
  | `(tactic| kd_subs) => `(tactic| first
    | assumption
    | exact Same.refl _
    | (apply same_putF; assumption; kd_subs)
    | (apply same_putG; assumption; kd_subs)
    | (apply same_putF; (next => kba_ints); kd_subs)
    | (apply same_transR; assumption; kd_subs))

/-! ### the calls of a collection -/
def CO (C dx l : Addr) (r : Bool) : HO := .ins C dx [("entries", .ref l), ("running", .bl r)]
section
variable {P : Program} {w : World} {K : PySem.W.Frag} {mg : Str → Option Value} {base : Heap} {n : Nat}
def spCI (C : Addr) : Sp := fun vs H Q _ => ∃ (a dx : Addr), vs = [.ref a] ∧ H a = some (.ins C dx []) ∧ ∀ l H', Fr H l → H' a = some (CO C dx l false) → H' l = some (.lst []) → Kp [a] H H' → Q .non H'
theorem ok_ci (T : Txt K mg) : FnOk P w K mg base CX0 1 T.f_Calls_init T.d_Calls_init ["self"] (spCI T.C_Calls) := by
  refine T.F_Calls_init.ok sc_Calls_init (fun vs H Q E h => ?_) (fun cdv A outer s H vs Q E hr h => ?_)
  · obtain ⟨a, dx, rfl, _⟩ := h
    rfl
  · obtain ⟨a, dx, rfl, ha, q⟩ := h
    refine ⟨_, (pss_cons (ps_fld (pv 0) (pe_lst pa_nil) rfl)
      (pss_one (ps_fld (pv 0) pe_bl rfl))), ?_⟩
    o_readsAll
    rename_i l nl
    exact q _ _ nl (by kp_flats) (by kp_flats) (by kxs_still)
def spChk (C : Addr) : Sp := fun vs H Q _ => ∃ (c dx l : Addr), vs = [.ref c] ∧ H c = some (CO C dx l false) ∧ Q .non H
theorem ok_chk (T : Txt K mg) : FnOk P w K mg base CX0 1 T.f_Calls_check T.d_Calls_check ["self"] (spChk T.C_Calls) := by
  refine T.F_Calls_check.ok sc_Calls_check (fun vs H Q E h => ?_) (fun cdv A outer s H vs Q E hr h => ?_)
  · obtain ⟨a, dx, l, rfl, _⟩ := h
    rfl
  · obtain ⟨c, dx, l, rfl, hc, q⟩ := h
    refine ⟨_, (pss_one (ps_if (pt_val (pe_fld (pv 0) rfl)) pss_never pss_nil)), ?_⟩
    o_readsAll
    exact iteF q
/-- the callable f, called with xs in H: what it does brings Q -/
def Act (P : Program) (w : World) (K : PySem.W.Frag) (mg : Str → Option Value) (base : Heap) (n : Nat) (f : V) (xs : List V) (H : Hp) (Q : VK) : Prop :=
  ∃ (a : Addr) (sp : Sp) (Q0 : VK), f = .ref a ∧ Inf.FnIs K H a ∧ FnR P w K mg base CX0 n a sp ∧ sp xs H Q0 E0 ∧ ∀ v H', Q0 v H' → Q v H'
theorem Act.imp {f : V} {xs : List V} {H : Hp} {Q Q' : VK} (h : Act P w K mg base n f xs H Q) (i : ∀ v H', Q v H' → Q' v H') : Act P w K mg base n f xs H Q' := by
  obtain ⟨a, sp, Q0, h1, h3, h4, h5, h6⟩ := h
  exact ⟨a, sp, Q0, h1, h3, h4, h5, fun v H' z => i _ _ (h6 _ _ z)⟩
theorem fnR_q {k : Nat} {f : Addr} {sp : Sp} (F : FnR P w K mg base CX0 k f sp) : FnR P w K mg base CX0 k f (fun vs H Q E => ∃ Q0 : VK, sp vs H Q0 E ∧ ∀ v H', Q0 v H' → Q v H') := fun A outer s H us vs Q E hr e0 r h => by
  obtain ⟨Q0, h0, hi⟩ := h
  refine codeAny_mono (F A outer s H us vs Q0 E hr e0 r h0) fun res s' hq => ?_
  match res, hq with
  | .error e, z => exact z
  | .ok .next, z => exact z
  | .ok .brk, z => exact z
  | .ok .cont, z => exact z
  | .ok (.ret u), z =>
    obtain ⟨v, H', h1, h2, h3, h4, h5, h6⟩ := z
    exact ⟨v, H', h1, h2, h3, h4, h5, hi _ _ h6⟩
/-- run(entry, action, *values) -/
def spRun (P : Program) (w : World) (K : PySem.W.Frag) (mg : Str → Option Value) (base : Heap) (C : Addr) (n : Nat) : Sp := fun vs H Q E => ∃ (c dx l : Addr) (en f : V) (xs : List V), vs = [.ref c, en, f] ++ xs ∧ xs.length ≤ sizeLine ∧ H c = some (CO C dx l false) ∧
  ∀ H1, Kp [c] H H1 → H1 c = some (CO C dx l true) → Act P w K mg base n f xs H1 (fun v H2 => H2 c = some (CO C dx l true) ∧ ∃ es, H2 l = some (.lst es) ∧ es.length < sizeLine ∧
    ∀ H3, Kp [c, l] H2 H3 → H3 c = some (CO C dx l false) → H3 l = some (.lst (es ++ [en])) → Q v H3)
theorem ok_run (T : Txt K mg) : FnR P w K mg base CX0 (n + 1) T.f_Calls_run (spRun P w K mg base T.C_Calls n) := by
  obtain ⟨oc, od, kV, doc, pm, an, cdv, ct, osl, hfd, lk, hcd⟩ := T.F_Calls_run.ex
  rw [hfd] at lk
  have key := StX.fn_star (P := P) (w := w) (mg := mg) (base := base) (CX := CX0) (k := n) (ps := ["self", "entry", "action"]) (pv := "values") (sp := fun us H Q E => ∃ ws rest p H0, us = ws ++ [.ref p] ∧ ws.length = 3 ∧ H0 p = none ∧ H = upd H0 p (.tup rest) ∧ spRun P w K mg base T.C_Calls n (ws ++ rest) H0 Q E) lk hcd sc_Calls_run StX.cxUp_none (fun us rest hl => ?_) (fun A outer s H vs Q E hr h => ?_)
  · refine key.imp fun vs H Q E h => ?_
    have h' := h
    obtain ⟨c, dx, l, en, f, xs, rfl, lx, _⟩ := h
    exact ⟨[.ref c, en, f], xs, rfl, rfl, lx, fun p np => ⟨[.ref c, en, f], xs, p, H, rfl, rfl, np, rfl, h'⟩⟩
  · match us, hl, rest with
    | [a, b, c], _, [] => rfl
    | [a, b, c], _, r :: rs => rfl
  · obtain ⟨ws, rest, p, H0, rfl, hw, np, rfl, c, dx, l, en, f, xs, e1, lx, hc, q⟩ := h
    obtain ⟨rfl, rfl⟩ := List.append_inj e1 hw
    replace np := Fr.mk np
    refine ⟨_, (pss_cons (ps_fld (pv 0) pe_bl rfl)
      (pss_cons (Inf.ps_fin0 (pss_one (ps_set (i := 4) sc_Calls_run.nd rfl (.inl rfl) (Inf.pe_actG (i := 2) (CX := CX0) (k := n) (E := fun _ => E0) rfl (.inl rfl) hr (fun _ _ _ _ _ _ _ z => False.elim z) (pv 3)))) (pss_one (ps_fld (pv 0) pe_bl rfl)))
      (pss_cons (ps_expr (pe_bm PySem.F.plainAttrs_list PySem.F.slot_list_append PySem.F.type_list_append mt_append (pe_fld (pv 0) rfl) (pa_cons (pv 1) pa_nil)))
      (pss_one (ps_ret (pv 4)))))), ?_⟩
    obtain ⟨a, sp, Q0, rfl, h3, h4, h5, h6⟩ := q (upd (upd H0 p (.tup rest)) c (CO T.C_Calls dx l true)) (by kxs_still) upd_same
    replace h4 := fnR_q h4
    o_readsAll
    intro v H2 hv
    obtain ⟨hc2, es, hl, hs, q2⟩ := h6 v H2 hv
    have hlc : l ≠ c := neO hl hc2 (fun z => nomatch z)
    o_readsAll
    exact q2 _ (by kxs_still) (by kp_flats) (by kp_flats)
end
end Ob

set_option Elab.async false
set_option linter.all false
set_option maxRecDepth 100000
set_option maxHeartbeats 1000000
namespace Ob
open PySem PySem.Spec PyProof.Rows L2
open LamX (Tabs TabB TabS ExtN)

set_option hygiene false in
local macro_rules
  | `(tactic| kp_flats) => `(tactic| first
    | assumption
    | exact upd_same
    | (apply atNew; assumption; kp_flats)
    | (apply atNe; (next => kbo_bools); kp_flats)
    | (apply atSame; assumption; kp_flats)
    | (apply atKp; assumption; (next => kaf_pre); kp_flats))
set_option hygiene false in
local macro_rules
  | `(tactic| kaf_pre) => `(tactic| first
    | assumption
    | exact not_nil
    | (apply not_cons; (next => kbo_bools); kaf_pre)
    | (apply not_app; (next => kaf_pre); kaf_pre))
set_option hygiene false in
local macro_rules
  | `(tactic| kbo_bools) => `(tactic| first
    | assumption
    | (apply Ne.symm; assumption)
    | (apply neN; assumption; kp_flats)
    | (apply neN'; assumption; kp_flats))
set_option hygiene false in
local macro_rules
  | `(tactic| o_reads) => `(tactic| first
    | with_reducible rfl
    | assumption
    | rfl
    | kp_flats
    | (show SqL _ _ _ _; first | assumption | (apply sqlOf; kp_flats) | (apply sqlSame; assumption; o_reads))
    | (show SqT _ _ _ _; first | assumption | (apply sqtOf; kp_flats) | (apply sqtAll; assumption) | (apply sqtSame; assumption; o_reads))
    | (show Cls _ _; first | exact T.cl_Calls | exact T.cl_Joiner | exact T.cl_Planner | exact T.cl_EvenSums | exact T.cl_Shape | exact T.cl_TwoStacks)
    | (show NoAttr _ _ _; first | exact T.n_Calls_entries | exact T.n_Calls_running | exact T.n_Joiner_calls | exact T.n_Joiner_join_call | exact T.n_Planner_entries | exact T.n_EvenSums_calls | exact T.n_EvenSums_joiner | exact T.n_EvenSums_zero | exact T.n_EvenSums_given | exact T.n_EvenSums_held | exact T.n_EvenSums_shape | exact T.n_Shape_front | exact T.n_Shape_back | exact T.n_Shape_late | exact T.n_Shape_renewed | exact T.n_TwoStacks_calls | exact T.n_TwoStacks_joiner | exact T.n_TwoStacks_zero | exact T.n_TwoStacks_given | exact T.n_TwoStacks_held | exact T.n_TwoStacks_front | exact T.n_TwoStacks_back)
    | (apply Or.inl; o_reads)
    | (apply Or.inr; o_reads)
    | (apply And.intro; (next => o_reads); o_reads)
    | (apply Exists.intro; o_reads)
    | exact Nat.le_of_ble_eq_true rfl
    | exact Nat.succ_ne_zero _
    | (show Fr _ _; kba_ints)
    | (show Same _ _; kd_subs)
    | (show Kp _ _ _; kxs_still)
    | (show (_ : Nat) ≤ _; simp only [List.length_append, List.length_map, List.length_cons, List.length_nil, List.length_take, List.length_drop, List.length_replicate, List.length_range, sizeLine_eq]; omega)
    | (show _ = none; apply Fr.h; kba_ints)
    | (show Bag _ _; first | assumption | (apply bag_putF; assumption; o_reads) | (apply bag_neF; (next => kbo_bools); o_reads) | (apply bag_kpR; assumption; (next => kaf_pre); o_reads))
    | omega
    | decide)
local macro_rules
  | `(tactic| o_readsAll) => `(tactic| repeat (first
    | (refine fun (pNew : Addr) (nNew : _ = none) => ?_; replace nNew := Fr.mk nNew)
    | (refine fun (xNew dNew : Addr) (nNew : _ = none) (mNew : _ = none) (eNew : dNew ≠ xNew) => ?_; replace nNew := Fr.mk nNew; replace mNew := Fr.mk mNew)
    | (apply And.intro; next => o_reads)
    | apply Exists.intro (α := V)
    | apply Exists.intro (α := Addr)
    | apply Exists.intro (α := Int)
    | apply Exists.intro (α := Bool)
    | apply Exists.intro (α := List V)
    | apply Exists.intro (α := List Nat)
    | apply Exists.intro (α := List (Str × V))
    | apply Exists.intro (α := List _)
    | apply Exists.intro (α := Str)
    | apply Exists.intro (α := HO)
    | apply Exists.intro (α := Sp)
    | apply Exists.intro (α := VK)))
set_option hygiene false in
local macro_rules
  | `(tactic| kba_ints) => `(tactic| first
    | assumption
    | (apply frUp; (first | assumption | (apply Ne.symm; assumption)); kba_ints)
    | (apply noneOf; assumption; intro oF eF; apply Exists.intro; kp_flats)
    | (apply frUp; (next => kbo_bools); kba_ints))
set_option hygiene false in
local macro_rules
  | `(tactic| kxs_still) => `(tactic| first
    | assumption
    | exact kp_refl _ _
    | (apply kp_newF; assumption; kxs_still)
    | (apply kp_new; assumption; kxs_still)
    | (apply kp_up; (next => o_fieldsN); kxs_still)
    | (apply kp_new; (next => kba_ints); kxs_still)
    | (apply kp_sameR; assumption; kxs_still)
    | (apply kp_transR; assumption; kxs_still)
    | (apply kp_freshR; assumption; (next => kaf_suf); kxs_still))
set_option hygiene false in
local macro_rules
  | `(tactic| kaf_suf) => `(tactic| first
    | assumption
    | exact subNil
    | (apply subCons; (first | (apply Or.inl; o_fieldsN) | (apply Or.inr; kba_ints)); kaf_suf)
    | (apply subApp; (next => kaf_suf); kaf_suf))
set_option hygiene false in
local macro_rules
  | `(tactic| o_fieldsN) => `(tactic| first
    | assumption
    | exact memA
    | (apply memB; o_fieldsN)
    | (apply memL; o_fieldsN)
    | (apply memR; o_fieldsN))
set_option hygiene false in
local macro_rules
  | `(tactic| kd_subs) => `(tactic| first
    | assumption
    | exact Same.refl _
    | (apply same_putF; assumption; kd_subs)
    | (apply same_putG; assumption; kd_subs)
    | (apply same_putF; (next => kba_ints); kd_subs)
    | (apply same_transR; assumption; kd_subs))

def Mu (H : Hp) (cs : List Addr) : Prop := ∀ a ∈ cs, ∃ o, H a = some o ∧ (∀ xs, o ≠ .tup xs) ∧ ∀ φ, o ≠ .ext φ
theorem Mu.tup {H : Hp} {cs : List Addr} {t : Addr} {xs : List V} (n : Mu H cs) (h : H t = some (.tup xs)) : t ∉ cs := fun m => by
  obtain ⟨o, e, k, _⟩ := n t m
  rw [h] at e
  exact k xs (Option.some.inj e).symm
theorem Mu.ext {H : Hp} {cs : List Addr} {t : Addr} {φ : Heap → Prop} (n : Mu H cs) (h : H t = some (.ext φ)) : t ∉ cs := fun m => by
  obtain ⟨o, e, _, k⟩ := n t m
  rw [h] at e
  exact k φ (Option.some.inj e).symm
theorem Mu.fr {H : Hp} {cs : List Addr} {a : Addr} (n : Mu H cs) (f : Fr H a) : a ∉ cs := fun m => by
  obtain ⟨o, e, _⟩ := n a m
  rw [f.h] at e
  cases e
theorem Mu.sub {H : Hp} {cs ds : List Addr} (n : Mu H cs) (s : ∀ a ∈ ds, a ∈ cs) : Mu H ds := fun a m => n a (s a m)
theorem mu_nil {H : Hp} : Mu H [] := fun _ m => nomatch m
theorem mu_cons {H : Hp} {a : Addr} {o : HO} {l : List Addr} (e : H a = some o) (k : ∀ xs, o ≠ .tup xs) (k2 : ∀ φ, o ≠ .ext φ) (t : Mu H l) : Mu H (a :: l) := fun x m => (List.mem_cons.mp m).elim (fun z => by rw [z]; exact ⟨o, e, k, k2⟩) (t x)
theorem mu_lst {H : Hp} {a : Addr} {xs : List V} {l : List Addr} (e : H a = some (.lst xs)) (t : Mu H l) : Mu H (a :: l) := mu_cons e (fun _ z => nomatch z) (fun _ z => nomatch z) t
theorem mu_ins {H : Hp} {a C dx : Addr} {fs : List (Str × V)} {l : List Addr} (e : H a = some (.ins C dx fs)) (t : Mu H l) : Mu H (a :: l) := mu_cons e (fun _ z => nomatch z) (fun _ z => nomatch z) t
theorem mu_app {H : Hp} {l m : List Addr} (a : Mu H l) (b : Mu H m) : Mu H (l ++ m) := fun x h => (List.mem_append.mp h).elim (a x) (b x)
/-- what does not change stays; what changes is told again -/
theorem Mu.kp {H H1 : Hp} {cs ds : List Addr} (n : Mu H cs) (k : Kp ds H H1) (m : Mu H1 ds) : Mu H1 cs := fun a ha => by
  by_cases e : a ∈ ds
  · exact m a e
  · obtain ⟨o, h1, h2⟩ := n a ha
    exact ⟨o, k.at_ _ _ h1 e, h2⟩
theorem Mu.same {H H1 : Hp} {cs : List Addr} (n : Mu H cs) (s : Same H H1) : Mu H1 cs := fun a m => (n a m).imp fun _ z => ⟨s _ _ z.1, z.2⟩
theorem kp_tup {cs : List Addr} {H H1 : Hp} (k : Kp cs H H1) (n : Mu H cs) {t : Addr} {xs : List V} (h : H t = some (.tup xs)) : H1 t = some (.tup xs) := k.at_ _ _ h (n.tup h)

/-- either of two readings -/
def tEither (a b : TE) : TE := fun σ H Q => a σ H Q ∨ b σ H Q
theorem pe_either {X : Cx} {e : Expr} {a b : TE} (h : PE X e a) (k : PE X e b) : PE X e (tEither a b) := ⟨fun pins s σ H Q I z => z.elim (h.run pins s σ H Q I) (k.run pins s σ H Q I)⟩

set_option pp.maxSteps 900
/-! ### spans, and what joins them -/
def seg (ms : List V) (i j : Nat) : List V := (ms.drop i).take (j - i)
theorem seg_app {ms : List V} {i j k : Nat} (a : i ≤ j) (b : j ≤ k) : seg ms i j ++ seg ms j k = seg ms i k := by
  unfold seg
  have e : k - i = (j - i) + (k - j) := by omega
  rw [e, List.take_add, List.drop_drop]
  rw [show i + (j - i) = j by omega]
theorem seg_one {ms : List V} {i : Nat} {m : V} (h : ms[i]? = some m) : seg ms i (i + 1) = [m] := by
  unfold seg
  obtain ⟨l, rfl⟩ := List.getElem?_eq_some_iff.mp h
  rw [List.drop_eq_getElem_cons l, show i + 1 - i = 1 by omega]
  rfl
theorem seg_len {ms : List V} {i j : Nat} (b : j ≤ ms.length) : (seg ms i j).length = j - i := by
  unfold seg
  rw [List.length_take, List.length_drop]
  omega
theorem seg_more {ms ns : List V} {i j : Nat} (b : j ≤ ms.length) : seg (ms ++ ns) i j = seg ms i j := by
  unfold seg
  by_cases c : i ≤ ms.length
  · rw [List.drop_append_of_le_length c, List.take_append_of_le_length (by rw [List.length_drop]; omega)]
  · rw [show j - i = 0 by omega]
    rfl
abbrev JEv := V × V × V × (Nat × Nat × Nat)
/-- the entry of an event -/
abbrev entOf (ev : JEv) : Nat × Nat × Nat := ev.2.2.2
section
variable {P : Program} {w : World} {K : PySem.W.Frag} {mg : Str → Option Value} {base : Heap} {n : Nat}
/-- what a join does: of values of two runs of members it makes that of both, and notes the call -/
structure JS (P : Program) (w : World) (K : PySem.W.Frag) (mg : Str → Option Value) (base : Heap) (n : Nat) (lb : Bool) (uv : List Addr) (f : V) (UR : List JEv → Hp → Prop) (Val : Nat → List V → V → Hp → Prop) : Prop where
  ur : ∀ {cs : List Addr} {u : List JEv} {H H1 : Hp}, UR u H → Kp cs H H1 → Mu H cs → (∀ a ∈ uv, a ∉ cs) → UR u H1
  val : ∀ {cs : List Addr} {i : Nat} {xs : List V} {v : V} {H H1 : Hp}, Val i xs v H → Kp cs H H1 → Mu H cs → Val i xs v H1
  mu : ∀ {u : List JEv} {H : Hp}, UR u H → Mu H uv
  pl : lb = false → ∀ (u : List JEv) (i : Nat) (xs : List V) (v : V) (H : Hp), UR u H ∧ Val i xs v H
  act : lb = true → ∀ {i : Nat} {xs ys : List V} {a b : V} {u : List JEv} {H : Hp} {Q : VK}, Val i xs a H → Val (i + xs.length) ys b H → UR u H → u.length < 90000 → xs.length + ys.length < 90000 → (∀ v H', Kp uv H H' → UR (u ++ [(a, b, v, (i, i + xs.length, i + xs.length + ys.length))]) H' → Val i (xs ++ ys) v H' → Q v H') → Act P w K mg base n f [a, b] H Q
def SpanAt (Val : Nat → List V → V → Hp → Prop) (ms : List V) (s : V) (i j : Nat) (H : Hp) : Prop := i < j ∧ j ≤ ms.length ∧ ∃ (p : Addr) (v : V), s = .ref p ∧ H p = some (.tup [.int i, .int j, v]) ∧ Val i (seg ms i j) v H
theorem SpanAt.kp {lb : Bool} {uv : List Addr} {f : V} {UR : List JEv → Hp → Prop} {Val : Nat → List V → V → Hp → Prop} (U : JS P w K mg base n lb uv f UR Val) {ms : List V} {s : V} {i j : Nat} {H H1 : Hp} {cs : List Addr} (h : SpanAt Val ms s i j H) (k : Kp cs H H1) (m : Mu H cs) : SpanAt Val ms s i j H1 := by
  obtain ⟨h1, h2, p, v, h3, h4, h5⟩ := h
  exact ⟨h1, h2, p, v, h3, kp_tup k m h4, U.val h5 k m⟩
theorem SpanAt.more {Val : Nat → List V → V → Hp → Prop} {ms ns : List V} {s : V} {i j : Nat} {H : Hp} (h : SpanAt Val ms s i j H) : SpanAt Val (ms ++ ns) s i j H := by
  obtain ⟨h1, h2, p, v, h3, h4, h5⟩ := h
  exact ⟨h1, by rw [List.length_append]; omega, p, v, h3, h4, by rw [seg_more h2]; exact h5⟩
/-- an entry of the log -/
def JEnt (H : Hp) (x : V) (e : Nat × Nat × Nat) : Prop := ∃ p a b : Addr, x = .ref p ∧ H p = some (.tup [.str "join", .ref a, .ref b]) ∧ H a = some (.tup [.int e.1, .int e.2.1]) ∧ H b = some (.tup [.int e.2.1, .int e.2.2])
structure JLog (H : Hp) (xs : List V) (es : List (Nat × Nat × Nat)) : Prop where
  len : xs.length = es.length
  at_ : ∀ (q : Nat) (x : V) (e : Nat × Nat × Nat), xs[q]? = some x → es[q]? = some e → JEnt H x e
theorem JEnt.kp {H H1 : Hp} {x : V} {e : Nat × Nat × Nat} {cs : List Addr} (h : JEnt H x e) (k : Kp cs H H1) (m : Mu H cs) : JEnt H1 x e := by
  obtain ⟨p, a, b, h1, h2, h3, h4⟩ := h
  exact ⟨p, a, b, h1, kp_tup k m h2, kp_tup k m h3, kp_tup k m h4⟩
theorem JLog.kp {H H1 : Hp} {xs : List V} {es : List (Nat × Nat × Nat)} {cs : List Addr} (h : JLog H xs es) (k : Kp cs H H1) (m : Mu H cs) : JLog H1 xs es := ⟨h.len, fun q x e a b => (h.at_ q x e a b).kp k m⟩
theorem JLog.add {H : Hp} {xs : List V} {es : List (Nat × Nat × Nat)} {x : V} {e : Nat × Nat × Nat} (h : JLog H xs es) (g : JEnt H x e) : JLog H (xs ++ [x]) (es ++ [e]) := by
  refine ⟨by rw [List.length_append, List.length_append, h.len]; rfl, fun q y d a b => ?_⟩
  by_cases c : q < xs.length
  · rw [List.getElem?_append_left c] at a
    rw [List.getElem?_append_left (by rw [← h.len]; exact c)] at b
    exact h.at_ q y d a b
  · rw [List.getElem?_append_right (by omega)] at a
    rw [List.getElem?_append_right (by rw [← h.len]; omega), ← h.len] at b
    match q - xs.length, a, b with
    | 0, a, b =>
      cases a
      cases b
      exact g
    | r + 1, a, b => cases a
/-- a planner, with its entries -/
def PO (C dx l : Addr) : HO := .ins C dx [("entries", .ref l)]
abbrev CJ {K : PySem.W.Frag} {mg : Str → Option Value} (T : Txt K mg) : Addr × Addr := (T.C_Joiner, T.C_Planner)
def JO (C dx c : Addr) (f : V) : HO := .ins C dx [("calls", .ref c), ("join_call", f)]
theorem jo_co {C dx c C' dx' l : Addr} {f : V} {r : Bool} : JO C dx c f ≠ CO C' dx' l r := fun z => by
  unfold JO CO at z
  injection z with _ _ z
  injection z with z _
  injection z with z _
  revert z
  decide
theorem fr_kp {cs : List Addr} {H H1 : Hp} {p : Addr} (k : Kp cs H H1) (m : Mu H1 cs) (f : Fr H1 p) : Fr H p := noneOf f fun o e => by
  by_cases c : p ∈ cs
  · obtain ⟨u, h, _⟩ := m p c
    exact ⟨u, h⟩
  · exact ⟨o, k.at_ _ _ e c⟩
/-- the joiner of a queue, its log and what its join has noted -/
structure JW (Cj : Addr × Addr) (Cc : Addr) (lb : Bool) (uv : List Addr) (f : V) (UR : List JEv → Hp → Prop) (j jdx c cdx l : Addr) (u : List JEv) (es : List (Nat × Nat × Nat)) (H : Hp) : Prop where
  st : (lb = true ∧ H j = some (JO Cj.1 jdx c f) ∧ H c = some (CO Cc cdx l false)) ∨ (lb = false ∧ c = j ∧ H j = some (PO Cj.2 jdx l))
  lg : ∃ xs, H l = some (.lst xs) ∧ JLog H xs es
  ur : UR u H
  ue : es = u.map entOf
  nj : j ∉ uv
  nc : c ∉ uv
  nl : l ∉ uv
variable {lb : Bool} {uv : List Addr} {f : V} {UR : List JEv → Hp → Prop} {Val : Nat → List V → V → Hp → Prop} {Cj : Addr × Addr} {Cc j jdx c cdx l : Addr} {u : List JEv} {es : List (Nat × Nat × Nat)} {H H1 : Hp}
theorem JW.hj (h : JW Cj Cc true uv f UR j jdx c cdx l u es H) : H j = some (JO Cj.1 jdx c f) := by
  rcases h.st with ⟨_, z, _⟩ | ⟨z, _⟩
  · exact z
  · cases z
theorem JW.hc (h : JW Cj Cc true uv f UR j jdx c cdx l u es H) : H c = some (CO Cc cdx l false) := by
  rcases h.st with ⟨_, _, z⟩ | ⟨z, _⟩
  · exact z
  · cases z
theorem JW.mk1 (hj : H j = some (JO Cj.1 jdx c f)) (hc : H c = some (CO Cc cdx l false)) (lg : ∃ xs, H l = some (.lst xs) ∧ JLog H xs es) (ur : UR u H) (ue : es = u.map entOf) (nj : j ∉ uv) (nc : c ∉ uv) (nl : l ∉ uv) : JW Cj Cc true uv f UR j jdx c cdx l u es H := ⟨.inl ⟨rfl, hj, hc⟩, lg, ur, ue, nj, nc, nl⟩
theorem JW.mu (U : JS P w K mg base n lb uv f UR Val) (h : JW Cj Cc lb uv f UR j jdx c cdx l u es H) : Mu H ([c, l] ++ uv) := by
  obtain ⟨xs, h1, h2⟩ := h.lg
  rcases h.st with ⟨_, _, hc⟩ | ⟨_, e, hj⟩
  · exact mu_app (mu_ins hc (mu_lst h1 mu_nil)) (U.mu h.ur)
  · exact mu_app (mu_ins (by rw [e]; exact hj) (mu_lst h1 mu_nil)) (U.mu h.ur)
theorem JW.kp (U : JS P w K mg base n lb uv f UR Val) {cs : List Addr} (h : JW Cj Cc lb uv f UR j jdx c cdx l u es H) (k : Kp cs H H1) (m : Mu H cs) (nj : j ∉ cs) (nc : c ∉ cs) (nl : l ∉ cs) (nu : ∀ a ∈ uv, a ∉ cs) : JW Cj Cc lb uv f UR j jdx c cdx l u es H1 := by
  obtain ⟨xs, h1, h2⟩ := h.lg
  refine ⟨?_, ⟨xs, k.at_ _ _ h1 nl, h2.kp k m⟩, U.ur h.ur k m nu, h.ue, h.nj, h.nc, h.nl⟩
  rcases h.st with ⟨e, hj, hc⟩ | ⟨e, ec, hj⟩
  · exact .inl ⟨e, k.at_ _ _ hj nj, k.at_ _ _ hc nc⟩
  · exact .inr ⟨e, ec, k.at_ _ _ hj nj⟩
theorem JW.same (U : JS P w K mg base n lb uv f UR Val) (h : JW Cj Cc lb uv f UR j jdx c cdx l u es H) (s : Same H H1) : JW Cj Cc lb uv f UR j jdx c cdx l u es H1 := h.kp U (cs := []) (kp_same s) mu_nil not_nil not_nil not_nil fun _ _ => not_nil
def spEnt : Sp := fun vs H Q _ => ∃ (p q : Addr) (i j k : Nat) (a b : V), vs = [.ref p, .ref q] ∧ H p = some (.tup [.int i, .int j, a]) ∧ H q = some (.tup [.int j, .int k, b]) ∧ ∀ x H', Same H H' → JEnt H' (.ref x) (i, j, k) → Q (.ref x) H'
theorem ok_ent (T : Txt K mg) : FnOk P w K mg base CX0 1 T.f_join_entry T.d_join_entry ["one", "other"] spEnt := by
  refine T.F_join_entry.ok sc_join_entry (fun vs H Q E h => ?_) (fun cdv A outer s H vs Q E hr h => ?_)
  · obtain ⟨p, q, i, j, k, a, b, rfl, _⟩ := h
    rfl
  · obtain ⟨p, q, i, j, k, a, b, rfl, h1, h2, hq⟩ := h
    refine ⟨_, (pss_one (ps_ret (pe_tup (pa_cons pe_str (pa_cons (pe_tup (pa_cons (pe_ix (r := rIxT K) ix_tup (pv 0) pe_int (fun _ _ => rfl)) (pa_cons (pe_ix (r := rIxT K) ix_tup (pv 0) pe_int (fun _ _ => rfl)) pa_nil))) (pa_cons (pe_tup (pa_cons (pe_ix (r := rIxT K) ix_tup (pv 1) pe_int (fun _ _ => rfl)) (pa_cons (pe_ix (r := rIxT K) ix_tup (pv 1) pe_int (fun _ _ => rfl)) pa_nil))) pa_nil)))))), ?_⟩
    refine ⟨_, rfl, p, _, 0, _, rfl, rfl, sqtOf h1, atI_nat (j := 0) rfl, _, rfl, p, _, 1, _, rfl, rfl, sqtOf h1, atI_nat (j := 1) rfl, le2, fun x1 n1 => ?_⟩
    have f1 := Fr.mk n1
    have s1 : Same H (upd H x1 (.tup [.int i, .int j])) := same_newF f1
    refine ⟨_, rfl, q, _, 0, _, rfl, rfl, sqtOf (s1 _ _ h2), atI_nat (j := 0) rfl, _, rfl, q, _, 1, _, rfl, rfl, sqtOf (s1 _ _ h2), atI_nat (j := 1) rfl, le2, fun x2 n2 => ⟨(by decide : 3 ≤ sizeLine), fun x3 n3 => ?_⟩⟩
    have f2 := Fr.mk n2
    have f3 := Fr.mk n3
    have s2 : Same (upd H x1 (.tup [.int i, .int j])) (upd (upd H x1 (.tup [.int i, .int j])) x2 (.tup [.int j, .int k])) := same_newF f2
    have s3 : Same (upd (upd H x1 (.tup [.int i, .int j])) x2 (.tup [.int j, .int k])) (upd (upd (upd H x1 (.tup [.int i, .int j])) x2 (.tup [.int j, .int k])) x3 (.tup [.str "join", .ref x1, .ref x2])) := same_newF f3
    exact hq x3 _ (s1.trans (s2.trans s3)) ⟨x3, x1, x2, rfl, upd_same, s3 _ _ (s2 _ _ upd_same), s3 _ _ upd_same⟩
def spSingle : Sp := fun vs H Q _ => ∃ (i : Nat) (m : V), vs = [.int i, m] ∧ ∀ p H', H' = upd H p (.tup [.int i, .int (i + 1 : Nat), m]) → Fr H p → Q (.ref p) H'
theorem ok_single (T : Txt K mg) : FnOk P w K mg base CX0 1 T.f_single T.d_single ["number", "member"] spSingle := by
  refine T.F_single.ok sc_single (fun vs H Q E h => ?_) (fun cdv A outer s H vs Q E hr h => ?_)
  · obtain ⟨i, m, rfl, _⟩ := h
    rfl
  · obtain ⟨i, m, rfl, q⟩ := h
    refine ⟨_, (pss_one (ps_ret (pe_tup (pa_cons (pv 0) (pa_cons (pe_op op_add (pv 0) pe_int) (pa_cons (pv 1) pa_nil)))))), ?_⟩
    refine ⟨_, rfl, _, rfl, _, _, rfl, rfl, _, rfl, (by decide : 3 ≤ sizeLine), fun p np => ?_⟩
    exact q p _ rfl (Fr.mk np)
/-- a span, or None where there is no member -/
def OptSpan (Val : Nat → List V → V → Hp → Prop) (ms : List V) (s : V) (i j : Nat) (H : Hp) : Prop := (s = .non ∧ i = j ∧ j ≤ ms.length) ∨ SpanAt Val ms s i j H
def spLen (Val : Nat → List V → V → Hp → Prop) : Sp := fun vs H Q _ => ∃ (ms : List V) (s : V) (i j : Nat), vs = [s] ∧ OptSpan Val ms s i j H ∧ Q (.int ((j - i : Nat) : Int)) H
theorem ok_splen (T : Txt K mg) (Val : Nat → List V → V → Hp → Prop) : FnOk P w K mg base CX0 1 T.f_span_length T.d_span_length ["span"] (spLen Val) := by
  refine T.F_span_length.ok sc_span_length (fun vs H Q E h => ?_) (fun cdv A outer s H vs Q E hr h => ?_)
  · obtain ⟨ms, x, i, j, rfl, _⟩ := h
    rfl
  · obtain ⟨ms, x, i, j, rfl, hs, q⟩ := h
    refine ⟨_, (pss_cons (ps_if (pt_cmpR op_isN (pv 0) pe_non (nomark _)) (pss_one (ps_ret pe_int)) pss_nil)
      (pss_one (ps_ret (pe_op op_sub (pe_ix (r := rIxT K) ix_tup (pv 0) pe_int (fun _ _ => rfl)) (pe_ix (r := rIxT K) ix_tup (pv 0) pe_int (fun _ _ => rfl)))))), ?_⟩
    rcases hs with ⟨rfl, rfl, l⟩ | ⟨h1, h2, p, v, rfl, h3, _⟩
    · refine ⟨_, rfl, rfl, _, rfl, ?_⟩
      refine ifT (decide_eq_true rfl) ?_
      rw [Nat.sub_self] at q
      exact q
    · refine ⟨_, rfl, rfl, _, rfl, ?_⟩
      refine ifF (decide_eq_false fun z => nomatch z) ?_
      refine ⟨_, rfl, p, _, 1, _, rfl, rfl, sqtOf h3, atI_nat (j := 1) rfl, _, rfl, p, _, 0, _, rfl, rfl, sqtOf h3, atI_nat (j := 0) rfl, _, _, rfl, rfl, ?_⟩
      rw [show ((j - i : Nat) : Int) = (j : Int) - (i : Int) by omega] at q
      exact q
/-- joined(one, other) -/
def spJoined (P : Program) (w : World) (K : PySem.W.Frag) (mg : Str → Option Value) (base : Heap) (Cj : Addr × Addr) (Cc : Addr) (n : Nat) (lb : Bool) : Sp := fun vs H Q _ => ∃ (uv : List Addr) (f : V) (UR : List JEv → Hp → Prop) (Val : Nat → List V → V → Hp → Prop) (j jdx c cdx l : Addr) (u : List JEv) (es : List (Nat × Nat × Nat)) (ms : List V) (s t : V) (i m k : Nat),
  vs = [.ref j, s, t] ∧ JS P w K mg base n lb uv f UR Val ∧ JW Cj Cc lb uv f UR j jdx c cdx l u es H ∧ u.length < 90000 ∧ es.length < 90000 ∧ ms.length < 90000 ∧ SpanAt Val ms s i m H ∧ SpanAt Val ms t m k H ∧
  ∀ p (ev : JEv) H', Fr H p → Kp ([c, l] ++ uv) H H' → JW Cj Cc lb uv f UR j jdx c cdx l (u ++ [ev]) (es ++ [(i, m, k)]) H' → SpanAt Val ms (.ref p) i k H' → Q (.ref p) H'
theorem ok_joined (T : Txt K mg) : FnOk P w K mg base CX0 (n + 4) T.f_Joiner_joined T.d_Joiner_joined ["self", "one", "other"] (spJoined P w K mg base (CJ T) T.C_Calls n true) := by
  have G_join_entry := ok_ent (P := P) (w := w) (base := base) T
  have G_Calls_run := ok_run (P := P) (w := w) (base := base) (n := n) T
  refine T.F_Joiner_joined.ok sc_Joiner_joined (fun vs H Q E h => ?_) (fun cdv A outer s H vs Q E hr h => ?_)
  · obtain ⟨uv, f, UR, Val, j, jdx, c, cdx, l, u, es, ms, s, t, i, m, k, rfl, _⟩ := h
    rfl
  · obtain ⟨uv, f, UR, Val, j, jdx, c, cdx, l, u, es, ms, s, t, i, m, k, rfl, U, jw, lu, le, lms, ⟨h1, h2, p1, v1, rfl, h3, h4⟩, ⟨h5, h6, p2, v2, rfl, h7, h8⟩, q⟩ := h
    refine ⟨_, (pss_cons (ps_set (i := 3) sc_Joiner_joined.nd rfl (.inl rfl) (pe_methR (pe_fld (pv 0) rfl) T.cl_Calls ⟨T.m_Calls_run, T.t_Calls_run, T.k_Calls_run⟩ G_Calls_run (hr.mono (by omega)) pass0 (pa_cons (pe_call G_join_entry (hr.mono (by omega)) rfl T.g_join_entry T.F_join_entry.kp T.b_join_entry .nil pass0 (pa_cons (pv 1) (pa_cons (pv 2) pa_nil))) (pa_cons (pe_fld (pv 0) rfl) (pa_cons (pe_ix (r := rIxT K) ix_tup (pv 1) pe_int (fun _ _ => rfl)) (pa_cons (pe_ix (r := rIxT K) ix_tup (pv 2) pe_int (fun _ _ => rfl)) pa_nil))))))
      (pss_one (ps_ret (pe_tup (pa_cons (pe_ix (r := rIxT K) ix_tup (pv 1) pe_int (fun _ _ => rfl)) (pa_cons (pe_ix (r := rIxT K) ix_tup (pv 2) pe_int (fun _ _ => rfl)) (pa_cons (pv 3) pa_nil))))))), ?_⟩
    have hj := jw.hj
    have hc := jw.hc
    o_readsAll
    intro x H1 s1 je
    have jw1 := jw.same U s1
    have hj1 := jw1.hj
    have hc1 := jw1.hc
    have e3 := s1 _ _ h3
    have e7 := s1 _ _ h7
    refine ⟨_, rfl, j, _, _, _, f, rfl, hj1, T.cl_Joiner, T.n_Joiner_join_call, rfl, _, rfl, p1, _, 2, _, rfl, rfl, sqtOf e3, atI_nat (j := 2) rfl, _, rfl, p2, _, 2, _, rfl, rfl, sqtOf e7, atI_nat (j := 2) rfl, c, cdx, l, .ref x, f, [v1, v2], rfl, (by decide : 2 ≤ sizeLine), hc1, fun H2 k2 c2 => ?_⟩
    have m1 : Mu H1 [c] := mu_ins hc1 mu_nil
    obtain ⟨xs1, l1, g1⟩ := jw1.lg
    have nlc : l ≠ c := neO l1 hc1 (fun z => nomatch z)
    have njc : j ≠ c := neO hj1 hc1 jo_co
    have k02 : Kp [c] H H2 := kp_trans (kp_same s1) k2
    have m0 : Mu H [c] := mu_ins hc mu_nil
    have ur2 := U.ur jw.ur k02 m0 fun a m => not_cons (fun z => jw.nc (by rw [← z]; exact m)) not_nil
    have hv1 := U.val h4 k02 m0
    have hv2 := U.val h8 k02 m0
    have ee1 : i + (seg ms i m).length = m := by rw [seg_len h2]; omega
    have ee2 : m + (seg ms m k).length = k := by rw [seg_len h6]; omega
    refine U.act rfl (i := i) hv1 (by rw [ee1]; exact hv2) ur2 lu (by rw [seg_len h2, seg_len h6]; omega) fun v H3 k3 ur3 hv3 => ?_
    rw [ee1, ee2] at ur3
    have mu2 := U.mu ur2
    have c3 := k3.at_ _ _ c2 jw.nc
    have l2 : H2 l = some (.lst xs1) := k2.at_ _ _ l1 (not_cons nlc not_nil)
    have l3 := k3.at_ _ _ l2 jw.nl
    refine ⟨c3, xs1, l3, by rw [g1.len, sizeLine_eq]; omega, fun H4 k4 c4 l4 => ?_⟩
    have m3 : Mu H3 [c, l] := mu_ins c3 (mu_lst l3 mu_nil)
    have m2 : Mu H2 uv := mu2
    have ur4 := U.ur ur3 k4 m3 fun a m => not_cons (fun z => jw.nc (by rw [← z]; exact m)) (not_cons (fun z => jw.nl (by rw [← z]; exact m)) not_nil)
    have e1 := kp_tup k4 m3 (kp_tup k3 m2 (kp_tup k2 m1 e3))
    have e2 := kp_tup k4 m3 (kp_tup k3 m2 (kp_tup k2 m1 e7))
    have je4 := ((je.kp k2 m1).kp k3 m2).kp k4 m3
    have g4 := ((g1.kp k2 m1).kp k3 m2).kp k4 m3
    have hj4 := k4.at_ _ _ (k3.at_ _ _ (k2.at_ _ _ hj1 (not_cons njc not_nil)) jw.nj) (not_cons njc (not_cons (neO hj1 l1 (fun z => nomatch z)) not_nil))
    have jw4 : JW (CJ T) T.C_Calls true uv f UR j jdx c cdx l (u ++ [(v1, v2, v, (i, m, k))]) (es ++ [(i, m, k)]) H4 := JW.mk1 hj4 c4 ⟨_, l4, g4.add je4⟩ ur4 (by rw [List.map_append, ← jw.ue]; rfl) jw.nj jw.nc jw.nl
    have kk : Kp ([c, l] ++ uv) H H4 := kp_trans (kp_more k02 (subCons (memL memA) subNil)) (kp_trans (kp_more k3 fun a m => memR m) (kp_more k4 fun a m => memL m))
    refine ⟨_, rfl, p1, _, 0, _, rfl, rfl, sqtOf e1, atI_nat (j := 0) rfl, _, rfl, p2, _, 1, _, rfl, rfl, sqtOf e2, atI_nat (j := 1) rfl, _, rfl, (by decide : 3 ≤ sizeLine), fun p np => ?_⟩
    have fp := Fr.mk np
    have sp : Same H4 (upd H4 p (.tup [.int i, .int k, v])) := same_newF fp
    rw [seg_app (Nat.le_of_lt h1) (Nat.le_of_lt h5)] at hv3
    exact q p (v1, v2, v, (i, m, k)) _ (fr_kp kk (jw4.mu U) fp) (kp_trans kk (kp_same sp)) (jw4.same U sp) ⟨Nat.lt_trans h1 h5, h6, p, v, rfl, upd_same, U.val (U.val hv3 k4 m3) (kp_same (cs := []) sp) mu_nil⟩
/-- joined(one, other) of a planner -/
theorem ok_pjoined (T : Txt K mg) : FnOk P w K mg base CX0 (n + 4) T.f_Planner_joined T.d_Planner_joined ["self", "one", "other"] (spJoined P w K mg base (CJ T) T.C_Calls n false) := by
  have G_join_entry := ok_ent (P := P) (w := w) (base := base) T
  refine T.F_Planner_joined.ok sc_Planner_joined (fun vs H Q E h => ?_) (fun cdv A outer s H vs Q E hr h => ?_)
  · obtain ⟨uv, f, UR, Val, j, jdx, c, cdx, l, u, es, ms, s, t, i, m, k, rfl, _⟩ := h
    rfl
  · obtain ⟨uv, f, UR, Val, j, jdx, c, cdx, l, u, es, ms, s, t, i, m, k, rfl, U, jw, lu, le, lms, ⟨h1, h2, p1, v1, rfl, h3, h4⟩, ⟨h5, h6, p2, v2, rfl, h7, h8⟩, q⟩ := h
    refine ⟨_, (pss_cons (ps_expr (pe_bm PySem.F.plainAttrs_list PySem.F.slot_list_append PySem.F.type_list_append mt_append (pe_fld (pv 0) rfl) (pa_cons (pe_call G_join_entry (hr.mono (by omega)) rfl T.g_join_entry T.F_join_entry.kp T.b_join_entry .nil pass0 (pa_cons (pv 1) (pa_cons (pv 2) pa_nil))) pa_nil)))
      (pss_one (ps_ret (pe_tup (pa_cons (pe_ix (r := rIxT K) ix_tup (pv 1) pe_int (fun _ _ => rfl)) (pa_cons (pe_ix (r := rIxT K) ix_tup (pv 2) pe_int (fun _ _ => rfl)) (pa_cons pe_non pa_nil))))))), ?_⟩
    have hj : c = j ∧ H j = some (PO (CJ T).2 jdx l) := by
      rcases jw.st with ⟨z, _⟩ | ⟨_, z⟩
      · cases z
      · exact z
    obtain ⟨ec, hj⟩ := hj
    obtain ⟨xs, hl, hg⟩ := jw.lg
    refine ⟨_, rfl, j, _, _, _, .ref l, rfl, hj, T.cl_Planner, T.n_Planner_entries, rfl, .inl ⟨rfl, _, sqlOf hl⟩, _, rfl, _, rfl, p1, p2, i, m, k, v1, v2, rfl, h3, h7, fun x H1 s1 je => ?_⟩
    have hl1 := s1 _ _ hl
    have hj1 := s1 _ _ hj
    have e3 := s1 _ _ h3
    have e7 := s1 _ _ h7
    have g1 := hg.kp (kp_same (cs := []) s1) mu_nil
    refine ⟨l, _, _, rfl, rfl, hl1, by rw [hg.len, sizeLine_eq]; omega, ?_⟩
    have k2 : Kp [l] H1 (upd H1 l (.lst (xs ++ [.ref x]))) := kp_up memA (kp_refl _ _)
    have m1 : Mu H1 [l] := mu_lst hl1 mu_nil
    have e2 : upd H1 l (.lst (xs ++ [.ref x])) l = some (.lst (xs ++ [.ref x])) := upd_same
    have njl : j ≠ l := neO hj hl (fun z => nomatch z)
    refine ⟨_, rfl, p1, _, 0, _, rfl, rfl, sqtOf (kp_tup k2 m1 e3), atI_nat (j := 0) rfl, _, rfl, p2, _, 1, _, rfl, rfl, sqtOf (kp_tup k2 m1 e7), atI_nat (j := 1) rfl, (by decide : 3 ≤ sizeLine), fun p np => ?_⟩
    have fp := Fr.mk np
    have sp : Same (upd H1 l (.lst (xs ++ [.ref x]))) (upd (upd H1 l (.lst (xs ++ [.ref x]))) p (.tup [.int i, .int k, .non])) := same_newF fp
    have kk : Kp ([c, l] ++ uv) H (upd H1 l (.lst (xs ++ [.ref x]))) := kp_trans (kp_same s1) (kp_more k2 (subCons (memB memA) subNil))
    have jw2 : JW (CJ T) T.C_Calls false uv f UR j jdx c cdx l (u ++ [(v1, v2, .non, (i, m, k))]) (es ++ [(i, m, k)]) (upd H1 l (.lst (xs ++ [.ref x]))) := ⟨.inr ⟨rfl, ec, k2.at_ _ _ hj1 (not_cons njl not_nil)⟩, ⟨_, e2, (g1.kp k2 m1).add (je.kp k2 m1)⟩, (U.pl rfl _ 0 [] .non _).1, (by rw [List.map_append, ← jw.ue]; rfl), jw.nj, jw.nc, jw.nl⟩
    exact q p (v1, v2, .non, (i, m, k)) _ (fr_kp kk (jw2.mu U) fp) (kp_trans kk (kp_same sp)) (jw2.same U sp) ⟨Nat.lt_trans h1 h5, h6, p, .non, rfl, upd_same, (U.pl rfl [] _ _ _ _).2⟩
end
end Ob

set_option Elab.async false
set_option linter.all false
set_option maxRecDepth 100000
set_option maxHeartbeats 1000000
namespace Ob
open PySem PySem.Spec PyProof.Rows L2
open LamX (Tabs TabB TabS ExtN)

set_option hygiene false in
local macro_rules
  | `(tactic| kp_flats) => `(tactic| first
    | assumption
    | exact upd_same
    | (apply atNew; assumption; kp_flats)
    | (apply atNe; (next => kbo_bools); kp_flats)
    | (apply atSame; assumption; kp_flats)
    | (apply atKp; assumption; (next => kaf_pre); kp_flats))
set_option hygiene false in
local macro_rules
  | `(tactic| kaf_pre) => `(tactic| first
    | assumption
    | exact not_nil
    | (apply not_cons; (next => kbo_bools); kaf_pre)
    | (apply not_app; (next => kaf_pre); kaf_pre))
set_option hygiene false in
local macro_rules
  | `(tactic| kbo_bools) => `(tactic| first
    | assumption
    | (apply Ne.symm; assumption)
    | (apply neN; assumption; kp_flats)
    | (apply neN'; assumption; kp_flats))
set_option hygiene false in
local macro_rules
  | `(tactic| o_reads) => `(tactic| first
    | with_reducible rfl
    | assumption
    | rfl
    | kp_flats
    | (show SqL _ _ _ _; first | assumption | (apply sqlOf; kp_flats) | (apply sqlSame; assumption; o_reads))
    | (show SqT _ _ _ _; first | assumption | (apply sqtOf; kp_flats) | (apply sqtAll; assumption) | (apply sqtSame; assumption; o_reads))
    | (show Cls _ _; first | exact T.cl_Calls | exact T.cl_Joiner | exact T.cl_Planner | exact T.cl_EvenSums | exact T.cl_Shape | exact T.cl_TwoStacks)
    | (show NoAttr _ _ _; first | exact T.n_Calls_entries | exact T.n_Calls_running | exact T.n_Joiner_calls | exact T.n_Joiner_join_call | exact T.n_Planner_entries | exact T.n_EvenSums_calls | exact T.n_EvenSums_joiner | exact T.n_EvenSums_zero | exact T.n_EvenSums_given | exact T.n_EvenSums_held | exact T.n_EvenSums_shape | exact T.n_Shape_front | exact T.n_Shape_back | exact T.n_Shape_late | exact T.n_Shape_renewed | exact T.n_TwoStacks_calls | exact T.n_TwoStacks_joiner | exact T.n_TwoStacks_zero | exact T.n_TwoStacks_given | exact T.n_TwoStacks_held | exact T.n_TwoStacks_front | exact T.n_TwoStacks_back)
    | (apply Or.inl; o_reads)
    | (apply Or.inr; o_reads)
    | (apply And.intro; (next => o_reads); o_reads)
    | (apply Exists.intro; o_reads)
    | exact Nat.le_of_ble_eq_true rfl
    | exact Nat.succ_ne_zero _
    | (show Fr _ _; kba_ints)
    | (show Same _ _; kd_subs)
    | (show Kp _ _ _; kxs_still)
    | (show (_ : Nat) ≤ _; simp only [List.length_append, List.length_map, List.length_cons, List.length_nil, List.length_take, List.length_drop, List.length_replicate, List.length_range, sizeLine_eq]; omega)
    | (show _ = none; apply Fr.h; kba_ints)
    | (show Bag _ _; first | assumption | (apply bag_putF; assumption; o_reads) | (apply bag_neF; (next => kbo_bools); o_reads) | (apply bag_kpR; assumption; (next => kaf_pre); o_reads))
    | omega
    | decide)
local macro_rules
  | `(tactic| o_readsAll) => `(tactic| repeat (first
    | (refine fun (pNew : Addr) (nNew : _ = none) => ?_; replace nNew := Fr.mk nNew)
    | (refine fun (xNew dNew : Addr) (nNew : _ = none) (mNew : _ = none) (eNew : dNew ≠ xNew) => ?_; replace nNew := Fr.mk nNew; replace mNew := Fr.mk mNew)
    | (apply And.intro; next => o_reads)
    | apply Exists.intro (α := V)
    | apply Exists.intro (α := Addr)
    | apply Exists.intro (α := Int)
    | apply Exists.intro (α := Bool)
    | apply Exists.intro (α := List V)
    | apply Exists.intro (α := List Nat)
    | apply Exists.intro (α := List (Str × V))
    | apply Exists.intro (α := List _)
    | apply Exists.intro (α := Str)
    | apply Exists.intro (α := HO)
    | apply Exists.intro (α := Sp)
    | apply Exists.intro (α := VK)))
set_option hygiene false in
local macro_rules
  | `(tactic| kba_ints) => `(tactic| first
    | assumption
    | (apply frUp; (first | assumption | (apply Ne.symm; assumption)); kba_ints)
    | (apply noneOf; assumption; intro oF eF; apply Exists.intro; kp_flats)
    | (apply frUp; (next => kbo_bools); kba_ints))
set_option hygiene false in
local macro_rules
  | `(tactic| kxs_still) => `(tactic| first
    | assumption
    | exact kp_refl _ _
    | (apply kp_newF; assumption; kxs_still)
    | (apply kp_new; assumption; kxs_still)
    | (apply kp_up; (next => o_fieldsN); kxs_still)
    | (apply kp_new; (next => kba_ints); kxs_still)
    | (apply kp_sameR; assumption; kxs_still)
    | (apply kp_transR; assumption; kxs_still)
    | (apply kp_freshR; assumption; (next => kaf_suf); kxs_still))
set_option hygiene false in
local macro_rules
  | `(tactic| kaf_suf) => `(tactic| first
    | assumption
    | exact subNil
    | (apply subCons; (first | (apply Or.inl; o_fieldsN) | (apply Or.inr; kba_ints)); kaf_suf)
    | (apply subApp; (next => kaf_suf); kaf_suf))
set_option hygiene false in
local macro_rules
  | `(tactic| o_fieldsN) => `(tactic| first
    | assumption
    | exact memA
    | (apply memB; o_fieldsN)
    | (apply memL; o_fieldsN)
    | (apply memR; o_fieldsN))
set_option hygiene false in
local macro_rules
  | `(tactic| kd_subs) => `(tactic| first
    | assumption
    | exact Same.refl _
    | (apply same_putF; assumption; kd_subs)
    | (apply same_putG; assumption; kd_subs)
    | (apply same_putF; (next => kba_ints); kd_subs)
    | (apply same_transR; assumption; kd_subs))

set_option pp.maxSteps 900
section
variable {P : Program} {w : World} {K : PySem.W.Frag} {mg : Str → Option Value} {base : Heap} {n : Nat}
def extE (i m : Nat) : List (Nat × Nat × Nat) := if i = m then [] else [(i, m, m + 1)]
/-- a member, as it stands alone -/
def Alone (Val : Nat → List V → V → Hp → Prop) (ms : List V) (i : Nat) (m : V) (H : Hp) : Prop := ms[i]? = some m ∧ Val i [m] m H
theorem Alone.kp {lb : Bool} {uv : List Addr} {f : V} {UR : List JEv → Hp → Prop} {Val : Nat → List V → V → Hp → Prop} (U : JS P w K mg base n lb uv f UR Val) {ms : List V} {m : V} {i : Nat} {H H1 : Hp} {cs : List Addr} (h : Alone Val ms i m H) (k : Kp cs H H1) (mu : Mu H cs) : Alone Val ms i m H1 := ⟨h.1, U.val h.2 k mu⟩
theorem Alone.span {Val : Nat → List V → V → Hp → Prop} {ms : List V} {m : V} {i : Nat} {H : Hp} {p : Addr} (h : Alone Val ms i m H) (e : H p = some (.tup [.int i, .int (i + 1 : Nat), m])) : SpanAt Val ms (.ref p) i (i + 1) H := by
  refine ⟨Nat.lt_succ_self i, (List.getElem?_eq_some_iff.mp h.1).1, p, m, rfl, e, ?_⟩
  rw [seg_one h.1]
  exact h.2
def spExt (P : Program) (w : World) (K : PySem.W.Frag) (mg : Str → Option Value) (base : Heap) (Cj : Addr × Addr) (Cc : Addr) (n : Nat) : Sp := fun vs H Q _ => ∃ (lb : Bool) (uv : List Addr) (f : V) (UR : List JEv → Hp → Prop) (Val : Nat → List V → V → Hp → Prop) (j jdx c cdx l : Addr) (u : List JEv) (es : List (Nat × Nat × Nat)) (ms : List V) (s mem : V) (i m : Nat),
  vs = [.ref j, s, .int m, mem] ∧ JS P w K mg base n lb uv f UR Val ∧ JW Cj Cc lb uv f UR j jdx c cdx l u es H ∧ u.length < 90000 ∧ es.length < 90000 ∧ ms.length < 90000 ∧ OptSpan Val ms s i m H ∧ Alone Val ms m mem H ∧
  ∀ r d H', d.length = (extE i m).length → Kp ([c, l] ++ uv) H H' → JW Cj Cc lb uv f UR j jdx c cdx l (u ++ d) (es ++ extE i m) H' → SpanAt Val ms r i (m + 1) H' → Q r H'
theorem ok_ext (T : Txt K mg) : FnOk P w K mg base CX0 (n + 6) T.f_extended T.d_extended ["joiner", "span", "number", "member"] (spExt P w K mg base (CJ T) T.C_Calls n) := by
  have G_single := ok_single (P := P) (w := w) (base := base) T
  have G_Joiner_joined := ok_joined (P := P) (w := w) (base := base) (n := n) T
  have G_Planner_joined := ok_pjoined (P := P) (w := w) (base := base) (n := n) T
  refine T.F_extended.ok sc_extended (fun vs H Q E h => ?_) (fun cdv A outer s H vs Q E hr h => ?_)
  · obtain ⟨lb, uv, f, UR, Val, j, jdx, c, cdx, l, u, es, ms, s, mem, i, m, rfl, _⟩ := h
    rfl
  · obtain ⟨lb, uv, f, UR, Val, j, jdx, c, cdx, l, u, es, ms, s, mem, i, m, rfl, U, jw, lu, le, lms, hs, ha, q⟩ := h
    refine ⟨_, (pss_cons (ps_if (pt_cmpR op_isN (pv 1) pe_non (nomark _)) (pss_one (ps_ret (pe_call G_single (hr.mono (by omega)) rfl T.g_single T.F_single.kp T.b_single .nil pass0 (pa_cons (pv 2) (pa_cons (pv 3) pa_nil))))) pss_nil)
      (pss_one (ps_ret (pe_either (pe_meth (pv 0) T.cl_Joiner ⟨T.m_Joiner_joined, T.t_Joiner_joined, T.k_Joiner_joined⟩ G_Joiner_joined (hr.mono (by omega)) T.b_Joiner_joined .nil pass0 (pa_cons (pv 1) (pa_cons (pe_call G_single (hr.mono (by omega)) rfl T.g_single T.F_single.kp T.b_single .nil pass0 (pa_cons (pv 2) (pa_cons (pv 3) pa_nil))) pa_nil))) (pe_meth (pv 0) T.cl_Planner ⟨T.m_Planner_joined, T.t_Planner_joined, T.k_Planner_joined⟩ G_Planner_joined (hr.mono (by omega)) T.b_Planner_joined .nil pass0 (pa_cons (pv 1) (pa_cons (pe_call G_single (hr.mono (by omega)) rfl T.g_single T.F_single.kp T.b_single .nil pass0 (pa_cons (pv 2) (pa_cons (pv 3) pa_nil))) pa_nil))))))), ?_⟩
    rcases hs with ⟨rfl, rfl, lm⟩ | hs
    · refine ⟨_, rfl, rfl, _, rfl, ?_⟩
      refine ifT (decide_eq_true rfl) ?_
      refine ⟨_, rfl, _, rfl, i, mem, rfl, fun p H1 e1 fp => ?_⟩
      subst e1
      have sp : Same H (upd H p (.tup [.int i, .int (i + 1 : Nat), mem])) := same_newF fp
      refine q (.ref p) [] _ (by unfold extE; rw [if_pos rfl]; rfl) (kp_same sp) ?_ ((ha.kp U (cs := []) (kp_same sp) mu_nil).span upd_same)
      unfold extE
      rw [if_pos rfl, List.append_nil, List.append_nil]
      exact jw.same U sp
    · obtain ⟨h1, h2, p0, v0, rfl, h3, h4⟩ := id hs
      refine ⟨_, rfl, rfl, _, rfl, ?_⟩
      refine ifF (decide_eq_false fun z => nomatch z) ?_
      rcases jw.st with ⟨elv, hj, hc⟩ | ⟨elv, ecj, hj⟩
      · subst elv
        refine .inl ⟨_, rfl, j, jdx, _, rfl, hj, rfl, _, rfl, _, rfl, _, rfl, m, mem, rfl, fun p H1 e1 fp => ?_⟩
        subst e1
        have sp : Same H (upd H p (.tup [.int m, .int (m + 1 : Nat), mem])) := same_newF fp
        have ha1 := (ha.kp U (cs := []) (kp_same sp) mu_nil).span upd_same
        refine ⟨uv, f, UR, Val, j, jdx, c, cdx, l, u, es, ms, _, _, i, m, m + 1, rfl, U, jw.same U sp, lu, le, lms, hs.kp U (cs := []) (kp_same sp) mu_nil, ha1, fun r evt H2 fr k2 jw2 hs2 => ?_⟩
        have e : extE i m = [(i, m, m + 1)] := by
          unfold extE
          exact if_neg (Nat.ne_of_lt h1)
        exact q (.ref r) [evt] H2 (by rw [e]; rfl) (kp_trans (kp_same sp) k2) (by rw [e]; exact jw2) hs2
      · subst elv
        refine .inr ⟨_, rfl, j, jdx, _, rfl, hj, rfl, _, rfl, _, rfl, _, rfl, m, mem, rfl, fun p H1 e1 fp => ?_⟩
        subst e1
        have sp : Same H (upd H p (.tup [.int m, .int (m + 1 : Nat), mem])) := same_newF fp
        have ha1 := (ha.kp U (cs := []) (kp_same sp) mu_nil).span upd_same
        refine ⟨uv, f, UR, Val, j, jdx, c, cdx, l, u, es, ms, _, _, i, m, m + 1, rfl, U, jw.same U sp, lu, le, lms, hs.kp U (cs := []) (kp_same sp) mu_nil, ha1, fun r evt H2 fr k2 jw2 hs2 => ?_⟩
        have e : extE i m = [(i, m, m + 1)] := by
          unfold extE
          exact if_neg (Nat.ne_of_lt h1)
        exact q (.ref r) [evt] H2 (by rw [e]; rfl) (kp_trans (kp_same sp) k2) (by rw [e]; exact jw2) hs2
/-- spans that end at one member, the shortest first -/
structure SpansTo (Val : Nat → List V → V → Hp → Prop) (ms : List V) (xs : List V) (e k : Nat) (H : Hp) : Prop where
  len : xs.length = k
  le : k ≤ e
  lm : e ≤ ms.length
  at_ : ∀ q s, xs[q]? = some s → SpanAt Val ms s (e - 1 - q) e H
theorem SpansTo.kp {lb : Bool} {uv : List Addr} {f : V} {UR : List JEv → Hp → Prop} {Val : Nat → List V → V → Hp → Prop} (U : JS P w K mg base n lb uv f UR Val) {ms xs : List V} {e k : Nat} {H H1 : Hp} {cs : List Addr} (h : SpansTo Val ms xs e k H) (kk : Kp cs H H1) (m : Mu H cs) : SpansTo Val ms xs e k H1 := ⟨h.len, h.le, h.lm, fun q s e => (h.at_ q s e).kp U kk m⟩
theorem SpansTo.more {Val : Nat → List V → V → Hp → Prop} {ms ns xs : List V} {e k : Nat} {H : Hp} (h : SpansTo Val ms xs e k H) : SpansTo Val (ms ++ ns) xs e k H := ⟨h.len, h.le, by rw [List.length_append]; have := h.lm; omega, fun q s e => (h.at_ q s e).more⟩
theorem SpansTo.add {Val : Nat → List V → V → Hp → Prop} {ms xs : List V} {e k : Nat} {H : Hp} {s : V} (h : SpansTo Val ms xs e k H) (l : k < e) (hs : SpanAt Val ms s (e - 1 - k) e H) : SpansTo Val ms (xs ++ [s]) e (k + 1) H := by
  refine ⟨by rw [List.length_append, h.len]; rfl, l, h.lm, fun q t z => ?_⟩
  by_cases c : q < xs.length
  · rw [List.getElem?_append_left c] at z
    exact h.at_ q t z
  · rw [List.getElem?_append_right (by omega)] at z
    match hz : q - xs.length, z with
    | 0, z =>
      cases z
      rw [show q = k by have := h.len; omega]
      exact hs
    | r + 1, z => cases z
theorem SpansTo.cut {Val : Nat → List V → V → Hp → Prop} {ms xs : List V} {e k : Nat} {H : Hp} (h : SpansTo Val ms xs e (k + 1) H) : SpansTo Val ms (xs.take (xs.length - 1)) e k H := by
  have := h.len
  have := h.le
  refine ⟨by rw [List.length_take]; omega, by omega, h.lm, fun q t z => ?_⟩
  rw [List.getElem?_take] at z
  split at z
  · exact h.at_ q t z
  · cases z
theorem atI_end {xs : List V} {k : Nat} {s : V} (l : xs.length = k + 1) (h : xs[k]? = some s) : atI xs (-1) = some s := by
  have e : xs = xs.take k ++ [s] := by
    have := List.take_succ (l := xs) (i := k)
    rw [h, ← l, List.take_length] at this
    exact this
  rw [e]
  exact atI_last _ _
def deepE (e k : Nat) : List (Nat × Nat × Nat) := if k = 0 then [] else [(e - 1 - k, e - k, e)]
def spDeep (P : Program) (w : World) (K : PySem.W.Frag) (mg : Str → Option Value) (base : Heap) (Cj : Addr × Addr) (Cc : Addr) (n : Nat) : Sp := fun vs H Q _ => ∃ (lb : Bool) (uv : List Addr) (f : V) (UR : List JEv → Hp → Prop) (Val : Nat → List V → V → Hp → Prop) (j jdx c cdx l : Addr) (u : List JEv) (es : List (Nat × Nat × Nat)) (ms xs : List V) (a : Addr) (mem : V) (e k : Nat),
  vs = [.ref j, .ref a, .int (e - 1 - k : Nat), mem] ∧ JS P w K mg base n lb uv f UR Val ∧ JW Cj Cc lb uv f UR j jdx c cdx l u es H ∧ u.length < 90000 ∧ es.length < 90000 ∧ ms.length < 90000 ∧ H a = some (.lst xs) ∧ a ∉ [c, l] ++ uv ∧ SpansTo Val ms xs e k H ∧ k < e ∧ k < 90000 ∧ Alone Val ms (e - 1 - k) mem H ∧
  ∀ r ys d H', d.length = (deepE e k).length → Fr H r → Kp ([c, l] ++ uv) H H' → JW Cj Cc lb uv f UR j jdx c cdx l (u ++ d) (es ++ deepE e k) H' → H' r = some (.lst ys) → SpansTo Val ms ys e (k + 1) H' → Q (.ref r) H'
theorem ok_deep (T : Txt K mg) : FnOk P w K mg base CX0 (n + 6) T.f_deepened T.d_deepened ["joiner", "spans", "number", "member"] (spDeep P w K mg base (CJ T) T.C_Calls n) := by
  have G_single := ok_single (P := P) (w := w) (base := base) T
  have G_Joiner_joined := ok_joined (P := P) (w := w) (base := base) (n := n) T
  have G_Planner_joined := ok_pjoined (P := P) (w := w) (base := base) (n := n) T
  refine T.F_deepened.ok sc_deepened (fun vs H Q E h => ?_) (fun cdv A outer s H vs Q E hr h => ?_)
  · obtain ⟨lb, uv, f, UR, Val, j, jdx, c, cdx, l, u, es, ms, xs, a, mem, e, k, rfl, _⟩ := h
    rfl
  · obtain ⟨lb, uv, f, UR, Val, j, jdx, c, cdx, l, u, es, ms, xs, a, mem, e, k, rfl, U, jw, lu, le, lms, hl, na, hs, lk, l9, ha, q⟩ := h
    refine ⟨_, (pss_cons (ps_set (i := 4) sc_deepened.nd rfl (.inl rfl) (pe_call G_single (hr.mono (by omega)) rfl T.g_single T.F_single.kp T.b_single .nil pass0 (pa_cons (pv 2) (pa_cons (pv 3) pa_nil))))
      (pss_cons (ps_if (pt_cmpR op_eq (pe_callB call_len_seq (by rfl) T.z_len (by decide +kernel) (pa_cons (pv 1) pa_nil)) pe_int (nomark _)) (pss_one (ps_ret (pe_lst (pa_cons (pv 4) pa_nil)))) pss_nil)
      (pss_one (ps_ret (pe_op op_cat (pv 1) (pe_lst (pa_cons (pe_either (pe_meth (pv 0) T.cl_Joiner ⟨T.m_Joiner_joined, T.t_Joiner_joined, T.k_Joiner_joined⟩ G_Joiner_joined (hr.mono (by omega)) T.b_Joiner_joined .nil pass0 (pa_cons (pv 4) (pa_cons (pe_ix (r := rIxL K) ix_list (pv 1) (pe_un un_neg pe_int) (fun _ _ => rfl)) pa_nil))) (pe_meth (pv 0) T.cl_Planner ⟨T.m_Planner_joined, T.t_Planner_joined, T.k_Planner_joined⟩ G_Planner_joined (hr.mono (by omega)) T.b_Planner_joined .nil pass0 (pa_cons (pv 4) (pa_cons (pe_ix (r := rIxL K) ix_list (pv 1) (pe_un un_neg pe_int) (fun _ _ => rfl)) pa_nil)))) pa_nil))))))), ?_⟩
    refine ⟨_, rfl, _, rfl, e - 1 - k, mem, rfl, fun p H1 e1 fp => ?_⟩
    have ei : e - 1 - k + 1 = e - k := by omega
    rw [ei] at e1
    subst e1
    have sp : Same H (upd H p (.tup [.int (e - 1 - k : Nat), .int (e - k : Nat), mem])) := same_newF fp
    have k1 : Kp ([c, l] ++ uv) H (upd H p (.tup [.int (e - 1 - k : Nat), .int (e - k : Nat), mem])) := kp_same sp
    have ha1 : SpanAt Val ms (.ref p) (e - 1 - k) (e - k) (upd H p (.tup [.int (e - 1 - k : Nat), .int (e - k : Nat), mem])) := by
      have := (ha.kp U (cs := []) (kp_same sp) mu_nil).span (p := p) (by rw [ei]; exact upd_same)
      rw [ei] at this
      exact this
    have jw1 := jw.same U sp
    have hs1 := hs.kp U (cs := []) (kp_same sp) mu_nil
    have hl1 := sp _ _ hl
    generalize upd H p (.tup [.int (e - 1 - k : Nat), .int (e - k : Nat), mem]) = H1 at *
    refine ⟨_, rfl, a, _, rfl, .inl (sqlOf hl1), rfl, _, rfl, ?_⟩
    by_cases c0 : k = 0
    · subst c0
      have ex : xs = [] := List.length_eq_zero_iff.mp hs.len
      subst ex
      refine ifT (decide_eq_true rfl) ?_
      refine ⟨_, rfl, (by decide : 1 ≤ sizeLine), fun r nr => ?_⟩
      have fr := Fr.mk nr
      have sr : Same H1 (upd H1 r (.lst [.ref p])) := same_newF fr
      have kr := kp_same (cs := []) sr
      refine q r [.ref p] [] _ (by unfold deepE; rw [if_pos rfl]; rfl) (fr_kp k1 (jw1.mu U) fr) (kp_trans k1 (kp_same sr)) ?_ upd_same ?_
      · unfold deepE
        rw [if_pos rfl, List.append_nil, List.append_nil]
        exact jw1.same U sr
      · have := (hs1.kp U kr mu_nil).add lk (ha1.kp U kr mu_nil)
        exact this
    · have ln := hs.len
      have hx : ∃ s0, xs[k - 1]? = some s0 := ⟨_, List.getElem?_eq_getElem (by omega)⟩
      obtain ⟨s0, hx⟩ := hx
      have h0 := hs1.at_ _ _ hx
      rw [show e - 1 - (k - 1) = e - k by omega] at h0
      refine ifF (decide_eq_false fun z => ?_) ?_
      · injection z with z
        omega
      rcases jw1.st with ⟨elv, hj, hc⟩ | ⟨elv, ecj, hj⟩
      · subst elv
        refine ⟨_, rfl, .inl ⟨_, rfl, j, jdx, _, rfl, hj, rfl, _, rfl, _, rfl, 1, rfl, a, _, -1, s0, rfl, rfl, sqlOf hl1, atI_end (k := k - 1) (by omega) hx, ?_⟩⟩
        refine ⟨uv, f, UR, Val, j, jdx, c, cdx, l, u, es, ms, _, _, e - 1 - k, e - k, e, rfl, U, jw1, lu, le, lms, ha1, h0, fun r evt H2 fr k2 jw2 hs2 => ⟨(by decide : 1 ≤ sizeLine), fun r2 nr2 => ?_⟩⟩
        have m1 := jw1.mu U
        have fr2 := Fr.mk nr2
        have hl2 := k2.at_ _ _ hl1 na
        have na2 : a ≠ r2 := ne_of_none hl2 nr2
        refine ⟨a, r2, xs, [.ref r], rfl, rfl, atNe na2 hl2, upd_same, by rw [ln, sizeLine_eq]; show k + 1 ≤ _; omega, fun r3 nr3 => ?_⟩
        have fr3 := Fr.mk nr3
        have s2 : Same H2 (upd H2 r2 (.lst [.ref r])) := same_newF fr2
        have s3 : Same H2 (upd (upd H2 r2 (.lst [.ref r])) r3 (.lst (xs ++ [.ref r]))) := s2.trans (same_newF fr3)
        have f3 : Fr H2 r3 := Fr.mk (s2.free nr3)
        have ed : deepE e k = [(e - 1 - k, e - k, e)] := by
          unfold deepE
          exact if_neg c0
        have k12 := kp_trans k1 k2
        refine q r3 (xs ++ [.ref r]) [evt] _ (by rw [ed]; rfl) (fr_kp k12 (jw2.mu U) f3) (kp_trans k12 (kp_same s3)) (by rw [ed]; exact jw2.same U s3) upd_same ?_
        exact ((hs1.kp U k2 m1).kp U (cs := []) (kp_same s3) mu_nil).add lk (hs2.kp U (cs := []) (kp_same s3) mu_nil)
      · subst elv
        refine ⟨_, rfl, .inr ⟨_, rfl, j, jdx, _, rfl, hj, rfl, _, rfl, _, rfl, 1, rfl, a, _, -1, s0, rfl, rfl, sqlOf hl1, atI_end (k := k - 1) (by omega) hx, ?_⟩⟩
        refine ⟨uv, f, UR, Val, j, jdx, c, cdx, l, u, es, ms, _, _, e - 1 - k, e - k, e, rfl, U, jw1, lu, le, lms, ha1, h0, fun r evt H2 fr k2 jw2 hs2 => ⟨(by decide : 1 ≤ sizeLine), fun r2 nr2 => ?_⟩⟩
        have m1 := jw1.mu U
        have fr2 := Fr.mk nr2
        have hl2 := k2.at_ _ _ hl1 na
        have na2 : a ≠ r2 := ne_of_none hl2 nr2
        refine ⟨a, r2, xs, [.ref r], rfl, rfl, atNe na2 hl2, upd_same, by rw [ln, sizeLine_eq]; show k + 1 ≤ _; omega, fun r3 nr3 => ?_⟩
        have fr3 := Fr.mk nr3
        have s2 : Same H2 (upd H2 r2 (.lst [.ref r])) := same_newF fr2
        have s3 : Same H2 (upd (upd H2 r2 (.lst [.ref r])) r3 (.lst (xs ++ [.ref r]))) := s2.trans (same_newF fr3)
        have f3 : Fr H2 r3 := Fr.mk (s2.free nr3)
        have ed : deepE e k = [(e - 1 - k, e - k, e)] := by
          unfold deepE
          exact if_neg c0
        have k12 := kp_trans k1 k2
        refine q r3 (xs ++ [.ref r]) [evt] _ (by rw [ed]; rfl) (fr_kp k12 (jw2.mu U) f3) (kp_trans k12 (kp_same s3)) (by rw [ed]; exact jw2.same U s3) upd_same ?_
        exact ((hs1.kp U k2 m1).kp U (cs := []) (kp_same s3) mu_nil).add lk (hs2.kp U (cs := []) (kp_same s3) mu_nil)
end
end Ob

set_option Elab.async false
set_option linter.all false
set_option maxRecDepth 100000
set_option maxHeartbeats 1000000
namespace Ob
open PySem PySem.Spec PyProof.Rows L2
open LamX (Tabs TabB TabS ExtN)

set_option hygiene false in
local macro_rules
  | `(tactic| kp_flats) => `(tactic| first
    | assumption
    | exact upd_same
    | (apply atNew; assumption; kp_flats)
    | (apply atNe; (next => kbo_bools); kp_flats)
    | (apply atSame; assumption; kp_flats)
    | (apply atKp; assumption; (next => kaf_pre); kp_flats))
set_option hygiene false in
local macro_rules
  | `(tactic| kaf_pre) => `(tactic| first
    | assumption
    | exact not_nil
    | (apply not_cons; (next => kbo_bools); kaf_pre)
    | (apply not_app; (next => kaf_pre); kaf_pre))
set_option hygiene false in
local macro_rules
  | `(tactic| kbo_bools) => `(tactic| first
    | assumption
    | (apply Ne.symm; assumption)
    | (apply neN; assumption; kp_flats)
    | (apply neN'; assumption; kp_flats))
set_option hygiene false in
local macro_rules
  | `(tactic| o_reads) => `(tactic| first
    | with_reducible rfl
    | assumption
    | rfl
    | kp_flats
    | (show SqL _ _ _ _; first | assumption | (apply sqlOf; kp_flats) | (apply sqlSame; assumption; o_reads))
    | (show SqT _ _ _ _; first | assumption | (apply sqtOf; kp_flats) | (apply sqtAll; assumption) | (apply sqtSame; assumption; o_reads))
    | (show Cls _ _; first | exact T.cl_Calls | exact T.cl_Joiner | exact T.cl_Planner | exact T.cl_EvenSums | exact T.cl_Shape | exact T.cl_TwoStacks)
    | (show NoAttr _ _ _; first | exact T.n_Calls_entries | exact T.n_Calls_running | exact T.n_Joiner_calls | exact T.n_Joiner_join_call | exact T.n_Planner_entries | exact T.n_EvenSums_calls | exact T.n_EvenSums_joiner | exact T.n_EvenSums_zero | exact T.n_EvenSums_given | exact T.n_EvenSums_held | exact T.n_EvenSums_shape | exact T.n_Shape_front | exact T.n_Shape_back | exact T.n_Shape_late | exact T.n_Shape_renewed | exact T.n_TwoStacks_calls | exact T.n_TwoStacks_joiner | exact T.n_TwoStacks_zero | exact T.n_TwoStacks_given | exact T.n_TwoStacks_held | exact T.n_TwoStacks_front | exact T.n_TwoStacks_back)
    | (apply Or.inl; o_reads)
    | (apply Or.inr; o_reads)
    | (apply And.intro; (next => o_reads); o_reads)
    | (apply Exists.intro; o_reads)
    | exact Nat.le_of_ble_eq_true rfl
    | exact Nat.succ_ne_zero _
    | (show Fr _ _; kba_ints)
    | (show Same _ _; kd_subs)
    | (show Kp _ _ _; kxs_still)
    | (show (_ : Nat) ≤ _; simp only [List.length_append, List.length_map, List.length_cons, List.length_nil, List.length_take, List.length_drop, List.length_replicate, List.length_range, sizeLine_eq]; omega)
    | (show _ = none; apply Fr.h; kba_ints)
    | (show Bag _ _; first | assumption | (apply bag_putF; assumption; o_reads) | (apply bag_neF; (next => kbo_bools); o_reads) | (apply bag_kpR; assumption; (next => kaf_pre); o_reads))
    | omega
    | decide)
local macro_rules
  | `(tactic| o_readsAll) => `(tactic| repeat (first
    | (refine fun (pNew : Addr) (nNew : _ = none) => ?_; replace nNew := Fr.mk nNew)
    | (refine fun (xNew dNew : Addr) (nNew : _ = none) (mNew : _ = none) (eNew : dNew ≠ xNew) => ?_; replace nNew := Fr.mk nNew; replace mNew := Fr.mk mNew)
    | (apply And.intro; next => o_reads)
    | apply Exists.intro (α := V)
    | apply Exists.intro (α := Addr)
    | apply Exists.intro (α := Int)
    | apply Exists.intro (α := Bool)
    | apply Exists.intro (α := List V)
    | apply Exists.intro (α := List Nat)
    | apply Exists.intro (α := List (Str × V))
    | apply Exists.intro (α := List _)
    | apply Exists.intro (α := Str)
    | apply Exists.intro (α := HO)
    | apply Exists.intro (α := Sp)
    | apply Exists.intro (α := VK)))
set_option hygiene false in
local macro_rules
  | `(tactic| kba_ints) => `(tactic| first
    | assumption
    | (apply frUp; (first | assumption | (apply Ne.symm; assumption)); kba_ints)
    | (apply noneOf; assumption; intro oF eF; apply Exists.intro; kp_flats)
    | (apply frUp; (next => kbo_bools); kba_ints))
set_option hygiene false in
local macro_rules
  | `(tactic| kxs_still) => `(tactic| first
    | assumption
    | exact kp_refl _ _
    | (apply kp_newF; assumption; kxs_still)
    | (apply kp_new; assumption; kxs_still)
    | (apply kp_up; (next => o_fieldsN); kxs_still)
    | (apply kp_new; (next => kba_ints); kxs_still)
    | (apply kp_sameR; assumption; kxs_still)
    | (apply kp_transR; assumption; kxs_still)
    | (apply kp_freshR; assumption; (next => kaf_suf); kxs_still))
set_option hygiene false in
local macro_rules
  | `(tactic| kaf_suf) => `(tactic| first
    | assumption
    | exact subNil
    | (apply subCons; (first | (apply Or.inl; o_fieldsN) | (apply Or.inr; kba_ints)); kaf_suf)
    | (apply subApp; (next => kaf_suf); kaf_suf))
set_option hygiene false in
local macro_rules
  | `(tactic| o_fieldsN) => `(tactic| first
    | assumption
    | exact memA
    | (apply memB; o_fieldsN)
    | (apply memL; o_fieldsN)
    | (apply memR; o_fieldsN))
set_option hygiene false in
local macro_rules
  | `(tactic| kd_subs) => `(tactic| first
    | assumption
    | exact Same.refl _
    | (apply same_putF; assumption; kd_subs)
    | (apply same_putG; assumption; kd_subs)
    | (apply same_putF; (next => kba_ints); kd_subs)
    | (apply same_transR; assumption; kd_subs))

set_option pp.maxSteps 900
/-- a dict made over another one's pairs -/
theorem dc_items {d : Addr} {o : Obj} {ks : List (Key × V)} {g : TG} {tt : TT} {tk tv : TE} {vs : List Nat} {σ : L2.St} {H1 : Hp} {D : Addr} {Qd : Hp → Prop} (Pv : Nat → Hp → Prop) (h0 : Pv 0 (upd H1 D (.dK []))) (hl : ∀ i H, Pv i H → H d = some (.frz o (.dK ks)))
    (hs : ∀ i k v T H, ks[i]? = some (k, v) → Pv i H → H T = none → g (.ref T) (wipe σ vs) (upd H T (.tup [kV k, v])) fun σ2 H2 => wipe σ2 vs = wipe σ vs ∧ tt σ2 H2 fun b H3 =>
      if b = true then tk σ2 H3 fun y H4 => tv σ2 H4 fun z H5 => ∃ kvs k, y = kV k ∧ H5 D = some (.dK kvs) ∧ kvs.length < sizeLine ∧ Pv (i + 1) (upd H5 D (.dK (putK kvs k z))) else Pv (i + 1) H3) (hd : ∀ H, Pv ks.length H → Qd H) :
    ∃ W : Nat → Nat → Hp → Prop, (∃ m, W 0 m (upd H1 D (.dK []))) ∧ ∀ i m H, W i m H →
      ((Iti d o ks).stop i H ∧ Qd H) ∨ ((Iti d o ks).go i H ∧ ∃ Nx : Hp → Prop, (∀ H', Nx H' → ∃ m', m' < m ∧ W (i + 1) m' H') ∧ ∀ x H', (Iti d o ks).yld i H x H' → g x (wipe σ vs) H' fun σ2 H2 => wipe σ2 vs = wipe σ vs ∧ tt σ2 H2 fun b H3 =>
        if b = true then tk σ2 H3 fun y H4 => tv σ2 H4 fun z H5 => ∃ kvs k, y = kV k ∧ H5 D = some (.dK kvs) ∧ kvs.length < sizeLine ∧ Nx (upd H5 D (.dK (putK kvs k z))) else Nx H3) := by
  refine ⟨fun i m H => m = ks.length - i ∧ i ≤ ks.length ∧ Pv i H, ⟨ks.length, rfl, Nat.zero_le _, h0⟩, ?_⟩
  rintro i m H ⟨rfl, hi, p⟩
  by_cases hlt : i < ks.length
  · refine .inr ⟨⟨hl i H p, hlt⟩, Pv (i + 1), fun H' p' => ⟨ks.length - (i + 1), by omega, rfl, hlt, p'⟩, fun x H' y => ?_⟩
    obtain ⟨T, k, v, e1, e2, e3, e4⟩ := y
    subst e2
    subst e4
    exact hs i k v T H e1 p e3
  · have e : i = ks.length := by omega
    subst e
    exact .inl ⟨⟨hl _ H p, Nat.le_refl _⟩, hd H p⟩
/-! ### the present members: a dict -/
/-- ps, with the numbers from g on -/
def heldK : Nat → List V → List (Key × V)
  | _, [] => []
  | g, m :: r => (.inl (g : Int), m) :: heldK (g + 1) r
theorem heldK_len : ∀ (g : Nat) (ps : List V), (heldK g ps).length = ps.length
  | _, [] => rfl
  | g, m :: r => congrArg Nat.succ (heldK_len (g + 1) r)
theorem heldK_at : ∀ (ps : List V) (g i : Nat) (k : Key) (v : V), (heldK g ps)[i]? = some (k, v) → k = .inl ((g + i : Nat) : Int) ∧ ps[i]? = some v
  | [], _, i, k, v, h => by cases i <;> cases h
  | m :: r, g, 0, k, v, h => by
    cases h
    exact ⟨rfl, rfl⟩
  | m :: r, g, i + 1, k, v, h => by
    obtain ⟨h1, h2⟩ := heldK_at r (g + 1) i k v h
    exact ⟨by rw [h1, show g + 1 + i = g + (i + 1) by omega], h2⟩
theorem heldK_app : ∀ (ps qs : List V) (g : Nat), heldK g (ps ++ qs) = heldK g ps ++ heldK (g + ps.length) qs
  | [], qs, g => rfl
  | m :: r, qs, g => by
    show (_ :: heldK (g + 1) (r ++ qs)) = _ :: (heldK (g + 1) r ++ _)
    rw [heldK_app r qs (g + 1), List.length_cons, show g + 1 + r.length = g + (r.length + 1) by omega]
theorem heldK_none : ∀ (ps : List V) (g n : Nat), (n < g ∨ g + ps.length ≤ n) → valV (heldK g ps) (.inl (n : Int)) = none
  | [], _, _, _ => rfl
  | m :: r, g, n, h => by
    rw [List.length_cons] at h
    show valV ((Sum.inl (g : Int), m) :: heldK (g + 1) r) _ = none
    rw [valV_neg (fun z => by injection z with z; omega)]
    exact heldK_none r (g + 1) n (by omega)
theorem heldK_get : ∀ (ps : List V) (g i : Nat), valV (heldK g ps) (.inl ((g + i : Nat) : Int)) = ps[i]?
  | [], _, _ => rfl
  | m :: r, g, 0 => valV_pos rfl
  | m :: r, g, i + 1 => by
    show valV ((Sum.inl (g : Int), m) :: heldK (g + 1) r) _ = _
    rw [valV_neg (fun z => by injection z with z; omega), show g + (i + 1) = g + 1 + i by omega]
    exact heldK_get r (g + 1) i
theorem heldK_put {ps : List V} {g : Nat} {v : V} : putK (heldK g ps) (.inl ((g + ps.length : Nat) : Int)) v = heldK g (ps ++ [v]) := by
  rw [putK_new v (heldK_none ps g _ (.inr (Nat.le_refl _))), heldK_app]
  rfl
section
variable {P : Program} {w : World} {K : PySem.W.Frag} {mg : Str → Option Value} {base : Heap} {n : Nat}
def spFilled : Sp := fun vs H Q _ => ∃ (a : Addr) (g : Nat) (ps : List V), vs = [.ref a] ∧ H a = some (.dK (heldK g ps)) ∧ 0 < ps.length ∧ Q .non H
theorem ok_filled (T : Txt K mg) : FnOk P w K mg base CX0 1 T.f_check_filled T.d_check_filled ["held"] spFilled := by
  refine T.F_check_filled.ok sc_check_filled (fun vs H Q E h => ?_) (fun cdv A outer s H vs Q E hr h => ?_)
  · obtain ⟨a, g, ps, rfl, _⟩ := h
    rfl
  · obtain ⟨a, g, ps, rfl, h1, h2, q⟩ := h
    refine ⟨_, (pss_one (ps_if (pt_cmpR op_eq (pe_callB call_lenD (by rfl) T.z_len (by decide +kernel) (pa_cons (pv 0) pa_nil)) pe_int (nomark _)) pss_never pss_nil)), ?_⟩
    refine ⟨_, rfl, a, _, rfl, h1, rfl, _, rfl, ?_⟩
    refine ifF (decide_eq_false fun z => ?_) q
    injection z with z
    rw [heldK_len] at z
    omega
def fstN (g : Nat) (ps : List V) : V := if ps.length = 0 then .non else .int g
def spOldest : Sp := fun vs H Q _ => ∃ (a : Addr) (g : Nat) (ps : List V), vs = [.ref a] ∧ H a = some (.dK (heldK g ps)) ∧ Q (fstN g ps) H
theorem ok_oldest (T : Txt K mg) : FnOk P w K mg base CX0 1 T.f_oldest T.d_oldest ["held"] spOldest := by
  refine T.F_oldest.ok sc_oldest (fun vs H Q E h => ?_) (fun cdv A outer s H vs Q E hr h => ?_)
  · obtain ⟨a, g, ps, rfl, _⟩ := h
    rfl
  · obtain ⟨a, g, ps, rfl, h1, q⟩ := h
    refine ⟨_, (pss_one (ps_ret (Inf.pe_first rfl (by rfl) T.z_iter (by rfl) T.z_next (pv 0)))), ?_⟩
    refine ⟨_, rfl, a, _, rfl, .inl h1, ?_⟩
    have e : Inf.fstV (heldK g ps) = fstN g ps := by
      cases ps <;> rfl
    show Q (Inf.fstV (heldK g ps)) H
    rw [e]
    exact q
def spWithout1 (K : PySem.W.Frag) : Sp := fun vs H Q _ => ∃ (a b : Addr) (g : Nat) (ps : List V), vs = [.ref a, .ref b] ∧ H a = some (.dK (heldK g ps)) ∧ H b = some (.lst [.int g]) ∧ ps.length < 90000 ∧ ∀ r H', Same H H' → Fr H r → H' r = some (.dK (heldK (g + 1) (ps.drop 1))) → Q (.ref r) H'
theorem ok_without1 (T : Txt K mg) : FnOk P w K mg base CX0 1 T.f_without T.d_without ["held", "numbers"] (spWithout1 K) := by
  refine T.F_without.ok sc_without (fun vs H Q E h => ?_) (fun cdv A outer s H vs Q E hr h => ?_)
  · obtain ⟨a, b, g, ps, rfl, _⟩ := h
    rfl
  · obtain ⟨a, b, g, ps, rfl, h1, h2, lp, q⟩ := h
    refine ⟨_, (pss_one (ps_ret (pe_lock (pe_dc (own := [("number", 3), ("member", 2)]) (g := gTup K 2 (gCons (gName 3) (gCons (gName 2) gNil)))  rfl sc_without.nd (pi_items (pv 0)) (blkOk_by (N := n_without) (sc := defScope s_without) (by decide +kernel)) (fun _ _ _ _ _ => (pg_tup (by rfl) (pgs_cons (pg_name (i := 3) sc_without.nd rfl (.inl rfl)) (pgs_cons (pg_name (i := 2) sc_without.nd rfl (.inl rfl)) pgs_nil)))) (fun _ _ _ _ _ => (pts_one (pt_cmpR (show OpR _ _ (rIn K true) from op_notIn_seq) (pv 3) (pv 1) (by rfl)))) (fun _ _ _ _ _ => (pv 3)) (fun _ _ _ _ _ => (pv 2)))))), ?_⟩
    refine ⟨a, _, h1, True.intro, fun od => ?_⟩
    generalize hF : upd H a (.frz od (.dK (heldK g ps))) = F
    have ea : F a = some (.frz od (.dK (heldK g ps))) := by
      rw [← hF]
      exact upd_same
    have en : ∀ b o, b ≠ a → H b = some o → F b = some o := fun b o nb e => by
      rw [← hF, upd_ne nb]
      exact e
    have nba : b ≠ a := fun z => by
      rw [z, h1] at h2
      cases h2
    have eb := en b _ nba h2
    refine ⟨_, rfl, a, od, _, rfl, ea, fun D nD => ?_⟩
    have fD := Fr.mk nD
    refine dc_items (fun i H' => Same F H' ∧ H' D = some (.dK (heldK (g + 1) ((ps.take i).drop 1)))) ⟨same_newF fD, upd_same⟩ (fun i H' h => h.1 _ _ ea) ?_ ?_
    · rintro i k v T2 H2 hk ⟨s2, e2⟩ nT
      have fT := Fr.mk nT
      obtain ⟨rfl, hv⟩ := heldK_at _ _ _ _ _ hk
      have s3 : Same H2 (upd H2 T2 (.tup [kV (.inl ((g + i : Nat) : Int)), v])) := same_newF fT
      have li : i < ps.length := (List.getElem?_eq_some_iff.mp hv).1
      refine ⟨T2, _, rfl, sqtOf upd_same, rfl, _, _, rfl, _, _, rfl, rfl, rfl, ?_⟩
      refine ⟨_, rfl, _, rfl, b, _, rfl, .inl (sqlOf (s3 _ _ (s2 _ _ eb))), rfl, rfl, _, rfl, ?_⟩
      by_cases c0 : i = 0
      · subst c0
        refine ifF ?_ ⟨s2.trans s3, ?_⟩
        · rw [if_pos rfl]
          show (!inV (V.int ((g + 0 : Nat) : Int)) [V.int (g : Int)]) = false
          simp [inV, eqV]
        · rw [s3 _ _ e2]
          show some (HO.dK (heldK (g + 1) [])) = some (HO.dK (heldK (g + 1) ((ps.take 1).drop 1)))
          cases ps <;> rfl
      · refine ifT ?_ ?_
        · rw [if_pos rfl]
          show (!inV (V.int ((g + i : Nat) : Int)) [V.int (g : Int)]) = true
          simp [inV, eqV]
          omega
        refine ⟨_, rfl, _, rfl, _, .inl ((g + i : Nat) : Int), rfl, s3 _ _ e2, ?_, ⟨?_, ?_⟩⟩
        · rw [heldK_len, List.length_drop, List.length_take, sizeLine_eq]
          omega
        · exact same_putG fD (s2.trans s3)
        · have hq : ((ps.take i).drop 1).length = i - 1 := by
            rw [List.length_drop, List.length_take]
            omega
          have e4 := heldK_put (ps := (ps.take i).drop 1) (g := g + 1) (v := v)
          rw [hq, show g + 1 + (i - 1) = g + i by omega] at e4
          rw [upd_same, e4]
          have e5 : (ps.take (i + 1)).drop 1 = (ps.take i).drop 1 ++ [v] := by
            rw [List.take_succ, hv, List.drop_append_of_le_length (by rw [List.length_take]; omega)]
            rfl
          rw [e5]
    · rintro H2 ⟨s2, e2⟩
      rw [heldK_len, List.take_length] at e2
      refine ⟨s2 _ _ ea, ?_⟩
      refine q D _ (fun x o e => ?_) ?_ ?_
      · by_cases c : x = a
        · rw [c, upd_same, ← h1, ← c, e]
        · rw [upd_ne c]
          exact s2 _ _ (en x o c e)
      · exact Fr.mk (by
          have z := nD
          rw [← hF, upd_ne (Ne.symm (ne_of_none ea nD))] at z
          exact z)
      · rw [upd_ne (Ne.symm (ne_of_none ea nD))]
        exact e2
end
end Ob

set_option Elab.async false
set_option linter.all false
set_option maxRecDepth 100000
set_option maxHeartbeats 1000000
namespace Ob
open PySem PySem.Spec PyProof.Rows L2
open LamX (Tabs TabB TabS ExtN)

set_option hygiene false in
local macro_rules
  | `(tactic| kp_flats) => `(tactic| first
    | assumption
    | exact upd_same
    | (apply atNew; assumption; kp_flats)
    | (apply atNe; (next => kbo_bools); kp_flats)
    | (apply atSame; assumption; kp_flats)
    | (apply atKp; assumption; (next => kaf_pre); kp_flats))
set_option hygiene false in
local macro_rules
  | `(tactic| kaf_pre) => `(tactic| first
    | assumption
    | exact not_nil
    | (apply not_cons; (next => kbo_bools); kaf_pre)
    | (apply not_app; (next => kaf_pre); kaf_pre))
set_option hygiene false in
local macro_rules
  | `(tactic| kbo_bools) => `(tactic| first
    | assumption
    | (apply Ne.symm; assumption)
    | (apply neN; assumption; kp_flats)
    | (apply neN'; assumption; kp_flats))
set_option hygiene false in
local macro_rules
  | `(tactic| o_reads) => `(tactic| first
    | with_reducible rfl
    | assumption
    | rfl
    | kp_flats
    | (show SqL _ _ _ _; first | assumption | (apply sqlOf; kp_flats) | (apply sqlSame; assumption; o_reads))
    | (show SqT _ _ _ _; first | assumption | (apply sqtOf; kp_flats) | (apply sqtAll; assumption) | (apply sqtSame; assumption; o_reads))
    | (show Cls _ _; first | exact T.cl_Calls | exact T.cl_Joiner | exact T.cl_Planner | exact T.cl_EvenSums | exact T.cl_Shape | exact T.cl_TwoStacks)
    | (show NoAttr _ _ _; first | exact T.n_Calls_entries | exact T.n_Calls_running | exact T.n_Joiner_calls | exact T.n_Joiner_join_call | exact T.n_Planner_entries | exact T.n_EvenSums_calls | exact T.n_EvenSums_joiner | exact T.n_EvenSums_zero | exact T.n_EvenSums_given | exact T.n_EvenSums_held | exact T.n_EvenSums_shape | exact T.n_Shape_front | exact T.n_Shape_back | exact T.n_Shape_late | exact T.n_Shape_renewed | exact T.n_TwoStacks_calls | exact T.n_TwoStacks_joiner | exact T.n_TwoStacks_zero | exact T.n_TwoStacks_given | exact T.n_TwoStacks_held | exact T.n_TwoStacks_front | exact T.n_TwoStacks_back)
    | (apply Or.inl; o_reads)
    | (apply Or.inr; o_reads)
    | (apply And.intro; (next => o_reads); o_reads)
    | (apply Exists.intro; o_reads)
    | exact Nat.le_of_ble_eq_true rfl
    | exact Nat.succ_ne_zero _
    | (show Fr _ _; kba_ints)
    | (show Same _ _; kd_subs)
    | (show Kp _ _ _; kxs_still)
    | (show (_ : Nat) ≤ _; simp only [List.length_append, List.length_map, List.length_cons, List.length_nil, List.length_take, List.length_drop, List.length_replicate, List.length_range, sizeLine_eq]; omega)
    | (show _ = none; apply Fr.h; kba_ints)
    | (show Bag _ _; first | assumption | (apply bag_putF; assumption; o_reads) | (apply bag_neF; (next => kbo_bools); o_reads) | (apply bag_kpR; assumption; (next => kaf_pre); o_reads))
    | omega
    | decide)
local macro_rules
  | `(tactic| o_readsAll) => `(tactic| repeat (first
    | (refine fun (pNew : Addr) (nNew : _ = none) => ?_; replace nNew := Fr.mk nNew)
    | (refine fun (xNew dNew : Addr) (nNew : _ = none) (mNew : _ = none) (eNew : dNew ≠ xNew) => ?_; replace nNew := Fr.mk nNew; replace mNew := Fr.mk mNew)
    | (apply And.intro; next => o_reads)
    | apply Exists.intro (α := V)
    | apply Exists.intro (α := Addr)
    | apply Exists.intro (α := Int)
    | apply Exists.intro (α := Bool)
    | apply Exists.intro (α := List V)
    | apply Exists.intro (α := List Nat)
    | apply Exists.intro (α := List (Str × V))
    | apply Exists.intro (α := List _)
    | apply Exists.intro (α := Str)
    | apply Exists.intro (α := HO)
    | apply Exists.intro (α := Sp)
    | apply Exists.intro (α := VK)))
set_option hygiene false in
local macro_rules
  | `(tactic| kba_ints) => `(tactic| first
    | assumption
    | (apply frUp; (first | assumption | (apply Ne.symm; assumption)); kba_ints)
    | (apply noneOf; assumption; intro oF eF; apply Exists.intro; kp_flats)
    | (apply frUp; (next => kbo_bools); kba_ints))
set_option hygiene false in
local macro_rules
  | `(tactic| kxs_still) => `(tactic| first
    | assumption
    | exact kp_refl _ _
    | (apply kp_newF; assumption; kxs_still)
    | (apply kp_new; assumption; kxs_still)
    | (apply kp_up; (next => o_fieldsN); kxs_still)
    | (apply kp_new; (next => kba_ints); kxs_still)
    | (apply kp_sameR; assumption; kxs_still)
    | (apply kp_transR; assumption; kxs_still)
    | (apply kp_freshR; assumption; (next => kaf_suf); kxs_still))
set_option hygiene false in
local macro_rules
  | `(tactic| kaf_suf) => `(tactic| first
    | assumption
    | exact subNil
    | (apply subCons; (first | (apply Or.inl; o_fieldsN) | (apply Or.inr; kba_ints)); kaf_suf)
    | (apply subApp; (next => kaf_suf); kaf_suf))
set_option hygiene false in
local macro_rules
  | `(tactic| o_fieldsN) => `(tactic| first
    | assumption
    | exact memA
    | (apply memB; o_fieldsN)
    | (apply memL; o_fieldsN)
    | (apply memR; o_fieldsN))
set_option hygiene false in
local macro_rules
  | `(tactic| kd_subs) => `(tactic| first
    | assumption
    | exact Same.refl _
    | (apply same_putF; assumption; kd_subs)
    | (apply same_putG; assumption; kd_subs)
    | (apply same_putF; (next => kba_ints); kd_subs)
    | (apply same_transR; assumption; kd_subs))

set_option pp.maxSteps 900
section
variable {P : Program} {w : World} {K : PySem.W.Frag} {mg : Str → Option Value} {base : Heap} {n : Nat}
def wholeE (bs : Nat → Nat) (k : Nat) : List (Nat × Nat × Nat) := (List.range (k - 1)).map fun q => (bs 0, bs (q + 1), bs (q + 2))
theorem wholeE_succ {bs : Nat → Nat} {i : Nat} (h : 0 < i) : wholeE bs (i + 1) = wholeE bs i ++ [(bs 0, bs i, bs (i + 1))] := by
  obtain ⟨k, rfl⟩ : ∃ k, i = k + 1 := ⟨i - 1, by omega⟩
  unfold wholeE
  rw [Nat.add_sub_cancel, Nat.add_sub_cancel, List.range_succ, List.map_append]
  rfl
def spWhole (P : Program) (w : World) (K : PySem.W.Frag) (mg : Str → Option Value) (base : Heap) (Cj : Addr × Addr) (Cc : Addr) (n : Nat) : Sp := fun vs H Q _ => ∃ (lb : Bool) (uv : List Addr) (f : V) (UR : List JEv → Hp → Prop) (Val : Nat → List V → V → Hp → Prop) (j jdx c cdx l : Addr) (u : List JEv) (es : List (Nat × Nat × Nat)) (ms xs : List V) (a : Addr) (bs : Nat → Nat),
  vs = [.ref j, .ref a] ∧ JS P w K mg base n lb uv f UR Val ∧ JW Cj Cc lb uv f UR j jdx c cdx l u es H ∧ u.length + xs.length < 90000 ∧ es.length + xs.length < 90000 ∧ ms.length < 90000 ∧ H a = some (.lst xs) ∧ a ∉ [c, l] ++ uv ∧ (∀ q s, xs[q]? = some s → SpanAt Val ms s (bs q) (bs (q + 1)) H) ∧
  ∀ r d H', d.length = (wholeE bs xs.length).length → Kp ([c, l] ++ uv) H H' → JW Cj Cc lb uv f UR j jdx c cdx l (u ++ d) (es ++ wholeE bs xs.length) H' → (xs.length = 0 → r = .non) → (0 < xs.length → SpanAt Val ms r (bs 0) (bs xs.length) H') → Q r H'
theorem ok_whole (T : Txt K mg) : FnOk P w K mg base CX0 (n + 6) T.f_whole_span T.d_whole_span ["joiner", "spans"] (spWhole P w K mg base (CJ T) T.C_Calls n) := by
  have G_Joiner_joined := ok_joined (P := P) (w := w) (base := base) (n := n) T
  have G_Planner_joined := ok_pjoined (P := P) (w := w) (base := base) (n := n) T
  refine T.F_whole_span.ok sc_whole_span (fun vs H Q E h => ?_) (fun cdv A outer s H vs Q E hr h => ?_)
  · obtain ⟨lb, uv, f, UR, Val, j, jdx, c, cdx, l, u, es, ms, xs, a, bs, rfl, _⟩ := h
    rfl
  · obtain ⟨lb, uv, f, UR, Val, j, jdx, c, cdx, l, u, es, ms, xs, a, bs, rfl, U, jw, lu, le, lms, hl, na, hs, q⟩ := h
    refine ⟨_, (pss_cons (ps_set (i := 2) sc_whole_span.nd rfl (.inl rfl) pe_non)
      (pss_cons (ps_for PassesOwn.never rfl (pi_list (pv 1)) (pg_name (i := 3) sc_whole_span.nd rfl (.inl rfl)) (pss_one (ps_if (pt_cmpR op_isN (pv 2) pe_non (nomark _)) (pss_one (ps_set (i := 2) sc_whole_span.nd rfl (.inl rfl) (pv 3))) (pss_one (ps_set (i := 2) sc_whole_span.nd rfl (.inl rfl) (pe_either (pe_meth (pv 0) T.cl_Joiner ⟨T.m_Joiner_joined, T.t_Joiner_joined, T.k_Joiner_joined⟩ G_Joiner_joined (hr.mono (by omega)) T.b_Joiner_joined .nil pass0 (pa_cons (pv 2) (pa_cons (pv 3) pa_nil))) (pe_meth (pv 0) T.cl_Planner ⟨T.m_Planner_joined, T.t_Planner_joined, T.k_Planner_joined⟩ G_Planner_joined (hr.mono (by omega)) T.b_Planner_joined .nil pass0 (pa_cons (pv 2) (pa_cons (pv 3) pa_nil)))))))))
      (pss_one (ps_ret (pv 2))))), ?_⟩
    have m0 := jw.mu U
    refine ⟨_, rfl, a, rfl, ⟨_, sqlOf hl⟩, ?_⟩
    refine for_list (xs := xs) (fun i σ H' => ∃ wv y d, σ = [some (.ref j), some (.ref a), some wv, y] ∧ d.length = (wholeE bs i).length ∧ Kp ([c, l] ++ uv) H H' ∧ JW (CJ T) T.C_Calls lb uv f UR j jdx c cdx l (u ++ d) (es ++ wholeE bs i) H' ∧ (i = 0 → wv = .non) ∧ (0 < i → SpanAt Val ms wv (bs 0) (bs i) H'))
      ⟨.non, none, [], rfl, rfl, kp_refl _ _, by rw [List.append_nil, show es ++ wholeE bs 0 = es from List.append_nil _]; exact jw, (fun _ => rfl), fun z => absurd z (Nat.lt_irrefl 0)⟩ (fun i σ H' _ ⟨_, _, _, _, _, k, _⟩ => sqlOf (k.at_ _ _ hl na)) ?_ ?_
    · rintro i x σ H' hx ⟨wv, y, d, rfl, ld, kk, jw', h0, h1⟩
      have li : i < xs.length := (List.getElem?_eq_some_iff.mp hx).1
      have sx := (hs i x hx).kp U kk m0
      by_cases c0 : i = 0
      · subst c0
        rw [h0 rfl]
        refine ⟨_, rfl, rfl, _, rfl, ?_⟩
        refine ifT (decide_eq_true rfl) ?_
        exact ⟨_, rfl, x, _, d, rfl, ld, kk, jw', (fun z => absurd z (Nat.succ_ne_zero 0)), fun _ => sx⟩
      · have ip : 0 < i := Nat.pos_of_ne_zero c0
        have hw := h1 ip
        obtain ⟨g1, g2, p0, v0, rfl, g3, g4⟩ := id hw
        refine ⟨_, rfl, rfl, _, rfl, ?_⟩
        refine ifF (decide_eq_false fun z => nomatch z) ?_
        have lw : (wholeE bs i).length = i - 1 := by
          unfold wholeE
          rw [List.length_map, List.length_range]
        rcases jw'.st with ⟨elv, hj, hc⟩ | ⟨elv, ecj, hj⟩
        · subst elv
          refine .inl ⟨_, rfl, j, jdx, _, rfl, hj, rfl, _, rfl, _, rfl, ?_⟩
          refine ⟨uv, f, UR, Val, j, jdx, c, cdx, l, u ++ d, _, ms, _, _, bs 0, bs i, bs (i + 1), rfl, U, jw', by rw [List.length_append]; omega, by rw [List.length_append]; omega, lms, hw, sx, fun r evt H2 fr k2 jw2 hs2 => ?_⟩
          refine ⟨.ref r, _, d ++ [evt], rfl, ?_, kp_trans kk k2, ?_, (fun z => absurd z (Nat.succ_ne_zero i)), fun _ => hs2⟩
          · rw [wholeE_succ ip, List.length_append, List.length_append, ld]
            rfl
          · rw [wholeE_succ ip, ← List.append_assoc, ← List.append_assoc]
            exact jw2
        · subst elv
          refine .inr ⟨_, rfl, j, jdx, _, rfl, hj, rfl, _, rfl, _, rfl, ?_⟩
          refine ⟨uv, f, UR, Val, j, jdx, c, cdx, l, u ++ d, _, ms, _, _, bs 0, bs i, bs (i + 1), rfl, U, jw', by rw [List.length_append]; omega, by rw [List.length_append]; omega, lms, hw, sx, fun r evt H2 fr k2 jw2 hs2 => ?_⟩
          refine ⟨.ref r, _, d ++ [evt], rfl, ?_, kp_trans kk k2, ?_, (fun z => absurd z (Nat.succ_ne_zero i)), fun _ => hs2⟩
          · rw [wholeE_succ ip, List.length_append, List.length_append, ld]
            rfl
          · rw [wholeE_succ ip, ← List.append_assoc, ← List.append_assoc]
            exact jw2
    · rintro σ H' ⟨wv, y, d, rfl, ld, kk, jw', h0, h1⟩
      exact ⟨_, rfl, q wv d H' ld kk jw' h0 h1⟩
def spReach (Val : Nat → List V → V → Hp → Prop) : Sp := fun vs H Q _ => ∃ (ms xs : List V) (a : Addr) (b k g : Nat) (nv : V), vs = [.ref a, nv] ∧ H a = some (.lst xs) ∧ SpansTo Val ms xs b k H ∧ (k = 0 ∨ nv = .int g) ∧ Q (.bl (decide (0 < k ∧ b ≤ g + k))) H
theorem ok_reach (T : Txt K mg) (Val : Nat → List V → V → Hp → Prop) : FnOk P w K mg base CX0 1 T.f_reaches T.d_reaches ["renewed", "number"] (spReach Val) := by
  refine T.F_reaches.ok sc_reaches (fun vs H Q E h => ?_) (fun cdv A outer s H vs Q E hr h => ?_)
  · obtain ⟨ms, xs, a, b, k, g, nv, rfl, _⟩ := h
    rfl
  · obtain ⟨ms, xs, a, b, k, g, nv, rfl, h1, h2, h3, q⟩ := h
    refine ⟨_, (pss_one (ps_ret (pe_and (pe_cmpR op_gt (pe_callB call_len_seq (by rfl) T.z_len (by decide +kernel) (pa_cons (pv 0) pa_nil)) pe_int (nomark _)) (pe_one (pe_cmpR op_le (pe_ix (r := rIxT K) ix_tup (pe_ix (r := rIxL K) ix_list (pv 0) (pe_un un_neg pe_int) (fun _ _ => rfl)) pe_int (fun _ _ => rfl)) (pv 1) (nomark _)))))), ?_⟩
    have ln := h2.len
    have le := h2.le
    refine ⟨_, rfl, a, _, rfl, .inl (sqlOf h1), _, _, rfl, rfl, _, rfl, ?_⟩
    by_cases c0 : k = 0
    · refine ifF (decide_eq_false (by omega)) ?_
      rw [decide_eq_false (by omega)] at q
      exact q
    · refine ifT (decide_eq_true (by omega)) ?_
      rcases h3 with h3 | rfl
      · exact absurd h3 c0
      have hx : ∃ s0, xs[k - 1]? = some s0 := ⟨_, List.getElem?_eq_getElem (by omega)⟩
      obtain ⟨s0, hx⟩ := hx
      obtain ⟨g1, g2, p, v, rfl, g3, g4⟩ := h2.at_ _ _ hx
      refine ⟨_, rfl, 1, rfl, a, _, -1, _, rfl, rfl, sqlOf h1, atI_end (k := k - 1) (by omega) hx, p, _, 0, _, rfl, rfl, sqtOf g3, atI_nat (j := 0) rfl, _, rfl, _, _, rfl, rfl, ?_⟩
      rw [show decide (0 < k ∧ b ≤ g + k) = decide (((b - 1 - (k - 1) : Nat) : Int) ≤ (g : Int)) from decide_eq_decide.mpr (by omega)] at q
      exact q
theorem cut_last {xs : List V} : cutV xs (some (-1)) none = xs.drop (xs.length - 1) := by
  unfold cutV
  simp [HT.sIx]
  rw [show (-1 + (xs.length : Int)).toNat = xs.length - 1 by omega]
  exact List.take_of_length_le (by rw [List.length_drop]; omega)
theorem cut_but {xs : List V} : cutV xs none (some (-1)) = xs.take (xs.length - 1) := by
  unfold cutV
  simp [HT.sIx]
  omega
def spFillS (K : PySem.W.Frag) : Sp := fun vs H Q _ => ∃ (a b : Addr) (xs ys : List V), vs = [.ref a, .ref b] ∧ H a = some (.lst xs) ∧ H b = some (.lst ys) ∧ xs.length < 90000 ∧ ys.length < 90 ∧ (∀ y ∈ ys, y = .non ∨ ∃ p, y = .ref p) ∧ ∀ r H', Same H H' → Fr H r → H' r = some (.lst (xs.drop (xs.length - 1) ++ ys.filter fun y => !decide (y = .non))) → Q (.ref r) H'
theorem ok_fillS (T : Txt K mg) : FnOk P w K mg base CX0 1 T.f_filled_spans T.d_filled_spans ["front", "backs"] (spFillS K) := by
  refine T.F_filled_spans.ok sc_filled_spans (fun vs H Q E h => ?_) (fun cdv A outer s H vs Q E hr h => ?_)
  · obtain ⟨a, b, xs, ys, rfl, _⟩ := h
    rfl
  · obtain ⟨a, b, xs, ys, rfl, h1, h2, l1, l2, h3, q⟩ := h
    refine ⟨_, (pss_one (ps_ret (pe_op op_cat (pe_slice sl_list (pv 0) (po_some (pe_un un_neg pe_int)) po_none) (pe_lc (own := [("span", 2)]) (g := gName 2)  rfl sc_filled_spans.nd (pi_list (pv 1)) (blkOk_by (N := n_filled_spans) (sc := defScope s_filled_spans) (by decide +kernel)) (fun _ _ _ _ _ => (pg_name (i := 2) sc_filled_spans.nd rfl (.inl rfl))) (fun _ _ _ _ _ => (pts_one (pt_cmpR op_notN (pv 2) pe_non (nomark _)))) (fun _ _ _ _ _ => (pv 2)))))), ?_⟩
    refine ⟨_, rfl, 1, rfl, -1, rfl, a, xs, rfl, sqlOf h1, fun p np => ?_⟩
    have fp := Fr.mk np
    rw [cut_last]
    have s1 : Same H (upd H p (.lst (xs.drop (xs.length - 1)))) := same_newF fp
    refine ⟨_, rfl, b, rfl, ⟨_, sqlOf (s1 _ _ h2)⟩, fun D nD => ?_⟩
    have fD := Fr.mk nD
    refine lc_list (K := K) (xs := ys) (fun i H' => Same (upd H p (.lst (xs.drop (xs.length - 1)))) H' ∧ H' D = some (.lst ((ys.take i).filter fun y => !decide (y = .non)))) ⟨same_newF fD, upd_same⟩ (fun i H' _ h => sqlOf (h.1 _ _ (s1 _ _ h2))) ?_ ?_
    · rintro i y H' hy ⟨s2, e2⟩
      refine ⟨rfl, _, rfl, rfl, _, rfl, ?_⟩
      have et : (ys.take (i + 1)).filter (fun y => !decide (y = V.non)) = (ys.take i).filter (fun y => !decide (y = V.non)) ++ [y].filter (fun y => !decide (y = V.non)) := by
        rw [List.take_succ, hy, List.filter_append]
        rfl
      by_cases c0 : y = V.non
      · refine ifF (by rw [decide_eq_true c0]; rfl) ⟨s2, ?_⟩
        rw [et, c0, e2]
        show some (HO.lst _) = some (HO.lst (_ ++ []))
        rw [List.append_nil]
      · refine ifT (by rw [decide_eq_false c0]; rfl) ?_
        refine ⟨_, rfl, _, e2, ?_, same_putG fD s2, ?_⟩
        · have h5 := List.length_filter_le (fun y => !decide (y = V.non)) (ys.take i)
          rw [List.length_take] at h5
          rw [sizeLine_eq]
          omega
        · rw [upd_same, et, List.filter_cons, if_pos (by rw [decide_eq_false c0]; rfl), List.filter_nil]
    · rintro H' ⟨s2, e2⟩
      rw [List.take_length] at e2
      have h5 := List.length_filter_le (fun y => !decide (y = V.non)) ys
      refine ⟨p, D, _, _, rfl, rfl, s2 _ _ upd_same, e2, ?_, fun r nr => ?_⟩
      · rw [List.length_drop, sizeLine_eq]
        omega
      · have fr := Fr.mk nr
        have s3 := s1.trans s2
        exact q r _ (s3.trans (same_newF fr)) (Fr.mk (s3.free nr)) upd_same
end
end Ob

set_option Elab.async false
set_option linter.all false
set_option maxRecDepth 100000
set_option maxHeartbeats 1000000
namespace Ob
open PySem PySem.Spec PyProof.Rows L2
open LamX (Tabs TabB TabS ExtN)

set_option hygiene false in
local macro_rules
  | `(tactic| kp_flats) => `(tactic| first
    | assumption
    | exact upd_same
    | (apply atNew; assumption; kp_flats)
    | (apply atNe; (next => kbo_bools); kp_flats)
    | (apply atSame; assumption; kp_flats)
    | (apply atKp; assumption; (next => kaf_pre); kp_flats))
set_option hygiene false in
local macro_rules
  | `(tactic| kaf_pre) => `(tactic| first
    | assumption
    | exact not_nil
    | (apply not_cons; (next => kbo_bools); kaf_pre)
    | (apply not_app; (next => kaf_pre); kaf_pre))
set_option hygiene false in
local macro_rules
  | `(tactic| kbo_bools) => `(tactic| first
    | assumption
    | (apply Ne.symm; assumption)
    | (apply neN; assumption; kp_flats)
    | (apply neN'; assumption; kp_flats))
set_option hygiene false in
local macro_rules
  | `(tactic| o_reads) => `(tactic| first
    | with_reducible rfl
    | assumption
    | rfl
    | kp_flats
    | (show SqL _ _ _ _; first | assumption | (apply sqlOf; kp_flats) | (apply sqlSame; assumption; o_reads))
    | (show SqT _ _ _ _; first | assumption | (apply sqtOf; kp_flats) | (apply sqtAll; assumption) | (apply sqtSame; assumption; o_reads))
    | (show Cls _ _; first | exact T.cl_Calls | exact T.cl_Joiner | exact T.cl_Planner | exact T.cl_EvenSums | exact T.cl_Shape | exact T.cl_TwoStacks)
    | (show NoAttr _ _ _; first | exact T.n_Calls_entries | exact T.n_Calls_running | exact T.n_Joiner_calls | exact T.n_Joiner_join_call | exact T.n_Planner_entries | exact T.n_EvenSums_calls | exact T.n_EvenSums_joiner | exact T.n_EvenSums_zero | exact T.n_EvenSums_given | exact T.n_EvenSums_held | exact T.n_EvenSums_shape | exact T.n_Shape_front | exact T.n_Shape_back | exact T.n_Shape_late | exact T.n_Shape_renewed | exact T.n_TwoStacks_calls | exact T.n_TwoStacks_joiner | exact T.n_TwoStacks_zero | exact T.n_TwoStacks_given | exact T.n_TwoStacks_held | exact T.n_TwoStacks_front | exact T.n_TwoStacks_back)
    | (apply Or.inl; o_reads)
    | (apply Or.inr; o_reads)
    | (apply And.intro; (next => o_reads); o_reads)
    | (apply Exists.intro; o_reads)
    | exact Nat.le_of_ble_eq_true rfl
    | exact Nat.succ_ne_zero _
    | (show Fr _ _; kba_ints)
    | (show Same _ _; kd_subs)
    | (show Kp _ _ _; kxs_still)
    | (show (_ : Nat) ≤ _; simp only [List.length_append, List.length_map, List.length_cons, List.length_nil, List.length_take, List.length_drop, List.length_replicate, List.length_range, sizeLine_eq]; omega)
    | (show _ = none; apply Fr.h; kba_ints)
    | (show Bag _ _; first | assumption | (apply bag_putF; assumption; o_reads) | (apply bag_neF; (next => kbo_bools); o_reads) | (apply bag_kpR; assumption; (next => kaf_pre); o_reads))
    | omega
    | decide)
local macro_rules
  | `(tactic| o_readsAll) => `(tactic| repeat (first
    | (refine fun (pNew : Addr) (nNew : _ = none) => ?_; replace nNew := Fr.mk nNew)
    | (refine fun (xNew dNew : Addr) (nNew : _ = none) (mNew : _ = none) (eNew : dNew ≠ xNew) => ?_; replace nNew := Fr.mk nNew; replace mNew := Fr.mk mNew)
    | (apply And.intro; next => o_reads)
    | apply Exists.intro (α := V)
    | apply Exists.intro (α := Addr)
    | apply Exists.intro (α := Int)
    | apply Exists.intro (α := Bool)
    | apply Exists.intro (α := List V)
    | apply Exists.intro (α := List Nat)
    | apply Exists.intro (α := List (Str × V))
    | apply Exists.intro (α := List _)
    | apply Exists.intro (α := Str)
    | apply Exists.intro (α := HO)
    | apply Exists.intro (α := Sp)
    | apply Exists.intro (α := VK)))
set_option hygiene false in
local macro_rules
  | `(tactic| kba_ints) => `(tactic| first
    | assumption
    | (apply frUp; (first | assumption | (apply Ne.symm; assumption)); kba_ints)
    | (apply noneOf; assumption; intro oF eF; apply Exists.intro; kp_flats)
    | (apply frUp; (next => kbo_bools); kba_ints))
set_option hygiene false in
local macro_rules
  | `(tactic| kxs_still) => `(tactic| first
    | assumption
    | exact kp_refl _ _
    | (apply kp_newF; assumption; kxs_still)
    | (apply kp_new; assumption; kxs_still)
    | (apply kp_up; (next => o_fieldsN); kxs_still)
    | (apply kp_new; (next => kba_ints); kxs_still)
    | (apply kp_sameR; assumption; kxs_still)
    | (apply kp_transR; assumption; kxs_still)
    | (apply kp_freshR; assumption; (next => kaf_suf); kxs_still))
set_option hygiene false in
local macro_rules
  | `(tactic| kaf_suf) => `(tactic| first
    | assumption
    | exact subNil
    | (apply subCons; (first | (apply Or.inl; o_fieldsN) | (apply Or.inr; kba_ints)); kaf_suf)
    | (apply subApp; (next => kaf_suf); kaf_suf))
set_option hygiene false in
local macro_rules
  | `(tactic| o_fieldsN) => `(tactic| first
    | assumption
    | exact memA
    | (apply memB; o_fieldsN)
    | (apply memL; o_fieldsN)
    | (apply memR; o_fieldsN))
set_option hygiene false in
local macro_rules
  | `(tactic| kd_subs) => `(tactic| first
    | assumption
    | exact Same.refl _
    | (apply same_putF; assumption; kd_subs)
    | (apply same_putG; assumption; kd_subs)
    | (apply same_putF; (next => kba_ints); kd_subs)
    | (apply same_transR; assumption; kd_subs))

set_option pp.maxSteps 900
/-! ### the shape of a queue -/
def ShO (C dx : Addr) (fr bv lv rv : V) : HO := .ins C dx [("front", fr), ("back", bv), ("late", lv), ("renewed", rv)]
/-- what holds of a shape between the calls: members from g on, the front to e, the back to b, n given; r: how far a rebuild has come -/
def ShOk (g e b n : Nat) : Option Nat → Prop
  | none => g ≤ e ∧ e ≤ b ∧ b = n ∧ n - e ≤ e - g
  | some k => g < e ∧ e < b ∧ b ≤ n ∧ 1 ≤ k ∧ k < b - g ∧ b - e ≤ (e - g) + k ∧ n - b < k
/-- .. before the work that follows a call -/
def ShPre (g e b n : Nat) : Option Nat → Prop
  | none => g ≤ e ∧ e ≤ b ∧ b = n ∧ n - e ≤ (e - g) + 1
  | some k => g ≤ e ∧ e < b ∧ b ≤ n ∧ 1 ≤ k ∧ k ≤ b - g ∧ b - e ≤ (e - g) + k + 1 ∧ n - b ≤ k ∧ (k = b - g → n - b < k)
def stepK (g b k : Nat) : Nat := if k < b - g then k + 1 else k
def stepR (g e b n k : Nat) : Nat × Nat × Option Nat := if stepK g b k = b - g then (b, n, none) else (e, b, some (stepK g b k))
def stepE (g b k : Nat) : List (Nat × Nat × Nat) := if k < b - g then deepE b k else []
def workR (g e b n : Nat) : Option Nat → Nat × Nat × Option Nat
  | none => if e - g < n - e then stepR g e b n 0 else (e, b, none)
  | some k => stepR g e b n k
def workE (g e b n : Nat) : Option Nat → List (Nat × Nat × Nat)
  | none => if e - g < n - e then stepE g b 0 else []
  | some k => stepE g b k
theorem stepR_ok {g e b n k : Nat} (h1 : g ≤ e) (h2 : e < b) (h3 : b ≤ n) (h4 : k ≤ b - g) (h5 : b - e ≤ (e - g) + k + 1) (h6 : n - b ≤ k) (h7 : k = b - g → n - b < k) : ShOk g (stepR g e b n k).1 (stepR g e b n k).2.1 n (stepR g e b n k).2.2 := by
  unfold stepR
  by_cases c : k < b - g
  · have e1 : stepK g b k = k + 1 := if_pos c
    rw [e1]
    by_cases d : k + 1 = b - g
    · rw [if_pos d]
      show g ≤ b ∧ b ≤ n ∧ n = n ∧ n - b ≤ b - g
      omega
    · rw [if_neg d]
      show g < e ∧ e < b ∧ b ≤ n ∧ 1 ≤ k + 1 ∧ k + 1 < b - g ∧ b - e ≤ (e - g) + (k + 1) ∧ n - b < k + 1
      omega
  · have e1 : stepK g b k = k := if_neg c
    rw [e1]
    have d : k = b - g := by omega
    have := h7 d
    rw [if_pos d]
    show g ≤ b ∧ b ≤ n ∧ n = n ∧ n - b ≤ b - g
    omega
theorem workR_ok {g e b n : Nat} {r : Option Nat} (h : ShPre g e b n r) : ShOk g (workR g e b n r).1 (workR g e b n r).2.1 n (workR g e b n r).2.2 := by
  match r, h with
  | none, ⟨h1, h2, h3, h4⟩ =>
    unfold workR
    by_cases c : e - g < n - e
    · rw [if_pos c]
      exact stepR_ok h1 (by omega) (by omega) (Nat.zero_le _) (by omega) (by omega) (by omega)
    · rw [if_neg c]
      show g ≤ e ∧ e ≤ b ∧ b = n ∧ n - e ≤ e - g
      omega
  | some k, ⟨h1, h2, h3, h4, h5, h6, h7, h8⟩ => exact stepR_ok h1 h2 h3 h5 h6 h7 h8
/-- an addition -/
def addB (b n : Nat) : Option Nat → Nat
  | none => n + 1
  | some _ => b
theorem add_pre {g e b n : Nat} {r : Option Nat} (h : ShOk g e b n r) : ShPre g e (addB b n r) (n + 1) r := by
  match r, h with
  | none, ⟨h1, h2, h3, h4⟩ =>
    show g ≤ e ∧ e ≤ n + 1 ∧ n + 1 = n + 1 ∧ n + 1 - e ≤ (e - g) + 1
    omega
  | some k, ⟨h1, h2, h3, h4, h5, h6, h7⟩ =>
    show g ≤ e ∧ e < b ∧ b ≤ n + 1 ∧ 1 ≤ k ∧ k ≤ b - g ∧ b - e ≤ (e - g) + k + 1 ∧ n + 1 - b ≤ k ∧ (k = b - g → n + 1 - b < k)
    omega
theorem rem_pre {g e b n : Nat} {r : Option Nat} (h : ShOk g e b n r) (hn : g < n) : g < e ∧ ShPre (g + 1) e b n r := by
  match r, h with
  | none, ⟨h1, h2, h3, h4⟩ =>
    show g < e ∧ g + 1 ≤ e ∧ e ≤ b ∧ b = n ∧ n - e ≤ (e - (g + 1)) + 1
    omega
  | some k, ⟨h1, h2, h3, h4, h5, h6, h7⟩ =>
    show g < e ∧ g + 1 ≤ e ∧ e < b ∧ b ≤ n ∧ 1 ≤ k ∧ k ≤ b - (g + 1) ∧ b - e ≤ (e - (g + 1)) + k + 1 ∧ n - b ≤ k ∧ (k = b - (g + 1) → n - b < k)
    omega
section
variable {P : Program} {w : World} {K : PySem.W.Frag} {mg : Str → Option Value} {base : Heap} {n : Nat}
def RenAt (Val : Nat → List V → V → Hp → Prop) (ms : List V) (cs : List Addr) (b : Nat) (rv : V) (H : Hp) : Option Nat → Prop
  | none => rv = .non
  | some k => ∃ (rl : Addr) (ys : List V), rv = .ref rl ∧ H rl = some (.lst ys) ∧ SpansTo Val ms ys b k H ∧ rl ∉ cs
/-- the object at sh: front, back, second back and rebuild; cs: what may change -/
structure ShAt (Cs : Addr) (Val : Nat → List V → V → Hp → Prop) (ms : List V) (cs : List Addr) (sh : Addr) (g e b : Nat) (r : Option Nat) (H : Hp) : Prop where
  at_ : ∃ (dx fr : Addr) (bv lv rv : V) (xs : List V), H sh = some (ShO Cs dx (.ref fr) bv lv rv) ∧ H fr = some (.lst xs) ∧ SpansTo Val ms xs e (e - g) H ∧ OptSpan Val ms bv e b H ∧ OptSpan Val ms lv b ms.length H ∧ RenAt Val ms cs b rv H r ∧ fr ∉ cs
  ns : sh ∉ cs
variable {lb : Bool} {uv : List Addr} {f : V} {UR : List JEv → Hp → Prop} {Val : Nat → List V → V → Hp → Prop} {Cj : Addr × Addr} {Cc Cs j jdx c cdx l sh : Addr} {u : List JEv} {es : List (Nat × Nat × Nat)} {H H1 : Hp} {ms ns : List V} {cs ds : List Addr} {g e b : Nat} {r : Option Nat}
theorem OptSpan.kp (U : JS P w K mg base n lb uv f UR Val) {s : V} {i j : Nat} (h : OptSpan Val ms s i j H) (k : Kp ds H H1) (m : Mu H ds) : OptSpan Val ms s i j H1 := h.imp id fun z => z.kp U k m
theorem OptSpan.more {s : V} {i j : Nat} (h : OptSpan Val ms s i j H) : OptSpan Val (ms ++ ns) s i j H := h.imp (fun z => ⟨z.1, z.2.1, by rw [List.length_append]; have := z.2.2; omega⟩) fun z => z.more
theorem RenAt.kp (U : JS P w K mg base n lb uv f UR Val) {rv : V} (h : RenAt Val ms cs b rv H r) (k : Kp ds H H1) (m : Mu H ds) (s : ∀ a ∈ ds, a ∈ cs) : RenAt Val ms cs b rv H1 r := by
  match r, h with
  | none, h => exact h
  | some k', ⟨rl, ys, h1, h2, h3, h4⟩ => exact ⟨rl, ys, h1, k.at_ _ _ h2 fun z => h4 (s _ z), h3.kp U k m, h4⟩
theorem ShAt.kp (U : JS P w K mg base n lb uv f UR Val) (h : ShAt Cs Val ms cs sh g e b r H) (k : Kp ds H H1) (m : Mu H ds) (s : ∀ a ∈ ds, a ∈ cs) : ShAt Cs Val ms cs sh g e b r H1 := by
  obtain ⟨⟨dx, fr, bv, lv, rv, xs, h1, h2, h3, h4, h5, h6, h7⟩, h8⟩ := h
  exact ⟨⟨dx, fr, bv, lv, rv, xs, k.at_ _ _ h1 fun z => h8 (s _ z), k.at_ _ _ h2 fun z => h7 (s _ z), h3.kp U k m, h4.kp U k m, h5.kp U k m, h6.kp U k m s, h7⟩, h8⟩
def Mems (Val : Nat → List V → V → Hp → Prop) (ms : List V) (H : Hp) : Prop := ∀ (i : Nat) (m : V), ms[i]? = some m → Val i [m] m H
theorem Mems.kp (U : JS P w K mg base n lb uv f UR Val) (h : Mems Val ms H) (k : Kp ds H H1) (m : Mu H ds) : Mems Val ms H1 := fun i x e => U.val (h i x e) k m
def spShI (C : Addr) : Sp := fun vs H Q _ => ∃ (a dx : Addr) (x1 x2 x3 x4 : V), vs = [.ref a, x1, x2, x3, x4] ∧ H a = some (.ins C dx []) ∧ ∀ H', H' a = some (ShO C dx x1 x2 x3 x4) → Kp [a] H H' → (∀ b, Fr H' b → Fr H b) → Q .non H'
theorem ok_shi (T : Txt K mg) : FnOk P w K mg base CX0 1 T.f_Shape_init T.d_Shape_init ["self", "front", "back", "late", "renewed"] (spShI T.C_Shape) := by
  refine T.F_Shape_init.ok sc_Shape_init (fun vs H Q E h => ?_) (fun cdv A outer s H vs Q E hr h => ?_)
  · obtain ⟨a, dx, x1, x2, x3, x4, rfl, _⟩ := h
    rfl
  · obtain ⟨a, dx, x1, x2, x3, x4, rfl, ha, q⟩ := h
    refine ⟨_, (pss_cons (ps_fld (pv 0) (pv 1) rfl)
      (pss_cons (ps_fld (pv 0) (pv 2) rfl)
      (pss_cons (ps_fld (pv 0) (pv 3) rfl)
      (pss_one (ps_fld (pv 0) (pv 4) rfl))))), ?_⟩
    o_readsAll
    exact q _ (by kp_flats) (by kxs_still) fun b fb => by kba_ints
def spWork (P : Program) (w : World) (K : PySem.W.Frag) (mg : Str → Option Value) (base : Heap) (Cj : Addr × Addr) (Cc Cs : Addr) (n : Nat) : Sp := fun vs H Q _ => ∃ (lb : Bool) (uv : List Addr) (f : V) (UR : List JEv → Hp → Prop) (Val : Nat → List V → V → Hp → Prop) (j jdx c cdx l : Addr) (u : List JEv) (es : List (Nat × Nat × Nat)) (ms : List V) (cs : List Addr) (sh h : Addr) (g e b : Nat) (r : Option Nat),
  vs = [.ref j, .ref sh, .ref h] ∧ JS P w K mg base n lb uv f UR Val ∧ JW Cj Cc lb uv f UR j jdx c cdx l u es H ∧ u.length < 90000 ∧ es.length < 90000 ∧ ms.length < 80000 ∧ (∀ a ∈ [c, l] ++ uv, a ∈ cs) ∧ Mu H cs ∧ Mems Val ms H ∧ ShAt Cs Val ms cs sh g e b r H ∧ ShPre g e b ms.length r ∧ H h = some (.dK (heldK g (ms.drop g))) ∧ h ∉ cs ∧
  ∀ sh' d H', d.length = (workE g e b ms.length r).length → Kp ([c, l] ++ uv) H H' → JW Cj Cc lb uv f UR j jdx c cdx l (u ++ d) (es ++ workE g e b ms.length r) H' → ShAt Cs Val ms cs sh' g (workR g e b ms.length r).1 (workR g e b ms.length r).2.1 (workR g e b ms.length r).2.2 H' → Q (.ref sh') H'
theorem ok_work (T : Txt K mg) : FnOk P w K mg base CX0 (n + 8) T.f_worked_shape T.d_worked_shape ["joiner", "shape", "held"] (spWork P w K mg base (CJ T) T.C_Calls T.C_Shape n) := by
  refine T.F_worked_shape.ok sc_worked_shape (fun vs H Q E h => ?_) (fun cdv A outer s H vs Q E hr h => ?_)
  · obtain ⟨lb, uv, f, UR, Val, j, jdx, c, cdx, l, u, es, ms, cs, sh, h, g, e, b, r, rfl, _⟩ := h
    rfl
  · obtain ⟨lb, uv, f, UR, Val, j, jdx, c, cdx, l, u, es, ms, cs, sh, h, g, e, b, r, rfl, U, jw, lu, le, lm, hcs, mu, mm, sa, pre, hh, nh, q⟩ := h
    have G_span_length := ok_splen (P := P) (w := w) (base := base) T Val
    have G_oldest := ok_oldest (P := P) (w := w) (base := base) T
    have G_reaches := ok_reach (P := P) (w := w) (base := base) T Val
    have G_deepened := ok_deep (P := P) (w := w) (base := base) (n := n) T
    have G_Shape_init := ok_shi (P := P) (w := w) (base := base) T
    refine ⟨_, (pss_cons (ps_set (i := 3) sc_worked_shape.nd rfl (.inl rfl) (pe_fld (pv 1) rfl))
      (C8.pss_cut (ps_if (PW.pt (pw_and (pt_cmpR op_isN (pv 3) pe_non (nomark _)) (pw_and1 (pt_cmpR op_gt (pe_call G_span_length (hr.mono (by omega)) rfl T.g_span_length T.F_span_length.kp T.b_span_length .nil pass0 (pa_cons (pe_fld (pv 1) rfl) pa_nil)) (pe_callB call_len_seq (by rfl) T.z_len (by decide +kernel) (pa_cons (pe_fld (pv 1) rfl) pa_nil)) (nomark _))))) (pss_one (ps_set (i := 3) sc_worked_shape.nd rfl (.inl rfl) (pe_lst pa_nil))) pss_nil)
      (pss_cons (ps_if (pt_cmpR op_isN (pv 3) pe_non (nomark _)) (pss_one (ps_ret (pv 1))) pss_nil)
      (C8.pss_cut (ps_if (pt_not (pt_val (pe_call G_reaches (hr.mono (by omega)) rfl T.g_reaches T.F_reaches.kp T.b_reaches .nil pass0 (pa_cons (pv 3) (pa_cons (pe_call G_oldest (hr.mono (by omega)) rfl T.g_oldest T.F_oldest.kp T.b_oldest .nil pass0 (pa_cons (pv 2) pa_nil)) pa_nil))))) (pss_cons (ps_set (i := 4) sc_worked_shape.nd rfl (.inl rfl) (pe_op op_sub (pe_op op_sub (pe_ix (r := rIxT K) ix_tup (pe_fld (pv 1) rfl) pe_int (fun _ _ => rfl)) (pe_callB call_len_seq (by rfl) T.z_len (by decide +kernel) (pa_cons (pv 3) pa_nil))) pe_int))
        (pss_one (ps_set (i := 3) sc_worked_shape.nd rfl (.inl rfl) (pe_call G_deepened (hr.mono (by omega)) rfl T.g_deepened T.F_deepened.kp T.b_deepened .nil pass0 (pa_cons (pv 0) (pa_cons (pv 3) (pa_cons (pv 4) (pa_cons (pe_dget (hu_of hr) (pv 2) (pv 4) (fun _ _ => rfl)) pa_nil)))))))) pss_nil)
      (pss_cons (ps_if (pt_val (pe_call G_reaches (hr.mono (by omega)) rfl T.g_reaches T.F_reaches.kp T.b_reaches .nil pass0 (pa_cons (pv 3) (pa_cons (pe_call G_oldest (hr.mono (by omega)) rfl T.g_oldest T.F_oldest.kp T.b_oldest .nil pass0 (pa_cons (pv 2) pa_nil)) pa_nil)))) (pss_one (ps_ret (pe_make ⟨T.mk_Shape, T.m_Shape_init, T.t_Shape_init, T.kp_Shape⟩ G_Shape_init (hr.mono (by omega)) rfl T.gc_Shape T.b_Shape_init .nil pass0 (pa_cons (pv 3) (pa_cons (pe_fld (pv 1) rfl) (pa_cons pe_non (pa_cons pe_non pa_nil))))))) pss_nil)
      (pss_one (ps_ret (pe_make ⟨T.mk_Shape, T.m_Shape_init, T.t_Shape_init, T.kp_Shape⟩ G_Shape_init (hr.mono (by omega)) rfl T.gc_Shape T.b_Shape_init .nil pass0 (pa_cons (pe_fld (pv 1) rfl) (pa_cons (pe_fld (pv 1) rfl) (pa_cons (pe_fld (pv 1) rfl) (pa_cons (pv 3) pa_nil)))))))))))), ?_⟩
    obtain ⟨⟨dx, fr, bv, lv, rv, xs, o1, o2, o3, o4, o5, o6, o7⟩, o8⟩ := id sa
    have m0 := jw.mu U
    refine ⟨_, rfl, sh, _, _, _, rv, rfl, o1, T.cl_Shape, T.n_Shape_renewed, rfl, ?_⟩
    refine ⟨fun σ H1 => (σ = [some (.ref j), some (.ref sh), some (.ref h), some .non, none] ∧ H1 = H ∧ r = none ∧ ¬ e - g < ms.length - e) ∨ (∃ (rl : Addr) (ys : List V) (k : Nat), σ = [some (.ref j), some (.ref sh), some (.ref h), some (.ref rl), none] ∧ Same H H1 ∧ H1 rl = some (.lst ys) ∧ SpansTo Val ms ys b k H1 ∧ rl ∉ cs ∧ (g ≤ e ∧ e < b ∧ b ≤ ms.length ∧ k ≤ b - g) ∧ workE g e b ms.length r = stepE g b k ∧ workR g e b ms.length r = stepR g e b ms.length k), ?_, ?_⟩
    · match r, o6, pre with
      | none, o6, ⟨p1, p2, p3, p4⟩ =>
        have o6 : rv = .non := o6
        subst o6
        refine ⟨_, rfl, rfl, _, rfl, ?_⟩
        refine ifT (decide_eq_true rfl) ?_
        refine ⟨_, rfl, sh, _, _, _, bv, rfl, o1, T.cl_Shape, T.n_Shape_back, rfl, ms, bv, e, b, rfl, o4, _, rfl, sh, _, _, _, .ref fr, rfl, o1, T.cl_Shape, T.n_Shape_front, rfl, fr, xs, rfl, .inl (sqlOf o2), _, _, rfl, rfl, _, rfl, ?_⟩
        have lx := o3.len
        by_cases cc : e - g < ms.length - e
        · refine ifT (decide_eq_true (by omega)) ?_
          refine ⟨Nat.zero_le _, fun rl nrl => ?_⟩
          have frl := Fr.mk nrl
          refine .inr ⟨rl, [], 0, rfl, same_newF frl, upd_same, ⟨rfl, Nat.zero_le _, by omega, fun q s z => by cases q <;> cases z⟩, mu.fr frl, ⟨p1, by omega, by omega, Nat.zero_le _⟩, if_pos cc, if_pos cc⟩
        · refine ifF (decide_eq_false (by omega)) ?_
          exact .inl ⟨rfl, rfl, rfl, cc⟩
      | some k, ⟨rl, ys, r1, r2, r3, r4⟩, ⟨p1, p2, p3, p4, p5, p6, p7, p8⟩ =>
        subst r1
        refine ⟨_, rfl, rfl, _, rfl, ?_⟩
        refine ifF (decide_eq_false fun z => nomatch z) ?_
        refine ifF rfl ?_
        exact .inr ⟨rl, ys, k, rfl, fun _ _ z => z, r2, r3, r4, ⟨p1, p2, p3, p5⟩, rfl, rfl⟩
    · rintro σ H1 (⟨rfl, rfl, rfl, nst⟩ | ⟨rl, ys, k, rfl, s1, e1, sp1, nr, ⟨p1, p2, p3, p5⟩, eE, eR⟩)
      · refine ⟨_, rfl, rfl, _, rfl, ?_⟩
        refine ifT (decide_eq_true rfl) ?_
        have e2 : workE g e b ms.length none = [] := if_neg nst
        have e3 : workR g e b ms.length none = (e, b, none) := if_neg nst
        rw [e2, e3] at q
        refine ⟨_, rfl, q sh [] H1 rfl (kp_refl _ _) ?_ sa⟩
        rw [List.append_nil, List.append_nil]
        exact jw
      · rw [eE, eR] at q
        refine ⟨_, rfl, rfl, _, rfl, ?_⟩
        refine ifF (decide_eq_false fun z => nomatch z) ?_
        have k1 : Kp ([c, l] ++ uv) H H1 := kp_same s1
        have jw1 := jw.same U s1
        have m1 := jw1.mu U
        have hl0 : (ms.drop g).length ≠ 0 := by
          rw [List.length_drop]
          omega
        have hf : fstN g (ms.drop g) = .int g := if_neg hl0
        have ly := sp1.len
        refine ⟨fun σ H2 => ∃ (rl : Addr) (ys : List V) (y : Option V) (d : List JEv), σ = [some (.ref j), some (.ref sh), some (.ref h), some (.ref rl), y] ∧ d.length = (stepE g b k).length ∧ Kp ([c, l] ++ uv) H H2 ∧ JW (CJ T) T.C_Calls lb uv f UR j jdx c cdx l (u ++ d) (es ++ stepE g b k) H2 ∧ H2 rl = some (.lst ys) ∧ SpansTo Val ms ys b (stepK g b k) H2 ∧ rl ∉ cs, ?_, ?_⟩
        · refine ⟨_, rfl, _, rfl, h, g, ms.drop g, rfl, s1 _ _ hh, ms, ys, rl, b, k, g, _, rfl, e1, sp1, .inr hf, _, rfl, ?_⟩
          by_cases lk : k < b - g
          · refine ifT (by rw [decide_eq_false (by omega)]; rfl) ?_
            rcases o4 with ⟨_, z, _⟩ | ⟨g1, g2, pb, vb, rfl, g3, g4⟩
            · omega
            refine ⟨_, rfl, sh, _, _, _, _, rfl, s1 _ _ o1, T.cl_Shape, T.n_Shape_back, rfl, pb, _, 1, _, rfl, rfl, sqtOf (s1 _ _ g3), atI_nat (j := 1) rfl, _, rfl, rl, ys, rfl, .inl (sqlOf e1), _, _, rfl, rfl, _, _, rfl, rfl, ?_⟩
            dsimp only
            rw [show ((b : Int) - (ys.length : Int) - 1) = ((b - 1 - k : Nat) : Int) by omega]
            obtain ⟨mem, hm⟩ : ∃ mem, ms[b - 1 - k]? = some mem := ⟨_, List.getElem?_eq_getElem (by omega)⟩
            have dg : DGet H1 h (.int ((b - 1 - k : Nat) : Int)) (some mem) := by
              have hv := heldK_get (ms.drop g) g (b - 1 - k - g)
              rw [show g + (b - 1 - k - g) = b - 1 - k by omega, List.getElem?_drop, show g + (b - 1 - k - g) = b - 1 - k by omega, hm] at hv
              exact .inl ⟨_, .inl ((b - 1 - k : Nat) : Int), .inl (s1 _ _ hh), rfl, hv.symm⟩
            refine ⟨_, rfl, _, rfl, _, rfl, _, rfl, _, rfl, h, mem, rfl, dg, lb, uv, f, UR, Val, j, jdx, c, cdx, l, u, es, ms, ys, rl, mem, b, k, rfl, U, jw1, lu, le, by omega, e1, fun z => nr (hcs _ z), sp1, by omega, by omega, ⟨hm, (mm.kp U k1 m0) _ _ hm⟩, fun r2 ys2 d H2 ld fr2 k2 jw2 e2 sp2 => ?_⟩
            have eS : stepE g b k = deepE b k := if_pos lk
            have eK : stepK g b k = k + 1 := if_pos lk
            rw [eS, eK]
            have k12 := kp_trans k1 k2
            exact ⟨r2, ys2, _, d, rfl, ld, k12, jw2, e2, sp2, mu.fr (fr_kp k1 m1 fr2)⟩
          · refine ifF (by rw [decide_eq_true (by omega)]; rfl) ?_
            have eS : stepE g b k = [] := if_neg lk
            have eK : stepK g b k = k := if_neg lk
            rw [eS, eK]
            refine ⟨rl, ys, _, [], rfl, rfl, k1, ?_, e1, sp1, nr⟩
            rw [List.append_nil, List.append_nil]
            exact jw1
        · rintro σ H2 ⟨rl, ys, y, d, rfl, ld, k2, jw2, e2, sp2, nr⟩
          have nsh : sh ∉ [c, l] ++ uv := fun z => o8 (hcs _ z)
          have m2 := jw2.mu U
          have mu2 : Mu H2 cs := mu.kp k2 m2
          have sa2 := sa.kp U k2 m0 hcs
          have o1' := k2.at_ _ _ o1 nsh
          have hh' := k2.at_ _ _ hh fun z => nh (hcs _ z)
          refine ⟨_, rfl, _, rfl, h, g, ms.drop g, rfl, hh', ms, ys, rl, b, stepK g b k, g, _, rfl, e2, sp2, .inr hf, _, rfl, ?_⟩
          have hk : stepK g b k ≤ b - g := by
            unfold stepK
            split <;> omega
          have mks : ∀ {x dd : Addr} {H3 : Hp}, Fr H2 x → Fr H2 dd → Kp [x] (upd (upd H2 dd (.own x)) x (.ins T.C_Shape dd [])) H3 → Same H2 H3 := fun {x dd H3} fx fd kk b o z => kk.at_ _ _ (by rw [upd_ne (ne_of_none z fx.h), upd_ne (ne_of_none z fd.h)]; exact z) (not_cons (ne_of_none z fx.h) not_nil)
          by_cases ck : stepK g b k = b - g
          · refine ifT (decide_eq_true (by omega)) ?_
            refine ⟨_, rfl, _, rfl, sh, _, _, _, lv, rfl, o1', T.cl_Shape, T.n_Shape_late, rfl, fun x dd nx nd ndx => ⟨x, dd, .ref rl, lv, .non, .non, rfl, upd_same, fun H3 e3 k3 f3 => ⟨rfl, ?_⟩⟩⟩
            have s3 := mks (Fr.mk nx) (Fr.mk nd) k3
            have eS : stepR g e b ms.length k = (b, ms.length, none) := if_pos ck
            rw [eS] at q
            have kc := kp_same (cs := []) s3
            refine q x d H3 ld (kp_trans k2 (kp_same s3)) (jw2.same U s3) ⟨⟨dd, rl, lv, .non, .non, ys, e3, s3 _ _ e2, ?_, (o5.kp U k2 m0).kp U kc mu_nil, .inl ⟨rfl, rfl, Nat.le_refl _⟩, rfl, nr⟩, mu2.fr (Fr.mk nx)⟩
            rw [← ck]
            exact sp2.kp U kc mu_nil
          · refine ifF (decide_eq_false (by omega)) ?_
            refine ⟨_, rfl, sh, _, _, _, .ref fr, rfl, o1', T.cl_Shape, T.n_Shape_front, rfl, _, rfl, sh, _, _, _, bv, rfl, o1', T.cl_Shape, T.n_Shape_back, rfl, _, rfl, sh, _, _, _, lv, rfl, o1', T.cl_Shape, T.n_Shape_late, rfl, _, rfl, fun x dd nx nd ndx => ⟨x, dd, .ref fr, bv, lv, .ref rl, rfl, upd_same, fun H3 e3 k3 f3 => ⟨rfl, ?_⟩⟩⟩
            have s3 := mks (Fr.mk nx) (Fr.mk nd) k3
            have eS : stepR g e b ms.length k = (e, b, some (stepK g b k)) := if_neg ck
            rw [eS] at q
            have kc := kp_same (cs := []) s3
            have nfr : fr ∉ [c, l] ++ uv := fun z => o7 (hcs _ z)
            exact q x d H3 ld (kp_trans k2 (kp_same s3)) (jw2.same U s3) ⟨⟨dd, fr, bv, lv, .ref rl, xs, e3, s3 _ _ (k2.at_ _ _ o2 nfr), (o3.kp U k2 m0).kp U kc mu_nil, (o4.kp U k2 m0).kp U kc mu_nil, (o5.kp U k2 m0).kp U kc mu_nil, ⟨rl, ys, rfl, s3 _ _ e2, sp2.kp U kc mu_nil, nr⟩, o7⟩, mu2.fr (Fr.mk nx)⟩
end
end Ob

set_option Elab.async false
set_option linter.all false
set_option maxRecDepth 100000
set_option maxHeartbeats 1000000
namespace Ob
open PySem PySem.Spec PyProof.Rows L2
open LamX (Tabs TabB TabS ExtN)

set_option hygiene false in
local macro_rules
  | `(tactic| kp_flats) => `(tactic| first
    | assumption
    | exact upd_same
    | (apply atNew; assumption; kp_flats)
    | (apply atNe; (next => kbo_bools); kp_flats)
    | (apply atSame; assumption; kp_flats)
    | (apply atKp; assumption; (next => kaf_pre); kp_flats))
set_option hygiene false in
local macro_rules
  | `(tactic| kaf_pre) => `(tactic| first
    | assumption
    | exact not_nil
    | (apply not_cons; (next => kbo_bools); kaf_pre)
    | (apply not_app; (next => kaf_pre); kaf_pre))
set_option hygiene false in
local macro_rules
  | `(tactic| kbo_bools) => `(tactic| first
    | assumption
    | (apply Ne.symm; assumption)
    | (apply neN; assumption; kp_flats)
    | (apply neN'; assumption; kp_flats))
set_option hygiene false in
local macro_rules
  | `(tactic| o_reads) => `(tactic| first
    | with_reducible rfl
    | assumption
    | rfl
    | kp_flats
    | (show SqL _ _ _ _; first | assumption | (apply sqlOf; kp_flats) | (apply sqlSame; assumption; o_reads))
    | (show SqT _ _ _ _; first | assumption | (apply sqtOf; kp_flats) | (apply sqtAll; assumption) | (apply sqtSame; assumption; o_reads))
    | (show Cls _ _; first | exact T.cl_Calls | exact T.cl_Joiner | exact T.cl_Planner | exact T.cl_EvenSums | exact T.cl_Shape | exact T.cl_TwoStacks)
    | (show NoAttr _ _ _; first | exact T.n_Calls_entries | exact T.n_Calls_running | exact T.n_Joiner_calls | exact T.n_Joiner_join_call | exact T.n_Planner_entries | exact T.n_EvenSums_calls | exact T.n_EvenSums_joiner | exact T.n_EvenSums_zero | exact T.n_EvenSums_given | exact T.n_EvenSums_held | exact T.n_EvenSums_shape | exact T.n_Shape_front | exact T.n_Shape_back | exact T.n_Shape_late | exact T.n_Shape_renewed | exact T.n_TwoStacks_calls | exact T.n_TwoStacks_joiner | exact T.n_TwoStacks_zero | exact T.n_TwoStacks_given | exact T.n_TwoStacks_held | exact T.n_TwoStacks_front | exact T.n_TwoStacks_back)
    | (apply Or.inl; o_reads)
    | (apply Or.inr; o_reads)
    | (apply And.intro; (next => o_reads); o_reads)
    | (apply Exists.intro; o_reads)
    | exact Nat.le_of_ble_eq_true rfl
    | exact Nat.succ_ne_zero _
    | (show Fr _ _; kba_ints)
    | (show Same _ _; kd_subs)
    | (show Kp _ _ _; kxs_still)
    | (show (_ : Nat) ≤ _; simp only [List.length_append, List.length_map, List.length_cons, List.length_nil, List.length_take, List.length_drop, List.length_replicate, List.length_range, sizeLine_eq]; omega)
    | (show _ = none; apply Fr.h; kba_ints)
    | (show Bag _ _; first | assumption | (apply bag_putF; assumption; o_reads) | (apply bag_neF; (next => kbo_bools); o_reads) | (apply bag_kpR; assumption; (next => kaf_pre); o_reads))
    | omega
    | decide)
local macro_rules
  | `(tactic| o_readsAll) => `(tactic| repeat (first
    | (refine fun (pNew : Addr) (nNew : _ = none) => ?_; replace nNew := Fr.mk nNew)
    | (refine fun (xNew dNew : Addr) (nNew : _ = none) (mNew : _ = none) (eNew : dNew ≠ xNew) => ?_; replace nNew := Fr.mk nNew; replace mNew := Fr.mk mNew)
    | (apply And.intro; next => o_reads)
    | apply Exists.intro (α := V)
    | apply Exists.intro (α := Addr)
    | apply Exists.intro (α := Int)
    | apply Exists.intro (α := Bool)
    | apply Exists.intro (α := List V)
    | apply Exists.intro (α := List Nat)
    | apply Exists.intro (α := List (Str × V))
    | apply Exists.intro (α := List _)
    | apply Exists.intro (α := Str)
    | apply Exists.intro (α := HO)
    | apply Exists.intro (α := Sp)
    | apply Exists.intro (α := VK)))
set_option hygiene false in
local macro_rules
  | `(tactic| kba_ints) => `(tactic| first
    | assumption
    | (apply frUp; (first | assumption | (apply Ne.symm; assumption)); kba_ints)
    | (apply noneOf; assumption; intro oF eF; apply Exists.intro; kp_flats)
    | (apply frUp; (next => kbo_bools); kba_ints))
set_option hygiene false in
local macro_rules
  | `(tactic| kxs_still) => `(tactic| first
    | assumption
    | exact kp_refl _ _
    | (apply kp_newF; assumption; kxs_still)
    | (apply kp_new; assumption; kxs_still)
    | (apply kp_up; (next => o_fieldsN); kxs_still)
    | (apply kp_new; (next => kba_ints); kxs_still)
    | (apply kp_sameR; assumption; kxs_still)
    | (apply kp_transR; assumption; kxs_still)
    | (apply kp_freshR; assumption; (next => kaf_suf); kxs_still))
set_option hygiene false in
local macro_rules
  | `(tactic| kaf_suf) => `(tactic| first
    | assumption
    | exact subNil
    | (apply subCons; (first | (apply Or.inl; o_fieldsN) | (apply Or.inr; kba_ints)); kaf_suf)
    | (apply subApp; (next => kaf_suf); kaf_suf))
set_option hygiene false in
local macro_rules
  | `(tactic| o_fieldsN) => `(tactic| first
    | assumption
    | exact memA
    | (apply memB; o_fieldsN)
    | (apply memL; o_fieldsN)
    | (apply memR; o_fieldsN))
set_option hygiene false in
local macro_rules
  | `(tactic| kd_subs) => `(tactic| first
    | assumption
    | exact Same.refl _
    | (apply same_putF; assumption; kd_subs)
    | (apply same_putG; assumption; kd_subs)
    | (apply same_putF; (next => kba_ints); kd_subs)
    | (apply same_transR; assumption; kd_subs))

set_option pp.maxSteps 900
section
variable {P : Program} {w : World} {K : PySem.W.Frag} {mg : Str → Option Value} {base : Heap} {n : Nat}
theorem RenAt.more {Val : Nat → List V → V → Hp → Prop} {ms ns : List V} {cs : List Addr} {b : Nat} {rv : V} {H : Hp} {r : Option Nat} (h : RenAt Val ms cs b rv H r) : RenAt Val (ms ++ ns) cs b rv H r := by
  match r, h with
  | none, h => exact h
  | some k', ⟨rl, ys, h1, h2, h3, h4⟩ => exact ⟨rl, ys, h1, h2, h3.more, h4⟩
/-- the entries of an addition: of the back or the second back, and of the rebuild -/
def addE1 (e b n : Nat) : Option Nat → List (Nat × Nat × Nat)
  | none => extE e n
  | some _ => extE b n
def addE (g e b n : Nat) (r : Option Nat) : List (Nat × Nat × Nat) := addE1 e b n r ++ workE g e (addB b n r) (n + 1) r
def addR (g e b n : Nat) (r : Option Nat) : Nat × Nat × Option Nat := workR g e (addB b n r) (n + 1) r
theorem extE_len {i m : Nat} : (extE i m).length ≤ 1 := by
  unfold extE
  split
  · exact Nat.zero_le _
  · exact Nat.le_refl _
theorem stepE_len {g b k : Nat} : (stepE g b k).length ≤ 1 := by
  unfold stepE deepE
  split
  · split
    · exact Nat.zero_le _
    · exact Nat.le_refl _
  · exact Nat.zero_le _
theorem workE_len {g e b n : Nat} {r : Option Nat} : (workE g e b n r).length ≤ 1 := by
  match r with
  | none =>
    show (if e - g < n - e then stepE g b 0 else []).length ≤ 1
    by_cases c : e - g < n - e
    · rw [if_pos c]
      exact stepE_len
    · rw [if_neg c]
      exact Nat.zero_le _
  | some k => exact stepE_len
theorem addE_len {g e b n : Nat} {r : Option Nat} : (addE g e b n r).length ≤ 2 := by
  unfold addE
  rw [List.length_append]
  have h1 := workE_len (g := g) (e := e) (b := addB b n r) (n := n + 1) (r := r)
  have h2 : (addE1 e b n r).length ≤ 1 := by
    match r with
    | none => exact extE_len
    | some k => exact extE_len
  omega
theorem ShOk.le {g e b n : Nat} {r : Option Nat} (h : ShOk g e b n r) : g ≤ e ∧ e ≤ b ∧ b ≤ n := by
  match r, h with
  | none, ⟨h1, h2, h3, h4⟩ => omega
  | some k, ⟨h1, h2, h3, h4, h5, h6, h7⟩ => omega
def spShAdd (P : Program) (w : World) (K : PySem.W.Frag) (mg : Str → Option Value) (base : Heap) (Cj : Addr × Addr) (Cc Cs : Addr) (n : Nat) : Sp := fun vs H Q _ => ∃ (lb : Bool) (uv : List Addr) (f : V) (UR : List JEv → Hp → Prop) (Val : Nat → List V → V → Hp → Prop) (j jdx c cdx l : Addr) (u : List JEv) (es : List (Nat × Nat × Nat)) (ms : List V) (mem : V) (cs : List Addr) (sh h : Addr) (g e b : Nat) (r : Option Nat),
  vs = [.ref j, .ref sh, .ref h, .int ms.length] ∧ JS P w K mg base n lb uv f UR Val ∧ JW Cj Cc lb uv f UR j jdx c cdx l u es H ∧ u.length < 80000 ∧ es.length < 80000 ∧ ms.length < 70000 ∧ (∀ a ∈ [c, l] ++ uv, a ∈ cs) ∧ Mu H cs ∧ Mems Val (ms ++ [mem]) H ∧ ShAt Cs Val ms cs sh g e b r H ∧ ShOk g e b ms.length r ∧ H h = some (.dK (heldK g ((ms ++ [mem]).drop g))) ∧ h ∉ cs ∧
  ∀ sh' d H', d.length = (addE g e b ms.length r).length → Kp ([c, l] ++ uv) H H' → JW Cj Cc lb uv f UR j jdx c cdx l (u ++ d) (es ++ addE g e b ms.length r) H' → ShAt Cs Val (ms ++ [mem]) cs sh' g (addR g e b ms.length r).1 (addR g e b ms.length r).2.1 (addR g e b ms.length r).2.2 H' → Q (.ref sh') H'
theorem ok_shadd (T : Txt K mg) : FnOk P w K mg base CX0 (n + 10) T.f_shape_after_addition T.d_shape_after_addition ["joiner", "shape", "held", "number"] (spShAdd P w K mg base (CJ T) T.C_Calls T.C_Shape n) := by
  have G_extended := ok_ext (P := P) (w := w) (base := base) (n := n) T
  have G_worked_shape := ok_work (P := P) (w := w) (base := base) (n := n) T
  have G_Shape_init := ok_shi (P := P) (w := w) (base := base) T
  refine T.F_shape_after_addition.ok sc_shape_after_addition (fun vs H Q E h => ?_) (fun cdv A outer s H vs Q E hr h => ?_)
  · obtain ⟨lb, uv, f, UR, Val, j, jdx, c, cdx, l, u, es, ms, mem, cs, sh, h, g, e, b, r, rfl, _⟩ := h
    rfl
  · obtain ⟨lb, uv, f, UR, Val, j, jdx, c, cdx, l, u, es, ms, mem, cs, sh, h, g, e, b, r, rfl, U, jw, lu, le, lm, hcs, mu, mm, sa, ok, hh, nh, q⟩ := h
    refine ⟨_, (pss_cons (ps_set (i := 4) sc_shape_after_addition.nd rfl (.inl rfl) (pe_fld (pv 1) rfl))
      (pss_cons (ps_set (i := 5) sc_shape_after_addition.nd rfl (.inl rfl) (pe_fld (pv 1) rfl))
      (C8.pss_cut (ps_if (pt_cmpR op_isN (pe_fld (pv 1) rfl) pe_non (nomark _)) (pss_one (ps_set (i := 4) sc_shape_after_addition.nd rfl (.inl rfl) (pe_call G_extended (hr.mono (by omega)) rfl T.g_extended T.F_extended.kp T.b_extended .nil pass0 (pa_cons (pv 0) (pa_cons (pv 4) (pa_cons (pv 3) (pa_cons (pe_dget (hu_of hr) (pv 2) (pv 3) (fun _ _ => rfl)) pa_nil))))))) (pss_one (ps_set (i := 5) sc_shape_after_addition.nd rfl (.inl rfl) (pe_call G_extended (hr.mono (by omega)) rfl T.g_extended T.F_extended.kp T.b_extended .nil pass0 (pa_cons (pv 0) (pa_cons (pv 5) (pa_cons (pv 3) (pa_cons (pe_dget (hu_of hr) (pv 2) (pv 3) (fun _ _ => rfl)) pa_nil))))))))
      (pss_one (ps_ret (pe_call G_worked_shape (hr.mono (by omega)) rfl T.g_worked_shape T.F_worked_shape.kp T.b_worked_shape .nil pass0 (pa_cons (pv 0) (pa_cons (pe_make ⟨T.mk_Shape, T.m_Shape_init, T.t_Shape_init, T.kp_Shape⟩ G_Shape_init (hr.mono (by omega)) rfl T.gc_Shape T.b_Shape_init .nil pass0 (pa_cons (pe_fld (pv 1) rfl) (pa_cons (pv 4) (pa_cons (pv 5) (pa_cons (pe_fld (pv 1) rfl) pa_nil))))) (pa_cons (pv 2) pa_nil))))))))), ?_⟩
    obtain ⟨⟨dx, fr, bv, lv, rv, xs, o1, o2, o3, o4, o5, o6, o7⟩, o8⟩ := id sa
    have m0 := jw.mu U
    obtain ⟨q1, q2, q3⟩ := ok.le
    have hlen : (ms ++ [mem]).length = ms.length + 1 := by
      rw [List.length_append]
      rfl
    have hmem : (ms ++ [mem])[ms.length]? = some mem := List.getElem?_concat_length ..
    have al : Alone Val (ms ++ [mem]) ms.length mem H := ⟨hmem, mm _ _ hmem⟩
    have dg : DGet H h (.int (ms.length : Int)) (some mem) := by
      have hv := heldK_get ((ms ++ [mem]).drop g) g (ms.length - g)
      rw [show g + (ms.length - g) = ms.length by omega, List.getElem?_drop, show g + (ms.length - g) = ms.length by omega, hmem] at hv
      exact .inl ⟨_, .inl (ms.length : Int), .inl hh, rfl, hv.symm⟩
    have nsh : sh ∉ [c, l] ++ uv := fun z => o8 (hcs _ z)
    have nfr : fr ∉ [c, l] ++ uv := fun z => o7 (hcs _ z)
    refine ⟨_, rfl, sh, _, _, _, bv, rfl, o1, T.cl_Shape, T.n_Shape_back, rfl, _, rfl, sh, _, _, _, lv, rfl, o1, T.cl_Shape, T.n_Shape_late, rfl, ?_⟩
    refine ⟨fun σ H1 => ∃ (bv' lv' : V) (d : List JEv), σ = [some (.ref j), some (.ref sh), some (.ref h), some (.int ms.length), some bv', some lv'] ∧ d.length = (addE1 e b ms.length r).length ∧ Kp ([c, l] ++ uv) H H1 ∧ JW (CJ T) T.C_Calls lb uv f UR j jdx c cdx l (u ++ d) (es ++ addE1 e b ms.length r) H1 ∧ OptSpan Val (ms ++ [mem]) bv' e (addB b ms.length r) H1 ∧ OptSpan Val (ms ++ [mem]) lv' (addB b ms.length r) (ms.length + 1) H1, ?_, ?_⟩
    · match r, o6, ok with
      | none, o6, ⟨p1, p2, p3, p4⟩ =>
        have o6 : rv = .non := o6
        subst o6
        refine ⟨_, rfl, sh, _, _, _, .non, rfl, o1, T.cl_Shape, T.n_Shape_renewed, rfl, rfl, _, rfl, ?_⟩
        refine ifT (decide_eq_true rfl) ?_
        subst p3
        have hl : lv = .non := by
          rcases o5 with ⟨z, _⟩ | ⟨z, _⟩
          · exact z
          · omega
        refine ⟨_, rfl, _, rfl, _, rfl, _, rfl, _, rfl, h, mem, rfl, dg, lb, uv, f, UR, Val, j, jdx, c, cdx, l, u, es, ms ++ [mem], bv, mem, e, ms.length, rfl, U, jw, by omega, by omega, by omega, o4.more, al, fun r d H1 ld k1 jw1 s1 => ?_⟩
        exact ⟨r, lv, d, rfl, ld, k1, jw1, .inr s1, .inl ⟨hl, rfl, by rw [hlen]; exact Nat.le_refl _⟩⟩
      | some k, ⟨rl, ys, r1, r2, r3, r4⟩, ⟨p1, p2, p3, p4, p5, p6, p7⟩ =>
        subst r1
        refine ⟨_, rfl, sh, _, _, _, .ref rl, rfl, o1, T.cl_Shape, T.n_Shape_renewed, rfl, rfl, _, rfl, ?_⟩
        refine ifF (decide_eq_false fun z => nomatch z) ?_
        refine ⟨_, rfl, _, rfl, _, rfl, _, rfl, _, rfl, h, mem, rfl, dg, lb, uv, f, UR, Val, j, jdx, c, cdx, l, u, es, ms ++ [mem], lv, mem, b, ms.length, rfl, U, jw, by omega, by omega, by omega, o5.more, al, fun r d H1 ld k1 jw1 s1 => ?_⟩
        exact ⟨bv, r, d, rfl, ld, k1, jw1, (o4.more).kp U k1 m0, .inr s1⟩
    · rintro σ H1 ⟨bv', lv', d, rfl, ld, k1, jw1, s1, s2⟩
      have o1' := k1.at_ _ _ o1 nsh
      have hh' := k1.at_ _ _ hh fun z => nh (hcs _ z)
      have m1 := jw1.mu U
      have mu1 : Mu H1 cs := mu.kp k1 m1
      refine ⟨_, rfl, _, rfl, sh, _, _, _, .ref fr, rfl, o1', T.cl_Shape, T.n_Shape_front, rfl, _, rfl, _, rfl, _, rfl, sh, _, _, _, rv, rfl, o1', T.cl_Shape, T.n_Shape_renewed, rfl, fun x dd nx nd ndx => ⟨x, dd, .ref fr, bv', lv', rv, rfl, upd_same, fun H2 e2 k2 f2 => ⟨rfl, _, rfl, ?_⟩⟩⟩
      have fx := Fr.mk nx
      have fd := Fr.mk nd
      have s12 : Same H1 H2 := fun b o z => k2.at_ _ _ (by rw [upd_ne (ne_of_none z fx.h), upd_ne (ne_of_none z fd.h)]; exact z) (not_cons (ne_of_none z fx.h) not_nil)
      have kc := kp_same (cs := []) s12
      have hl1 : (addE1 e b ms.length r).length ≤ 1 := by
        match r with
        | none => exact extE_len
        | some k => exact extE_len
      have sa2 : ShAt T.C_Shape Val (ms ++ [mem]) cs x g e (addB b ms.length r) r H2 := ⟨⟨dd, fr, bv', lv', rv, xs, e2, s12 _ _ (k1.at_ _ _ o2 nfr), ((o3.more (ns := [mem])).kp U k1 m0).kp U kc mu_nil, s1.kp U kc mu_nil, by rw [hlen]; exact s2.kp U kc mu_nil, ?_, o7⟩, mu1.fr fx⟩
      · refine ⟨lb, uv, f, UR, Val, j, jdx, c, cdx, l, u ++ d, _, ms ++ [mem], cs, x, h, g, e, addB b ms.length r, r, rfl, U, jw1.same U s12, by rw [List.length_append, ld]; omega, by rw [List.length_append]; omega, by rw [hlen]; omega, hcs, mu1.same s12, (mm.kp U k1 m0).kp U kc mu_nil, sa2, by rw [hlen]; exact add_pre ok, s12 _ _ hh', nh, fun sh' d2 H3 ld2 k3 jw3 sa3 => ?_⟩
        rw [hlen] at ld2 jw3 sa3
        rw [List.append_assoc, List.append_assoc] at jw3
        refine q sh' (d ++ d2) H3 ?_ (kp_trans (kp_trans k1 (kp_same s12)) k3) jw3 sa3
        unfold addE
        rw [List.length_append, List.length_append, ld, ld2]
      · match r, o6 with
        | none, o6 => exact o6
        | some k, o6 => exact ((o6.more (ns := [mem])).kp U k1 m0 hcs).kp U kc mu_nil fun _ z => nomatch z
def spShRem (P : Program) (w : World) (K : PySem.W.Frag) (mg : Str → Option Value) (base : Heap) (Cj : Addr × Addr) (Cc Cs : Addr) (n : Nat) : Sp := fun vs H Q _ => ∃ (lb : Bool) (uv : List Addr) (f : V) (UR : List JEv → Hp → Prop) (Val : Nat → List V → V → Hp → Prop) (j jdx c cdx l : Addr) (u : List JEv) (es : List (Nat × Nat × Nat)) (ms : List V) (cs : List Addr) (sh h : Addr) (g e b : Nat) (r : Option Nat),
  vs = [.ref j, .ref sh, .ref h] ∧ JS P w K mg base n lb uv f UR Val ∧ JW Cj Cc lb uv f UR j jdx c cdx l u es H ∧ u.length < 80000 ∧ es.length < 80000 ∧ ms.length < 70000 ∧ (∀ a ∈ [c, l] ++ uv, a ∈ cs) ∧ Mu H cs ∧ Mems Val ms H ∧ ShAt Cs Val ms cs sh g e b r H ∧ ShOk g e b ms.length r ∧ g < ms.length ∧ H h = some (.dK (heldK (g + 1) (ms.drop (g + 1)))) ∧ h ∉ cs ∧
  ∀ sh' d H', d.length = (workE (g + 1) e b ms.length r).length → Kp ([c, l] ++ uv) H H' → JW Cj Cc lb uv f UR j jdx c cdx l (u ++ d) (es ++ workE (g + 1) e b ms.length r) H' → ShAt Cs Val ms cs sh' (g + 1) (workR (g + 1) e b ms.length r).1 (workR (g + 1) e b ms.length r).2.1 (workR (g + 1) e b ms.length r).2.2 H' → Q (.ref sh') H'
theorem ok_shrem (T : Txt K mg) : FnOk P w K mg base CX0 (n + 10) T.f_shape_after_removal T.d_shape_after_removal ["joiner", "shape", "held"] (spShRem P w K mg base (CJ T) T.C_Calls T.C_Shape n) := by
  have G_worked_shape := ok_work (P := P) (w := w) (base := base) (n := n) T
  have G_Shape_init := ok_shi (P := P) (w := w) (base := base) T
  refine T.F_shape_after_removal.ok sc_shape_after_removal (fun vs H Q E h => ?_) (fun cdv A outer s H vs Q E hr h => ?_)
  · obtain ⟨lb, uv, f, UR, Val, j, jdx, c, cdx, l, u, es, ms, cs, sh, h, g, e, b, r, rfl, _⟩ := h
    rfl
  · obtain ⟨lb, uv, f, UR, Val, j, jdx, c, cdx, l, u, es, ms, cs, sh, h, g, e, b, r, rfl, U, jw, lu, le, lm, hcs, mu, mm, sa, ok, gl, hh, nh, q⟩ := h
    refine ⟨_, (pss_one (ps_ret (pe_call G_worked_shape (hr.mono (by omega)) rfl T.g_worked_shape T.F_worked_shape.kp T.b_worked_shape .nil pass0 (pa_cons (pv 0) (pa_cons (pe_make ⟨T.mk_Shape, T.m_Shape_init, T.t_Shape_init, T.kp_Shape⟩ G_Shape_init (hr.mono (by omega)) rfl T.gc_Shape T.b_Shape_init .nil pass0 (pa_cons (pe_slice sl_list (pe_fld (pv 1) rfl) po_none (po_some (pe_un un_neg pe_int))) (pa_cons (pe_fld (pv 1) rfl) (pa_cons (pe_fld (pv 1) rfl) (pa_cons (pe_fld (pv 1) rfl) pa_nil))))) (pa_cons (pv 2) pa_nil)))))), ?_⟩
    obtain ⟨⟨dx, fr, bv, lv, rv, xs, o1, o2, o3, o4, o5, o6, o7⟩, o8⟩ := id sa
    obtain ⟨p1, p2⟩ := rem_pre ok gl
    refine ⟨_, rfl, _, rfl, sh, _, _, _, .ref fr, rfl, o1, T.cl_Shape, T.n_Shape_front, rfl, 1, rfl, -1, rfl, fr, xs, rfl, sqlOf o2, fun fr2 nfr2 => ?_⟩
    have ff := Fr.mk nfr2
    rw [cut_but]
    have s1 : Same H (upd H fr2 (.lst (xs.take (xs.length - 1)))) := same_newF ff
    have e1 : upd H fr2 (.lst (xs.take (xs.length - 1))) fr2 = some (.lst (xs.take (xs.length - 1))) := upd_same
    generalize upd H fr2 (.lst (xs.take (xs.length - 1))) = H1 at s1 e1 ⊢
    have o1' := s1 _ _ o1
    refine ⟨_, rfl, sh, _, _, _, bv, rfl, o1', T.cl_Shape, T.n_Shape_back, rfl, _, rfl, sh, _, _, _, lv, rfl, o1', T.cl_Shape, T.n_Shape_late, rfl, _, rfl, sh, _, _, _, rv, rfl, o1', T.cl_Shape, T.n_Shape_renewed, rfl, fun x dd nx nd ndx => ⟨x, dd, .ref fr2, bv, lv, rv, rfl, upd_same, fun H2 e2 k2 f2 => ⟨rfl, _, rfl, ?_⟩⟩⟩
    have fx := Fr.mk nx
    have fd := Fr.mk nd
    have s12 : Same H1 H2 := fun b o z => k2.at_ _ _ (by rw [upd_ne (ne_of_none z fx.h), upd_ne (ne_of_none z fd.h)]; exact z) (not_cons (ne_of_none z fx.h) not_nil)
    have s02 := s1.trans s12
    have kc := kp_same (cs := []) s02
    have hx := o3
    rw [show e - g = (e - (g + 1)) + 1 by omega] at hx
    have sa2 : ShAt T.C_Shape Val ms cs x (g + 1) e b r H2 := ⟨⟨dd, fr2, bv, lv, rv, _, e2, s12 _ _ e1, hx.cut.kp U kc mu_nil, o4.kp U kc mu_nil, o5.kp U kc mu_nil, o6.kp U kc mu_nil (fun _ z => nomatch z), mu.fr ff⟩, mu.fr (Fr.mk (s1.free nx))⟩
    exact ⟨lb, uv, f, UR, Val, j, jdx, c, cdx, l, u, es, ms, cs, x, h, g + 1, e, b, r, rfl, U, jw.same U s02, by omega, by omega, by omega, hcs, mu.same s02, mm.kp U kc mu_nil, sa2, p2, s02 _ _ hh, nh, fun sh' d2 H3 ld2 k3 jw3 sa3 => q sh' d2 H3 ld2 (kp_trans (kp_same s02) k3) jw3 sa3⟩
/-- how many spans a queue has, and where they begin -/
def sumN (g e b n : Nat) : Nat := (if g < e then 1 else 0) + (if e < b then 1 else 0) + (if b < n then 1 else 0)
def sumB (g e b n : Nat) : Nat → Nat
  | 0 => g
  | 1 => e
  | 2 => b
  | _ => n
def spShSpans (P : Program) (w : World) (K : PySem.W.Frag) (mg : Str → Option Value) (base : Heap) (Cs : Addr) (n : Nat) : Sp := fun vs H Q _ => ∃ (lb : Bool) (uv : List Addr) (f : V) (UR : List JEv → Hp → Prop) (Val : Nat → List V → V → Hp → Prop) (ms : List V) (cs : List Addr) (sh : Addr) (g e b : Nat) (r : Option Nat),
  vs = [.ref sh] ∧ JS P w K mg base n lb uv f UR Val ∧ ms.length < 70000 ∧ ShAt Cs Val ms cs sh g e b r H ∧ ShOk g e b ms.length r ∧
  ∀ p xs H', Same H H' → Fr H p → H' p = some (.lst xs) → xs.length = sumN g e b ms.length → (∀ q s, xs[q]? = some s → SpanAt Val ms s (sumB g e b ms.length q) (sumB g e b ms.length (q + 1)) H') → Q (.ref p) H'
theorem ok_shspans (T : Txt K mg) : FnOk P w K mg base CX0 3 T.f_shape_spans T.d_shape_spans ["shape"] (spShSpans P w K mg base T.C_Shape n) := by
  have G_filled_spans := ok_fillS (P := P) (w := w) (base := base) T
  refine T.F_shape_spans.ok sc_shape_spans (fun vs H Q E h => ?_) (fun cdv A outer s H vs Q E hr h => ?_)
  · obtain ⟨lb, uv, f, UR, Val, ms, cs, sh, g, e, b, r, rfl, _⟩ := h
    rfl
  · obtain ⟨lb, uv, f, UR, Val, ms, cs, sh, g, e, b, r, rfl, U, lm, sa, ok, q⟩ := h
    refine ⟨_, (pss_one (ps_ret (pe_call G_filled_spans (hr.mono (by omega)) rfl T.g_filled_spans T.F_filled_spans.kp T.b_filled_spans .nil pass0 (pa_cons (pe_fld (pv 0) rfl) (pa_cons (pe_lst (pa_cons (pe_fld (pv 0) rfl) (pa_cons (pe_fld (pv 0) rfl) pa_nil))) pa_nil))))), ?_⟩
    obtain ⟨⟨dx, fr, bv, lv, rv, xs, o1, o2, o3, o4, o5, o6, o7⟩, o8⟩ := id sa
    obtain ⟨q1, q2, q3⟩ := ok.le
    have lx := o3.len
    refine ⟨_, rfl, sh, _, _, _, .ref fr, rfl, o1, T.cl_Shape, T.n_Shape_front, rfl, _, rfl, sh, _, _, _, bv, rfl, o1, T.cl_Shape, T.n_Shape_back, rfl, _, rfl, sh, _, _, _, lv, rfl, o1, T.cl_Shape, T.n_Shape_late, rfl, le2, fun bl nbl => ?_⟩
    have fbl := Fr.mk nbl
    have s1 : Same H (upd H bl (.lst [bv, lv])) := same_newF fbl
    refine ⟨fr, bl, xs, [bv, lv], rfl, s1 _ _ o2, upd_same, by omega, (by show 2 < 90; decide), ?_, fun p H2 s2 fp e2 => ?_⟩
    · refine all_cons ?_ (all_cons ?_ fun _ z => nomatch z)
      · exact o4.imp (fun z => z.1) fun z => ⟨z.2.2.choose, z.2.2.choose_spec.choose_spec.1⟩
      · exact o5.imp (fun z => z.1) fun z => ⟨z.2.2.choose, z.2.2.choose_spec.choose_spec.1⟩
    · have s02 := s1.trans s2
      have kc := kp_same (cs := []) s02
      have sp : ∀ {s : V} {i j : Nat} {H : Hp}, SpanAt Val ms s i j H → decide (s = V.non) = false := fun {s i j H} h => by
        obtain ⟨_, _, p, v, z, _⟩ := h
        rw [z]
        exact decide_eq_false fun z => nomatch z
      have hbn : e = b → b = ms.length := fun z => by
        match r, ok with
        | none, ⟨_, _, h, _⟩ => exact h
        | some k, ⟨_, h, _⟩ => omega
      have hge : g = e → e = b := fun z => by
        match r, ok with
        | none, ⟨_, _, h, _⟩ => omega
        | some k, ⟨h, _⟩ => omega
      have hb : (e < b ∧ decide (bv = V.non) = false ∧ SpanAt Val ms bv e b H2) ∨ (e = b ∧ bv = .non) := o4.elim (fun z => .inr ⟨z.2.1, z.1⟩) fun z => .inl ⟨z.1, sp z, z.kp U kc mu_nil⟩
      have hl : (b < ms.length ∧ decide (lv = V.non) = false ∧ SpanAt Val ms lv b ms.length H2) ∨ (b = ms.length ∧ lv = .non) := o5.elim (fun z => .inr ⟨z.2.1, z.1⟩) fun z => .inl ⟨z.1, sp z, z.kp U kc mu_nil⟩
      have key : ∃ L, xs.drop (xs.length - 1) ++ [bv, lv].filter (fun y => !decide (y = V.non)) = L ∧ L.length = sumN g e b ms.length ∧ ∀ q s, L[q]? = some s → SpanAt Val ms s (sumB g e b ms.length q) (sumB g e b ms.length (q + 1)) H2 := by
        unfold sumN
        by_cases c0 : g < e
        · have hx : ∃ s0, xs[e - g - 1]? = some s0 := ⟨_, List.getElem?_eq_getElem (by omega)⟩
          obtain ⟨s0, hx⟩ := hx
          have hs0 := (o3.at_ _ _ hx).kp U kc mu_nil
          rw [show e - 1 - (e - g - 1) = g by omega] at hs0
          have ed : xs.drop (xs.length - 1) = [s0] := by
            rw [show xs.length - 1 = e - g - 1 by omega, List.drop_eq_getElem_cons (by omega), List.drop_eq_nil_of_le (by omega)]
            rw [List.getElem?_eq_getElem (by omega)] at hx
            rw [Option.some.inj hx]
          rw [ed, if_pos c0]
          rcases hb with ⟨c1, d1, h1⟩ | ⟨c1, d1⟩
          · rw [if_pos c1]
            rcases hl with ⟨c2, d2, h2⟩ | ⟨c2, d2⟩
            · rw [if_pos c2]
              refine ⟨[s0, bv, lv], ?_, rfl, fun q s z => ?_⟩
              · rw [List.filter_cons, d1, List.filter_cons, d2]
                rfl
              · match q, z with
                | 0, z => cases z; exact hs0
                | 1, z => cases z; exact h1
                | 2, z => cases z; exact h2
                | q + 3, z => cases q <;> cases z
            · rw [if_neg (by omega)]
              refine ⟨[s0, bv], ?_, rfl, fun q s z => ?_⟩
              · rw [List.filter_cons, d1, d2]
                rfl
              · match q, z with
                | 0, z => cases z; exact hs0
                | 1, z => cases z; exact h1
                | q + 2, z => cases q <;> cases z
          · have c3 := hbn c1
            rw [if_neg (by omega), if_neg (by omega)]
            rcases hl with ⟨c2, _⟩ | ⟨c2, d2⟩
            · omega
            refine ⟨[s0], ?_, rfl, fun q s z => ?_⟩
            · rw [d1, d2]
              rfl
            · match q, z with
              | 0, z => cases z; exact hs0
              | q + 1, z => cases q <;> cases z
        · have c1 := hge (by omega)
          have c3 := hbn c1
          rw [if_neg c0, if_neg (by omega), if_neg (by omega)]
          rcases hb with ⟨z, _⟩ | ⟨_, d1⟩
          · omega
          rcases hl with ⟨z, _⟩ | ⟨_, d2⟩
          · omega
          refine ⟨[], ?_, rfl, fun q s z => by cases q <;> cases z⟩
          rw [d1, d2, List.drop_eq_nil_of_le (by omega)]
          rfl
      obtain ⟨L, eL, lL, aL⟩ := key
      rw [eL] at e2
      exact q p L H2 s02 (Fr.mk (s1.free fp.h)) e2 lL aL
end
end Ob

set_option Elab.async false
set_option linter.all false
set_option maxRecDepth 100000
set_option maxHeartbeats 1000000
namespace Ob
open PySem PySem.Spec PyProof.Rows L2
open LamX (Tabs TabB TabS ExtN)

set_option hygiene false in
local macro_rules
  | `(tactic| kp_flats) => `(tactic| first
    | assumption
    | exact upd_same
    | (apply atNew; assumption; kp_flats)
    | (apply atNe; (next => kbo_bools); kp_flats)
    | (apply atSame; assumption; kp_flats)
    | (apply atKp; assumption; (next => kaf_pre); kp_flats))
set_option hygiene false in
local macro_rules
  | `(tactic| kaf_pre) => `(tactic| first
    | assumption
    | exact not_nil
    | (apply not_cons; (next => kbo_bools); kaf_pre)
    | (apply not_app; (next => kaf_pre); kaf_pre))
set_option hygiene false in
local macro_rules
  | `(tactic| kbo_bools) => `(tactic| first
    | assumption
    | (apply Ne.symm; assumption)
    | (apply neN; assumption; kp_flats)
    | (apply neN'; assumption; kp_flats))
set_option hygiene false in
local macro_rules
  | `(tactic| o_reads) => `(tactic| first
    | with_reducible rfl
    | assumption
    | rfl
    | kp_flats
    | (show SqL _ _ _ _; first | assumption | (apply sqlOf; kp_flats) | (apply sqlSame; assumption; o_reads))
    | (show SqT _ _ _ _; first | assumption | (apply sqtOf; kp_flats) | (apply sqtAll; assumption) | (apply sqtSame; assumption; o_reads))
    | (show Cls _ _; first | exact T.cl_Calls | exact T.cl_Joiner | exact T.cl_Planner | exact T.cl_EvenSums | exact T.cl_Shape | exact T.cl_TwoStacks)
    | (show NoAttr _ _ _; first | exact T.n_Calls_entries | exact T.n_Calls_running | exact T.n_Joiner_calls | exact T.n_Joiner_join_call | exact T.n_Planner_entries | exact T.n_EvenSums_calls | exact T.n_EvenSums_joiner | exact T.n_EvenSums_zero | exact T.n_EvenSums_given | exact T.n_EvenSums_held | exact T.n_EvenSums_shape | exact T.n_Shape_front | exact T.n_Shape_back | exact T.n_Shape_late | exact T.n_Shape_renewed | exact T.n_TwoStacks_calls | exact T.n_TwoStacks_joiner | exact T.n_TwoStacks_zero | exact T.n_TwoStacks_given | exact T.n_TwoStacks_held | exact T.n_TwoStacks_front | exact T.n_TwoStacks_back)
    | (apply Or.inl; o_reads)
    | (apply Or.inr; o_reads)
    | (apply And.intro; (next => o_reads); o_reads)
    | (apply Exists.intro; o_reads)
    | exact Nat.le_of_ble_eq_true rfl
    | exact Nat.succ_ne_zero _
    | (show Fr _ _; kba_ints)
    | (show Same _ _; kd_subs)
    | (show Kp _ _ _; kxs_still)
    | (show (_ : Nat) ≤ _; simp only [List.length_append, List.length_map, List.length_cons, List.length_nil, List.length_take, List.length_drop, List.length_replicate, List.length_range, sizeLine_eq]; omega)
    | (show _ = none; apply Fr.h; kba_ints)
    | (show Bag _ _; first | assumption | (apply bag_putF; assumption; o_reads) | (apply bag_neF; (next => kbo_bools); o_reads) | (apply bag_kpR; assumption; (next => kaf_pre); o_reads))
    | omega
    | decide)
local macro_rules
  | `(tactic| o_readsAll) => `(tactic| repeat (first
    | (refine fun (pNew : Addr) (nNew : _ = none) => ?_; replace nNew := Fr.mk nNew)
    | (refine fun (xNew dNew : Addr) (nNew : _ = none) (mNew : _ = none) (eNew : dNew ≠ xNew) => ?_; replace nNew := Fr.mk nNew; replace mNew := Fr.mk mNew)
    | (apply And.intro; next => o_reads)
    | apply Exists.intro (α := V)
    | apply Exists.intro (α := Addr)
    | apply Exists.intro (α := Int)
    | apply Exists.intro (α := Bool)
    | apply Exists.intro (α := List V)
    | apply Exists.intro (α := List Nat)
    | apply Exists.intro (α := List (Str × V))
    | apply Exists.intro (α := List _)
    | apply Exists.intro (α := Str)
    | apply Exists.intro (α := HO)
    | apply Exists.intro (α := Sp)
    | apply Exists.intro (α := VK)))
set_option hygiene false in
local macro_rules
  | `(tactic| kba_ints) => `(tactic| first
    | assumption
    | (apply frUp; (first | assumption | (apply Ne.symm; assumption)); kba_ints)
    | (apply noneOf; assumption; intro oF eF; apply Exists.intro; kp_flats)
    | (apply frUp; (next => kbo_bools); kba_ints))
set_option hygiene false in
local macro_rules
  | `(tactic| kxs_still) => `(tactic| first
    | assumption
    | exact kp_refl _ _
    | (apply kp_newF; assumption; kxs_still)
    | (apply kp_new; assumption; kxs_still)
    | (apply kp_up; (next => o_fieldsN); kxs_still)
    | (apply kp_new; (next => kba_ints); kxs_still)
    | (apply kp_sameR; assumption; kxs_still)
    | (apply kp_transR; assumption; kxs_still)
    | (apply kp_freshR; assumption; (next => kaf_suf); kxs_still))
set_option hygiene false in
local macro_rules
  | `(tactic| kaf_suf) => `(tactic| first
    | assumption
    | exact subNil
    | (apply subCons; (first | (apply Or.inl; o_fieldsN) | (apply Or.inr; kba_ints)); kaf_suf)
    | (apply subApp; (next => kaf_suf); kaf_suf))
set_option hygiene false in
local macro_rules
  | `(tactic| o_fieldsN) => `(tactic| first
    | assumption
    | exact memA
    | (apply memB; o_fieldsN)
    | (apply memL; o_fieldsN)
    | (apply memR; o_fieldsN))
set_option hygiene false in
local macro_rules
  | `(tactic| kd_subs) => `(tactic| first
    | assumption
    | exact Same.refl _
    | (apply same_putF; assumption; kd_subs)
    | (apply same_putG; assumption; kd_subs)
    | (apply same_putF; (next => kba_ints); kd_subs)
    | (apply same_transR; assumption; kd_subs))

set_option pp.maxSteps 900
/-! ### a queue -/
def EO (C dx c j : Addr) (z : V) (gi : Int) (h sh : Addr) : HO := .ins C dx [("calls", .ref c), ("joiner", .ref j), ("zero", z), ("given", .int gi), ("held", .ref h), ("shape", .ref sh)]
section
variable {P : Program} {w : World} {K : PySem.W.Frag} {mg : Str → Option Value} {base : Heap} {n : Nat}
structure EvAt (Ce Cs : Addr) (Cj : Addr × Addr) (Cc : Addr) (uv : List Addr) (f : V) (UR : List JEv → Hp → Prop) (Val : Nat → List V → V → Hp → Prop) (cs : List Addr) (x j jdx c cdx l : Addr) (z : V) (ms : List V) (u : List JEv) (es : List (Nat × Nat × Nat)) (g e b : Nat) (r : Option Nat) (H : Hp) : Prop where
  hx : ∃ dx h sh : Addr, H x = some (EO Ce dx c j z ms.length h sh) ∧ H h = some (.dK (heldK g (ms.drop g))) ∧ h ∉ cs ∧ ShAt Cs Val ms cs sh g e b r H
  jw : JW Cj Cc true uv f UR j jdx c cdx l u es H
  ok : ShOk g e b ms.length r
  mm : Mems Val ms H
  mu : Mu H cs
  sub : ∀ a ∈ [x, c, l] ++ uv, a ∈ cs
  nj : j ∉ cs
  nx : x ∉ [c, l] ++ uv
variable {uv : List Addr} {f z : V} {UR : List JEv → Hp → Prop} {Val : Nat → List V → V → Hp → Prop} {Ce : Addr} {Cj : Addr × Addr} {Cc Cs x j jdx c cdx l sh : Addr} {u : List JEv} {es : List (Nat × Nat × Nat)} {H H1 : Hp} {ms ns : List V} {cs ds : List Addr} {g e b : Nat} {r : Option Nat}
theorem EvAt.kp (U : JS P w K mg base n true uv f UR Val) (h : EvAt Ce Cs Cj Cc uv f UR Val cs x j jdx c cdx l z ms u es g e b r H) (k : Kp ds H H1) (m : Mu H ds) (m1 : Mu H1 ds) (s : ∀ a ∈ ds, a ∈ cs) (d : ∀ a ∈ [x, c, l] ++ uv, a ∉ ds) : EvAt Ce Cs Cj Cc uv f UR Val cs x j jdx c cdx l z ms u es g e b r H1 := by
  obtain ⟨dx, hh, sh, h1, h2, h3, h4⟩ := h.hx
  exact ⟨⟨dx, hh, sh, k.at_ _ _ h1 (d x (memL memA)), k.at_ _ _ h2 fun z => h3 (s _ z), h3, h4.kp U k m s⟩, h.jw.kp U k m (fun z => h.nj (s _ z)) (d c (memL (memB memA))) (d l (memL (memB (memB memA)))) fun a ma => d a (memR ma), h.ok, h.mm.kp U k m, h.mu.kp k m1, h.sub, h.nj, h.nx⟩
theorem EvAt.same (U : JS P w K mg base n true uv f UR Val) (h : EvAt Ce Cs Cj Cc uv f UR Val cs x j jdx c cdx l z ms u es g e b r H) (s : Same H H1) : EvAt Ce Cs Cj Cc uv f UR Val cs x j jdx c cdx l z ms u es g e b r H1 := h.kp U (ds := []) (kp_same s) mu_nil mu_nil (fun _ z => nomatch z) fun _ _ => not_nil
theorem eo_co {C dx c C' dx' l j h sh : Addr} {z : V} {gi : Int} {rr : Bool} : EO C dx c j z gi h sh ≠ CO C' dx' l rr := fun z => by
  unfold EO CO at z
  injection z with _ _ z
  injection z with z _
  injection z with z _
  revert z
  decide
def spEvAdd (P : Program) (w : World) (K : PySem.W.Frag) (mg : Str → Option Value) (base : Heap) (Ce Cs : Addr) (Cj : Addr × Addr) (Cc : Addr) (n : Nat) : Sp := fun vs H Q _ => ∃ (uv : List Addr) (f : V) (UR : List JEv → Hp → Prop) (Val : Nat → List V → V → Hp → Prop) (cs : List Addr) (x j jdx c cdx l : Addr) (z : V) (ms : List V) (u : List JEv) (es : List (Nat × Nat × Nat)) (g e b : Nat) (r : Option Nat) (m : V),
  vs = [.ref x, m] ∧ JS P w K mg base n true uv f UR Val ∧ EvAt Ce Cs Cj Cc uv f UR Val cs x j jdx c cdx l z ms u es g e b r H ∧ u.length < 80000 ∧ es.length < 80000 ∧ ms.length < 70000 ∧ Val ms.length [m] m H ∧
  ∀ d H', d.length = (addE g e b ms.length r).length → Kp ([x, c, l] ++ uv) H H' → EvAt Ce Cs Cj Cc uv f UR Val cs x j jdx c cdx l z (ms ++ [m]) (u ++ d) (es ++ addE g e b ms.length r) g (addR g e b ms.length r).1 (addR g e b ms.length r).2.1 (addR g e b ms.length r).2.2 H' → Q (.int ms.length) H'
theorem ok_evadd (T : Txt K mg) : FnOk P w K mg base CX0 (n + 12) T.f_EvenSums_add T.d_EvenSums_add ["self", "member"] (spEvAdd P w K mg base T.C_EvenSums T.C_Shape (CJ T) T.C_Calls n) := by
  have G_Calls_check := ok_chk (P := P) (w := w) (base := base) T
  have G_shape_after_addition := ok_shadd (P := P) (w := w) (base := base) (n := n) T
  refine T.F_EvenSums_add.ok sc_EvenSums_add (fun vs H Q E h => ?_) (fun cdv A outer s H vs Q E hr h => ?_)
  · obtain ⟨uv, f, UR, Val, cs, x, j, jdx, c, cdx, l, z, ms, u, es, g, e, b, r, m, rfl, _⟩ := h
    rfl
  · obtain ⟨uv, f, UR, Val, cs, x, j, jdx, c, cdx, l, z, ms, u, es, g, e, b, r, m, rfl, U, ev, lu, le, lm, hm, q⟩ := h
    refine ⟨_, (pss_cons (ps_expr (pe_meth0 (pe_fld (pv 0) rfl) T.cl_Calls ⟨T.m_Calls_check, T.t_Calls_check, T.k_Calls_check⟩ G_Calls_check (hr.mono (by omega)) T.b_Calls_check .nil pass0))
      (pss_cons (ps_set (i := 2) sc_EvenSums_add.nd rfl (.inl rfl) (pe_fld (pv 0) rfl))
      (pss_cons (ps_set (i := 3) sc_EvenSums_add.nd rfl (.inl rfl) (Inf.pe_dstar (pe_fld (pv 0) rfl) (pv 2) (pv 1)))
      (pss_cons (ps_fld (pv 0) (pe_call G_shape_after_addition (hr.mono (by omega)) rfl T.g_shape_after_addition T.F_shape_after_addition.kp T.b_shape_after_addition .nil pass0 (pa_cons (pe_fld (pv 0) rfl) (pa_cons (pe_fld (pv 0) rfl) (pa_cons (pv 3) (pa_cons (pv 2) pa_nil))))) rfl)
      (pss_cons (ps_fld (pv 0) (pv 3) rfl)
      (pss_cons (ps_fld (pv 0) (pe_op op_add (pv 2) pe_int) rfl)
      (pss_one (ps_ret (pv 2))))))))), ?_⟩
    obtain ⟨dx, h, sh, h1, h2, h3, h4⟩ := ev.hx
    obtain ⟨q1, q2, q3⟩ := ev.ok.le
    refine ⟨_, rfl, x, _, _, _, .ref c, rfl, h1, T.cl_EvenSums, T.n_EvenSums_calls, rfl, c, cdx, _, rfl, ev.jw.hc, rfl, c, cdx, l, rfl, ev.jw.hc, ?_⟩
    refine ⟨_, rfl, x, _, _, _, .int ms.length, rfl, h1, T.cl_EvenSums, T.n_EvenSums_given, rfl, ?_⟩
    intro p np
    have fp := Fr.mk np
    have npx : x ≠ p := ne_of_none h1 np
    have nph : h ≠ p := ne_of_none h2 np
    refine ⟨_, rfl, x, _, _, _, .ref h, rfl, atNe npx h1, T.cl_EvenSums, T.n_EvenSums_held, rfl, h, _, rfl, nph, upd_same, .inl (atNe nph h2), by rw [heldK_len, List.length_drop, sizeLine_eq]; omega, fun b2 nb2 => ⟨_, rfl, _, rfl, .inl (ms.length : Int), m, rfl, ?_⟩⟩
    have npb : p ≠ b2 := ne_of_none (H := upd (upd H p (.dK [])) p (.dK (heldK g (ms.drop g)))) upd_same nb2
    refine ⟨npb, atNe npb upd_same, upd_same, ?_⟩
    have hlen : (ms ++ [m]).length = ms.length + 1 := by
      rw [List.length_append]
      rfl
    have s1 : Same H (upd (upd (upd (upd (upd H p (.dK [])) p (.dK (heldK g (ms.drop g)))) b2 (.dK [])) b2 (.dK [(Sum.inl (ms.length : Int), m)])) p (.dK (putK (heldK g (ms.drop g)) (Sum.inl (ms.length : Int)) m))) := fun b o e => by
      have n1 := ne_of_none e np
      have e2 : upd (upd H p (.dK [])) p (.dK (heldK g (ms.drop g))) b = some o := by
        rw [upd_ne n1, upd_ne n1]
        exact e
      have n2 := ne_of_none e2 nb2
      rw [upd_ne n1, upd_ne n2, upd_ne n2]
      exact e2
    have e1 : upd (upd (upd (upd (upd H p (.dK [])) p (.dK (heldK g (ms.drop g)))) b2 (.dK [])) b2 (.dK [(Sum.inl (ms.length : Int), m)])) p (.dK (putK (heldK g (ms.drop g)) (Sum.inl (ms.length : Int)) m)) p = some (.dK (heldK g ((ms ++ [m]).drop g))) := by
      have := heldK_put (ps := ms.drop g) (g := g) (v := m)
      rw [List.length_drop, show g + (ms.length - g) = ms.length by omega] at this
      rw [upd_same, this, List.drop_append_of_le_length (by omega)]
    generalize upd (upd (upd (upd (upd H p (.dK [])) p (.dK (heldK g (ms.drop g)))) b2 (.dK [])) b2 (.dK [(Sum.inl (ms.length : Int), m)])) p (.dK (putK (heldK g (ms.drop g)) (Sum.inl (ms.length : Int)) m)) = H2 at s1 e1 ⊢
    have kc := kp_same (cs := []) s1
    have h1' := s1 _ _ h1
    have mm2 : Mems Val (ms ++ [m]) H2 := fun i y hy => by
      rcases Nat.lt_or_ge i ms.length with c0 | c0
      · rw [List.getElem?_append_left c0] at hy
        exact U.val (ev.mm i y hy) kc mu_nil
      · rw [List.getElem?_append_right c0] at hy
        match hki : i - ms.length, hy with
        | 0, hy =>
          cases hy
          rw [show i = ms.length by omega]
          exact U.val hm kc mu_nil
        | k + 1, hy => cases hy
    have np2 : p ∉ cs := ev.mu.fr fp
    have sub2 : ∀ a ∈ [c, l] ++ uv, a ∈ cs := fun a m => ev.sub a (memB m)
    refine ⟨_, rfl, x, _, _, _, .ref j, rfl, h1', T.cl_EvenSums, T.n_EvenSums_joiner, rfl, _, rfl, x, _, _, _, .ref sh, rfl, h1', T.cl_EvenSums, T.n_EvenSums_shape, rfl, _, rfl, _, rfl, true, uv, f, UR, Val, j, jdx, c, cdx, l, u, es, ms, m, cs, sh, p, g, e, b, r, rfl, U, ev.jw.same U s1, lu, le, lm, sub2, ev.mu.same s1, mm2, h4.kp U kc mu_nil (fun _ z => nomatch z), ev.ok, e1, np2, fun sh' d H3 ld k3 jw3 sa3 => ?_⟩
    have h1'' := k3.at_ _ _ h1' ev.nx
    refine ⟨_, rfl, x, _, dx, _, rfl, h1'', T.cl_EvenSums, T.n_EvenSums_shape, (by show 6 < 1000; decide), ?_⟩
    refine ⟨_, rfl, _, rfl, x, _, dx, _, rfl, upd_same, T.cl_EvenSums, T.n_EvenSums_held, (by show 6 < 1000; decide), ?_⟩
    refine ⟨_, rfl, _, _, rfl, rfl, _, rfl, x, _, dx, _, rfl, upd_same, T.cl_EvenSums, T.n_EvenSums_given, (by show 6 < 1000; decide), ?_⟩
    refine ⟨_, rfl, ?_⟩
    have k4 : ∀ o1 o2 o3 : HO, Kp [x] H3 (upd (upd (upd H3 x o1) x o2) x o3) := fun o1 o2 o3 => kp_up memA (kp_up memA (kp_up memA (kp_refl _ _)))
    have m3 : Mu H3 [x] := mu_ins h1'' mu_nil
    have kk : Kp ([x, c, l] ++ uv) H H3 := kp_trans (kp_same s1) (kp_more k3 fun a m => memB m)
    have mu3 : Mu H3 cs := (ev.mu.same s1).kp k3 (jw3.mu U)
    have nxj : j ∉ [x] := not_cons (fun z => ev.nj (by rw [z]; exact ev.sub x memA)) not_nil
    have nxc : c ∉ [x] := not_cons (fun z => ev.nx (by rw [← z]; exact memA)) not_nil
    have nxl : l ∉ [x] := not_cons (fun z => ev.nx (by rw [← z]; exact memB memA)) not_nil
    have nxu : ∀ a ∈ uv, a ∉ [x] := fun a m => not_cons (fun z => ev.nx (by rw [← z]; exact memR m)) not_nil
    have nxp : p ∉ [x] := not_cons (Ne.symm npx) not_nil
    have ep3 := k3.at_ _ _ e1 fun z => np2 (sub2 _ z)
    have sx : ∀ a ∈ [x], a ∈ cs := subCons (ev.sub x memA) subNil
    refine q d _ ld (kp_trans kk (kp_more (k4 _ _ _) (subCons memA subNil))) ⟨⟨dx, p, sh', ?_, (k4 _ _ _).at_ _ _ ep3 nxp, np2, sa3.kp U (k4 _ _ _) m3 sx⟩, jw3.kp U (k4 _ _ _) m3 nxj nxc nxl nxu, ?_, ?_, ?_, ev.sub, ev.nj, ev.nx⟩
    · rw [hlen]
      exact upd_same
    · rw [hlen]
      exact workR_ok (add_pre ev.ok)
    · exact (mm2.kp U k3 ((ev.jw.same U s1).mu U)).kp U (k4 _ _ _) m3
    · exact mu3.kp (k4 _ _ _) (mu_ins upd_same mu_nil)
end
end Ob

set_option Elab.async false
set_option linter.all false
set_option maxRecDepth 100000
set_option maxHeartbeats 1000000
namespace Ob
open PySem PySem.Spec PyProof.Rows L2
open LamX (Tabs TabB TabS ExtN)

set_option hygiene false in
local macro_rules
  | `(tactic| kp_flats) => `(tactic| first
    | assumption
    | exact upd_same
    | (apply atNew; assumption; kp_flats)
    | (apply atNe; (next => kbo_bools); kp_flats)
    | (apply atSame; assumption; kp_flats)
    | (apply atKp; assumption; (next => kaf_pre); kp_flats))
set_option hygiene false in
local macro_rules
  | `(tactic| kaf_pre) => `(tactic| first
    | assumption
    | exact not_nil
    | (apply not_cons; (next => kbo_bools); kaf_pre)
    | (apply not_app; (next => kaf_pre); kaf_pre))
set_option hygiene false in
local macro_rules
  | `(tactic| kbo_bools) => `(tactic| first
    | assumption
    | (apply Ne.symm; assumption)
    | (apply neN; assumption; kp_flats)
    | (apply neN'; assumption; kp_flats))
set_option hygiene false in
local macro_rules
  | `(tactic| o_reads) => `(tactic| first
    | with_reducible rfl
    | assumption
    | rfl
    | kp_flats
    | (show SqL _ _ _ _; first | assumption | (apply sqlOf; kp_flats) | (apply sqlSame; assumption; o_reads))
    | (show SqT _ _ _ _; first | assumption | (apply sqtOf; kp_flats) | (apply sqtAll; assumption) | (apply sqtSame; assumption; o_reads))
    | (show Cls _ _; first | exact T.cl_Calls | exact T.cl_Joiner | exact T.cl_Planner | exact T.cl_EvenSums | exact T.cl_Shape | exact T.cl_TwoStacks)
    | (show NoAttr _ _ _; first | exact T.n_Calls_entries | exact T.n_Calls_running | exact T.n_Joiner_calls | exact T.n_Joiner_join_call | exact T.n_Planner_entries | exact T.n_EvenSums_calls | exact T.n_EvenSums_joiner | exact T.n_EvenSums_zero | exact T.n_EvenSums_given | exact T.n_EvenSums_held | exact T.n_EvenSums_shape | exact T.n_Shape_front | exact T.n_Shape_back | exact T.n_Shape_late | exact T.n_Shape_renewed | exact T.n_TwoStacks_calls | exact T.n_TwoStacks_joiner | exact T.n_TwoStacks_zero | exact T.n_TwoStacks_given | exact T.n_TwoStacks_held | exact T.n_TwoStacks_front | exact T.n_TwoStacks_back)
    | (apply Or.inl; o_reads)
    | (apply Or.inr; o_reads)
    | (apply And.intro; (next => o_reads); o_reads)
    | (apply Exists.intro; o_reads)
    | exact Nat.le_of_ble_eq_true rfl
    | exact Nat.succ_ne_zero _
    | (show Fr _ _; kba_ints)
    | (show Same _ _; kd_subs)
    | (show Kp _ _ _; kxs_still)
    | (show (_ : Nat) ≤ _; simp only [List.length_append, List.length_map, List.length_cons, List.length_nil, List.length_take, List.length_drop, List.length_replicate, List.length_range, sizeLine_eq]; omega)
    | (show _ = none; apply Fr.h; kba_ints)
    | (show Bag _ _; first | assumption | (apply bag_putF; assumption; o_reads) | (apply bag_neF; (next => kbo_bools); o_reads) | (apply bag_kpR; assumption; (next => kaf_pre); o_reads))
    | omega
    | decide)
local macro_rules
  | `(tactic| o_readsAll) => `(tactic| repeat (first
    | (refine fun (pNew : Addr) (nNew : _ = none) => ?_; replace nNew := Fr.mk nNew)
    | (refine fun (xNew dNew : Addr) (nNew : _ = none) (mNew : _ = none) (eNew : dNew ≠ xNew) => ?_; replace nNew := Fr.mk nNew; replace mNew := Fr.mk mNew)
    | (apply And.intro; next => o_reads)
    | apply Exists.intro (α := V)
    | apply Exists.intro (α := Addr)
    | apply Exists.intro (α := Int)
    | apply Exists.intro (α := Bool)
    | apply Exists.intro (α := List V)
    | apply Exists.intro (α := List Nat)
    | apply Exists.intro (α := List (Str × V))
    | apply Exists.intro (α := List _)
    | apply Exists.intro (α := Str)
    | apply Exists.intro (α := HO)
    | apply Exists.intro (α := Sp)
    | apply Exists.intro (α := VK)))
set_option hygiene false in
local macro_rules
  | `(tactic| kba_ints) => `(tactic| first
    | assumption
    | (apply frUp; (first | assumption | (apply Ne.symm; assumption)); kba_ints)
    | (apply noneOf; assumption; intro oF eF; apply Exists.intro; kp_flats)
    | (apply frUp; (next => kbo_bools); kba_ints))
set_option hygiene false in
local macro_rules
  | `(tactic| kxs_still) => `(tactic| first
    | assumption
    | exact kp_refl _ _
    | (apply kp_newF; assumption; kxs_still)
    | (apply kp_new; assumption; kxs_still)
    | (apply kp_up; (next => o_fieldsN); kxs_still)
    | (apply kp_new; (next => kba_ints); kxs_still)
    | (apply kp_sameR; assumption; kxs_still)
    | (apply kp_transR; assumption; kxs_still)
    | (apply kp_freshR; assumption; (next => kaf_suf); kxs_still))
set_option hygiene false in
local macro_rules
  | `(tactic| kaf_suf) => `(tactic| first
    | assumption
    | exact subNil
    | (apply subCons; (first | (apply Or.inl; o_fieldsN) | (apply Or.inr; kba_ints)); kaf_suf)
    | (apply subApp; (next => kaf_suf); kaf_suf))
set_option hygiene false in
local macro_rules
  | `(tactic| o_fieldsN) => `(tactic| first
    | assumption
    | exact memA
    | (apply memB; o_fieldsN)
    | (apply memL; o_fieldsN)
    | (apply memR; o_fieldsN))
set_option hygiene false in
local macro_rules
  | `(tactic| kd_subs) => `(tactic| first
    | assumption
    | exact Same.refl _
    | (apply same_putF; assumption; kd_subs)
    | (apply same_putG; assumption; kd_subs)
    | (apply same_putF; (next => kba_ints); kd_subs)
    | (apply same_transR; assumption; kd_subs))

set_option pp.maxSteps 900
section
variable {P : Program} {w : World} {K : PySem.W.Frag} {mg : Str → Option Value} {base : Heap} {n : Nat}
def spEvRem (P : Program) (w : World) (K : PySem.W.Frag) (mg : Str → Option Value) (base : Heap) (Ce Cs : Addr) (Cj : Addr × Addr) (Cc : Addr) (n : Nat) : Sp := fun vs H Q _ => ∃ (uv : List Addr) (f : V) (UR : List JEv → Hp → Prop) (Val : Nat → List V → V → Hp → Prop) (cs : List Addr) (x j jdx c cdx l : Addr) (z : V) (ms : List V) (u : List JEv) (es : List (Nat × Nat × Nat)) (g e b : Nat) (r : Option Nat),
  vs = [.ref x] ∧ JS P w K mg base n true uv f UR Val ∧ EvAt Ce Cs Cj Cc uv f UR Val cs x j jdx c cdx l z ms u es g e b r H ∧ u.length < 80000 ∧ es.length < 80000 ∧ ms.length < 70000 ∧ g < ms.length ∧
  ∀ d H', d.length = (workE (g + 1) e b ms.length r).length → Kp ([x, c, l] ++ uv) H H' → EvAt Ce Cs Cj Cc uv f UR Val cs x j jdx c cdx l z ms (u ++ d) (es ++ workE (g + 1) e b ms.length r) (g + 1) (workR (g + 1) e b ms.length r).1 (workR (g + 1) e b ms.length r).2.1 (workR (g + 1) e b ms.length r).2.2 H' → Q (.int g) H'
theorem ok_evrem (T : Txt K mg) : FnOk P w K mg base CX0 (n + 12) T.f_EvenSums_remove_oldest T.d_EvenSums_remove_oldest ["self"] (spEvRem P w K mg base T.C_EvenSums T.C_Shape (CJ T) T.C_Calls n) := by
  have G_Calls_check := ok_chk (P := P) (w := w) (base := base) T
  have G_check_filled := ok_filled (P := P) (w := w) (base := base) T
  have G_oldest := ok_oldest (P := P) (w := w) (base := base) T
  have G_without := ok_without1 (P := P) (w := w) (base := base) T
  have G_shape_after_removal := ok_shrem (P := P) (w := w) (base := base) (n := n) T
  refine T.F_EvenSums_remove_oldest.ok sc_EvenSums_remove_oldest (fun vs H Q E h => ?_) (fun cdv A outer s H vs Q E hr h => ?_)
  · obtain ⟨uv, f, UR, Val, cs, x, j, jdx, c, cdx, l, z, ms, u, es, g, e, b, r, rfl, _⟩ := h
    rfl
  · obtain ⟨uv, f, UR, Val, cs, x, j, jdx, c, cdx, l, z, ms, u, es, g, e, b, r, rfl, U, ev, lu, le, lm, gl, q⟩ := h
    refine ⟨_, (pss_cons (ps_expr (pe_meth0 (pe_fld (pv 0) rfl) T.cl_Calls ⟨T.m_Calls_check, T.t_Calls_check, T.k_Calls_check⟩ G_Calls_check (hr.mono (by omega)) T.b_Calls_check .nil pass0))
      (pss_cons (ps_expr (pe_call G_check_filled (hr.mono (by omega)) rfl T.g_check_filled T.F_check_filled.kp T.b_check_filled .nil pass0 (pa_cons (pe_fld (pv 0) rfl) pa_nil)))
      (pss_cons (ps_set (i := 1) sc_EvenSums_remove_oldest.nd rfl (.inl rfl) (pe_call G_oldest (hr.mono (by omega)) rfl T.g_oldest T.F_oldest.kp T.b_oldest .nil pass0 (pa_cons (pe_fld (pv 0) rfl) pa_nil)))
      (pss_cons (ps_set (i := 2) sc_EvenSums_remove_oldest.nd rfl (.inl rfl) (pe_call G_without (hr.mono (by omega)) rfl T.g_without T.F_without.kp T.b_without .nil pass0 (pa_cons (pe_fld (pv 0) rfl) (pa_cons (pe_lst (pa_cons (pv 1) pa_nil)) pa_nil))))
      (pss_cons (ps_fld (pv 0) (pe_call G_shape_after_removal (hr.mono (by omega)) rfl T.g_shape_after_removal T.F_shape_after_removal.kp T.b_shape_after_removal .nil pass0 (pa_cons (pe_fld (pv 0) rfl) (pa_cons (pe_fld (pv 0) rfl) (pa_cons (pv 2) pa_nil)))) rfl)
      (pss_cons (ps_fld (pv 0) (pv 2) rfl)
      (pss_one (ps_ret (pv 1))))))))), ?_⟩
    obtain ⟨dx, h, sh, h1, h2, h3, h4⟩ := ev.hx
    have ld0 : (ms.drop g).length = ms.length - g := List.length_drop ..
    have hf : fstN g (ms.drop g) = .int g := if_neg (by omega)
    refine ⟨_, rfl, x, _, _, _, .ref c, rfl, h1, T.cl_EvenSums, T.n_EvenSums_calls, rfl, c, cdx, _, rfl, ev.jw.hc, rfl, c, cdx, l, rfl, ev.jw.hc, ?_⟩
    refine ⟨_, rfl, x, _, _, _, .ref h, rfl, h1, T.cl_EvenSums, T.n_EvenSums_held, rfl, h, g, ms.drop g, rfl, h2, by omega, ?_⟩
    refine ⟨_, rfl, x, _, _, _, .ref h, rfl, h1, T.cl_EvenSums, T.n_EvenSums_held, rfl, h, g, ms.drop g, rfl, h2, ?_⟩
    rw [hf]
    refine ⟨_, rfl, x, _, _, _, .ref h, rfl, h1, T.cl_EvenSums, T.n_EvenSums_held, rfl, _, rfl, (by decide : 1 ≤ sizeLine), fun p np => ?_⟩
    have fp := Fr.mk np
    have s0 : Same H (upd H p (.lst [.int g])) := same_newF fp
    refine ⟨h, p, g, ms.drop g, rfl, s0 _ _ h2, upd_same, by omega, fun h' H2 s2 fh' e1 => ?_⟩
    rw [List.drop_drop] at e1
    have s1 := s0.trans s2
    have np2 : h' ∉ cs := ev.mu.fr (Fr.mk (s0.free fh'.h))
    have npx : x ≠ h' := ne_of_none h1 (s0.free fh'.h)
    have kc := kp_same (cs := []) s1
    have h1' := s1 _ _ h1
    have sub2 : ∀ a ∈ [c, l] ++ uv, a ∈ cs := fun a m => ev.sub a (memB m)
    refine ⟨_, rfl, x, _, _, _, .ref j, rfl, h1', T.cl_EvenSums, T.n_EvenSums_joiner, rfl, _, rfl, x, _, _, _, .ref sh, rfl, h1', T.cl_EvenSums, T.n_EvenSums_shape, rfl, _, rfl, true, uv, f, UR, Val, j, jdx, c, cdx, l, u, es, ms, cs, sh, h', g, e, b, r, rfl, U, ev.jw.same U s1, lu, le, lm, sub2, ev.mu.same s1, ev.mm.kp U kc mu_nil, h4.kp U kc mu_nil (fun _ z => nomatch z), ev.ok, gl, e1, np2, fun sh' d H3 ld k3 jw3 sa3 => ?_⟩
    have h1'' := k3.at_ _ _ h1' ev.nx
    refine ⟨_, rfl, x, _, dx, _, rfl, h1'', T.cl_EvenSums, T.n_EvenSums_shape, (by show 6 < 1000; decide), ?_⟩
    refine ⟨_, rfl, _, rfl, x, _, dx, _, rfl, upd_same, T.cl_EvenSums, T.n_EvenSums_held, (by show 6 < 1000; decide), ?_⟩
    refine ⟨_, rfl, ?_⟩
    have k4 : ∀ o1 o2 : HO, Kp [x] H3 (upd (upd H3 x o1) x o2) := fun o1 o2 => kp_up memA (kp_up memA (kp_refl _ _))
    have m3 : Mu H3 [x] := mu_ins h1'' mu_nil
    have kk : Kp ([x, c, l] ++ uv) H H3 := kp_trans (kp_same s1) (kp_more k3 fun a m => memB m)
    have mu3 : Mu H3 cs := (ev.mu.same s1).kp k3 (jw3.mu U)
    have nxj : j ∉ [x] := not_cons (fun z => ev.nj (by rw [z]; exact ev.sub x memA)) not_nil
    have nxc : c ∉ [x] := not_cons (fun z => ev.nx (by rw [← z]; exact memA)) not_nil
    have nxl : l ∉ [x] := not_cons (fun z => ev.nx (by rw [← z]; exact memB memA)) not_nil
    have nxu : ∀ a ∈ uv, a ∉ [x] := fun a m => not_cons (fun z => ev.nx (by rw [← z]; exact memR m)) not_nil
    have nxp : h' ∉ [x] := not_cons (Ne.symm npx) not_nil
    have ep3 := k3.at_ _ _ e1 fun z => np2 (sub2 _ z)
    have sx : ∀ a ∈ [x], a ∈ cs := subCons (ev.sub x memA) subNil
    refine q d _ ld (kp_trans kk (kp_more (k4 _ _) (subCons memA subNil))) ⟨⟨dx, h', sh', upd_same, (k4 _ _).at_ _ _ ep3 nxp, np2, sa3.kp U (k4 _ _) m3 sx⟩, jw3.kp U (k4 _ _) m3 nxj nxc nxl nxu, workR_ok (rem_pre ev.ok gl).2, ?_, ?_, ev.sub, ev.nj, ev.nx⟩
    · exact ((ev.mm.kp U kc mu_nil).kp U k3 ((ev.jw.same U s1).mu U)).kp U (k4 _ _) m3
    · exact mu3.kp (k4 _ _) (mu_ins upd_same mu_nil)
theorem sum_end {g e b n : Nat} {r : Option Nat} (h : ShOk g e b n r) (gl : g < n) : 0 < sumN g e b n ∧ sumB g e b n (sumN g e b n) = n ∧ sumN g e b n ≤ 3 := by
  unfold sumN
  match r, h with
  | none, ⟨h1, h2, h3, h4⟩ =>
    rw [if_pos (show g < e by omega), if_neg (show ¬ b < n by omega)]
    by_cases c : e < b
    · rw [if_pos c]
      exact ⟨by decide, h3, by decide⟩
    · rw [if_neg c]
      exact ⟨by decide, (show e = n by omega), by decide⟩
  | some k, ⟨h1, h2, h3, h4, h5, h6, h7⟩ =>
    rw [if_pos h1, if_pos h2]
    by_cases c : b < n
    · rw [if_pos c]
      exact ⟨by decide, rfl, by decide⟩
    · rw [if_neg c]
      exact ⟨by decide, (show b = n by omega), by decide⟩
def totE (g e b n : Nat) : List (Nat × Nat × Nat) := wholeE (sumB g e b n) (sumN g e b n)
def spEvTot (P : Program) (w : World) (K : PySem.W.Frag) (mg : Str → Option Value) (base : Heap) (Ce Cs : Addr) (Cj : Addr × Addr) (Cc : Addr) (n : Nat) : Sp := fun vs H Q _ => ∃ (uv : List Addr) (f : V) (UR : List JEv → Hp → Prop) (Val : Nat → List V → V → Hp → Prop) (cs : List Addr) (x j jdx c cdx l : Addr) (z : V) (ms : List V) (u : List JEv) (es : List (Nat × Nat × Nat)) (g e b : Nat) (r : Option Nat),
  vs = [.ref x] ∧ JS P w K mg base n true uv f UR Val ∧ EvAt Ce Cs Cj Cc uv f UR Val cs x j jdx c cdx l z ms u es g e b r H ∧ u.length < 80000 ∧ es.length < 80000 ∧ ms.length < 70000 ∧ (ms.length ≤ g → Q z H) ∧
  ∀ v d H', g < ms.length → d.length = (totE g e b ms.length).length → Kp ([c, l] ++ uv) H H' → EvAt Ce Cs Cj Cc uv f UR Val cs x j jdx c cdx l z ms (u ++ d) (es ++ totE g e b ms.length) g e b r H' → Val g (seg ms g ms.length) v H' → Q v H'
theorem ok_evtot (T : Txt K mg) : FnOk P w K mg base CX0 (n + 12) T.f_EvenSums_total T.d_EvenSums_total ["self"] (spEvTot P w K mg base T.C_EvenSums T.C_Shape (CJ T) T.C_Calls n) := by
  have G_Calls_check := ok_chk (P := P) (w := w) (base := base) T
  have G_shape_spans := ok_shspans (P := P) (w := w) (base := base) (n := n) T
  have G_whole_span := ok_whole (P := P) (w := w) (base := base) (n := n) T
  refine T.F_EvenSums_total.ok sc_EvenSums_total (fun vs H Q E h => ?_) (fun cdv A outer s H vs Q E hr h => ?_)
  · obtain ⟨uv, f, UR, Val, cs, x, j, jdx, c, cdx, l, z, ms, u, es, g, e, b, r, rfl, _⟩ := h
    rfl
  · obtain ⟨uv, f, UR, Val, cs, x, j, jdx, c, cdx, l, z, ms, u, es, g, e, b, r, rfl, U, ev, lu, le, lm, qz, q⟩ := h
    refine ⟨_, (pss_cons (ps_expr (pe_meth0 (pe_fld (pv 0) rfl) T.cl_Calls ⟨T.m_Calls_check, T.t_Calls_check, T.k_Calls_check⟩ G_Calls_check (hr.mono (by omega)) T.b_Calls_check .nil pass0))
      (pss_cons (ps_if (pt_cmpR op_eq (pe_callB call_lenD (by rfl) T.z_len (by decide +kernel) (pa_cons (pe_fld (pv 0) rfl) pa_nil)) pe_int (nomark _)) (pss_one (ps_ret (pe_fld (pv 0) rfl))) pss_nil)
      (pss_one (ps_ret (pe_ix (r := rIxT K) ix_tup (pe_call G_whole_span (hr.mono (by omega)) rfl T.g_whole_span T.F_whole_span.kp T.b_whole_span .nil pass0 (pa_cons (pe_fld (pv 0) rfl) (pa_cons (pe_call G_shape_spans (hr.mono (by omega)) rfl T.g_shape_spans T.F_shape_spans.kp T.b_shape_spans .nil pass0 (pa_cons (pe_fld (pv 0) rfl) pa_nil)) pa_nil))) pe_int (fun _ _ => rfl)))))), ?_⟩
    obtain ⟨dx, h, sh, h1, h2, h3, h4⟩ := ev.hx
    have ld0 : (ms.drop g).length = ms.length - g := List.length_drop ..
    refine ⟨_, rfl, x, _, _, _, .ref c, rfl, h1, T.cl_EvenSums, T.n_EvenSums_calls, rfl, c, cdx, _, rfl, ev.jw.hc, rfl, c, cdx, l, rfl, ev.jw.hc, ?_⟩
    refine ⟨_, rfl, x, _, _, _, .ref h, rfl, h1, T.cl_EvenSums, T.n_EvenSums_held, rfl, h, _, rfl, h2, rfl, _, rfl, ?_⟩
    by_cases c0 : ms.length ≤ g
    · refine ifT (decide_eq_true (by rw [heldK_len, ld0]; exact congrArg V.int (by omega))) ?_
      exact ⟨_, rfl, x, _, _, _, z, rfl, h1, T.cl_EvenSums, T.n_EvenSums_zero, rfl, qz c0⟩
    · have gl : g < ms.length := by omega
      refine ifF (decide_eq_false fun y => ?_) ?_
      · rw [heldK_len, ld0] at y
        injection y with y
        omega
      obtain ⟨t1, t2, t3⟩ := sum_end ev.ok gl
      refine ⟨_, rfl, x, _, _, _, .ref j, rfl, h1, T.cl_EvenSums, T.n_EvenSums_joiner, rfl, _, rfl, x, _, _, _, .ref sh, rfl, h1, T.cl_EvenSums, T.n_EvenSums_shape, rfl, true, uv, f, UR, Val, ms, cs, sh, g, e, b, r, rfl, U, lm, h4, ev.ok, fun p xs H1 s1 fp e1 lx ax => ?_⟩
      have np : p ∉ [c, l] ++ uv := fun y => ev.mu.fr fp (ev.sub _ (memB y))
      refine ⟨true, uv, f, UR, Val, j, jdx, c, cdx, l, u, es, ms, xs, p, sumB g e b ms.length, rfl, U, ev.jw.same U s1, by omega, by omega, by omega, e1, np, ax, fun v d H2 ld k2 jw2 a0 a1 => ?_⟩
      rw [lx] at ld jw2 a1
      obtain ⟨g1, g2, pv, vv, rfl, g3, g4⟩ := a1 t1
      refine ⟨pv, _, 2, vv, rfl, rfl, sqtOf g3, atI_nat (j := 2) rfl, ?_⟩
      have ev1 := ev.same U s1
      have m1 := ev1.jw.mu U
      have sub2 : ∀ a ∈ [c, l] ++ uv, a ∈ cs := fun a m => ev.sub a (memB m)
      obtain ⟨dx1, hh1, sh1, i1, i2, i3, i4⟩ := ev1.hx
      refine q vv d H2 gl ld (kp_trans (kp_same s1) k2) ⟨⟨dx1, hh1, sh1, k2.at_ _ _ i1 ev.nx, k2.at_ _ _ i2 fun y => i3 (sub2 _ y), i3, i4.kp U k2 m1 sub2⟩, jw2, ev.ok, ev1.mm.kp U k2 m1, ev1.mu.kp k2 (jw2.mu U), ev.sub, ev.nj, ev.nx⟩ ?_
      rw [t2] at g4
      exact g4
end
end Ob

set_option Elab.async false
set_option linter.all false
set_option maxRecDepth 100000
set_option maxHeartbeats 1000000
namespace Ob
open PySem PySem.Spec PyProof.Rows L2
open LamX (Tabs TabB TabS ExtN)

set_option hygiene false in
local macro_rules
  | `(tactic| kp_flats) => `(tactic| first
    | assumption
    | exact upd_same
    | (apply atNew; assumption; kp_flats)
    | (apply atNe; (next => kbo_bools); kp_flats)
    | (apply atSame; assumption; kp_flats)
    | (apply atKp; assumption; (next => kaf_pre); kp_flats))
set_option hygiene false in
local macro_rules
  | `(tactic| kaf_pre) => `(tactic| first
    | assumption
    | exact not_nil
    | (apply not_cons; (next => kbo_bools); kaf_pre)
    | (apply not_app; (next => kaf_pre); kaf_pre))
set_option hygiene false in
local macro_rules
  | `(tactic| kbo_bools) => `(tactic| first
    | assumption
    | (apply Ne.symm; assumption)
    | (apply neN; assumption; kp_flats)
    | (apply neN'; assumption; kp_flats))
set_option hygiene false in
local macro_rules
  | `(tactic| o_reads) => `(tactic| first
    | with_reducible rfl
    | assumption
    | rfl
    | kp_flats
    | (show SqL _ _ _ _; first | assumption | (apply sqlOf; kp_flats) | (apply sqlSame; assumption; o_reads))
    | (show SqT _ _ _ _; first | assumption | (apply sqtOf; kp_flats) | (apply sqtAll; assumption) | (apply sqtSame; assumption; o_reads))
    | (show Cls _ _; first | exact T.cl_Calls | exact T.cl_Joiner | exact T.cl_Planner | exact T.cl_EvenSums | exact T.cl_Shape | exact T.cl_TwoStacks)
    | (show NoAttr _ _ _; first | exact T.n_Calls_entries | exact T.n_Calls_running | exact T.n_Joiner_calls | exact T.n_Joiner_join_call | exact T.n_Planner_entries | exact T.n_EvenSums_calls | exact T.n_EvenSums_joiner | exact T.n_EvenSums_zero | exact T.n_EvenSums_given | exact T.n_EvenSums_held | exact T.n_EvenSums_shape | exact T.n_Shape_front | exact T.n_Shape_back | exact T.n_Shape_late | exact T.n_Shape_renewed | exact T.n_TwoStacks_calls | exact T.n_TwoStacks_joiner | exact T.n_TwoStacks_zero | exact T.n_TwoStacks_given | exact T.n_TwoStacks_held | exact T.n_TwoStacks_front | exact T.n_TwoStacks_back)
    | (apply Or.inl; o_reads)
    | (apply Or.inr; o_reads)
    | (apply And.intro; (next => o_reads); o_reads)
    | (apply Exists.intro; o_reads)
    | exact Nat.le_of_ble_eq_true rfl
    | exact Nat.succ_ne_zero _
    | (show Fr _ _; kba_ints)
    | (show Same _ _; kd_subs)
    | (show Kp _ _ _; kxs_still)
    | (show (_ : Nat) ≤ _; simp only [List.length_append, List.length_map, List.length_cons, List.length_nil, List.length_take, List.length_drop, List.length_replicate, List.length_range, sizeLine_eq]; omega)
    | (show _ = none; apply Fr.h; kba_ints)
    | (show Bag _ _; first | assumption | (apply bag_putF; assumption; o_reads) | (apply bag_neF; (next => kbo_bools); o_reads) | (apply bag_kpR; assumption; (next => kaf_pre); o_reads))
    | omega
    | decide)
local macro_rules
  | `(tactic| o_readsAll) => `(tactic| repeat (first
    | (refine fun (pNew : Addr) (nNew : _ = none) => ?_; replace nNew := Fr.mk nNew)
    | (refine fun (xNew dNew : Addr) (nNew : _ = none) (mNew : _ = none) (eNew : dNew ≠ xNew) => ?_; replace nNew := Fr.mk nNew; replace mNew := Fr.mk mNew)
    | (apply And.intro; next => o_reads)
    | apply Exists.intro (α := V)
    | apply Exists.intro (α := Addr)
    | apply Exists.intro (α := Int)
    | apply Exists.intro (α := Bool)
    | apply Exists.intro (α := List V)
    | apply Exists.intro (α := List Nat)
    | apply Exists.intro (α := List (Str × V))
    | apply Exists.intro (α := List _)
    | apply Exists.intro (α := Str)
    | apply Exists.intro (α := HO)
    | apply Exists.intro (α := Sp)
    | apply Exists.intro (α := VK)))
set_option hygiene false in
local macro_rules
  | `(tactic| kba_ints) => `(tactic| first
    | assumption
    | (apply frUp; (first | assumption | (apply Ne.symm; assumption)); kba_ints)
    | (apply noneOf; assumption; intro oF eF; apply Exists.intro; kp_flats)
    | (apply frUp; (next => kbo_bools); kba_ints))
set_option hygiene false in
local macro_rules
  | `(tactic| kxs_still) => `(tactic| first
    | assumption
    | exact kp_refl _ _
    | (apply kp_newF; assumption; kxs_still)
    | (apply kp_new; assumption; kxs_still)
    | (apply kp_up; (next => o_fieldsN); kxs_still)
    | (apply kp_new; (next => kba_ints); kxs_still)
    | (apply kp_sameR; assumption; kxs_still)
    | (apply kp_transR; assumption; kxs_still)
    | (apply kp_freshR; assumption; (next => kaf_suf); kxs_still))
set_option hygiene false in
local macro_rules
  | `(tactic| kaf_suf) => `(tactic| first
    | assumption
    | exact subNil
    | (apply subCons; (first | (apply Or.inl; o_fieldsN) | (apply Or.inr; kba_ints)); kaf_suf)
    | (apply subApp; (next => kaf_suf); kaf_suf))
set_option hygiene false in
local macro_rules
  | `(tactic| o_fieldsN) => `(tactic| first
    | assumption
    | exact memA
    | (apply memB; o_fieldsN)
    | (apply memL; o_fieldsN)
    | (apply memR; o_fieldsN))
set_option hygiene false in
local macro_rules
  | `(tactic| kd_subs) => `(tactic| first
    | assumption
    | exact Same.refl _
    | (apply same_putF; assumption; kd_subs)
    | (apply same_putG; assumption; kd_subs)
    | (apply same_putF; (next => kba_ints); kd_subs)
    | (apply same_transR; assumption; kd_subs))

set_option pp.maxSteps 900
section
variable {P : Program} {w : World} {K : PySem.W.Frag} {mg : Str → Option Value} {base : Heap} {n : Nat}
def spJI (C : Addr) : Sp := fun vs H Q _ => ∃ (a dx c : Addr) (f : V), vs = [.ref a, .ref c, f] ∧ H a = some (.ins C dx []) ∧ ∀ H', H' a = some (JO C dx c f) → Kp [a] H H' → (∀ b, Fr H' b → Fr H b) → Q .non H'
theorem ok_ji (T : Txt K mg) : FnOk P w K mg base CX0 1 T.f_Joiner_init T.d_Joiner_init ["self", "calls", "join"] (spJI T.C_Joiner) := by
  refine T.F_Joiner_init.ok sc_Joiner_init (fun vs H Q E h => ?_) (fun cdv A outer s H vs Q E hr h => ?_)
  · obtain ⟨a, dx, c, f, rfl, _⟩ := h
    rfl
  · obtain ⟨a, dx, c, f, rfl, ha, q⟩ := h
    refine ⟨_, (pss_cons (ps_fld (pv 0) (pv 1) rfl)
      (pss_one (ps_fld (pv 0) (pv 2) rfl))), ?_⟩
    o_readsAll
    exact q _ (by kp_flats) (by kxs_still) fun b fb => by kba_ints
def spEI (Ce Cs : Addr) (Cj : Addr × Addr) (Cc : Addr) : Sp := fun vs H Q _ => ∃ (x dx : Addr) (f z : V), vs = [.ref x, f, z] ∧ H x = some (.ins Ce dx []) ∧ ∀ (j jdx c cdx l h sh sdx fr : Addr) H', Fr H j → Fr H c → Fr H l → Fr H h → Fr H sh → Fr H fr → c ≠ l → x ≠ c → x ≠ l → j ≠ x → j ≠ c → j ≠ l → h ≠ x → h ≠ c → h ≠ l → sh ≠ x → sh ≠ c → sh ≠ l → fr ≠ x → fr ≠ c → fr ≠ l →
  H' x = some (EO Ce dx c j z 0 h sh) → H' j = some (JO Cj.1 jdx c f) → H' c = some (CO Cc cdx l false) → H' l = some (.lst []) → H' h = some (.dK []) → H' sh = some (ShO Cs sdx (.ref fr) .non .non .non) → H' fr = some (.lst []) → Kp [x] H H' → Q .non H'
theorem ok_ei (T : Txt K mg) : FnOk P w K mg base CX0 4 T.f_EvenSums_init T.d_EvenSums_init ["self", "join", "zero"] (spEI T.C_EvenSums T.C_Shape (CJ T) T.C_Calls) := by
  have G_Calls_init := ok_ci (P := P) (w := w) (base := base) T
  have G_Joiner_init := ok_ji (P := P) (w := w) (base := base) T
  have G_Shape_init := ok_shi (P := P) (w := w) (base := base) T
  refine T.F_EvenSums_init.ok sc_EvenSums_init (fun vs H Q E h => ?_) (fun cdv A outer s H vs Q E hr h => ?_)
  · obtain ⟨x, dx, f, z, rfl, _⟩ := h
    rfl
  · obtain ⟨x, dx, f, z, rfl, hb, q⟩ := h
    refine ⟨_, (pss_cons (ps_fld (pv 0) (pe_make0 ⟨T.mk_Calls, T.m_Calls_init, T.t_Calls_init, T.kp_Calls⟩ G_Calls_init (hr.mono (by omega)) rfl T.gc_Calls T.b_Calls_init .nil pass0) rfl)
      (pss_cons (ps_fld (pv 0) (pe_make ⟨T.mk_Joiner, T.m_Joiner_init, T.t_Joiner_init, T.kp_Joiner⟩ G_Joiner_init (hr.mono (by omega)) rfl T.gc_Joiner T.b_Joiner_init .nil pass0 (pa_cons (pe_fld (pv 0) rfl) (pa_cons (pv 1) pa_nil))) rfl)
      (pss_cons (ps_fld (pv 0) (pv 2) rfl)
      (pss_cons (ps_fld (pv 0) pe_int rfl)
      (pss_cons (ps_fld (pv 0) pe_dnewK rfl)
      (pss_one (ps_fld (pv 0) (pe_make ⟨T.mk_Shape, T.m_Shape_init, T.t_Shape_init, T.kp_Shape⟩ G_Shape_init (hr.mono (by omega)) rfl T.gc_Shape T.b_Shape_init .nil pass0 (pa_cons (pe_lst pa_nil) (pa_cons pe_non (pa_cons pe_non (pa_cons pe_non pa_nil))))) rfl))))))), ?_⟩
    o_readsAll
    rename_i c cdx nec nc ncd
    intro l H1 nl e1 e2 k1
    o_readsAll
    rename_i j jdx nej nj njd
    intro H2 e3 k2 f2
    o_readsAll
    rename_i h nh fr nfr sh sdx nes ns nsd
    intro H3 e4 k3 f3
    o_readsAll
    refine q j jdx c cdx l h sh sdx fr _ (by kba_ints) (by kba_ints) (by kba_ints) (by kba_ints) (by kba_ints) (by kba_ints) (by kbo_bools) (by kbo_bools) (by kbo_bools) (by kbo_bools) (by kbo_bools) (by kbo_bools) (by kbo_bools) (by kbo_bools) (by kbo_bools) (by kbo_bools) (by kbo_bools) (by kbo_bools) (by kbo_bools) (by kbo_bools) (by kbo_bools) (by kp_flats) (by kp_flats) (by kp_flats) (by kp_flats) (by kp_flats) (by kp_flats) (by kp_flats) (by kxs_still)
/-- a queue that is made: nothing is in it -/
theorem evNew {uv : List Addr} {f z : V} {UR : List JEv → Hp → Prop} {Val : Nat → List V → V → Hp → Prop} {Ce Cs : Addr} {Cj : Addr × Addr} {Cc x dx j jdx c cdx l h sh sdx fr : Addr} {H H' : Hp} {cs : List Addr}
    (mu : Mu H' cs) (sub : ∀ a ∈ [x, c, l] ++ uv, a ∈ cs) (nj : j ∉ cs) (nh : h ∉ cs) (ns : sh ∉ cs) (nf : fr ∉ cs) (n1 : x ∉ [c, l] ++ uv) (n2 : j ∉ uv) (n3 : c ∉ uv) (n4 : l ∉ uv) (ur : UR [] H')
    (hx : H' x = some (EO Ce dx c j z 0 h sh)) (hj : H' j = some (JO Cj.1 jdx c f)) (hc : H' c = some (CO Cc cdx l false)) (hl : H' l = some (.lst [])) (hh : H' h = some (.dK [])) (hs : H' sh = some (ShO Cs sdx (.ref fr) .non .non .non)) (hf : H' fr = some (.lst [])) :
    EvAt Ce Cs Cj Cc uv f UR Val cs x j jdx c cdx l z [] [] [] 0 0 0 none H' :=
  ⟨⟨dx, h, sh, hx, hh, nh, ⟨⟨sdx, fr, .non, .non, .non, [], hs, hf, ⟨rfl, Nat.le_refl _, Nat.le_refl _, fun q s z => by cases q <;> cases z⟩, .inl ⟨rfl, rfl, Nat.le_refl _⟩, .inl ⟨rfl, rfl, Nat.le_refl _⟩, rfl, nf⟩, ns⟩⟩,
    JW.mk1 hj hc ⟨[], hl, ⟨rfl, fun q x e z => by cases q <;> cases z⟩⟩ ur rfl n2 n3 n4, ⟨Nat.le_refl _, Nat.le_refl _, rfl, Nat.le_refl _⟩, (fun i m e => by cases i <;> cases e), mu, sub, nj, n1⟩
end
end Ob

set_option Elab.async false
set_option linter.all false
set_option maxRecDepth 100000
/-! the pairs of a dict, and a list of them -/
namespace L2
open PySem PySem.Spec PyProof.Rows
section
variable {X : Cx}
def rItems : V → List V → Hp → VK → Prop := fun x xs H Q => ∃ (a : Addr) (kvs : List (Key × V)), x = .ref a ∧ xs = [] ∧ H a = some (.dK kvs) ∧ ∀ p, H p = none → Q (.ref p) (upd H p (DX.itemsO p a))
theorem mt_items : MtR X "dict.items" rItems := by
  intro pins s σ H x xs v us Q I rx rxs h
  obtain ⟨a, kvs, rfl, rfl, ha, q⟩ := h
  cases rx
  cases rxs
  obtain ⟨z, hd, vs, rel, dd⟩ := dk_of I.hok ha
  refine call_meetsIn PySem.F.slot_dict_items dd.typeIs PySem.F.entry_dict_items (PySem.F.args_dict_items_1 _) (meets_dict_items (mixKind X.prog X.w) a hd) ⟨⟨_, dd⟩, ?_⟩
  have hf : H s.heap.objs.size = none := I.hok.fresh (Nat.le_refl _)
  exact ⟨.ref s.heap.objs.size, upd H s.heap.objs.size (DX.itemsO s.heap.objs.size a), I.laid (t' := s.toks) (fun b u e => Heap.get?_push_of_some _ e) (Nat.le_refl _) (DX.itemsO_ok (Heap.get?_push_size _ rfl)), rfl, q _ hf⟩
theorem key_rel {P : Program} {w : World} {k : Key} {u : Value} (h : (mixKind P w).is k u = true) : RelV (kV k) u := by
  rcases keyIs_shape h with ⟨i, t, rfl, rfl⟩ | ⟨x, t, rfl, rfl⟩
  · exact ⟨t, rfl⟩
  · exact ⟨t, rfl⟩
def rListI : List V → Hp → VK → Prop := fun xs H Q => ∃ (p d : Addr) (kvs : List (Key × V)), xs = [.ref p] ∧ H p = some (DX.itemsO p d) ∧ H d = some (.dK kvs) ∧
  ∀ (q : Addr) (L : List Addr) (H' : Hp), (∀ b o, H b = some o → H' b = some o) → H q = none → L.length = kvs.length → H' q = some (.lst (L.map V.ref)) → (∀ (j : Nat) (a : Addr) (k : Key) (v : V), L[j]? = some a → kvs[j]? = some (k, v) → H' a = some (.tup [kV k, v])) → Q (.ref q) H'
theorem call_listI (hc : X.calm = true) : CallR X (.type "list") rListI := by
  intro pins s σ H xs us Q I r h
  obtain ⟨p, d, kvs, rfl, hp, hd, q⟩ := h
  obtain ⟨u, rfl, rx⟩ := vals1 r
  obtain rfl : u = Value.ref p := rx
  obtain ⟨z, lo, vs, rk, hdd⟩ := dk_of I.hok hd
  obtain ⟨ep, hat⟩ := hdd.dictAt
  have hv : s.heap.IsItemsView p d := (show ObjOk X.prog X.w H s.heap p (DX.itemsO p d) from I.hok p _ hp).1
  have hl : kvs.length = vs.length := Paired.length rk
  refine PySem.W.kdx_call (knd := mixKind X.prog X.w) (kvs := vs) (ep := ep) (I.ok.hd hc) hv hat (by rw [← hl]; exact z) fun h' tk acc c as hk hS hla hG hacc => ?_
  have nd : as.Nodup := List.Pairwise.imp (fun h => Nat.ne_of_lt h) hG.rise
  have I1 : Inv X pins σ H { s with heap := h', toks := tk } := I.kept (t' := tk) hk
  have hn0 : H s.heap.objs.size = none := I.hok.fresh (Nat.le_refl _)
  have rv : Vals (as.map V.ref) acc.toList := by
    rw [hacc]
    exact vals_maps V.ref Value.ref as fun _ _ => rfl
  have I2 : Inv X pins σ (upd H s.heap.objs.size (.lst (as.map V.ref))) { s with heap := h', toks := tk } :=
    I1.take (h' := h') (t' := tk) (fun b ob _ e => e) (I.fpOk (Nat.le_refl _) hn0) ⟨by rw [List.length_map, hla, ← hl]; exact z, acc.toList, c, rv, by rw [Array.toArray_toList]; exact hS⟩
  have pr : ∀ (j : Nat) (b : Addr) (k : Key) (v : V), as[j]? = some b → kvs[j]? = some (k, v) → ∃ key u, RelV (kV k) key ∧ RelV v u ∧ h'.get? b = some { cls := .type "tuple", data := .seq #[key, u] } := fun j b k v e1 e2 => by
    obtain ⟨key, k1, x, h1, h2, h3⟩ := hG.pairs j b e1
    obtain ⟨u, g1, g2⟩ := kv_get rk e2
    rw [h1] at g1
    cases g1
    exact ⟨key, _, key_rel h2, g2, h3⟩
  obtain ⟨H2, I3, g, qt⟩ := DX.takeT (P := fun b ys => ∃ (j : Nat) (k : Key) (v : V), as[j]? = some b ∧ kvs[j]? = some (k, v) ∧ ys = [kV k, v]) I as _ I2 nd fun b hb => by
    obtain ⟨j, hj⟩ := List.mem_iff_getElem?.mp hb
    have lj : j < kvs.length := by
      rw [hl, ← hla]
      exact (List.getElem?_eq_some_iff.mp hj).1
    have e2 : kvs[j]? = some (kvs[j].1, kvs[j].2) := List.getElem?_eq_getElem lj
    obtain ⟨key, u, r1, r2, h3⟩ := pr j b _ _ hj e2
    have hbl : s.heap.objs.size ≤ b := Nat.le_of_lt (hG.above b hb)
    refine ⟨hbl, ?_, [kV kvs[j].1, kvs[j].2], ⟨j, _, _, hj, e2, rfl⟩, fun H3 => ⟨(by rw [sizeLine_eq]; show 2 ≤ 16777216; omega), [key, u], .cons r1 (.cons r2 .nil), ⟨_, h3, rfl, 0, rfl⟩⟩⟩
    rw [upd_ne (Nat.ne_of_gt (hG.above b hb))]
    exact I.hok.fresh hbl
  have gr : ∀ b o, H b = some o → H2 b = some o := fun b o e => g b o (by rw [upd_ne (ne_of_none e hn0)]; exact e)
  refine ⟨.ref s.heap.objs.size, H2, I3, rfl, q _ as H2 gr hn0 (by rw [hla, hl]) (g _ _ upd_same) fun j a k v e1 e2 => ?_⟩
  obtain ⟨ys, ⟨i, k1, v1, i1, i2, rfl⟩, hH⟩ := qt a (List.mem_of_getElem? e1)
  have eij : i = j := (List.getElem?_inj (List.getElem?_eq_some_iff.mp i1).1 nd).mp (i1.trans e1.symm)
  subst eij
  rw [e2] at i2
  cases i2
  exact hH
end
end L2

set_option Elab.async false
set_option linter.all false
set_option maxRecDepth 100000
set_option maxHeartbeats 1000000
namespace Ob
open PySem PySem.Spec PyProof.Rows L2
open LamX (Tabs TabB TabS ExtN)

set_option hygiene false in
local macro_rules
  | `(tactic| kp_flats) => `(tactic| first
    | assumption
    | exact upd_same
    | (apply atNew; assumption; kp_flats)
    | (apply atNe; (next => kbo_bools); kp_flats)
    | (apply atSame; assumption; kp_flats)
    | (apply atKp; assumption; (next => kaf_pre); kp_flats))
set_option hygiene false in
local macro_rules
  | `(tactic| kaf_pre) => `(tactic| first
    | assumption
    | exact not_nil
    | (apply not_cons; (next => kbo_bools); kaf_pre)
    | (apply not_app; (next => kaf_pre); kaf_pre))
set_option hygiene false in
local macro_rules
  | `(tactic| kbo_bools) => `(tactic| first
    | assumption
    | (apply Ne.symm; assumption)
    | (apply neN; assumption; kp_flats)
    | (apply neN'; assumption; kp_flats))
set_option hygiene false in
local macro_rules
  | `(tactic| o_reads) => `(tactic| first
    | with_reducible rfl
    | assumption
    | rfl
    | kp_flats
    | (show SqL _ _ _ _; first | assumption | (apply sqlOf; kp_flats) | (apply sqlSame; assumption; o_reads))
    | (show SqT _ _ _ _; first | assumption | (apply sqtOf; kp_flats) | (apply sqtAll; assumption) | (apply sqtSame; assumption; o_reads))
    | (show Cls _ _; first | exact T.cl_Calls | exact T.cl_Joiner | exact T.cl_Planner | exact T.cl_EvenSums | exact T.cl_Shape | exact T.cl_TwoStacks)
    | (show NoAttr _ _ _; first | exact T.n_Calls_entries | exact T.n_Calls_running | exact T.n_Joiner_calls | exact T.n_Joiner_join_call | exact T.n_Planner_entries | exact T.n_EvenSums_calls | exact T.n_EvenSums_joiner | exact T.n_EvenSums_zero | exact T.n_EvenSums_given | exact T.n_EvenSums_held | exact T.n_EvenSums_shape | exact T.n_Shape_front | exact T.n_Shape_back | exact T.n_Shape_late | exact T.n_Shape_renewed | exact T.n_TwoStacks_calls | exact T.n_TwoStacks_joiner | exact T.n_TwoStacks_zero | exact T.n_TwoStacks_given | exact T.n_TwoStacks_held | exact T.n_TwoStacks_front | exact T.n_TwoStacks_back)
    | (apply Or.inl; o_reads)
    | (apply Or.inr; o_reads)
    | (apply And.intro; (next => o_reads); o_reads)
    | (apply Exists.intro; o_reads)
    | exact Nat.le_of_ble_eq_true rfl
    | exact Nat.succ_ne_zero _
    | (show Fr _ _; kba_ints)
    | (show Same _ _; kd_subs)
    | (show Kp _ _ _; kxs_still)
    | (show (_ : Nat) ≤ _; simp only [List.length_append, List.length_map, List.length_cons, List.length_nil, List.length_take, List.length_drop, List.length_replicate, List.length_range, sizeLine_eq]; omega)
    | (show _ = none; apply Fr.h; kba_ints)
    | (show Bag _ _; first | assumption | (apply bag_putF; assumption; o_reads) | (apply bag_neF; (next => kbo_bools); o_reads) | (apply bag_kpR; assumption; (next => kaf_pre); o_reads))
    | omega
    | decide)
local macro_rules
  | `(tactic| o_readsAll) => `(tactic| repeat (first
    | (refine fun (pNew : Addr) (nNew : _ = none) => ?_; replace nNew := Fr.mk nNew)
    | (refine fun (xNew dNew : Addr) (nNew : _ = none) (mNew : _ = none) (eNew : dNew ≠ xNew) => ?_; replace nNew := Fr.mk nNew; replace mNew := Fr.mk mNew)
    | (apply And.intro; next => o_reads)
    | apply Exists.intro (α := V)
    | apply Exists.intro (α := Addr)
    | apply Exists.intro (α := Int)
    | apply Exists.intro (α := Bool)
    | apply Exists.intro (α := List V)
    | apply Exists.intro (α := List Nat)
    | apply Exists.intro (α := List (Str × V))
    | apply Exists.intro (α := List _)
    | apply Exists.intro (α := Str)
    | apply Exists.intro (α := HO)
    | apply Exists.intro (α := Sp)
    | apply Exists.intro (α := VK)))
set_option hygiene false in
local macro_rules
  | `(tactic| kba_ints) => `(tactic| first
    | assumption
    | (apply frUp; (first | assumption | (apply Ne.symm; assumption)); kba_ints)
    | (apply noneOf; assumption; intro oF eF; apply Exists.intro; kp_flats)
    | (apply frUp; (next => kbo_bools); kba_ints))
set_option hygiene false in
local macro_rules
  | `(tactic| kxs_still) => `(tactic| first
    | assumption
    | exact kp_refl _ _
    | (apply kp_newF; assumption; kxs_still)
    | (apply kp_new; assumption; kxs_still)
    | (apply kp_up; (next => o_fieldsN); kxs_still)
    | (apply kp_new; (next => kba_ints); kxs_still)
    | (apply kp_sameR; assumption; kxs_still)
    | (apply kp_transR; assumption; kxs_still)
    | (apply kp_freshR; assumption; (next => kaf_suf); kxs_still))
set_option hygiene false in
local macro_rules
  | `(tactic| kaf_suf) => `(tactic| first
    | assumption
    | exact subNil
    | (apply subCons; (first | (apply Or.inl; o_fieldsN) | (apply Or.inr; kba_ints)); kaf_suf)
    | (apply subApp; (next => kaf_suf); kaf_suf))
set_option hygiene false in
local macro_rules
  | `(tactic| o_fieldsN) => `(tactic| first
    | assumption
    | exact memA
    | (apply memB; o_fieldsN)
    | (apply memL; o_fieldsN)
    | (apply memR; o_fieldsN))
set_option hygiene false in
local macro_rules
  | `(tactic| kd_subs) => `(tactic| first
    | assumption
    | exact Same.refl _
    | (apply same_putF; assumption; kd_subs)
    | (apply same_putG; assumption; kd_subs)
    | (apply same_putF; (next => kba_ints); kd_subs)
    | (apply same_transR; assumption; kd_subs))

set_option pp.maxSteps 900
/-! ### two stacks -/
def TO (C dx c j : Addr) (z : V) (gi : Int) (h fr : Addr) (bv : V) : HO := .ins C dx [("calls", .ref c), ("joiner", .ref j), ("zero", z), ("given", .int gi), ("held", .ref h), ("front", .ref fr), ("back", bv)]
/-- the joins of a front of the k members before number n -/
def allE (n : Nat) : Nat → List (Nat × Nat × Nat)
  | 0 => []
  | k + 1 => allE n k ++ deepE n k
theorem allE_len {n : Nat} : ∀ {k : Nat}, (allE n k).length ≤ k
  | 0 => Nat.le_refl _
  | k + 1 => by
    show (allE n k ++ deepE n k).length ≤ k + 1
    rw [List.length_append]
    have h1 := allE_len (n := n) (k := k)
    have h2 : (deepE n k).length ≤ 1 := by
      unfold deepE
      split
      · exact Nat.zero_le _
      · exact Nat.le_refl _
    omega
theorem same_star {H : Hp} {p b2 : Addr} {a1 b1 c1 d1 e1 : HO} (np : H p = none) (nb2 : upd (upd H p a1) p b1 b2 = none) : Same H (upd (upd (upd (upd (upd H p a1) p b1) b2 c1) b2 d1) p e1) := fun b o e => by
  have n1 := ne_of_none e np
  have e2 : upd (upd H p a1) p b1 b = some o := by
    rw [upd_ne n1, upd_ne n1]
    exact e
  have n2 := ne_of_none e2 nb2
  rw [upd_ne n1, upd_ne n2, upd_ne n2]
  exact e2
section
variable {P : Program} {w : World} {K : PySem.W.Frag} {mg : Str → Option Value} {base : Heap} {n : Nat}
def spAll (P : Program) (w : World) (K : PySem.W.Frag) (mg : Str → Option Value) (base : Heap) (Cj : Addr × Addr) (Cc : Addr) (n : Nat) : Sp := fun vs H Q _ => ∃ (lb : Bool) (uv : List Addr) (f : V) (UR : List JEv → Hp → Prop) (Val : Nat → List V → V → Hp → Prop) (j jdx c cdx l : Addr) (u : List JEv) (es : List (Nat × Nat × Nat)) (ms : List V) (h : Addr) (g : Nat),
  vs = [.ref j, .ref h] ∧ JS P w K mg base n lb uv f UR Val ∧ JW Cj Cc lb uv f UR j jdx c cdx l u es H ∧ u.length < 80000 ∧ es.length < 80000 ∧ ms.length < 9000 ∧ H h = some (.dK (heldK g (ms.drop g))) ∧ h ∉ [c, l] ++ uv ∧ g ≤ ms.length ∧ Mems Val ms H ∧
  ∀ r ys d H', d.length = (allE ms.length (ms.length - g)).length → Fr H r → Kp ([c, l] ++ uv) H H' → JW Cj Cc lb uv f UR j jdx c cdx l (u ++ d) (es ++ allE ms.length (ms.length - g)) H' → H' r = some (.lst ys) → SpansTo Val ms ys ms.length (ms.length - g) H' → Q (.ref r) H'
theorem ok_all (T : Txt K mg) : FnOk P w K mg base CX0 (n + 8) T.f_all_spans T.d_all_spans ["joiner", "held"] (spAll P w K mg base (CJ T) T.C_Calls n) := by
  have G_deepened := ok_deep (P := P) (w := w) (base := base) (n := n) T
  refine T.F_all_spans.ok sc_all_spans (fun vs H Q E h => ?_) (fun cdv A outer s H vs Q E hr h => ?_)
  · obtain ⟨lb, uv, f, UR, Val, j, jdx, c, cdx, l, u, es, ms, h, g, rfl, _⟩ := h
    rfl
  · obtain ⟨lb, uv, f, UR, Val, j, jdx, c, cdx, l, u, es, ms, h, g, rfl, U, jw, lu, le, lm, h1, nh, lg, mm, q⟩ := h
    refine ⟨_, (pss_cons (ps_set (i := 2) sc_all_spans.nd rfl (.inl rfl) (pe_lst pa_nil))
      (pss_cons (ps_for PassesOwn.never rfl (RT.pi_revA (by rfl) T.z_reversed (pe_callTy (call_listI rfl) (by rfl) T.z_list (by decide +kernel) (pa_cons (pe_bm0 PySem.F.plainAttrs_dict PySem.F.slot_dict_items PySem.F.type_dict_items mt_items (pv 1)) pa_nil))) (pg_tup (by rfl) (pgs_cons (pg_name (i := 3) sc_all_spans.nd rfl (.inl rfl)) (pgs_cons (pg_name (i := 4) sc_all_spans.nd rfl (.inl rfl)) pgs_nil))) (pss_one (ps_set (i := 2) sc_all_spans.nd rfl (.inl rfl) (pe_call G_deepened (hr.mono (by omega)) rfl T.g_deepened T.F_deepened.kp T.b_deepened .nil pass0 (pa_cons (pv 0) (pa_cons (pv 2) (pa_cons (pv 3) (pa_cons (pv 4) pa_nil))))))))
      (pss_one (ps_ret (pv 2))))), ?_⟩
    refine ⟨Nat.zero_le _, fun a0 n0 => ?_⟩
    have f0 := Fr.mk n0
    have s0 : Same H (upd H a0 (.lst [])) := same_newF f0
    have e0 : upd H a0 (.lst []) a0 = some (.lst []) := upd_same
    have h1' := s0 _ _ h1
    generalize upd H a0 (.lst []) = Ha at s0 e0 h1' ⊢
    refine ⟨_, rfl, .inr (.inr (.inl ⟨rfl, .inl ⟨_, h1'⟩⟩)), h, _, rfl, rfl, h1', fun p np => ⟨p, h, _, rfl, upd_same, atNew (Fr.mk np) h1', fun ql L H1 s1 nq lL eL aL => ⟨ql, _, rfl, .inl ⟨sqlOf eL, ?_⟩⟩⟩⟩
    have s1' : Same H H1 := s0.trans ((same_newF (Fr.mk np)).trans s1)
    have e1 : H1 a0 = some (.lst []) := s1 _ _ (same_newF (Fr.mk np) _ _ e0)
    have jw1 := jw.same U s1'
    have m1 := jw1.mu U
    have nql : ql ∉ [c, l] ++ uv := (jw.same U (s0.trans (same_newF (o := DX.itemsO p h) (Fr.mk np)))).mu U |>.fr (Fr.mk nq)
    have ld0 : (ms.drop g).length = ms.length - g := List.length_drop ..
    rw [heldK_len, ld0] at lL
    refine RT.for_Itv (xs := L.map V.ref) (fun i σ H' => ∃ (sp : Addr) (ys : List V) (d : List JEv) (y3 y4 : Option V), σ = [some (.ref j), some (.ref h), some (.ref sp), y3, y4] ∧ d.length = (allE ms.length i).length ∧ Kp ([c, l] ++ uv) H1 H' ∧ JW (CJ T) T.C_Calls lb uv f UR j jdx c cdx l (u ++ d) (es ++ allE ms.length i) H' ∧ H' sp = some (.lst ys) ∧ SpansTo Val ms ys ms.length i H' ∧ Fr H sp)
      ⟨a0, [], [], none, none, rfl, rfl, kp_refl _ _, by rw [List.append_nil, show es ++ allE ms.length 0 = es from List.append_nil _]; exact jw1, e1, ⟨rfl, Nat.zero_le _, Nat.le_refl _, fun q s z => by cases q <;> cases z⟩, f0⟩ ?_ ?_ ?_
    · rintro i σ H' ⟨sp, ys, d, y3, y4, rfl, ld, kk, jw', esp, sps, fsp⟩
      exact sqlOf (kk.at_ _ _ eL nql)
    · rintro i x σ H' li hx ⟨sp, ys, d, y3, y4, rfl, ld, kk, jw', esp, sps, fsp⟩
      rw [List.length_map] at li hx
      rw [List.getElem?_map] at hx
      obtain ⟨tp, htp, rfl⟩ := Option.map_eq_some_iff.mp hx
      have hv : ∃ v, (heldK g (ms.drop g))[L.length - 1 - i]? = some (.inl ((g + (L.length - 1 - i) : Nat) : Int), v) ∧ ms[ms.length - 1 - i]? = some v := by
        have lk : L.length - 1 - i < (heldK g (ms.drop g)).length := by
          rw [heldK_len, ld0]
          omega
        have e2 : (heldK g (ms.drop g))[L.length - 1 - i]? = some ((heldK g (ms.drop g))[L.length - 1 - i].1, (heldK g (ms.drop g))[L.length - 1 - i].2) := List.getElem?_eq_getElem lk
        obtain ⟨e3, e4⟩ := heldK_at _ _ _ _ _ e2
        refine ⟨_, by rw [e2, e3], ?_⟩
        rw [List.getElem?_drop, show g + (L.length - 1 - i) = ms.length - 1 - i by omega] at e4
        exact e4
      obtain ⟨v, hv1, hv2⟩ := hv
      have et : H' tp = some (.tup [kV (.inl ((g + (L.length - 1 - i) : Nat) : Int)), v]) := kp_tup kk m1 (aL _ _ _ _ htp hv1)
      rw [show kV (.inl ((g + (L.length - 1 - i) : Nat) : Int)) = V.int ((ms.length - 1 - i : Nat) : Int) by rw [show g + (L.length - 1 - i) = ms.length - 1 - i by omega]; rfl] at et
      refine ⟨tp, _, rfl, sqtOf et, rfl, _, _, rfl, _, _, rfl, rfl, ?_⟩
      have k0' : Kp ([c, l] ++ uv) H H' := kp_trans (kp_same s1') kk
      have nsp : sp ∉ [c, l] ++ uv := (jw.mu U).fr fsp
      have al : Alone Val ms (ms.length - 1 - i) v H' := ⟨hv2, U.val (mm _ _ hv2) k0' (jw.mu U)⟩
      have la := allE_len (n := ms.length) (k := i)
      refine ⟨_, rfl, _, rfl, _, rfl, _, rfl, lb, uv, f, UR, Val, j, jdx, c, cdx, l, u ++ d, es ++ allE ms.length i, ms, ys, sp, v, ms.length, i, rfl, U, jw', by rw [List.length_append]; omega, by rw [List.length_append]; omega, by omega, esp, nsp, sps, by omega, by omega, al, fun r zs d2 H2 ld2 fr2 k2 jw2 er sps2 => ?_⟩
      refine ⟨r, zs, d ++ d2, _, _, rfl, ?_, kp_trans kk k2, ?_, er, sps2, fr_kp k0' (jw'.mu U) fr2⟩
      · show (d ++ d2).length = (allE ms.length i ++ deepE ms.length i).length
        rw [List.length_append, List.length_append, ld, ld2]
      · show JW _ _ _ _ _ _ _ _ _ _ _ _ (es ++ (allE ms.length i ++ deepE ms.length i)) H2
        rw [← List.append_assoc, ← List.append_assoc]
        exact jw2
    · rintro σ H' ⟨sp, ys, d, y3, y4, rfl, ld, kk, jw', esp, sps, fsp⟩
      rw [List.length_map, lL] at ld jw' sps
      exact ⟨_, rfl, q sp ys d H' ld fsp (kp_trans (kp_same s1') kk) jw' esp sps⟩
structure TwAt (Ct : Addr) (Cj : Addr × Addr) (Cc : Addr) (uv : List Addr) (f : V) (UR : List JEv → Hp → Prop) (Val : Nat → List V → V → Hp → Prop) (cs : List Addr) (x j jdx c cdx l : Addr) (z : V) (ms : List V) (u : List JEv) (es : List (Nat × Nat × Nat)) (g e : Nat) (H : Hp) : Prop where
  hx : ∃ (dx h fr : Addr) (bv : V) (xs : List V), H x = some (TO Ct dx c j z ms.length h fr bv) ∧ H h = some (.dK (heldK g (ms.drop g))) ∧ h ∉ cs ∧ H fr = some (.lst xs) ∧ fr ∉ cs ∧ SpansTo Val ms xs e (e - g) H ∧ OptSpan Val ms bv e ms.length H
  jw : JW Cj Cc true uv f UR j jdx c cdx l u es H
  ok : g ≤ e ∧ e ≤ ms.length
  mm : Mems Val ms H
  mu : Mu H cs
  sub : ∀ a ∈ [x, c, l] ++ uv, a ∈ cs
  nj : j ∉ cs
  nx : x ∉ [c, l] ++ uv
variable {uv : List Addr} {f z : V} {UR : List JEv → Hp → Prop} {Val : Nat → List V → V → Hp → Prop} {Ct : Addr} {Cj : Addr × Addr} {Cc x j jdx c cdx l : Addr} {u : List JEv} {es : List (Nat × Nat × Nat)} {H H1 : Hp} {ms ns : List V} {cs ds : List Addr} {g e : Nat}
theorem TwAt.kp (U : JS P w K mg base n true uv f UR Val) (h : TwAt Ct Cj Cc uv f UR Val cs x j jdx c cdx l z ms u es g e H) (k : Kp ds H H1) (m : Mu H ds) (m1 : Mu H1 ds) (s : ∀ a ∈ ds, a ∈ cs) (d : ∀ a ∈ [x, c, l] ++ uv, a ∉ ds) : TwAt Ct Cj Cc uv f UR Val cs x j jdx c cdx l z ms u es g e H1 := by
  obtain ⟨dx, hh, fr, bv, xs, h1, h2, h3, h4, h5, h6, h7⟩ := h.hx
  exact ⟨⟨dx, hh, fr, bv, xs, k.at_ _ _ h1 (d x (memL memA)), k.at_ _ _ h2 fun z => h3 (s _ z), h3, k.at_ _ _ h4 fun z => h5 (s _ z), h5, h6.kp U k m, h7.kp U k m⟩, h.jw.kp U k m (fun z => h.nj (s _ z)) (d c (memL (memB memA))) (d l (memL (memB (memB memA)))) fun a ma => d a (memR ma), h.ok, h.mm.kp U k m, h.mu.kp k m1, h.sub, h.nj, h.nx⟩
theorem TwAt.same (U : JS P w K mg base n true uv f UR Val) (h : TwAt Ct Cj Cc uv f UR Val cs x j jdx c cdx l z ms u es g e H) (s : Same H H1) : TwAt Ct Cj Cc uv f UR Val cs x j jdx c cdx l z ms u es g e H1 := h.kp U (ds := []) (kp_same s) mu_nil mu_nil (fun _ z => nomatch z) fun _ _ => not_nil
def spTwAdd (P : Program) (w : World) (K : PySem.W.Frag) (mg : Str → Option Value) (base : Heap) (Ct : Addr) (Cj : Addr × Addr) (Cc : Addr) (n : Nat) : Sp := fun vs H Q _ => ∃ (uv : List Addr) (f : V) (UR : List JEv → Hp → Prop) (Val : Nat → List V → V → Hp → Prop) (cs : List Addr) (x j jdx c cdx l : Addr) (z : V) (ms : List V) (u : List JEv) (es : List (Nat × Nat × Nat)) (g e : Nat) (m : V),
  vs = [.ref x, m] ∧ JS P w K mg base n true uv f UR Val ∧ TwAt Ct Cj Cc uv f UR Val cs x j jdx c cdx l z ms u es g e H ∧ u.length < 80000 ∧ es.length < 80000 ∧ ms.length < 70000 ∧ Val ms.length [m] m H ∧
  ∀ d H', d.length = (extE e ms.length).length → Kp ([x, c, l] ++ uv) H H' → TwAt Ct Cj Cc uv f UR Val cs x j jdx c cdx l z (ms ++ [m]) (u ++ d) (es ++ extE e ms.length) g e H' → Q (.int ms.length) H'
theorem ok_twadd (T : Txt K mg) : FnOk P w K mg base CX0 (n + 12) T.f_TwoStacks_add T.d_TwoStacks_add ["self", "member"] (spTwAdd P w K mg base T.C_TwoStacks (CJ T) T.C_Calls n) := by
  have G_Calls_check := ok_chk (P := P) (w := w) (base := base) T
  have G_extended := ok_ext (P := P) (w := w) (base := base) (n := n) T
  refine T.F_TwoStacks_add.ok sc_TwoStacks_add (fun vs H Q E h => ?_) (fun cdv A outer s H vs Q E hr h => ?_)
  · obtain ⟨uv, f, UR, Val, cs, x, j, jdx, c, cdx, l, z, ms, u, es, g, e, m, rfl, _⟩ := h
    rfl
  · obtain ⟨uv, f, UR, Val, cs, x, j, jdx, c, cdx, l, z, ms, u, es, g, e, m, rfl, U, tw, lu, le, lm, hm, q⟩ := h
    refine ⟨_, (pss_cons (ps_expr (pe_meth0 (pe_fld (pv 0) rfl) T.cl_Calls ⟨T.m_Calls_check, T.t_Calls_check, T.k_Calls_check⟩ G_Calls_check (hr.mono (by omega)) T.b_Calls_check .nil pass0))
      (pss_cons (ps_set (i := 2) sc_TwoStacks_add.nd rfl (.inl rfl) (pe_fld (pv 0) rfl))
      (pss_cons (ps_fld (pv 0) (pe_call G_extended (hr.mono (by omega)) rfl T.g_extended T.F_extended.kp T.b_extended .nil pass0 (pa_cons (pe_fld (pv 0) rfl) (pa_cons (pe_fld (pv 0) rfl) (pa_cons (pv 2) (pa_cons (pv 1) pa_nil))))) rfl)
      (pss_cons (ps_fld (pv 0) (Inf.pe_dstar (pe_fld (pv 0) rfl) (pv 2) (pv 1)) rfl)
      (pss_cons (ps_fld (pv 0) (pe_op op_add (pv 2) pe_int) rfl)
      (pss_one (ps_ret (pv 2)))))))), ?_⟩
    obtain ⟨dx, h, fr, bv, xs, h1, h2, h3, h4, h5, h6, h7⟩ := tw.hx
    obtain ⟨q1, q2⟩ := tw.ok
    have m0 := tw.jw.mu U
    have hlen : (ms ++ [m]).length = ms.length + 1 := by
      rw [List.length_append]
      rfl
    have hmm : (ms ++ [m])[ms.length]? = some m := by
      rw [List.getElem?_append_right (Nat.le_refl _), Nat.sub_self]
      rfl
    have sub2 : ∀ a ∈ [c, l] ++ uv, a ∈ cs := fun a m => tw.sub a (memB m)
    refine ⟨_, rfl, x, _, _, _, .ref c, rfl, h1, T.cl_TwoStacks, T.n_TwoStacks_calls, rfl, c, cdx, _, rfl, tw.jw.hc, rfl, c, cdx, l, rfl, tw.jw.hc, ?_⟩
    refine ⟨_, rfl, x, _, _, _, .int ms.length, rfl, h1, T.cl_TwoStacks, T.n_TwoStacks_given, rfl, ?_⟩
    refine ⟨_, rfl, x, _, _, _, .ref j, rfl, h1, T.cl_TwoStacks, T.n_TwoStacks_joiner, rfl, _, rfl, x, _, _, _, bv, rfl, h1, T.cl_TwoStacks, T.n_TwoStacks_back, rfl, _, rfl, _, rfl, true, uv, f, UR, Val, j, jdx, c, cdx, l, u, es, ms ++ [m], bv, m, e, ms.length, rfl, U, tw.jw, by omega, by omega, by rw [hlen]; omega, h7.more, ⟨hmm, hm⟩, fun r d H1 ld k1 jw1 sp1 => ?_⟩
    have h1' := k1.at_ _ _ h1 tw.nx
    refine ⟨_, rfl, x, _, dx, _, rfl, h1', T.cl_TwoStacks, T.n_TwoStacks_back, (by show 7 < 1000; decide), ?_⟩
    have nxh : h ≠ x := fun z => h3 (by rw [z]; exact tw.sub x memA)
    have h2' := k1.at_ _ _ h2 fun z => h3 (sub2 _ z)
    have h4' := k1.at_ _ _ h4 fun z => h5 (sub2 _ z)
    have kx : ∀ o : HO, Kp [x] H1 (upd H1 x o) := fun o => kp_up memA (kp_refl _ _)
    have m1x : Mu H1 [x] := mu_ins h1' mu_nil
    intro p np
    have fp := Fr.mk np
    have npx : x ≠ p := ne_of_none upd_same np
    have eh : upd H1 x (TO T.C_TwoStacks dx c j z ms.length h fr r) h = some (.dK (heldK g (ms.drop g))) := by
      rw [upd_ne nxh]
      exact h2'
    have nph : h ≠ p := ne_of_none eh np
    refine ⟨_, rfl, x, _, _, _, .ref h, rfl, atNe npx upd_same, T.cl_TwoStacks, T.n_TwoStacks_held, rfl, h, _, rfl, nph, upd_same, .inl (atNe nph eh), by rw [heldK_len, List.length_drop, sizeLine_eq]; omega, fun b2 nb2 => ⟨_, rfl, _, rfl, .inl (ms.length : Int), m, rfl, ?_⟩⟩
    have npb : p ≠ b2 := ne_of_none upd_same nb2
    refine ⟨npb, atNe npb upd_same, upd_same, ?_⟩
    have mu1 : Mu H1 cs := tw.mu.kp k1 (jw1.mu U)
    have np2 : p ∉ cs := (mu1.kp (kx _) (mu_ins upd_same mu_nil)).fr fp
    have s1 := same_star (a1 := .dK []) (b1 := .dK (heldK g (ms.drop g))) (c1 := .dK []) (d1 := .dK [(Sum.inl (ms.length : Int), m)]) (e1 := .dK (putK (heldK g (ms.drop g)) (Sum.inl (ms.length : Int)) m)) np nb2
    have e1 : ∀ Hz : Hp, upd Hz p (.dK (putK (heldK g (ms.drop g)) (Sum.inl (ms.length : Int)) m)) p = some (.dK (heldK g ((ms ++ [m]).drop g))) := fun Hz => by
      have := heldK_put (ps := ms.drop g) (g := g) (v := m)
      rw [List.length_drop, show g + (ms.length - g) = ms.length by omega] at this
      rw [upd_same, this, List.drop_append_of_le_length (by omega)]
    have kB := kp_trans (kx _) (kp_same (cs := [x]) s1)
    have ex := s1 _ _ upd_same
    have ep := e1 (upd (upd (upd (upd (upd H1 x (.ins T.C_TwoStacks dx (putF "back" r [("calls", .ref c), ("joiner", .ref j), ("zero", z), ("given", .int ms.length), ("held", .ref h), ("front", .ref fr), ("back", bv)]))) p (.dK [])) p (.dK (heldK g (ms.drop g)))) b2 (.dK [])) b2 (.dK [(Sum.inl (ms.length : Int), m)]))
    generalize upd (upd (upd (upd (upd (upd H1 x (.ins T.C_TwoStacks dx (putF "back" r [("calls", .ref c), ("joiner", .ref j), ("zero", z), ("given", .int ms.length), ("held", .ref h), ("front", .ref fr), ("back", bv)]))) p (.dK [])) p (.dK (heldK g (ms.drop g)))) b2 (.dK [])) b2 (.dK [(Sum.inl (ms.length : Int), m)])) p (.dK (putK (heldK g (ms.drop g)) (Sum.inl (ms.length : Int)) m)) = H3 at kB ex ep ⊢
    refine ⟨_, rfl, x, _, dx, _, rfl, ex, T.cl_TwoStacks, T.n_TwoStacks_held, (by show 7 < 1000; decide), ?_⟩
    refine ⟨_, rfl, _, _, rfl, rfl, _, rfl, x, _, dx, _, rfl, upd_same, T.cl_TwoStacks, T.n_TwoStacks_given, (by show 7 < 1000; decide), ?_⟩
    refine ⟨_, rfl, ?_⟩
    have k4 : ∀ o2 o3 : HO, Kp [x] H1 (upd (upd H3 x o2) x o3) := fun o2 o3 => kp_up memA (kp_up memA kB)
    have k3 : ∀ o2 o3 : HO, Kp [x] H3 (upd (upd H3 x o2) x o3) := fun o2 o3 => kp_up memA (kp_up memA (kp_refl _ _))
    have nxj : j ∉ [x] := not_cons (fun z => tw.nj (by rw [z]; exact tw.sub x memA)) not_nil
    have nxc : c ∉ [x] := not_cons (fun z => tw.nx (by rw [← z]; exact memA)) not_nil
    have nxl : l ∉ [x] := not_cons (fun z => tw.nx (by rw [← z]; exact memB memA)) not_nil
    have nxu : ∀ a ∈ uv, a ∉ [x] := fun a m => not_cons (fun z => tw.nx (by rw [← z]; exact memR m)) not_nil
    have nxp : p ∉ [x] := not_cons (Ne.symm npx) not_nil
    have sx : ∀ a ∈ [x], a ∈ cs := subCons (tw.sub x memA) subNil
    have mm1 : Mems Val (ms ++ [m]) H1 := fun i y hy => by
      rcases Nat.lt_or_ge i ms.length with c0 | c0
      · rw [List.getElem?_append_left c0] at hy
        exact U.val (tw.mm i y hy) k1 m0
      · rw [List.getElem?_append_right c0] at hy
        match hki : i - ms.length, hy with
        | 0, hy =>
          cases hy
          rw [show i = ms.length by omega]
          exact U.val hm k1 m0
        | k + 1, hy => cases hy
    refine q d _ ld (kp_trans (kp_more k1 fun a m => memB m) (kp_more (k4 _ _) (subCons memA subNil))) ⟨⟨dx, p, fr, r, xs, ?_, (k3 _ _).at_ _ _ ep nxp, np2, (k4 _ _).at_ _ _ h4' fun z => h5 (sx _ z), h5, ((h6.more).kp U k1 m0).kp U (k4 _ _) m1x, ?_⟩, jw1.kp U (k4 _ _) m1x nxj nxc nxl nxu, ⟨q1, by rw [hlen]; omega⟩, mm1.kp U (k4 _ _) m1x, mu1.kp (k4 _ _) (mu_ins upd_same mu_nil), tw.sub, tw.nj, tw.nx⟩
    · rw [hlen]
      exact upd_same
    · rw [hlen]
      exact .inr (sp1.kp U (k4 _ _) m1x)
end
end Ob

set_option Elab.async false
set_option linter.all false
set_option maxRecDepth 100000
set_option maxHeartbeats 1000000
namespace Ob
open PySem PySem.Spec PyProof.Rows L2
open LamX (Tabs TabB TabS ExtN)

set_option hygiene false in
local macro_rules
  | `(tactic| kp_flats) => `(tactic| first
    | assumption
    | exact upd_same
    | (apply atNew; assumption; kp_flats)
    | (apply atNe; (next => kbo_bools); kp_flats)
    | (apply atSame; assumption; kp_flats)
    | (apply atKp; assumption; (next => kaf_pre); kp_flats))
set_option hygiene false in
local macro_rules
  | `(tactic| kaf_pre) => `(tactic| first
    | assumption
    | exact not_nil
    | (apply not_cons; (next => kbo_bools); kaf_pre)
    | (apply not_app; (next => kaf_pre); kaf_pre))
set_option hygiene false in
local macro_rules
  | `(tactic| kbo_bools) => `(tactic| first
    | assumption
    | (apply Ne.symm; assumption)
    | (apply neN; assumption; kp_flats)
    | (apply neN'; assumption; kp_flats))
set_option hygiene false in
local macro_rules
  | `(tactic| o_reads) => `(tactic| first
    | with_reducible rfl
    | assumption
    | rfl
    | kp_flats
    | (show SqL _ _ _ _; first | assumption | (apply sqlOf; kp_flats) | (apply sqlSame; assumption; o_reads))
    | (show SqT _ _ _ _; first | assumption | (apply sqtOf; kp_flats) | (apply sqtAll; assumption) | (apply sqtSame; assumption; o_reads))
    | (show Cls _ _; first | exact T.cl_Calls | exact T.cl_Joiner | exact T.cl_Planner | exact T.cl_EvenSums | exact T.cl_Shape | exact T.cl_TwoStacks)
    | (show NoAttr _ _ _; first | exact T.n_Calls_entries | exact T.n_Calls_running | exact T.n_Joiner_calls | exact T.n_Joiner_join_call | exact T.n_Planner_entries | exact T.n_EvenSums_calls | exact T.n_EvenSums_joiner | exact T.n_EvenSums_zero | exact T.n_EvenSums_given | exact T.n_EvenSums_held | exact T.n_EvenSums_shape | exact T.n_Shape_front | exact T.n_Shape_back | exact T.n_Shape_late | exact T.n_Shape_renewed | exact T.n_TwoStacks_calls | exact T.n_TwoStacks_joiner | exact T.n_TwoStacks_zero | exact T.n_TwoStacks_given | exact T.n_TwoStacks_held | exact T.n_TwoStacks_front | exact T.n_TwoStacks_back)
    | (apply Or.inl; o_reads)
    | (apply Or.inr; o_reads)
    | (apply And.intro; (next => o_reads); o_reads)
    | (apply Exists.intro; o_reads)
    | exact Nat.le_of_ble_eq_true rfl
    | exact Nat.succ_ne_zero _
    | (show Fr _ _; kba_ints)
    | (show Same _ _; kd_subs)
    | (show Kp _ _ _; kxs_still)
    | (show (_ : Nat) ≤ _; simp only [List.length_append, List.length_map, List.length_cons, List.length_nil, List.length_take, List.length_drop, List.length_replicate, List.length_range, sizeLine_eq]; omega)
    | (show _ = none; apply Fr.h; kba_ints)
    | (show Bag _ _; first | assumption | (apply bag_putF; assumption; o_reads) | (apply bag_neF; (next => kbo_bools); o_reads) | (apply bag_kpR; assumption; (next => kaf_pre); o_reads))
    | omega
    | decide)
local macro_rules
  | `(tactic| o_readsAll) => `(tactic| repeat (first
    | (refine fun (pNew : Addr) (nNew : _ = none) => ?_; replace nNew := Fr.mk nNew)
    | (refine fun (xNew dNew : Addr) (nNew : _ = none) (mNew : _ = none) (eNew : dNew ≠ xNew) => ?_; replace nNew := Fr.mk nNew; replace mNew := Fr.mk mNew)
    | (apply And.intro; next => o_reads)
    | apply Exists.intro (α := V)
    | apply Exists.intro (α := Addr)
    | apply Exists.intro (α := Int)
    | apply Exists.intro (α := Bool)
    | apply Exists.intro (α := List V)
    | apply Exists.intro (α := List Nat)
    | apply Exists.intro (α := List (Str × V))
    | apply Exists.intro (α := List _)
    | apply Exists.intro (α := Str)
    | apply Exists.intro (α := HO)
    | apply Exists.intro (α := Sp)
    | apply Exists.intro (α := VK)))
set_option hygiene false in
local macro_rules
  | `(tactic| kba_ints) => `(tactic| first
    | assumption
    | (apply frUp; (first | assumption | (apply Ne.symm; assumption)); kba_ints)
    | (apply noneOf; assumption; intro oF eF; apply Exists.intro; kp_flats)
    | (apply frUp; (next => kbo_bools); kba_ints))
set_option hygiene false in
local macro_rules
  | `(tactic| kxs_still) => `(tactic| first
    | assumption
    | exact kp_refl _ _
    | (apply kp_newF; assumption; kxs_still)
    | (apply kp_new; assumption; kxs_still)
    | (apply kp_up; (next => o_fieldsN); kxs_still)
    | (apply kp_new; (next => kba_ints); kxs_still)
    | (apply kp_sameR; assumption; kxs_still)
    | (apply kp_transR; assumption; kxs_still)
    | (apply kp_freshR; assumption; (next => kaf_suf); kxs_still))
set_option hygiene false in
local macro_rules
  | `(tactic| kaf_suf) => `(tactic| first
    | assumption
    | exact subNil
    | (apply subCons; (first | (apply Or.inl; o_fieldsN) | (apply Or.inr; kba_ints)); kaf_suf)
    | (apply subApp; (next => kaf_suf); kaf_suf))
set_option hygiene false in
local macro_rules
  | `(tactic| o_fieldsN) => `(tactic| first
    | assumption
    | exact memA
    | (apply memB; o_fieldsN)
    | (apply memL; o_fieldsN)
    | (apply memR; o_fieldsN))
set_option hygiene false in
local macro_rules
  | `(tactic| kd_subs) => `(tactic| first
    | assumption
    | exact Same.refl _
    | (apply same_putF; assumption; kd_subs)
    | (apply same_putG; assumption; kd_subs)
    | (apply same_putF; (next => kba_ints); kd_subs)
    | (apply same_transR; assumption; kd_subs))

set_option pp.maxSteps 900
section
variable {P : Program} {w : World} {K : PySem.W.Frag} {mg : Str → Option Value} {base : Heap} {n : Nat}
def twRX (g e n : Nat) : Nat := if g = e then n else e
def twRE (g e n : Nat) : List (Nat × Nat × Nat) := if g = e then allE n (n - g) else []
def spTwRem (P : Program) (w : World) (K : PySem.W.Frag) (mg : Str → Option Value) (base : Heap) (Ct : Addr) (Cj : Addr × Addr) (Cc : Addr) (n : Nat) : Sp := fun vs H Q _ => ∃ (uv : List Addr) (f : V) (UR : List JEv → Hp → Prop) (Val : Nat → List V → V → Hp → Prop) (cs : List Addr) (x j jdx c cdx l : Addr) (z : V) (ms : List V) (u : List JEv) (es : List (Nat × Nat × Nat)) (g e : Nat),
  vs = [.ref x] ∧ JS P w K mg base n true uv f UR Val ∧ TwAt Ct Cj Cc uv f UR Val cs x j jdx c cdx l z ms u es g e H ∧ u.length < 80000 ∧ es.length < 80000 ∧ ms.length < 9000 ∧ g < ms.length ∧
  ∀ d H', d.length = (twRE g e ms.length).length → Kp ([x, c, l] ++ uv) H H' → TwAt Ct Cj Cc uv f UR Val cs x j jdx c cdx l z ms (u ++ d) (es ++ twRE g e ms.length) (g + 1) (twRX g e ms.length) H' → Q (.int g) H'
theorem ok_twrem (T : Txt K mg) : FnOk P w K mg base CX0 (n + 12) T.f_TwoStacks_remove_oldest T.d_TwoStacks_remove_oldest ["self"] (spTwRem P w K mg base T.C_TwoStacks (CJ T) T.C_Calls n) := by
  have G_Calls_check := ok_chk (P := P) (w := w) (base := base) T
  have G_check_filled := ok_filled (P := P) (w := w) (base := base) T
  have G_oldest := ok_oldest (P := P) (w := w) (base := base) T
  have G_without := ok_without1 (P := P) (w := w) (base := base) T
  have G_all_spans := ok_all (P := P) (w := w) (base := base) (n := n) T
  refine T.F_TwoStacks_remove_oldest.ok sc_TwoStacks_remove_oldest (fun vs H Q E h => ?_) (fun cdv A outer s H vs Q E hr h => ?_)
  · obtain ⟨uv, f, UR, Val, cs, x, j, jdx, c, cdx, l, z, ms, u, es, g, e, rfl, _⟩ := h
    rfl
  · obtain ⟨uv, f, UR, Val, cs, x, j, jdx, c, cdx, l, z, ms, u, es, g, e, rfl, U, tw, lu, le, lm, gl, q⟩ := h
    refine ⟨_, (pss_cons (ps_expr (pe_meth0 (pe_fld (pv 0) rfl) T.cl_Calls ⟨T.m_Calls_check, T.t_Calls_check, T.k_Calls_check⟩ G_Calls_check (hr.mono (by omega)) T.b_Calls_check .nil pass0))
      (pss_cons (ps_expr (pe_call G_check_filled (hr.mono (by omega)) rfl T.g_check_filled T.F_check_filled.kp T.b_check_filled .nil pass0 (pa_cons (pe_fld (pv 0) rfl) pa_nil)))
      (pss_cons (ps_set (i := 1) sc_TwoStacks_remove_oldest.nd rfl (.inl rfl) (pe_call G_oldest (hr.mono (by omega)) rfl T.g_oldest T.F_oldest.kp T.b_oldest .nil pass0 (pa_cons (pe_fld (pv 0) rfl) pa_nil)))
      (C8.pss_cut (ps_if (pt_cmpR op_eq (pe_callB call_len_seq (by rfl) T.z_len (by decide +kernel) (pa_cons (pe_fld (pv 0) rfl) pa_nil)) pe_int (nomark _)) (pss_cons (ps_fld (pv 0) (pe_call G_all_spans (hr.mono (by omega)) rfl T.g_all_spans T.F_all_spans.kp T.b_all_spans .nil pass0 (pa_cons (pe_fld (pv 0) rfl) (pa_cons (pe_fld (pv 0) rfl) pa_nil))) rfl)
        (pss_one (ps_fld (pv 0) pe_non rfl))) pss_nil)
      (pss_cons (ps_fld (pv 0) (pe_slice sl_list (pe_fld (pv 0) rfl) po_none (po_some (pe_un un_neg pe_int))) rfl)
      (pss_cons (ps_fld (pv 0) (pe_call G_without (hr.mono (by omega)) rfl T.g_without T.F_without.kp T.b_without .nil pass0 (pa_cons (pe_fld (pv 0) rfl) (pa_cons (pe_lst (pa_cons (pv 1) pa_nil)) pa_nil))) rfl)
      (pss_one (ps_ret (pv 1))))))))), ?_⟩
    obtain ⟨dx, h, fr, bv, xs, h1, h2, h3, h4, h5, h6, h7⟩ := tw.hx
    obtain ⟨q1, q2⟩ := tw.ok
    have ld0 : (ms.drop g).length = ms.length - g := List.length_drop ..
    have hf : fstN g (ms.drop g) = .int g := if_neg (by omega)
    have sub2 : ∀ a ∈ [c, l] ++ uv, a ∈ cs := fun a m => tw.sub a (memB m)
    have lx := h6.len
    refine ⟨_, rfl, x, _, _, _, .ref c, rfl, h1, T.cl_TwoStacks, T.n_TwoStacks_calls, rfl, c, cdx, _, rfl, tw.jw.hc, rfl, c, cdx, l, rfl, tw.jw.hc, ?_⟩
    refine ⟨_, rfl, x, _, _, _, .ref h, rfl, h1, T.cl_TwoStacks, T.n_TwoStacks_held, rfl, h, g, ms.drop g, rfl, h2, by omega, ?_⟩
    refine ⟨_, rfl, x, _, _, _, .ref h, rfl, h1, T.cl_TwoStacks, T.n_TwoStacks_held, rfl, h, g, ms.drop g, rfl, h2, ?_⟩
    rw [hf]
    have kxj : ∀ {Ha Hb : Hp}, Kp [x] Ha Hb → (TwAt T.C_TwoStacks (CJ T) T.C_Calls uv f UR Val cs x j jdx c cdx l z ms u es g e H) → j ∉ [x] ∧ c ∉ [x] ∧ l ∉ [x] ∧ ∀ a ∈ uv, a ∉ [x] := fun _ _ =>
      ⟨not_cons (fun z => tw.nj (by rw [z]; exact tw.sub x memA)) not_nil, not_cons (fun z => tw.nx (by rw [← z]; exact memA)) not_nil, not_cons (fun z => tw.nx (by rw [← z]; exact memB memA)) not_nil, fun a m => not_cons (fun z => tw.nx (by rw [← z]; exact memR m)) not_nil⟩
    obtain ⟨nxj, nxc, nxl, nxu⟩ := kxj (kp_refl _ H) tw
    have sx : ∀ a ∈ [x], a ∈ cs := subCons (tw.sub x memA) subNil
    refine ⟨fun σ H' => σ = [some (.ref x), some (.int g)] ∧ ∃ d : List JEv, d.length = (twRE g e ms.length).length ∧ Kp ([x, c, l] ++ uv) H H' ∧ TwAt T.C_TwoStacks (CJ T) T.C_Calls uv f UR Val cs x j jdx c cdx l z ms (u ++ d) (es ++ twRE g e ms.length) g (twRX g e ms.length) H', ?_, ?_⟩
    · refine ⟨_, rfl, x, _, _, _, .ref fr, rfl, h1, T.cl_TwoStacks, T.n_TwoStacks_front, rfl, fr, xs, rfl, .inl (sqlOf h4), rfl, _, rfl, ?_⟩
      by_cases c0 : g = e
      · refine ifT (decide_eq_true (by rw [lx]; exact congrArg V.int (by omega))) ?_
        refine ⟨_, rfl, x, _, _, _, .ref j, rfl, h1, T.cl_TwoStacks, T.n_TwoStacks_joiner, rfl, _, rfl, x, _, _, _, .ref h, rfl, h1, T.cl_TwoStacks, T.n_TwoStacks_held, rfl, true, uv, f, UR, Val, j, jdx, c, cdx, l, u, es, ms, h, g, rfl, U, tw.jw, lu, le, lm, h2, fun z => h3 (sub2 _ z), by omega, tw.mm, fun r ys d H1 ld fr1 k1 jw1 er sps => ?_⟩
        have h1' := k1.at_ _ _ h1 tw.nx
        refine ⟨_, rfl, x, _, dx, _, rfl, h1', T.cl_TwoStacks, T.n_TwoStacks_front, (by show 7 < 1000; decide), ?_⟩
        refine ⟨_, rfl, x, _, dx, _, rfl, upd_same, T.cl_TwoStacks, T.n_TwoStacks_back, (by show 7 < 1000; decide), ?_⟩
        have k4 : ∀ o1 o2 : HO, Kp [x] H1 (upd (upd H1 x o1) x o2) := fun o1 o2 => kp_up memA (kp_up memA (kp_refl _ _))
        have m3 : Mu H1 [x] := mu_ins h1' mu_nil
        have nr : r ∉ cs := tw.mu.fr fr1
        have mu1 : Mu H1 cs := tw.mu.kp k1 (jw1.mu U)
        have eE : twRE g e ms.length = allE ms.length (ms.length - g) := if_pos c0
        have eX : twRX g e ms.length = ms.length := if_pos c0
        rw [eE, eX]
        have npr : r ∉ [x] := fun z => nr (sx _ z)
        have nph : h ∉ [x] := fun z => h3 (sx _ z)
        refine ⟨rfl, d, ld, kp_trans (kp_more k1 fun a m => memB m) (kp_more (k4 _ _) (subCons memA subNil)), ⟨⟨dx, h, r, .non, ys, upd_same, (k4 _ _).at_ _ _ (k1.at_ _ _ h2 fun z => h3 (sub2 _ z)) nph, h3, (k4 _ _).at_ _ _ er npr, nr, sps.kp U (k4 _ _) m3, .inl ⟨rfl, rfl, Nat.le_refl _⟩⟩, jw1.kp U (k4 _ _) m3 nxj nxc nxl nxu, ⟨by omega, Nat.le_refl _⟩, ?_, ?_, tw.sub, tw.nj, tw.nx⟩⟩
        · exact (tw.mm.kp U k1 (tw.jw.mu U)).kp U (k4 _ _) m3
        · exact mu1.kp (k4 _ _) (mu_ins upd_same mu_nil)
      · refine ifF (decide_eq_false fun y => ?_) ?_
        · rw [lx] at y
          injection y with y
          omega
        have eE : twRE g e ms.length = [] := if_neg c0
        have eX : twRX g e ms.length = e := if_neg c0
        rw [eE, eX]
        refine ⟨rfl, [], rfl, kp_refl _ _, ?_⟩
        rw [List.append_nil, List.append_nil]
        exact tw
    · rintro σ H1 ⟨rfl, d, ld, k1, tw1⟩
      have gx : g < twRX g e ms.length := by
        unfold twRX
        split <;> omega
      obtain ⟨dx, h, fr, bv, xs, h1, h2, h3, h4, h5, h6, h7⟩ := tw1.hx
      refine ⟨_, rfl, x, _, _, _, .ref fr, rfl, h1, T.cl_TwoStacks, T.n_TwoStacks_front, rfl, 1, rfl, -1, rfl, fr, xs, rfl, sqlOf h4, fun fr2 nfr2 => ?_⟩
      have ff := Fr.mk nfr2
      rw [cut_but]
      have s1 : Same H1 (upd H1 fr2 (.lst (xs.take (xs.length - 1)))) := same_newF ff
      have e1 : upd H1 fr2 (.lst (xs.take (xs.length - 1))) fr2 = some (.lst (xs.take (xs.length - 1))) := upd_same
      have nfc : fr2 ∉ cs := tw1.mu.fr ff
      generalize upd H1 fr2 (.lst (xs.take (xs.length - 1))) = H2 at s1 e1 ⊢
      have tw2 := tw1.same U s1
      have h1' := s1 _ _ h1
      refine ⟨_, rfl, x, _, dx, _, rfl, h1', T.cl_TwoStacks, T.n_TwoStacks_front, (by show 7 < 1000; decide), ?_⟩
      refine ⟨_, rfl, x, _, _, _, .ref h, rfl, upd_same, T.cl_TwoStacks, T.n_TwoStacks_held, rfl, _, rfl, (by decide : 1 ≤ sizeLine), fun p np => ?_⟩
      have fp := Fr.mk np
      have m3 : Mu H2 [x] := mu_ins h1' mu_nil
      have k4 : ∀ o1 : HO, Kp [x] H2 (upd H2 x o1) := fun o1 => kp_up memA (kp_refl _ _)
      have nph : h ∉ [x] := fun z => h3 (sx _ z)
      have s0 := same_newF (o := .lst [.int g]) fp
      have jw3 := (tw2.jw.kp U (k4 _) m3 nxj nxc nxl nxu).same U s0
      have mu3 := (tw2.mu.kp (k4 _) (mu_ins upd_same mu_nil)).same s0
      refine ⟨h, p, g, ms.drop g, rfl, s0 _ _ ((k4 _).at_ _ _ (s1 _ _ h2) nph), upd_same, by omega, fun h' H4 s4 fh' e4 => ?_⟩
      rw [List.drop_drop] at e4
      have k5 : Kp [x] H2 H4 := kp_trans (k4 _) (kp_same (s0.trans s4))
      have ex : H4 x = some (TO T.C_TwoStacks dx c j z ms.length h fr2 bv) := s4 _ _ (s0 _ _ upd_same)
      have jw4 := jw3.same U s4
      have mu4 := mu3.same s4
      have nh' : h' ∉ cs := mu3.fr fh'
      refine ⟨_, rfl, x, _, dx, _, rfl, ex, T.cl_TwoStacks, T.n_TwoStacks_held, (by show 7 < 1000; decide), ?_⟩
      refine ⟨_, rfl, ?_⟩
      have k6 : ∀ o : HO, Kp [x] H4 (upd H4 x o) := fun o => kp_up memA (kp_refl _ _)
      have k56 : ∀ o : HO, Kp [x] H2 (upd H4 x o) := fun o => kp_trans k5 (k6 o)
      have m4 : Mu H4 [x] := mu_ins ex mu_nil
      have hx := h6
      rw [show twRX g e ms.length - g = (twRX g e ms.length - (g + 1)) + 1 by omega] at hx
      have kc := kp_same (cs := []) s1
      refine q d _ ld (kp_trans k1 (kp_trans (kp_same s1) (kp_more (k56 _) (subCons memA subNil)))) ⟨⟨dx, h', fr2, bv, _, upd_same, (k6 _).at_ _ _ e4 fun z => nh' (sx _ z), nh', (k56 _).at_ _ _ e1 fun z => nfc (sx _ z), nfc, (hx.cut.kp U kc mu_nil).kp U (k56 _) m3, (h7.kp U kc mu_nil).kp U (k56 _) m3⟩, jw4.kp U (k6 _) m4 nxj nxc nxl nxu, ⟨gx, tw1.ok.2⟩, ?_, ?_, tw.sub, tw.nj, tw.nx⟩
      · exact tw2.mm.kp U (k56 _) m3
      · exact mu4.kp (k6 _) (mu_ins upd_same mu_nil)
def twN (g e n : Nat) : Nat := (if g < e then 1 else 0) + (if e < n then 1 else 0)
def twB (g e n : Nat) : Nat → Nat
  | 0 => g
  | 1 => if g < e then e else n
  | _ => n
def twTE (g e n : Nat) : List (Nat × Nat × Nat) := wholeE (twB g e n) (twN g e n)
theorem tw_end {g e n : Nat} (h1 : g ≤ e) (h2 : e ≤ n) (gl : g < n) : 0 < twN g e n ∧ twB g e n (twN g e n) = n ∧ twN g e n ≤ 2 := by
  unfold twN
  by_cases c : g < e
  · rw [if_pos c]
    by_cases d : e < n
    · rw [if_pos d]
      exact ⟨by decide, rfl, by decide⟩
    · rw [if_neg d]
      refine ⟨by decide, ?_, by decide⟩
      show (if g < e then e else n) = n
      rw [if_pos c]
      omega
  · rw [if_neg c, if_pos (show e < n by omega)]
    refine ⟨by decide, ?_, by decide⟩
    show (if g < e then e else n) = n
    rw [if_neg c]
def spTwTot (P : Program) (w : World) (K : PySem.W.Frag) (mg : Str → Option Value) (base : Heap) (Ct : Addr) (Cj : Addr × Addr) (Cc : Addr) (n : Nat) : Sp := fun vs H Q _ => ∃ (uv : List Addr) (f : V) (UR : List JEv → Hp → Prop) (Val : Nat → List V → V → Hp → Prop) (cs : List Addr) (x j jdx c cdx l : Addr) (z : V) (ms : List V) (u : List JEv) (es : List (Nat × Nat × Nat)) (g e : Nat),
  vs = [.ref x] ∧ JS P w K mg base n true uv f UR Val ∧ TwAt Ct Cj Cc uv f UR Val cs x j jdx c cdx l z ms u es g e H ∧ u.length < 80000 ∧ es.length < 80000 ∧ ms.length < 70000 ∧ (ms.length ≤ g → Q z H) ∧
  ∀ v d H', g < ms.length → d.length = (twTE g e ms.length).length → Kp ([c, l] ++ uv) H H' → TwAt Ct Cj Cc uv f UR Val cs x j jdx c cdx l z ms (u ++ d) (es ++ twTE g e ms.length) g e H' → Val g (seg ms g ms.length) v H' → Q v H'
theorem ok_twtot (T : Txt K mg) : FnOk P w K mg base CX0 (n + 12) T.f_TwoStacks_total T.d_TwoStacks_total ["self"] (spTwTot P w K mg base T.C_TwoStacks (CJ T) T.C_Calls n) := by
  have G_Calls_check := ok_chk (P := P) (w := w) (base := base) T
  have G_filled_spans := ok_fillS (P := P) (w := w) (base := base) T
  have G_whole_span := ok_whole (P := P) (w := w) (base := base) (n := n) T
  refine T.F_TwoStacks_total.ok sc_TwoStacks_total (fun vs H Q E h => ?_) (fun cdv A outer s H vs Q E hr h => ?_)
  · obtain ⟨uv, f, UR, Val, cs, x, j, jdx, c, cdx, l, z, ms, u, es, g, e, rfl, _⟩ := h
    rfl
  · obtain ⟨uv, f, UR, Val, cs, x, j, jdx, c, cdx, l, z, ms, u, es, g, e, rfl, U, tw, lu, le, lm, qz, q⟩ := h
    refine ⟨_, (pss_cons (ps_expr (pe_meth0 (pe_fld (pv 0) rfl) T.cl_Calls ⟨T.m_Calls_check, T.t_Calls_check, T.k_Calls_check⟩ G_Calls_check (hr.mono (by omega)) T.b_Calls_check .nil pass0))
      (pss_cons (ps_if (pt_cmpR op_eq (pe_callB call_lenD (by rfl) T.z_len (by decide +kernel) (pa_cons (pe_fld (pv 0) rfl) pa_nil)) pe_int (nomark _)) (pss_one (ps_ret (pe_fld (pv 0) rfl))) pss_nil)
      (pss_one (ps_ret (pe_ix (r := rIxT K) ix_tup (pe_call G_whole_span (hr.mono (by omega)) rfl T.g_whole_span T.F_whole_span.kp T.b_whole_span .nil pass0 (pa_cons (pe_fld (pv 0) rfl) (pa_cons (pe_call G_filled_spans (hr.mono (by omega)) rfl T.g_filled_spans T.F_filled_spans.kp T.b_filled_spans .nil pass0 (pa_cons (pe_fld (pv 0) rfl) (pa_cons (pe_lst (pa_cons (pe_fld (pv 0) rfl) pa_nil)) pa_nil))) pa_nil))) pe_int (fun _ _ => rfl)))))), ?_⟩
    obtain ⟨dx, h, fr, bv, xs, h1, h2, h3, h4, h5, h6, h7⟩ := tw.hx
    obtain ⟨q1, q2⟩ := tw.ok
    have ld0 : (ms.drop g).length = ms.length - g := List.length_drop ..
    have lx := h6.len
    refine ⟨_, rfl, x, _, _, _, .ref c, rfl, h1, T.cl_TwoStacks, T.n_TwoStacks_calls, rfl, c, cdx, _, rfl, tw.jw.hc, rfl, c, cdx, l, rfl, tw.jw.hc, ?_⟩
    refine ⟨_, rfl, x, _, _, _, .ref h, rfl, h1, T.cl_TwoStacks, T.n_TwoStacks_held, rfl, h, _, rfl, h2, rfl, _, rfl, ?_⟩
    by_cases c0 : ms.length ≤ g
    · refine ifT (decide_eq_true (by rw [heldK_len, ld0]; exact congrArg V.int (by omega))) ?_
      exact ⟨_, rfl, x, _, _, _, z, rfl, h1, T.cl_TwoStacks, T.n_TwoStacks_zero, rfl, qz c0⟩
    · have gl : g < ms.length := by omega
      refine ifF (decide_eq_false fun y => ?_) ?_
      · rw [heldK_len, ld0] at y
        injection y with y
        omega
      obtain ⟨t1, t2, t3⟩ := tw_end q1 q2 gl
      refine ⟨_, rfl, x, _, _, _, .ref j, rfl, h1, T.cl_TwoStacks, T.n_TwoStacks_joiner, rfl, _, rfl, x, _, _, _, .ref fr, rfl, h1, T.cl_TwoStacks, T.n_TwoStacks_front, rfl, _, rfl, x, _, _, _, bv, rfl, h1, T.cl_TwoStacks, T.n_TwoStacks_back, rfl, (by decide : 1 ≤ sizeLine), fun bl nbl => ?_⟩
      have fbl := Fr.mk nbl
      have s1 : Same H (upd H bl (.lst [bv])) := same_newF fbl
      refine ⟨fr, bl, xs, [bv], rfl, s1 _ _ h4, upd_same, by omega, (by show 1 < 90; decide), all_cons (h7.imp (fun z => z.1) fun z => ⟨z.2.2.choose, z.2.2.choose_spec.choose_spec.1⟩) (fun _ z => nomatch z), fun p H2 s2 fp e2 => ?_⟩
      have s02 := s1.trans s2
      have kc := kp_same (cs := []) s02
      have key : ∃ L, xs.drop (xs.length - 1) ++ [bv].filter (fun y => !decide (y = V.non)) = L ∧ L.length = twN g e ms.length ∧ ∀ q s, L[q]? = some s → SpanAt Val ms s (twB g e ms.length q) (twB g e ms.length (q + 1)) H2 := by
        unfold twN
        have sp : ∀ {s : V} {i j : Nat} {H : Hp}, SpanAt Val ms s i j H → decide (s = V.non) = false := fun {s i j H} h => by
          obtain ⟨_, _, p, v, z, _⟩ := h
          rw [z]
          exact decide_eq_false fun z => nomatch z
        have hb : (e < ms.length ∧ decide (bv = V.non) = false ∧ SpanAt Val ms bv e ms.length H2) ∨ (e = ms.length ∧ bv = .non) := h7.elim (fun z => .inr ⟨z.2.1, z.1⟩) fun z => .inl ⟨z.1, sp z, z.kp U kc mu_nil⟩
        by_cases c1 : g < e
        · have hx : ∃ s0, xs[e - g - 1]? = some s0 := ⟨_, List.getElem?_eq_getElem (by omega)⟩
          obtain ⟨s0, hx⟩ := hx
          have hs0 := (h6.at_ _ _ hx).kp U kc mu_nil
          rw [show e - 1 - (e - g - 1) = g by omega] at hs0
          have ed : xs.drop (xs.length - 1) = [s0] := by
            rw [show xs.length - 1 = e - g - 1 by omega, List.drop_eq_getElem_cons (by omega), List.drop_eq_nil_of_le (by omega)]
            rw [List.getElem?_eq_getElem (by omega)] at hx
            rw [Option.some.inj hx]
          have b1 : twB g e ms.length 1 = e := if_pos c1
          rw [ed, if_pos c1]
          rcases hb with ⟨c2, d2, hh⟩ | ⟨c2, d2⟩
          · rw [if_pos c2]
            refine ⟨[s0, bv], ?_, rfl, fun q s z => ?_⟩
            · rw [List.filter_cons, d2]
              rfl
            · match q, z with
              | 0, z =>
                cases z
                rw [b1]
                exact hs0
              | 1, z =>
                cases z
                rw [b1]
                exact hh
              | q + 2, z => cases q <;> cases z
          · rw [if_neg (by omega)]
            refine ⟨[s0], ?_, rfl, fun q s z => ?_⟩
            · rw [d2]
              rfl
            · match q, z with
              | 0, z =>
                cases z
                rw [b1]
                exact hs0
              | q + 1, z => cases q <;> cases z
        · have b1 : twB g e ms.length 1 = ms.length := if_neg c1
          rw [if_neg c1, if_pos (show e < ms.length by omega)]
          rcases hb with ⟨c2, d2, hh⟩ | ⟨c2, d2⟩
          · refine ⟨[bv], ?_, rfl, fun q s z => ?_⟩
            · rw [List.filter_cons, d2, List.drop_eq_nil_of_le (by omega)]
              rfl
            · match q, z with
              | 0, z =>
                cases z
                rw [b1]
                show SpanAt Val ms bv g ms.length H2
                rw [show g = e by omega]
                exact hh
              | q + 1, z => cases q <;> cases z
          · omega
      obtain ⟨L, eL, lL, aL⟩ := key
      rw [eL] at e2
      have np : p ∉ [c, l] ++ uv := fun y => (tw.mu.same s1).fr fp (tw.sub _ (memB y))
      refine ⟨true, uv, f, UR, Val, j, jdx, c, cdx, l, u, es, ms, L, p, twB g e ms.length, rfl, U, tw.jw.same U s02, by omega, by omega, by omega, e2, np, aL, fun v d H3 ld k2 jw2 a0 a1 => ?_⟩
      rw [lL] at ld jw2 a1
      obtain ⟨g1, g2, pv, vv, rfl, g3, g4⟩ := a1 t1
      refine ⟨pv, _, 2, vv, rfl, rfl, sqtOf g3, atI_nat (j := 2) rfl, ?_⟩
      have tw1 := tw.same U s02
      have m1 := tw1.jw.mu U
      have sub2 : ∀ a ∈ [c, l] ++ uv, a ∈ cs := fun a m => tw.sub a (memB m)
      obtain ⟨dx1, hh1, fr1, bv1, xs1, i1, i2, i3, i4, i5, i6, i7⟩ := tw1.hx
      refine q vv d H3 gl ld (kp_trans (kp_same s02) k2) ⟨⟨dx1, hh1, fr1, bv1, xs1, k2.at_ _ _ i1 tw.nx, k2.at_ _ _ i2 fun y => i3 (sub2 _ y), i3, k2.at_ _ _ i4 fun y => i5 (sub2 _ y), i5, i6.kp U k2 m1, i7.kp U k2 m1⟩, jw2, tw.ok, tw1.mm.kp U k2 m1, tw1.mu.kp k2 (jw2.mu U), tw.sub, tw.nj, tw.nx⟩ ?_
      rw [t2] at g4
      exact g4
end
end Ob

set_option Elab.async false
set_option linter.all false
set_option maxRecDepth 100000
set_option maxHeartbeats 1000000
namespace Ob
open PySem PySem.Spec PyProof.Rows L2
open LamX (Tabs TabB TabS ExtN)

set_option hygiene false in
local macro_rules
  | `(tactic| kp_flats) => `(tactic| first
    | assumption
    | exact upd_same
    | (apply atNew; assumption; kp_flats)
    | (apply atNe; (next => kbo_bools); kp_flats)
    | (apply atSame; assumption; kp_flats)
    | (apply atKp; assumption; (next => kaf_pre); kp_flats))
set_option hygiene false in
local macro_rules
  | `(tactic| kaf_pre) => `(tactic| first
    | assumption
    | exact not_nil
    | (apply not_cons; (next => kbo_bools); kaf_pre)
    | (apply not_app; (next => kaf_pre); kaf_pre))
set_option hygiene false in
local macro_rules
  | `(tactic| kbo_bools) => `(tactic| first
    | assumption
    | (apply Ne.symm; assumption)
    | (apply neN; assumption; kp_flats)
    | (apply neN'; assumption; kp_flats))
set_option hygiene false in
local macro_rules
  | `(tactic| o_reads) => `(tactic| first
    | with_reducible rfl
    | assumption
    | rfl
    | kp_flats
    | (show SqL _ _ _ _; first | assumption | (apply sqlOf; kp_flats) | (apply sqlSame; assumption; o_reads))
    | (show SqT _ _ _ _; first | assumption | (apply sqtOf; kp_flats) | (apply sqtAll; assumption) | (apply sqtSame; assumption; o_reads))
    | (show Cls _ _; first | exact T.cl_Calls | exact T.cl_Joiner | exact T.cl_Planner | exact T.cl_EvenSums | exact T.cl_Shape | exact T.cl_TwoStacks)
    | (show NoAttr _ _ _; first | exact T.n_Calls_entries | exact T.n_Calls_running | exact T.n_Joiner_calls | exact T.n_Joiner_join_call | exact T.n_Planner_entries | exact T.n_EvenSums_calls | exact T.n_EvenSums_joiner | exact T.n_EvenSums_zero | exact T.n_EvenSums_given | exact T.n_EvenSums_held | exact T.n_EvenSums_shape | exact T.n_Shape_front | exact T.n_Shape_back | exact T.n_Shape_late | exact T.n_Shape_renewed | exact T.n_TwoStacks_calls | exact T.n_TwoStacks_joiner | exact T.n_TwoStacks_zero | exact T.n_TwoStacks_given | exact T.n_TwoStacks_held | exact T.n_TwoStacks_front | exact T.n_TwoStacks_back)
    | (apply Or.inl; o_reads)
    | (apply Or.inr; o_reads)
    | (apply And.intro; (next => o_reads); o_reads)
    | (apply Exists.intro; o_reads)
    | exact Nat.le_of_ble_eq_true rfl
    | exact Nat.succ_ne_zero _
    | (show Fr _ _; kba_ints)
    | (show Same _ _; kd_subs)
    | (show Kp _ _ _; kxs_still)
    | (show (_ : Nat) ≤ _; simp only [List.length_append, List.length_map, List.length_cons, List.length_nil, List.length_take, List.length_drop, List.length_replicate, List.length_range, sizeLine_eq]; omega)
    | (show _ = none; apply Fr.h; kba_ints)
    | (show Bag _ _; first | assumption | (apply bag_putF; assumption; o_reads) | (apply bag_neF; (next => kbo_bools); o_reads) | (apply bag_kpR; assumption; (next => kaf_pre); o_reads))
    | omega
    | decide)
local macro_rules
  | `(tactic| o_readsAll) => `(tactic| repeat (first
    | (refine fun (pNew : Addr) (nNew : _ = none) => ?_; replace nNew := Fr.mk nNew)
    | (refine fun (xNew dNew : Addr) (nNew : _ = none) (mNew : _ = none) (eNew : dNew ≠ xNew) => ?_; replace nNew := Fr.mk nNew; replace mNew := Fr.mk mNew)
    | (apply And.intro; next => o_reads)
    | apply Exists.intro (α := V)
    | apply Exists.intro (α := Addr)
    | apply Exists.intro (α := Int)
    | apply Exists.intro (α := Bool)
    | apply Exists.intro (α := List V)
    | apply Exists.intro (α := List Nat)
    | apply Exists.intro (α := List (Str × V))
    | apply Exists.intro (α := List _)
    | apply Exists.intro (α := Str)
    | apply Exists.intro (α := HO)
    | apply Exists.intro (α := Sp)
    | apply Exists.intro (α := VK)))
set_option hygiene false in
local macro_rules
  | `(tactic| kba_ints) => `(tactic| first
    | assumption
    | (apply frUp; (first | assumption | (apply Ne.symm; assumption)); kba_ints)
    | (apply noneOf; assumption; intro oF eF; apply Exists.intro; kp_flats)
    | (apply frUp; (next => kbo_bools); kba_ints))
set_option hygiene false in
local macro_rules
  | `(tactic| kxs_still) => `(tactic| first
    | assumption
    | exact kp_refl _ _
    | (apply kp_newF; assumption; kxs_still)
    | (apply kp_new; assumption; kxs_still)
    | (apply kp_up; (next => o_fieldsN); kxs_still)
    | (apply kp_new; (next => kba_ints); kxs_still)
    | (apply kp_sameR; assumption; kxs_still)
    | (apply kp_transR; assumption; kxs_still)
    | (apply kp_freshR; assumption; (next => kaf_suf); kxs_still))
set_option hygiene false in
local macro_rules
  | `(tactic| kaf_suf) => `(tactic| first
    | assumption
    | exact subNil
    | (apply subCons; (first | (apply Or.inl; o_fieldsN) | (apply Or.inr; kba_ints)); kaf_suf)
    | (apply subApp; (next => kaf_suf); kaf_suf))
set_option hygiene false in
local macro_rules
  | `(tactic| o_fieldsN) => `(tactic| first
    | assumption
    | exact memA
    | (apply memB; o_fieldsN)
    | (apply memL; o_fieldsN)
    | (apply memR; o_fieldsN))
set_option hygiene false in
local macro_rules
  | `(tactic| kd_subs) => `(tactic| first
    | assumption
    | exact Same.refl _
    | (apply same_putF; assumption; kd_subs)
    | (apply same_putG; assumption; kd_subs)
    | (apply same_putF; (next => kba_ints); kd_subs)
    | (apply same_transR; assumption; kd_subs))

set_option pp.maxSteps 900
section
variable {P : Program} {w : World} {K : PySem.W.Frag} {mg : Str → Option Value} {base : Heap} {n : Nat}
def spTI (Ct : Addr) (Cj : Addr × Addr) (Cc : Addr) : Sp := fun vs H Q _ => ∃ (x dx : Addr) (f z : V), vs = [.ref x, f, z] ∧ H x = some (.ins Ct dx []) ∧ ∀ (j jdx c cdx l h fr : Addr) H', Fr H j → Fr H c → Fr H l → Fr H h → Fr H fr → c ≠ l → x ≠ c → x ≠ l → j ≠ x → j ≠ c → j ≠ l → h ≠ x → h ≠ c → h ≠ l → fr ≠ x → fr ≠ c → fr ≠ l →
  H' x = some (TO Ct dx c j z 0 h fr .non) → H' j = some (JO Cj.1 jdx c f) → H' c = some (CO Cc cdx l false) → H' l = some (.lst []) → H' h = some (.dK []) → H' fr = some (.lst []) → Kp [x] H H' → Q .non H'
theorem ok_ti (T : Txt K mg) : FnOk P w K mg base CX0 4 T.f_TwoStacks_init T.d_TwoStacks_init ["self", "join", "zero"] (spTI T.C_TwoStacks (CJ T) T.C_Calls) := by
  have G_Calls_init := ok_ci (P := P) (w := w) (base := base) T
  have G_Joiner_init := ok_ji (P := P) (w := w) (base := base) T
  refine T.F_TwoStacks_init.ok sc_TwoStacks_init (fun vs H Q E h => ?_) (fun cdv A outer s H vs Q E hr h => ?_)
  · obtain ⟨x, dx, f, z, rfl, _⟩ := h
    rfl
  · obtain ⟨x, dx, f, z, rfl, hb, q⟩ := h
    refine ⟨_, (pss_cons (ps_fld (pv 0) (pe_make0 ⟨T.mk_Calls, T.m_Calls_init, T.t_Calls_init, T.kp_Calls⟩ G_Calls_init (hr.mono (by omega)) rfl T.gc_Calls T.b_Calls_init .nil pass0) rfl)
      (pss_cons (ps_fld (pv 0) (pe_make ⟨T.mk_Joiner, T.m_Joiner_init, T.t_Joiner_init, T.kp_Joiner⟩ G_Joiner_init (hr.mono (by omega)) rfl T.gc_Joiner T.b_Joiner_init .nil pass0 (pa_cons (pe_fld (pv 0) rfl) (pa_cons (pv 1) pa_nil))) rfl)
      (pss_cons (ps_fld (pv 0) (pv 2) rfl)
      (pss_cons (ps_fld (pv 0) pe_int rfl)
      (pss_cons (ps_fld (pv 0) pe_dnewK rfl)
      (pss_cons (ps_fld (pv 0) (pe_lst pa_nil) rfl)
      (pss_one (ps_fld (pv 0) pe_non rfl)))))))), ?_⟩
    o_readsAll
    rename_i c cdx nec nc ncd
    intro l H1 nl e1 e2 k1
    o_readsAll
    rename_i j jdx nej nj njd
    intro H2 e3 k2 f2
    o_readsAll
    rename_i h nh fr nfr
    refine q j jdx c cdx l h fr _ (by kba_ints) (by kba_ints) (by kba_ints) (by kba_ints) (by kba_ints) (by kbo_bools) (by kbo_bools) (by kbo_bools) (by kbo_bools) (by kbo_bools) (by kbo_bools) (by kbo_bools) (by kbo_bools) (by kbo_bools) (by kbo_bools) (by kbo_bools) (by kbo_bools) (by kp_flats) (by kp_flats) (by kp_flats) (by kp_flats) (by kp_flats) (by kp_flats) (by kxs_still)
/-- two stacks that are made: nothing is in them -/
theorem twNew {uv : List Addr} {f z : V} {UR : List JEv → Hp → Prop} {Val : Nat → List V → V → Hp → Prop} {Ct : Addr} {Cj : Addr × Addr} {Cc x dx j jdx c cdx l h fr : Addr} {H' : Hp} {cs : List Addr} (mu : Mu H' cs) (sub : ∀ a ∈ [x, c, l] ++ uv, a ∈ cs) (nj : j ∉ cs) (nh : h ∉ cs) (nf : fr ∉ cs) (n1 : x ∉ [c, l] ++ uv) (n2 : j ∉ uv) (n3 : c ∉ uv) (n4 : l ∉ uv) (ur : UR [] H')
    (hx : H' x = some (TO Ct dx c j z 0 h fr .non)) (hj : H' j = some (JO Cj.1 jdx c f)) (hc : H' c = some (CO Cc cdx l false)) (hl : H' l = some (.lst [])) (hh : H' h = some (.dK [])) (hf : H' fr = some (.lst [])) :
    TwAt Ct Cj Cc uv f UR Val cs x j jdx c cdx l z [] [] [] 0 0 H' :=
  ⟨⟨dx, h, fr, .non, [], hx, hh, nh, hf, nf, ⟨rfl, Nat.le_refl _, Nat.le_refl _, fun q s z => by cases q <;> cases z⟩, .inl ⟨rfl, rfl, Nat.le_refl _⟩⟩,
    JW.mk1 hj hc ⟨[], hl, ⟨rfl, fun q x e z => by cases q <;> cases z⟩⟩ ur rfl n2 n3 n4, ⟨Nat.le_refl _, Nat.le_refl _⟩, (fun i m e => by cases i <;> cases e), mu, sub, nj, n1⟩
end
end Ob

set_option Elab.async false
set_option linter.all false
set_option maxRecDepth 100000
set_option maxHeartbeats 1000000
namespace Ob
open PySem PySem.Spec PyProof.Rows L2
open LamX (Tabs TabB TabS ExtN)

set_option hygiene false in
local macro_rules
  | `(tactic| kp_flats) => `(tactic| first
    | assumption
    | exact upd_same
    | (apply atNew; assumption; kp_flats)
    | (apply atNe; (next => kbo_bools); kp_flats)
    | (apply atSame; assumption; kp_flats)
    | (apply atKp; assumption; (next => kaf_pre); kp_flats))
set_option hygiene false in
local macro_rules
  | `(tactic| kaf_pre) => `(tactic| first
    | assumption
    | exact not_nil
    | (apply not_cons; (next => kbo_bools); kaf_pre)
    | (apply not_app; (next => kaf_pre); kaf_pre))
set_option hygiene false in
local macro_rules
  | `(tactic| kbo_bools) => `(tactic| first
    | assumption
    | (apply Ne.symm; assumption)
    | (apply neN; assumption; kp_flats)
    | (apply neN'; assumption; kp_flats))
set_option hygiene false in
local macro_rules
  | `(tactic| o_reads) => `(tactic| first
    | with_reducible rfl
    | assumption
    | rfl
    | kp_flats
    | (show SqL _ _ _ _; first | assumption | (apply sqlOf; kp_flats) | (apply sqlSame; assumption; o_reads))
    | (show SqT _ _ _ _; first | assumption | (apply sqtOf; kp_flats) | (apply sqtAll; assumption) | (apply sqtSame; assumption; o_reads))
    | (show Cls _ _; first | exact T.cl_Calls | exact T.cl_Joiner | exact T.cl_Planner | exact T.cl_EvenSums | exact T.cl_Shape | exact T.cl_TwoStacks)
    | (show NoAttr _ _ _; first | exact T.n_Calls_entries | exact T.n_Calls_running | exact T.n_Joiner_calls | exact T.n_Joiner_join_call | exact T.n_Planner_entries | exact T.n_EvenSums_calls | exact T.n_EvenSums_joiner | exact T.n_EvenSums_zero | exact T.n_EvenSums_given | exact T.n_EvenSums_held | exact T.n_EvenSums_shape | exact T.n_Shape_front | exact T.n_Shape_back | exact T.n_Shape_late | exact T.n_Shape_renewed | exact T.n_TwoStacks_calls | exact T.n_TwoStacks_joiner | exact T.n_TwoStacks_zero | exact T.n_TwoStacks_given | exact T.n_TwoStacks_held | exact T.n_TwoStacks_front | exact T.n_TwoStacks_back)
    | (apply Or.inl; o_reads)
    | (apply Or.inr; o_reads)
    | (apply And.intro; (next => o_reads); o_reads)
    | (apply Exists.intro; o_reads)
    | exact Nat.le_of_ble_eq_true rfl
    | exact Nat.succ_ne_zero _
    | (show Fr _ _; kba_ints)
    | (show Same _ _; kd_subs)
    | (show Kp _ _ _; kxs_still)
    | (show (_ : Nat) ≤ _; simp only [List.length_append, List.length_map, List.length_cons, List.length_nil, List.length_take, List.length_drop, List.length_replicate, List.length_range, sizeLine_eq]; omega)
    | (show _ = none; apply Fr.h; kba_ints)
    | (show Bag _ _; first | assumption | (apply bag_putF; assumption; o_reads) | (apply bag_neF; (next => kbo_bools); o_reads) | (apply bag_kpR; assumption; (next => kaf_pre); o_reads))
    | omega
    | decide)
local macro_rules
  | `(tactic| o_readsAll) => `(tactic| repeat (first
    | (refine fun (pNew : Addr) (nNew : _ = none) => ?_; replace nNew := Fr.mk nNew)
    | (refine fun (xNew dNew : Addr) (nNew : _ = none) (mNew : _ = none) (eNew : dNew ≠ xNew) => ?_; replace nNew := Fr.mk nNew; replace mNew := Fr.mk mNew)
    | (apply And.intro; next => o_reads)
    | apply Exists.intro (α := V)
    | apply Exists.intro (α := Addr)
    | apply Exists.intro (α := Int)
    | apply Exists.intro (α := Bool)
    | apply Exists.intro (α := List V)
    | apply Exists.intro (α := List Nat)
    | apply Exists.intro (α := List (Str × V))
    | apply Exists.intro (α := List _)
    | apply Exists.intro (α := Str)
    | apply Exists.intro (α := HO)
    | apply Exists.intro (α := Sp)
    | apply Exists.intro (α := VK)))
set_option hygiene false in
local macro_rules
  | `(tactic| kba_ints) => `(tactic| first
    | assumption
    | (apply frUp; (first | assumption | (apply Ne.symm; assumption)); kba_ints)
    | (apply noneOf; assumption; intro oF eF; apply Exists.intro; kp_flats)
    | (apply frUp; (next => kbo_bools); kba_ints))
set_option hygiene false in
local macro_rules
  | `(tactic| kxs_still) => `(tactic| first
    | assumption
    | exact kp_refl _ _
    | (apply kp_newF; assumption; kxs_still)
    | (apply kp_new; assumption; kxs_still)
    | (apply kp_up; (next => o_fieldsN); kxs_still)
    | (apply kp_new; (next => kba_ints); kxs_still)
    | (apply kp_sameR; assumption; kxs_still)
    | (apply kp_transR; assumption; kxs_still)
    | (apply kp_freshR; assumption; (next => kaf_suf); kxs_still))
set_option hygiene false in
local macro_rules
  | `(tactic| kaf_suf) => `(tactic| first
    | assumption
    | exact subNil
    | (apply subCons; (first | (apply Or.inl; o_fieldsN) | (apply Or.inr; kba_ints)); kaf_suf)
    | (apply subApp; (next => kaf_suf); kaf_suf))
set_option hygiene false in
local macro_rules
  | `(tactic| o_fieldsN) => `(tactic| first
    | assumption
    | exact memA
    | (apply memB; o_fieldsN)
    | (apply memL; o_fieldsN)
    | (apply memR; o_fieldsN))
set_option hygiene false in
local macro_rules
  | `(tactic| kd_subs) => `(tactic| first
    | assumption
    | exact Same.refl _
    | (apply same_putF; assumption; kd_subs)
    | (apply same_putG; assumption; kd_subs)
    | (apply same_putF; (next => kba_ints); kd_subs)
    | (apply same_transR; assumption; kd_subs))

theorem kp_but {p : Addr} {H H1 : Hp} (b : But p H H1) : Kp [p] H H1 := ⟨fun c o e n => b c o e fun z => n (List.mem_singleton.mpr z)⟩
def spTakeK : Sp := fun vs H Q _ => ∃ (p : Addr) (m : Int), vs = [.ref p, .int m] ∧ Bag H p ∧ 0 < m ∧ m.natAbs < 2 ^ 200 ∧ ∀ r H', 0 ≤ r → r < m → Bag H' p → Kp [p] H H' → Q (.int r) H'
theorem ok_takeK {P : Program} {w : World} {K : PySem.W.Frag} {mg : Str → Option Value} {base : Heap} (T : Txt K mg) : FnOk P w K mg base CX0 1 T.f_l_take T.d_l_take ["_law_bag_here", "_law_many"] spTakeK := by
  have F := ok_take (P := P) (w := w) (base := base) T
  refine ⟨fun vs H Q E h => ?_, fun A outer s H args us vs Q E hr e0 hb r h => F.run A outer s H args us vs Q E hr e0 hb r ?_⟩
  · obtain ⟨p, m, rfl, _⟩ := h
    rfl
  · obtain ⟨p, m, e, h1, h2, h3, q⟩ := h
    exact ⟨p, m, e, h1, h2, h3, fun r H' a b c d => q r H' a b c (kp_but d)⟩
theorem bag_neF {p q : Addr} {H : Hp} {o : HO} (n : p ≠ q) (b : Bag H p) : Bag (upd H q o) p := by
  obtain ⟨g, m, c, e, z⟩ := b
  exact ⟨g, m, c, (upd_ne n).trans e, z⟩
theorem tabsN_kp {T : List NdefX.NTab} {cs : List Addr} {H H1 : Hp} (t : NdefX.TabsN T H) (k : Kp cs H H1) (n : ∀ a ∈ cs, ∃ o, H a = some o ∧ (∀ ps, o ≠ .tbl ps) ∧ ∀ φ, o ≠ .ext φ) : NdefX.TabsN T H1 := fun p hp => by
  obtain ⟨ps, h1, h2, h3⟩ := t p hp
  refine ⟨ps, k.at_ _ _ h1 (fun m => ?_), h2, fun pos cv hc => ?_⟩
  · obtain ⟨o, e, n1, _⟩ := n _ m
    rw [h1] at e
    exact n1 ps (Option.some.inj e).symm
  · obtain ⟨c, e1, e2⟩ := h3 pos cv hc
    refine ⟨c, e1, k.at_ _ _ e2 fun m => ?_⟩
    obtain ⟨o, e, _, n2⟩ := n _ m
    rw [e2] at e
    exact n2 _ (Option.some.inj e).symm

set_option pp.maxSteps 900
theorem bag_lst {H : Hp} {p : Addr} (b : Bag H p) : ∃ xs, H p = some (.lst xs) := by
  obtain ⟨g, m, c, e, _⟩ := b
  exact ⟨_, e⟩
/-! ### a queue, told and untold -/
/-- all that is no thing by a word of its own stands in the other heap, too -/
def Cv (H H1 : Hp) : Prop := ∀ b o, H b = some o → (∀ φ, o ≠ .ext φ) → H1 b = some o
section
variable {P : Program} {w : World} {K : PySem.W.Frag} {mg : Str → Option Value} {base : Heap} {n : Nat}
variable {uv : List Addr} {f z : V} {UR UR1 : List JEv → Hp → Prop} {Val : Nat → List V → V → Hp → Prop} {Ce : Addr} {Cj : Addr × Addr} {Cc Cs x j jdx c cdx l sh : Addr} {u : List JEv} {es : List (Nat × Nat × Nat)} {H H1 : Hp} {ms ns : List V} {cs ds : List Addr} {g e b : Nat} {r : Option Nat}
theorem Cv.tup (k : Cv H H1) {a : Addr} {xs : List V} (h : H a = some (.tup xs)) : H1 a = some (.tup xs) := k _ _ h fun _ z => nomatch z
theorem Cv.lst (k : Cv H H1) {a : Addr} {xs : List V} (h : H a = some (.lst xs)) : H1 a = some (.lst xs) := k _ _ h fun _ z => nomatch z
theorem Cv.ins (k : Cv H H1) {a C dx : Addr} {fs : List (Str × V)} (h : H a = some (.ins C dx fs)) : H1 a = some (.ins C dx fs) := k _ _ h fun _ z => nomatch z
theorem Cv.dK (k : Cv H H1) {a : Addr} {ks : List (Key × V)} (h : H a = some (.dK ks)) : H1 a = some (.dK ks) := k _ _ h fun _ z => nomatch z
theorem SpanAt.cv {s : V} {i j : Nat} (k : Cv H H1) (hv : ∀ i xs v, Val i xs v H → Val i xs v H1) (h : SpanAt Val ms s i j H) : SpanAt Val ms s i j H1 := by
  obtain ⟨h1, h2, p, v, h3, h4, h5⟩ := h
  exact ⟨h1, h2, p, v, h3, k.tup h4, hv _ _ _ h5⟩
theorem OptSpan.cv {s : V} {i j : Nat} (k : Cv H H1) (hv : ∀ i xs v, Val i xs v H → Val i xs v H1) (h : OptSpan Val ms s i j H) : OptSpan Val ms s i j H1 := h.imp id fun z => z.cv k hv
theorem SpansTo.cv {xs : List V} {e k' : Nat} (k : Cv H H1) (hv : ∀ i xs v, Val i xs v H → Val i xs v H1) (h : SpansTo Val ms xs e k' H) : SpansTo Val ms xs e k' H1 := ⟨h.len, h.le, h.lm, fun q s z => (h.at_ q s z).cv k hv⟩
theorem RenAt.cv {rv : V} (k : Cv H H1) (hv : ∀ i xs v, Val i xs v H → Val i xs v H1) (h : RenAt Val ms cs b rv H r) : RenAt Val ms cs b rv H1 r := by
  match r, h with
  | none, h => exact h
  | some k', ⟨rl, ys, h1, h2, h3, h4⟩ => exact ⟨rl, ys, h1, k.lst h2, h3.cv k hv, h4⟩
theorem ShAt.cv (k : Cv H H1) (hv : ∀ i xs v, Val i xs v H → Val i xs v H1) (h : ShAt Cs Val ms cs sh g e b r H) : ShAt Cs Val ms cs sh g e b r H1 := by
  obtain ⟨⟨dx, fr, bv, lv, rv, xs, h1, h2, h3, h4, h5, h6, h7⟩, h8⟩ := h
  exact ⟨⟨dx, fr, bv, lv, rv, xs, k.ins h1, k.lst h2, h3.cv k hv, h4.cv k hv, h5.cv k hv, h6.cv k hv, h7⟩, h8⟩
theorem JLog.cv {xs : List V} (k : Cv H H1) (h : JLog H xs es) : JLog H1 xs es := ⟨h.len, fun q x e y1 y2 => by
  obtain ⟨p, a, b, h1, h2, h3, h4⟩ := h.at_ q x e y1 y2
  exact ⟨p, a, b, h1, k.tup h2, k.tup h3, k.tup h4⟩⟩
theorem JW.cv (k : Cv H H1) (hu : UR u H → UR1 u H1) (h : JW Cj Cc true uv f UR j jdx c cdx l u es H) : JW Cj Cc true uv f UR1 j jdx c cdx l u es H1 := by
  obtain ⟨xs, h1, h2⟩ := h.lg
  exact JW.mk1 (k.ins h.hj) (k.ins h.hc) ⟨xs, k.lst h1, h2.cv k⟩ (hu h.ur) h.ue h.nj h.nc h.nl
theorem EvAt.cv (k : Cv H H1) (hv : ∀ i xs v, Val i xs v H → Val i xs v H1) (hu : UR u H → UR1 u H1) (h : EvAt Ce Cs Cj Cc uv f UR Val cs x j jdx c cdx l z ms u es g e b r H) : EvAt Ce Cs Cj Cc uv f UR1 Val cs x j jdx c cdx l z ms u es g e b r H1 := by
  obtain ⟨dx, hh, sh, h1, h2, h3, h4⟩ := h.hx
  exact ⟨⟨dx, hh, sh, k.ins h1, k.dK h2, h3, h4.cv k hv⟩, h.jw.cv k hu, h.ok, fun i m y => hv _ _ _ (h.mm i m y), fun a m => (h.mu a m).imp fun o y => ⟨k _ _ y.1 y.2.2, y.2⟩, h.sub, h.nj, h.nx⟩
/-! ### .. and where some of what may change has changed -/
def Kq (ds : List Addr) (H H1 : Hp) : Prop := ∀ b o, H b = some o → (∀ φ, o ≠ .ext φ) → b ∉ ds → H1 b = some o
theorem Kq.tup (k : Kq ds H H1) (m : Mu H ds) {a : Addr} {xs : List V} (h : H a = some (.tup xs)) : H1 a = some (.tup xs) := k _ _ h (fun _ z => nomatch z) (m.tup h)
theorem SpanAt.kq {s : V} {i j : Nat} (k : Kq ds H H1) (m : Mu H ds) (hv : ∀ i xs v, Val i xs v H → Val i xs v H1) (h : SpanAt Val ms s i j H) : SpanAt Val ms s i j H1 := by
  obtain ⟨h1, h2, p, v, h3, h4, h5⟩ := h
  exact ⟨h1, h2, p, v, h3, k.tup m h4, hv _ _ _ h5⟩
theorem OptSpan.kq {s : V} {i j : Nat} (k : Kq ds H H1) (m : Mu H ds) (hv : ∀ i xs v, Val i xs v H → Val i xs v H1) (h : OptSpan Val ms s i j H) : OptSpan Val ms s i j H1 := h.imp id fun z => z.kq k m hv
theorem SpansTo.kq {xs : List V} {e k' : Nat} (k : Kq ds H H1) (m : Mu H ds) (hv : ∀ i xs v, Val i xs v H → Val i xs v H1) (h : SpansTo Val ms xs e k' H) : SpansTo Val ms xs e k' H1 := ⟨h.len, h.le, h.lm, fun q s z => (h.at_ q s z).kq k m hv⟩
theorem RenAt.kq {rv : V} (k : Kq ds H H1) (m : Mu H ds) (s : ∀ a ∈ ds, a ∈ cs) (hv : ∀ i xs v, Val i xs v H → Val i xs v H1) (h : RenAt Val ms cs b rv H r) : RenAt Val ms cs b rv H1 r := by
  match r, h with
  | none, h => exact h
  | some k', ⟨rl, ys, h1, h2, h3, h4⟩ => exact ⟨rl, ys, h1, k _ _ h2 (fun _ z => nomatch z) fun z => h4 (s _ z), h3.kq k m hv, h4⟩
theorem ShAt.kq (k : Kq ds H H1) (m : Mu H ds) (s : ∀ a ∈ ds, a ∈ cs) (hv : ∀ i xs v, Val i xs v H → Val i xs v H1) (h : ShAt Cs Val ms cs sh g e b r H) : ShAt Cs Val ms cs sh g e b r H1 := by
  obtain ⟨⟨dx, fr, bv, lv, rv, xs, h1, h2, h3, h4, h5, h6, h7⟩, h8⟩ := h
  exact ⟨⟨dx, fr, bv, lv, rv, xs, k _ _ h1 (fun _ z => nomatch z) fun z => h8 (s _ z), k _ _ h2 (fun _ z => nomatch z) fun z => h7 (s _ z), h3.kq k m hv, h4.kq k m hv, h5.kq k m hv, h6.kq k m s hv, h7⟩, h8⟩
theorem EvAt.kq (k : Kq ds H H1) (m : Mu H ds) (m1 : Mu H1 ds) (s : ∀ a ∈ ds, a ∈ cs) (d : ∀ a ∈ [x, c, l] ++ uv, a ∉ ds) (hv : ∀ i xs v, Val i xs v H → Val i xs v H1) (hu : UR u H → UR1 u H1) (h : EvAt Ce Cs Cj Cc uv f UR Val cs x j jdx c cdx l z ms u es g e b r H) : EvAt Ce Cs Cj Cc uv f UR1 Val cs x j jdx c cdx l z ms u es g e b r H1 := by
  obtain ⟨dx, hh, sh, h1, h2, h3, h4⟩ := h.hx
  obtain ⟨xs, l1, l2⟩ := h.jw.lg
  refine ⟨⟨dx, hh, sh, k _ _ h1 (fun _ z => nomatch z) (d x (memL memA)), k _ _ h2 (fun _ z => nomatch z) fun z => h3 (s _ z), h3, h4.kq k m s hv⟩, JW.mk1 (k _ _ h.jw.hj (fun _ z => nomatch z) fun z => h.nj (s _ z)) (k _ _ h.jw.hc (fun _ z => nomatch z) (d c (memL (memB memA)))) ⟨xs, k _ _ l1 (fun _ z => nomatch z) (d l (memL (memB (memB memA)))), ⟨l2.len, fun q x e y1 y2 => ?_⟩⟩ (hu h.jw.ur) h.jw.ue h.jw.nj h.jw.nc h.jw.nl, h.ok, fun i m y => hv _ _ _ (h.mm i m y), fun a ma => ?_, h.sub, h.nj, h.nx⟩
  · obtain ⟨p, a, b, i1, i2, i3, i4⟩ := l2.at_ q x e y1 y2
    exact ⟨p, a, b, i1, k.tup m i2, k.tup m i3, k.tup m i4⟩
  · by_cases y : a ∈ ds
    · exact m1 a y
    · obtain ⟨o, y1, y2⟩ := h.mu a ma
      exact ⟨o, k _ _ y1 y2.2 y, y2⟩
theorem TwAt.kq {Ct : Addr} (k : Kq ds H H1) (m : Mu H ds) (m1 : Mu H1 ds) (s : ∀ a ∈ ds, a ∈ cs) (d : ∀ a ∈ [x, c, l] ++ uv, a ∉ ds) (hv : ∀ i xs v, Val i xs v H → Val i xs v H1) (hu : UR u H → UR1 u H1) (h : TwAt Ct Cj Cc uv f UR Val cs x j jdx c cdx l z ms u es g e H) : TwAt Ct Cj Cc uv f UR1 Val cs x j jdx c cdx l z ms u es g e H1 := by
  obtain ⟨dx, hh, fr, bv, ys, h1, h2, h3, h4, h5, h6, h7⟩ := h.hx
  obtain ⟨xs, l1, l2⟩ := h.jw.lg
  refine ⟨⟨dx, hh, fr, bv, ys, k _ _ h1 (fun _ z => nomatch z) (d x (memL memA)), k _ _ h2 (fun _ z => nomatch z) fun z => h3 (s _ z), h3, k _ _ h4 (fun _ z => nomatch z) fun z => h5 (s _ z), h5, h6.kq k m hv, h7.kq k m hv⟩, JW.mk1 (k _ _ h.jw.hj (fun _ z => nomatch z) fun z => h.nj (s _ z)) (k _ _ h.jw.hc (fun _ z => nomatch z) (d c (memL (memB memA)))) ⟨xs, k _ _ l1 (fun _ z => nomatch z) (d l (memL (memB (memB memA)))), ⟨l2.len, fun q x e y1 y2 => ?_⟩⟩ (hu h.jw.ur) h.jw.ue h.jw.nj h.jw.nc h.jw.nl, h.ok, fun i m y => hv _ _ _ (h.mm i m y), fun a ma => ?_, h.sub, h.nj, h.nx⟩
  · obtain ⟨p, a, b, i1, i2, i3, i4⟩ := l2.at_ q x e y1 y2
    exact ⟨p, a, b, i1, k.tup m i2, k.tup m i3, k.tup m i4⟩
  · by_cases y : a ∈ ds
    · exact m1 a y
    · obtain ⟨o, y1, y2⟩ := h.mu a ma
      exact ⟨o, k _ _ y1 y2.2 y, y2⟩
theorem cv_kq (k : Cv H H1) : Kq [] H H1 := fun b o e nx _ => k b o e nx
/-- one of the two queues -/
def QAt (Ct Ce Cs : Addr) (Cj : Addr × Addr) (Cc : Addr) (uv : List Addr) (f : V) (UR : List JEv → Hp → Prop) (Val : Nat → List V → V → Hp → Prop) (cs : List Addr) (x j jdx c cdx l : Addr) (z : V) (ms : List V) (u : List JEv) (es : List (Nat × Nat × Nat)) (g : Nat) (H : Hp) : Prop :=
  (∃ e, TwAt Ct Cj Cc uv f UR Val cs x j jdx c cdx l z ms u es g e H) ∨ ∃ e b r, EvAt Ce Cs Cj Cc uv f UR Val cs x j jdx c cdx l z ms u es g e b r H
section
variable {Ct : Addr}
theorem QAt.kp (U : JS P w K mg base n true uv f UR Val) (h : QAt Ct Ce Cs Cj Cc uv f UR Val cs x j jdx c cdx l z ms u es g H) (k : Kp ds H H1) (m : Mu H ds) (m1 : Mu H1 ds) (s : ∀ a ∈ ds, a ∈ cs) (d : ∀ a ∈ [x, c, l] ++ uv, a ∉ ds) : QAt Ct Ce Cs Cj Cc uv f UR Val cs x j jdx c cdx l z ms u es g H1 :=
  h.imp (fun ⟨e, h⟩ => ⟨e, h.kp U k m m1 s d⟩) fun ⟨e, b, r, h⟩ => ⟨e, b, r, h.kp U k m m1 s d⟩
theorem QAt.same (U : JS P w K mg base n true uv f UR Val) (h : QAt Ct Ce Cs Cj Cc uv f UR Val cs x j jdx c cdx l z ms u es g H) (s : Same H H1) : QAt Ct Ce Cs Cj Cc uv f UR Val cs x j jdx c cdx l z ms u es g H1 :=
  h.imp (fun ⟨e, h⟩ => ⟨e, h.same U s⟩) fun ⟨e, b, r, h⟩ => ⟨e, b, r, h.same U s⟩
theorem QAt.kq (h : QAt Ct Ce Cs Cj Cc uv f UR Val cs x j jdx c cdx l z ms u es g H) (k : Kq ds H H1) (m : Mu H ds) (m1 : Mu H1 ds) (s : ∀ a ∈ ds, a ∈ cs) (d : ∀ a ∈ [x, c, l] ++ uv, a ∉ ds) (hv : ∀ i xs v, Val i xs v H → Val i xs v H1) (hu : UR u H → UR1 u H1) : QAt Ct Ce Cs Cj Cc uv f UR1 Val cs x j jdx c cdx l z ms u es g H1 :=
  h.imp (fun ⟨e, h⟩ => ⟨e, h.kq k m m1 s d hv hu⟩) fun ⟨e, b, r, h⟩ => ⟨e, b, r, h.kq k m m1 s d hv hu⟩
theorem QAt.cv (h : QAt Ct Ce Cs Cj Cc uv f UR Val cs x j jdx c cdx l z ms u es g H) (k : Cv H H1) (hv : ∀ i xs v, Val i xs v H → Val i xs v H1) (hu : UR u H → UR1 u H1) : QAt Ct Ce Cs Cj Cc uv f UR1 Val cs x j jdx c cdx l z ms u es g H1 :=
  h.kq (cv_kq k) mu_nil mu_nil (fun _ z => nomatch z) (fun _ _ => not_nil) hv hu
/-- what both have in common -/
theorem QAt.com (h : QAt Ct Ce Cs Cj Cc uv f UR Val cs x j jdx c cdx l z ms u es g H) : JW Cj Cc true uv f UR j jdx c cdx l u es H ∧ g ≤ ms.length ∧ Mems Val ms H ∧ Mu H cs ∧ (∀ a ∈ [x, c, l] ++ uv, a ∈ cs) ∧ j ∉ cs ∧ x ∉ [c, l] ++ uv := by
  rcases h with ⟨e, h⟩ | ⟨e, b, r, h⟩
  · exact ⟨h.jw, Nat.le_trans h.ok.1 h.ok.2, h.mm, h.mu, h.sub, h.nj, h.nx⟩
  · have := h.ok.le
    exact ⟨h.jw, by omega, h.mm, h.mu, h.sub, h.nj, h.nx⟩
theorem QAt.ins (h : QAt Ct Ce Cs Cj Cc uv f UR Val cs x j jdx c cdx l z ms u es g H) : (∃ dx h fr bv, H x = some (TO Ct dx c j z ms.length h fr bv) ∧ H h = some (.dK (heldK g (ms.drop g)))) ∨ ∃ dx h sh, H x = some (EO Ce dx c j z ms.length h sh) ∧ H h = some (.dK (heldK g (ms.drop g))) := by
  rcases h with ⟨e, h⟩ | ⟨e, b, r, h⟩
  · obtain ⟨dx, hh, fr, bv, xs, h1, h2, _⟩ := h.hx
    exact .inl ⟨dx, hh, fr, bv, h1, h2⟩
  · obtain ⟨dx, hh, sh, h1, h2, _⟩ := h.hx
    exact .inr ⟨dx, hh, sh, h1, h2⟩
end
theorem cv_tel {cells : List (Str × Addr)} {names : List (Str × NameKind)} {N : List Str} {σ : L2.St} {HT H3 : Hp} {cT : List Addr} (t : Inf.Tel cells names N σ H cT HT) (k : ∀ b, b ∈ cT → H3 b = HT b) : Cv H3 (Inf.cut cT H3) := fun b o e nx => by
  rw [Inf.cut_out fun m => ?_]
  · exact e
  · obtain ⟨φ, y⟩ := t.ext b m
    rw [k b m, y] at e
    exact nx φ (Option.some.inj e).symm
theorem cv_same (s : Same H H1) : Cv H H1 := fun b o e _ => s b o e
theorem tel_kp {cells : List (Str × Addr)} {names : List (Str × NameKind)} {N : List Str} {σ : L2.St} {H HT H3 : Hp} {cT ds : List Addr} (t : Inf.Tel cells names N σ H cT HT) (k : Kp ds HT H3) (m : Mu HT ds) : (∀ b, b ∈ cT → H3 b = HT b) ∧ Kp ds H (Inf.cut cT H3) :=
  ⟨fun b hb => by
    obtain ⟨φ, y⟩ := t.ext b hb
    rw [y]
    exact k.at_ _ _ y (m.ext y), ⟨fun b o e n => by
    rw [Inf.cut_out (fun z => by rw [t.no b z] at e; cases e)]
    exact k.at_ _ _ (t.same _ _ e) n⟩⟩
end
end Ob

set_option Elab.async false
set_option linter.all false
set_option maxRecDepth 100000
set_option maxHeartbeats 1000000
namespace Ob
open PySem PySem.Spec PyProof.Rows L2
open LamX (Tabs TabB TabS ExtN)

set_option hygiene false in
local macro_rules
  | `(tactic| kp_flats) => `(tactic| first
    | assumption
    | exact upd_same
    | (apply atNew; assumption; kp_flats)
    | (apply atNe; (next => kbo_bools); kp_flats)
    | (apply atSame; assumption; kp_flats)
    | (apply atKp; assumption; (next => kaf_pre); kp_flats))
set_option hygiene false in
local macro_rules
  | `(tactic| kaf_pre) => `(tactic| first
    | assumption
    | exact not_nil
    | (apply not_cons; (next => kbo_bools); kaf_pre)
    | (apply not_app; (next => kaf_pre); kaf_pre))
set_option hygiene false in
local macro_rules
  | `(tactic| kbo_bools) => `(tactic| first
    | assumption
    | (apply Ne.symm; assumption)
    | (apply neN; assumption; kp_flats)
    | (apply neN'; assumption; kp_flats))
set_option hygiene false in
local macro_rules
  | `(tactic| o_reads) => `(tactic| first
    | with_reducible rfl
    | assumption
    | rfl
    | kp_flats
    | (show SqL _ _ _ _; first | assumption | (apply sqlOf; kp_flats) | (apply sqlSame; assumption; o_reads))
    | (show SqT _ _ _ _; first | assumption | (apply sqtOf; kp_flats) | (apply sqtAll; assumption) | (apply sqtSame; assumption; o_reads))
    | (show Cls _ _; first | exact T.cl_Calls | exact T.cl_Joiner | exact T.cl_Planner | exact T.cl_EvenSums | exact T.cl_Shape | exact T.cl_TwoStacks)
    | (show NoAttr _ _ _; first | exact T.n_Calls_entries | exact T.n_Calls_running | exact T.n_Joiner_calls | exact T.n_Joiner_join_call | exact T.n_Planner_entries | exact T.n_EvenSums_calls | exact T.n_EvenSums_joiner | exact T.n_EvenSums_zero | exact T.n_EvenSums_given | exact T.n_EvenSums_held | exact T.n_EvenSums_shape | exact T.n_Shape_front | exact T.n_Shape_back | exact T.n_Shape_late | exact T.n_Shape_renewed | exact T.n_TwoStacks_calls | exact T.n_TwoStacks_joiner | exact T.n_TwoStacks_zero | exact T.n_TwoStacks_given | exact T.n_TwoStacks_held | exact T.n_TwoStacks_front | exact T.n_TwoStacks_back)
    | (apply Or.inl; o_reads)
    | (apply Or.inr; o_reads)
    | (apply And.intro; (next => o_reads); o_reads)
    | (apply Exists.intro; o_reads)
    | exact Nat.le_of_ble_eq_true rfl
    | exact Nat.succ_ne_zero _
    | (show Fr _ _; kba_ints)
    | (show Same _ _; kd_subs)
    | (show Kp _ _ _; kxs_still)
    | (show (_ : Nat) ≤ _; simp only [List.length_append, List.length_map, List.length_cons, List.length_nil, List.length_take, List.length_drop, List.length_replicate, List.length_range, sizeLine_eq]; omega)
    | (show _ = none; apply Fr.h; kba_ints)
    | (show Bag _ _; first | assumption | (apply bag_putF; assumption; o_reads) | (apply bag_neF; (next => kbo_bools); o_reads) | (apply bag_kpR; assumption; (next => kaf_pre); o_reads))
    | omega
    | decide)
local macro_rules
  | `(tactic| o_readsAll) => `(tactic| repeat (first
    | (refine fun (pNew : Addr) (nNew : _ = none) => ?_; replace nNew := Fr.mk nNew)
    | (refine fun (xNew dNew : Addr) (nNew : _ = none) (mNew : _ = none) (eNew : dNew ≠ xNew) => ?_; replace nNew := Fr.mk nNew; replace mNew := Fr.mk mNew)
    | (apply And.intro; next => o_reads)
    | apply Exists.intro (α := V)
    | apply Exists.intro (α := Addr)
    | apply Exists.intro (α := Int)
    | apply Exists.intro (α := Bool)
    | apply Exists.intro (α := List V)
    | apply Exists.intro (α := List Nat)
    | apply Exists.intro (α := List (Str × V))
    | apply Exists.intro (α := List _)
    | apply Exists.intro (α := Str)
    | apply Exists.intro (α := HO)
    | apply Exists.intro (α := Sp)
    | apply Exists.intro (α := VK)))
set_option hygiene false in
local macro_rules
  | `(tactic| kba_ints) => `(tactic| first
    | assumption
    | (apply frUp; (first | assumption | (apply Ne.symm; assumption)); kba_ints)
    | (apply noneOf; assumption; intro oF eF; apply Exists.intro; kp_flats)
    | (apply frUp; (next => kbo_bools); kba_ints))
set_option hygiene false in
local macro_rules
  | `(tactic| kxs_still) => `(tactic| first
    | assumption
    | exact kp_refl _ _
    | (apply kp_newF; assumption; kxs_still)
    | (apply kp_new; assumption; kxs_still)
    | (apply kp_up; (next => o_fieldsN); kxs_still)
    | (apply kp_new; (next => kba_ints); kxs_still)
    | (apply kp_sameR; assumption; kxs_still)
    | (apply kp_transR; assumption; kxs_still)
    | (apply kp_freshR; assumption; (next => kaf_suf); kxs_still))
set_option hygiene false in
local macro_rules
  | `(tactic| kaf_suf) => `(tactic| first
    | assumption
    | exact subNil
    | (apply subCons; (first | (apply Or.inl; o_fieldsN) | (apply Or.inr; kba_ints)); kaf_suf)
    | (apply subApp; (next => kaf_suf); kaf_suf))
set_option hygiene false in
local macro_rules
  | `(tactic| o_fieldsN) => `(tactic| first
    | assumption
    | exact memA
    | (apply memB; o_fieldsN)
    | (apply memL; o_fieldsN)
    | (apply memR; o_fieldsN))
set_option hygiene false in
local macro_rules
  | `(tactic| kd_subs) => `(tactic| first
    | assumption
    | exact Same.refl _
    | (apply same_putF; assumption; kd_subs)
    | (apply same_putG; assumption; kd_subs)
    | (apply same_putF; (next => kba_ints); kd_subs)
    | (apply same_transR; assumption; kd_subs))

set_option pp.maxSteps 900
/-! ### the methods of one of the two queues -/
theorem twE_len {g e n : Nat} (h1 : g ≤ e) (h2 : e ≤ n) (gl : g < n) : (twTE g e n).length ≤ 2 := by
  obtain ⟨_, _, h3⟩ := tw_end h1 h2 gl
  unfold twTE wholeE
  rw [List.length_map, List.length_range]
  omega
theorem evE_len {g e b n : Nat} {r : Option Nat} (h : ShOk g e b n r) (gl : g < n) : (totE g e b n).length ≤ 2 := by
  obtain ⟨_, _, h3⟩ := sum_end h gl
  unfold totE wholeE
  rw [List.length_map, List.length_range]
  omega
theorem twR_len {g e n : Nat} : (twRE g e n).length ≤ n := by
  unfold twRE
  split
  · exact Nat.le_trans allE_len (Nat.sub_le _ _)
  · exact Nat.zero_le _
section
variable {P : Program} {w : World} {K : PySem.W.Frag} {mg : Str → Option Value} {base : Heap} {n : Nat}
variable {uv : List Addr} {f z : V} {UR UR1 : List JEv → Hp → Prop} {Val : Nat → List V → V → Hp → Prop} {x j jdx c cdx l : Addr} {u : List JEv} {es : List (Nat × Nat × Nat)} {H : Hp} {ms : List V} {cs : List Addr} {g : Nat} {σ : L2.St} {i k : Nat} {Q : VK}
abbrev QT (T : Txt K mg) := QAt T.C_TwoStacks T.C_EvenSums T.C_Shape (CJ T) T.C_Calls
theorem q_tot (T : Txt K mg) (U : JS P w K mg base n true uv f UR Val) (hv : σ[i]? = some (some (.ref x))) (h : QT T uv f UR Val cs x j jdx c cdx l z ms u es g H) (lu : u.length < 80000) (le : es.length < 80000) (lm : ms.length < 70000) (qz : ms.length ≤ g → Q z H)
    (q : ∀ v d ds H', g < ms.length → d.length = ds.length → ds.length ≤ 2 → Kp ([c, l] ++ uv) H H' → QT T uv f UR Val cs x j jdx c cdx l z ms (u ++ d) (es ++ ds) g H' → Val g (seg ms g ms.length) v H' → Q v H') :
    tEither (tMeth T.C_TwoStacks "total" (spTwTot P w K mg base T.C_TwoStacks (CJ T) T.C_Calls n) [] E0 (tVar i) tNil) (tMeth T.C_EvenSums "total" (spEvTot P w K mg base T.C_EvenSums T.C_Shape (CJ T) T.C_Calls n) [] E0 (tVar i) tNil) σ H Q := by
  rcases h with ⟨e, h⟩ | ⟨e, b, r, h⟩
  · obtain ⟨dx, hh, fr, bv, xs, h1, h2, _⟩ := h.hx
    exact .inl ⟨_, hv, x, _, _, rfl, h1, rfl, uv, f, UR, Val, cs, x, j, jdx, c, cdx, l, z, ms, u, es, g, e, rfl, U, h, lu, le, lm, qz, fun v d H' gl ld k tw vl => q v d _ H' gl ld (twE_len h.ok.1 h.ok.2 gl) k (.inl ⟨_, tw⟩) vl⟩
  · obtain ⟨dx, hh, sh, h1, h2, _⟩ := h.hx
    exact .inr ⟨_, hv, x, _, _, rfl, h1, rfl, uv, f, UR, Val, cs, x, j, jdx, c, cdx, l, z, ms, u, es, g, e, b, r, rfl, U, h, lu, le, lm, qz, fun v d H' gl ld k tw vl => q v d _ H' gl ld (evE_len h.ok gl) k (.inr ⟨_, _, _, tw⟩) vl⟩
/-! while the def's cells are told -/
section
variable {X : Cx}
/-- what the join notes, before the cells are told and after -/
structure Told (X : Cx) (σ : L2.St) (URu URt : List JEv → Hp → Prop) (Val : Nat → List V → V → Hp → Prop) (u : List JEv) (H : Hp) : Prop where
  to : ∀ cT HT, Inf.Tel X.env.cells X.env.scope.names X.N σ H cT HT → URu u H → URt u HT
  back : ∀ cT HT H3 u1, Inf.Tel X.env.cells X.env.scope.names X.N σ H cT HT → (∀ b, b ∈ cT → H3 b = HT b) → URu u H → URt u1 H3 → URu u1 (Inf.cut cT H3)
  v1 : ∀ cT HT, Inf.Tel X.env.cells X.env.scope.names X.N σ H cT HT → ∀ i xs v, Val i xs v H → Val i xs v HT
  v2 : ∀ cT HT H3, Inf.Tel X.env.cells X.env.scope.names X.N σ H cT HT → (∀ b, b ∈ cT → H3 b = HT b) → ∀ i xs v, Val i xs v H3 → Val i xs v (Inf.cut cT H3)
theorem t_add {T : Txt X.K X.mg} (U : JS P w X.K X.mg base n true uv f UR1 Val) (TL : Told X σ UR UR1 Val u H) (hv : σ[i]? = some (some (.ref x))) (m : V) (hm : σ[k]? = some (some m)) (h : QT T uv f UR Val cs x j jdx c cdx l z ms u es g H) (lu : u.length < 80000) (le : es.length < 80000) (lm : ms.length < 70000) (vm : Val ms.length [m] m H)
    (q : ∀ d ds H', d.length = ds.length → ds.length ≤ 2 → Kp ([x, c, l] ++ uv) H H' → QT T uv f UR Val cs x j jdx c cdx l z (ms ++ [m]) (u ++ d) (es ++ ds) g H' → Q (.int ms.length) H') :
    tEither (Inf.tMethT X T.C_TwoStacks "add" (spTwAdd P w X.K X.mg base T.C_TwoStacks (CJ T) T.C_Calls n) [] (tVar i) (tCons (tVar k) tNil)) (Inf.tMethT X T.C_EvenSums "add" (spEvAdd P w X.K X.mg base T.C_EvenSums T.C_Shape (CJ T) T.C_Calls n) [] (tVar i) (tCons (tVar k) tNil)) σ H Q := by
  have hT : ∀ cT HT, Inf.Tel X.env.cells X.env.scope.names X.N σ H cT HT → QT T uv f UR1 Val cs x j jdx c cdx l z ms u es g HT := fun cT HT tel => h.cv (cv_same tel.same) (TL.v1 cT HT tel) (TL.to cT HT tel)
  have hB : ∀ cT HT H3 ns u1 es1 g1, Inf.Tel X.env.cells X.env.scope.names X.N σ H cT HT → (∀ b, b ∈ cT → H3 b = HT b) → QT T uv f UR1 Val cs x j jdx c cdx l z ns u1 es1 g1 H3 → QT T uv f UR Val cs x j jdx c cdx l z ns u1 es1 g1 (Inf.cut cT H3) := fun cT HT H3 ns u1 es1 g1 tel t1 h3 => h3.cv (cv_tel tel t1) (TL.v2 cT HT H3 tel t1) (TL.back cT HT H3 u1 tel t1 h.com.1.ur)
  rcases h with ⟨e, h⟩ | ⟨e, b, r, h⟩
  · obtain ⟨dx, hh, fr, bv, xs, h1, h2, _⟩ := h.hx
    refine .inl ⟨_, hv, x, _, _, rfl, h1, rfl, _, hm, fun cT HT tel => ?_⟩
    have hQ : TwAt T.C_TwoStacks (CJ T) T.C_Calls uv f UR1 Val cs x j jdx c cdx l z ms u es g e HT := h.kq (cv_kq (cv_same tel.same)) mu_nil mu_nil (fun _ z => nomatch z) (fun _ _ => not_nil) (TL.v1 cT HT tel) (TL.to cT HT tel)
    have mT := hQ.mu.sub hQ.sub
    refine ⟨uv, f, UR1, Val, cs, x, j, jdx, c, cdx, l, z, ms, u, es, g, e, m, rfl, U, hQ, lu, le, lm, TL.v1 cT HT tel _ _ _ vm, fun d H8 ld k8 h8 => ?_⟩
    obtain ⟨t1, t2⟩ := tel_kp tel k8 mT
    refine ⟨t1, q d _ _ ld ?_ t2 (hB cT HT H8 _ _ _ _ tel t1 (.inl ⟨_, h8⟩))⟩
    have := extE_len (i := e) (m := ms.length)
    omega
  · obtain ⟨dx, hh, sh, h1, h2, _⟩ := h.hx
    refine .inr ⟨_, hv, x, _, _, rfl, h1, rfl, _, hm, fun cT HT tel => ?_⟩
    have hQ : EvAt T.C_EvenSums T.C_Shape (CJ T) T.C_Calls uv f UR1 Val cs x j jdx c cdx l z ms u es g e b r HT := h.kq (cv_kq (cv_same tel.same)) mu_nil mu_nil (fun _ z => nomatch z) (fun _ _ => not_nil) (TL.v1 cT HT tel) (TL.to cT HT tel)
    have mT := hQ.mu.sub hQ.sub
    refine ⟨uv, f, UR1, Val, cs, x, j, jdx, c, cdx, l, z, ms, u, es, g, e, b, r, m, rfl, U, hQ, lu, le, lm, TL.v1 cT HT tel _ _ _ vm, fun d H8 ld k8 h8 => ?_⟩
    obtain ⟨t1, t2⟩ := tel_kp tel k8 mT
    exact ⟨t1, q d _ _ ld addE_len t2 (hB cT HT H8 _ _ _ _ tel t1 (.inr ⟨_, _, _, h8⟩))⟩
theorem t_rem {T : Txt X.K X.mg} (U : JS P w X.K X.mg base n true uv f UR1 Val) (TL : Told X σ UR UR1 Val u H) (hv : σ[i]? = some (some (.ref x))) (h : QT T uv f UR Val cs x j jdx c cdx l z ms u es g H) (lu : u.length < 80000) (le : es.length < 80000) (lm : ms.length < 9000) (gl : g < ms.length)
    (q : ∀ d ds H', d.length = ds.length → ds.length ≤ ms.length + 1 → Kp ([x, c, l] ++ uv) H H' → QT T uv f UR Val cs x j jdx c cdx l z ms (u ++ d) (es ++ ds) (g + 1) H' → Q (.int g) H') :
    tEither (Inf.tMethT X T.C_TwoStacks "remove_oldest" (spTwRem P w X.K X.mg base T.C_TwoStacks (CJ T) T.C_Calls n) [] (tVar i) tNil) (Inf.tMethT X T.C_EvenSums "remove_oldest" (spEvRem P w X.K X.mg base T.C_EvenSums T.C_Shape (CJ T) T.C_Calls n) [] (tVar i) tNil) σ H Q := by
  have hB : ∀ cT HT H3 ns u1 es1 g1, Inf.Tel X.env.cells X.env.scope.names X.N σ H cT HT → (∀ b, b ∈ cT → H3 b = HT b) → QT T uv f UR1 Val cs x j jdx c cdx l z ns u1 es1 g1 H3 → QT T uv f UR Val cs x j jdx c cdx l z ns u1 es1 g1 (Inf.cut cT H3) := fun cT HT H3 ns u1 es1 g1 tel t1 h3 => h3.cv (cv_tel tel t1) (TL.v2 cT HT H3 tel t1) (TL.back cT HT H3 u1 tel t1 h.com.1.ur)
  rcases h with ⟨e, h⟩ | ⟨e, b, r, h⟩
  · obtain ⟨dx, hh, fr, bv, xs, h1, h2, _⟩ := h.hx
    refine .inl ⟨_, hv, x, _, _, rfl, h1, rfl, fun cT HT tel => ?_⟩
    have hQ : TwAt T.C_TwoStacks (CJ T) T.C_Calls uv f UR1 Val cs x j jdx c cdx l z ms u es g e HT := h.kq (cv_kq (cv_same tel.same)) mu_nil mu_nil (fun _ z => nomatch z) (fun _ _ => not_nil) (TL.v1 cT HT tel) (TL.to cT HT tel)
    have mT := hQ.mu.sub hQ.sub
    refine ⟨uv, f, UR1, Val, cs, x, j, jdx, c, cdx, l, z, ms, u, es, g, e, rfl, U, hQ, lu, le, lm, gl, fun d H8 ld k8 h8 => ?_⟩
    obtain ⟨t1, t2⟩ := tel_kp tel k8 mT
    refine ⟨t1, q d _ _ ld ?_ t2 (hB cT HT H8 _ _ _ _ tel t1 (.inl ⟨_, h8⟩))⟩
    have := twR_len (g := g) (e := e) (n := ms.length)
    omega
  · obtain ⟨dx, hh, sh, h1, h2, _⟩ := h.hx
    refine .inr ⟨_, hv, x, _, _, rfl, h1, rfl, fun cT HT tel => ?_⟩
    have hQ : EvAt T.C_EvenSums T.C_Shape (CJ T) T.C_Calls uv f UR1 Val cs x j jdx c cdx l z ms u es g e b r HT := h.kq (cv_kq (cv_same tel.same)) mu_nil mu_nil (fun _ z => nomatch z) (fun _ _ => not_nil) (TL.v1 cT HT tel) (TL.to cT HT tel)
    have mT := hQ.mu.sub hQ.sub
    refine ⟨uv, f, UR1, Val, cs, x, j, jdx, c, cdx, l, z, ms, u, es, g, e, b, r, rfl, U, hQ, lu, le, by omega, gl, fun d H8 ld k8 h8 => ?_⟩
    obtain ⟨t1, t2⟩ := tel_kp tel k8 mT
    refine ⟨t1, q d _ _ ld ?_ t2 (hB cT HT H8 _ _ _ _ tel t1 (.inr ⟨_, _, _, h8⟩))⟩
    have := workE_len (g := g + 1) (e := e) (b := b) (n := ms.length) (r := r)
    omega
end
end
end Ob

set_option Elab.async false
set_option linter.all false
set_option maxRecDepth 100000
set_option maxHeartbeats 1000000
namespace Ob
open PySem PySem.Spec PyProof.Rows L2
open LamX (Tabs TabB TabS ExtN)

set_option hygiene false in
local macro_rules
  | `(tactic| kp_flats) => `(tactic| first
    | assumption
    | exact upd_same
    | (apply atNew; assumption; kp_flats)
    | (apply atNe; (next => kbo_bools); kp_flats)
    | (apply atSame; assumption; kp_flats)
    | (apply atKp; assumption; (next => kaf_pre); kp_flats))
set_option hygiene false in
local macro_rules
  | `(tactic| kaf_pre) => `(tactic| first
    | assumption
    | exact not_nil
    | (apply not_cons; (next => kbo_bools); kaf_pre)
    | (apply not_app; (next => kaf_pre); kaf_pre))
set_option hygiene false in
local macro_rules
  | `(tactic| kbo_bools) => `(tactic| first
    | assumption
    | (apply Ne.symm; assumption)
    | (apply neN; assumption; kp_flats)
    | (apply neN'; assumption; kp_flats))
set_option hygiene false in
local macro_rules
  | `(tactic| o_reads) => `(tactic| first
    | with_reducible rfl
    | assumption
    | rfl
    | kp_flats
    | (show SqL _ _ _ _; first | assumption | (apply sqlOf; kp_flats) | (apply sqlSame; assumption; o_reads))
    | (show SqT _ _ _ _; first | assumption | (apply sqtOf; kp_flats) | (apply sqtAll; assumption) | (apply sqtSame; assumption; o_reads))
    | (show Cls _ _; first | exact T.cl_Calls | exact T.cl_Joiner | exact T.cl_Planner | exact T.cl_EvenSums | exact T.cl_Shape | exact T.cl_TwoStacks)
    | (show NoAttr _ _ _; first | exact T.n_Calls_entries | exact T.n_Calls_running | exact T.n_Joiner_calls | exact T.n_Joiner_join_call | exact T.n_Planner_entries | exact T.n_EvenSums_calls | exact T.n_EvenSums_joiner | exact T.n_EvenSums_zero | exact T.n_EvenSums_given | exact T.n_EvenSums_held | exact T.n_EvenSums_shape | exact T.n_Shape_front | exact T.n_Shape_back | exact T.n_Shape_late | exact T.n_Shape_renewed | exact T.n_TwoStacks_calls | exact T.n_TwoStacks_joiner | exact T.n_TwoStacks_zero | exact T.n_TwoStacks_given | exact T.n_TwoStacks_held | exact T.n_TwoStacks_front | exact T.n_TwoStacks_back)
    | (apply Or.inl; o_reads)
    | (apply Or.inr; o_reads)
    | (apply And.intro; (next => o_reads); o_reads)
    | (apply Exists.intro; o_reads)
    | exact Nat.le_of_ble_eq_true rfl
    | exact Nat.succ_ne_zero _
    | (show Fr _ _; kba_ints)
    | (show Same _ _; kd_subs)
    | (show Kp _ _ _; kxs_still)
    | (show (_ : Nat) ≤ _; simp only [List.length_append, List.length_map, List.length_cons, List.length_nil, List.length_take, List.length_drop, List.length_replicate, List.length_range, sizeLine_eq]; omega)
    | (show _ = none; apply Fr.h; kba_ints)
    | (show Bag _ _; first | assumption | (apply bag_putF; assumption; o_reads) | (apply bag_neF; (next => kbo_bools); o_reads) | (apply bag_kpR; assumption; (next => kaf_pre); o_reads))
    | omega
    | decide)
local macro_rules
  | `(tactic| o_readsAll) => `(tactic| repeat (first
    | (refine fun (pNew : Addr) (nNew : _ = none) => ?_; replace nNew := Fr.mk nNew)
    | (refine fun (xNew dNew : Addr) (nNew : _ = none) (mNew : _ = none) (eNew : dNew ≠ xNew) => ?_; replace nNew := Fr.mk nNew; replace mNew := Fr.mk mNew)
    | (apply And.intro; next => o_reads)
    | apply Exists.intro (α := V)
    | apply Exists.intro (α := Addr)
    | apply Exists.intro (α := Int)
    | apply Exists.intro (α := Bool)
    | apply Exists.intro (α := List V)
    | apply Exists.intro (α := List Nat)
    | apply Exists.intro (α := List (Str × V))
    | apply Exists.intro (α := List _)
    | apply Exists.intro (α := Str)
    | apply Exists.intro (α := HO)
    | apply Exists.intro (α := Sp)
    | apply Exists.intro (α := VK)))
set_option hygiene false in
local macro_rules
  | `(tactic| kba_ints) => `(tactic| first
    | assumption
    | (apply frUp; (first | assumption | (apply Ne.symm; assumption)); kba_ints)
    | (apply noneOf; assumption; intro oF eF; apply Exists.intro; kp_flats)
    | (apply frUp; (next => kbo_bools); kba_ints))
set_option hygiene false in
local macro_rules
  | `(tactic| kxs_still) => `(tactic| first
    | assumption
    | exact kp_refl _ _
    | (apply kp_newF; assumption; kxs_still)
    | (apply kp_new; assumption; kxs_still)
    | (apply kp_up; (next => o_fieldsN); kxs_still)
    | (apply kp_new; (next => kba_ints); kxs_still)
    | (apply kp_sameR; assumption; kxs_still)
    | (apply kp_transR; assumption; kxs_still)
    | (apply kp_freshR; assumption; (next => kaf_suf); kxs_still))
set_option hygiene false in
local macro_rules
  | `(tactic| kaf_suf) => `(tactic| first
    | assumption
    | exact subNil
    | (apply subCons; (first | (apply Or.inl; o_fieldsN) | (apply Or.inr; kba_ints)); kaf_suf)
    | (apply subApp; (next => kaf_suf); kaf_suf))
set_option hygiene false in
local macro_rules
  | `(tactic| o_fieldsN) => `(tactic| first
    | assumption
    | exact memA
    | (apply memB; o_fieldsN)
    | (apply memL; o_fieldsN)
    | (apply memR; o_fieldsN))
set_option hygiene false in
local macro_rules
  | `(tactic| kd_subs) => `(tactic| first
    | assumption
    | exact Same.refl _
    | (apply same_putF; assumption; kd_subs)
    | (apply same_putG; assumption; kd_subs)
    | (apply same_putF; (next => kba_ints); kd_subs)
    | (apply same_transR; assumption; kd_subs))

set_option pp.maxSteps 900
/-! ### plans of two stacks -/
theorem same_kp {ds : List Addr} {H H1 H2 : Hp} (s : Same H H1) (k : Kp ds H1 H2) (f : ∀ a ∈ ds, Fr H a) : Same H H2 := fun b o e => k.at_ _ _ (s _ _ e) fun m => ne_of_none e (f b m).h rfl
theorem SpanAt.imp {Val Val1 : Nat → List V → V → Hp → Prop} {ms : List V} {s : V} {i j : Nat} {H : Hp} (hv : ∀ i xs v, Val i xs v H → Val1 i xs v H) (h : SpanAt Val ms s i j H) : SpanAt Val1 ms s i j H := by
  obtain ⟨h1, h2, p, v, h3, h4, h5⟩ := h
  exact ⟨h1, h2, p, v, h3, h4, hv _ _ _ h5⟩
theorem OptSpan.wk {Val Val1 : Nat → List V → V → Hp → Prop} {ms : List V} {s : V} {i j : Nat} {H : Hp} (hv : ∀ i xs v, Val i xs v H → Val1 i xs v H) (h : OptSpan Val ms s i j H) : OptSpan Val1 ms s i j H := h.imp id fun z => z.imp hv
theorem SpansTo.imp {Val Val1 : Nat → List V → V → Hp → Prop} {ms xs : List V} {e k : Nat} {H : Hp} (hv : ∀ i xs v, Val i xs v H → Val1 i xs v H) (h : SpansTo Val ms xs e k H) : SpansTo Val1 ms xs e k H := ⟨h.len, h.le, h.lm, fun q s z => (h.at_ q s z).imp hv⟩
section
variable {P : Program} {w : World} {K : PySem.W.Frag} {mg : Str → Option Value} {base : Heap} {n : Nat}
abbrev URN : List JEv → Hp → Prop := fun _ _ => True
abbrev ValN : Nat → List V → V → Hp → Prop := fun _ _ _ _ => True
theorem jsPl {f : V} : JS P w K mg base n false [] f URN ValN where
  ur := fun _ _ _ _ => True.intro
  val := fun _ _ _ => True.intro
  mu := fun _ => mu_nil
  pl := fun _ _ _ _ _ _ => ⟨True.intro, True.intro⟩
  act := fun h => nomatch h
def spPI (C : Addr) : Sp := fun vs H Q _ => ∃ (a dx : Addr), vs = [.ref a] ∧ H a = some (.ins C dx []) ∧ ∀ l H', Fr H l → a ≠ l → H' a = some (PO C dx l) → H' l = some (.lst []) → Kp [a] H H' → Q .non H'
theorem ok_pi (T : Txt K mg) : FnOk P w K mg base CX0 1 T.f_Planner_init T.d_Planner_init ["self"] (spPI T.C_Planner) := by
  refine T.F_Planner_init.ok sc_Planner_init (fun vs H Q E h => ?_) (fun cdv A outer s H vs Q E hr h => ?_)
  · obtain ⟨a, dx, rfl, _⟩ := h
    rfl
  · obtain ⟨a, dx, rfl, ha, q⟩ := h
    refine ⟨_, (pss_one (ps_fld (pv 0) (pe_lst pa_nil) rfl)), ?_⟩
    o_readsAll
    rename_i l nl
    exact q l _ (by kba_ints) (by kbo_bools) (by kp_flats) (by kp_flats) (by kxs_still)
/-- a planner that is made -/
theorem newPl {T : Txt K mg} {H : Hp} {a dx l : Addr} {H1 : Hp} (fa : Fr H a) (fd : Fr H dx) (fl : Fr (upd (upd H dx (.own a)) a (.ins T.C_Planner dx [])) l) (nal : a ≠ l) (h1 : H1 a = some (PO T.C_Planner dx l)) (h2 : H1 l = some (.lst [])) (k : Kp [a] (upd (upd H dx (.own a)) a (.ins T.C_Planner dx [])) H1) :
    Same H H1 ∧ (∀ y ∈ [a, l] ++ ([] : List Addr), Fr H y) ∧ JW (CJ T) T.C_Calls false [] .non URN a dx a 0 l [] [] H1 := by
  refine ⟨fun b o z => k.at_ _ _ (by rw [upd_ne (ne_of_none z fa.h), upd_ne (ne_of_none z fd.h)]; exact z) (not_cons (ne_of_none z fa.h) not_nil), ?_, ⟨.inr ⟨rfl, rfl, h1⟩, ⟨[], h2, ⟨rfl, fun q x e z => by cases q <;> cases z⟩⟩, True.intro, rfl, not_nil, not_nil, not_nil⟩⟩
  have fl0 : Fr H l := noneOf fl fun o e => ⟨o, by rw [upd_ne (ne_of_none e fa.h), upd_ne (ne_of_none e fd.h)]; exact e⟩
  exact subCons fa (subCons fl0 subNil)
def PlQ (T : Txt K mg) (es : List (Nat × Nat × Nat)) (H : Hp) (Q : VK) : Prop := ∀ (l : Addr) (xs : List V) H', Same H H' → Fr H l → H' l = some (.lst xs) → JLog H' xs es → Q (.ref l) H'
theorem pl_end {T : Txt K mg} {a dxa l' : Addr} {u : List JEv} {es : List (Nat × Nat × Nat)} {H : Hp} (h : JW (CJ T) T.C_Calls false [] .non URN a dxa a 0 l' u es H) : H a = some (PO T.C_Planner dxa l') ∧ ∃ xs, H l' = some (.lst xs) ∧ JLog H xs es := by
  rcases h.st with ⟨z, _⟩ | ⟨_, _, z⟩
  · cases z
  · exact ⟨z, h.lg⟩
theorem tw_spans (Val : Nat → List V → V → Hp → Prop) {ms xs : List V} {bv : V} {g e : Nat} {H : Hp} (q1 : g ≤ e) (q2 : e ≤ ms.length) (hs : ∀ q s, xs[q]? = some s → SpanAt Val ms s (e - 1 - q) e H) (lx : xs.length = e - g) (h7 : OptSpan Val ms bv e ms.length H) :
    ∃ L, xs.drop (xs.length - 1) ++ [bv].filter (fun y => !decide (y = V.non)) = L ∧ L.length = twN g e ms.length ∧ ∀ q s, L[q]? = some s → SpanAt Val ms s (twB g e ms.length q) (twB g e ms.length (q + 1)) H := by
  unfold twN
  have sp : ∀ {s : V} {i j : Nat} {H : Hp}, SpanAt Val ms s i j H → decide (s = V.non) = false := fun {s i j H} h => by
    obtain ⟨_, _, p, v, z, _⟩ := h
    rw [z]
    exact decide_eq_false fun z => nomatch z
  have hb : (e < ms.length ∧ decide (bv = V.non) = false ∧ SpanAt Val ms bv e ms.length H) ∨ (e = ms.length ∧ bv = .non) := h7.elim (fun z => .inr ⟨z.2.1, z.1⟩) fun z => .inl ⟨z.1, sp z, z⟩
  by_cases c1 : g < e
  · have hx : ∃ s0, xs[e - g - 1]? = some s0 := ⟨_, List.getElem?_eq_getElem (by omega)⟩
    obtain ⟨s0, hx⟩ := hx
    have hs0 := hs _ _ hx
    rw [show e - 1 - (e - g - 1) = g by omega] at hs0
    have ed : xs.drop (xs.length - 1) = [s0] := by
      rw [show xs.length - 1 = e - g - 1 by omega, List.drop_eq_getElem_cons (by omega), List.drop_eq_nil_of_le (by omega)]
      rw [List.getElem?_eq_getElem (by omega)] at hx
      rw [Option.some.inj hx]
    have b1 : twB g e ms.length 1 = e := if_pos c1
    rw [ed, if_pos c1]
    rcases hb with ⟨c2, d2, hh⟩ | ⟨c2, d2⟩
    · rw [if_pos c2]
      refine ⟨[s0, bv], ?_, rfl, fun q s z => ?_⟩
      · rw [List.filter_cons, d2]
        rfl
      · match q, z with
        | 0, z =>
          cases z
          rw [b1]
          exact hs0
        | 1, z =>
          cases z
          rw [b1]
          exact hh
        | q + 2, z => cases q <;> cases z
    · rw [if_neg (by omega)]
      refine ⟨[s0], ?_, rfl, fun q s z => ?_⟩
      · rw [d2]
        rfl
      · match q, z with
        | 0, z =>
          cases z
          rw [b1]
          exact hs0
        | q + 1, z => cases q <;> cases z
  · have b1 : twB g e ms.length 1 = ms.length := if_neg c1
    rw [if_neg c1]
    rcases hb with ⟨c2, d2, hh⟩ | ⟨c2, d2⟩
    · rw [if_pos c2]
      refine ⟨[bv], ?_, rfl, fun q s z => ?_⟩
      · rw [List.filter_cons, d2, List.drop_eq_nil_of_le (by omega)]
        rfl
      · match q, z with
        | 0, z =>
          cases z
          rw [b1]
          show SpanAt Val ms bv g ms.length H
          rw [show g = e by omega]
          exact hh
        | q + 1, z => cases q <;> cases z
    · rw [if_neg (by omega)]
      refine ⟨[], ?_, rfl, fun q s z => by cases q <;> cases z⟩
      rw [d2, List.drop_eq_nil_of_le (by omega)]
      rfl
def spTwPA (T : Txt K mg) : Sp := fun vs H Q _ => ∃ (uv : List Addr) (f : V) (UR : List JEv → Hp → Prop) (Val : Nat → List V → V → Hp → Prop) (cs : List Addr) (x j jdx c cdx l : Addr) (z : V) (ms : List V) (u : List JEv) (es : List (Nat × Nat × Nat)) (g e : Nat),
  vs = [.ref x] ∧ TwAt T.C_TwoStacks (CJ T) T.C_Calls uv f UR Val cs x j jdx c cdx l z ms u es g e H ∧ ms.length < 70000 ∧ PlQ T (extE e ms.length) H Q
theorem ok_twpa (T : Txt K mg) : FnOk P w K mg base CX0 12 T.f_TwoStacks_plan_add T.d_TwoStacks_plan_add ["self"] (spTwPA T) := by
  have G_Calls_check := ok_chk (P := P) (w := w) (base := base) T
  have G_Planner_init := ok_pi (P := P) (w := w) (base := base) T
  have G_extended := ok_ext (P := P) (w := w) (base := base) (n := 0) T
  refine T.F_TwoStacks_plan_add.ok sc_TwoStacks_plan_add (fun vs H Q E h => ?_) (fun cdv A outer s H vs Q E hr h => ?_)
  · obtain ⟨uv, f, UR, Val, cs, x, j, jdx, c, cdx, l, z, ms, u, es, g, e, rfl, _⟩ := h
    rfl
  · obtain ⟨uv, f, UR, Val, cs, x, j, jdx, c, cdx, l, z, ms, u, es, g, e, rfl, tw, lm, q⟩ := h
    refine ⟨_, (pss_cons (ps_expr (pe_meth0 (pe_fld (pv 0) rfl) T.cl_Calls ⟨T.m_Calls_check, T.t_Calls_check, T.k_Calls_check⟩ G_Calls_check (hr.mono (by omega)) T.b_Calls_check .nil pass0))
      (pss_cons (ps_set (i := 1) sc_TwoStacks_plan_add.nd rfl (.inl rfl) (pe_make0 ⟨T.mk_Planner, T.m_Planner_init, T.t_Planner_init, T.kp_Planner⟩ G_Planner_init (hr.mono (by omega)) rfl T.gc_Planner T.b_Planner_init .nil pass0))
      (pss_cons (ps_expr (pe_call G_extended (hr.mono (by omega)) rfl T.g_extended T.F_extended.kp T.b_extended .nil pass0 (pa_cons (pv 1) (pa_cons (pe_fld (pv 0) rfl) (pa_cons (pe_fld (pv 0) rfl) (pa_cons pe_non pa_nil))))))
      (pss_one (ps_ret (pe_fld (pv 1) rfl)))))), ?_⟩
    obtain ⟨dx, h, fr, bv, xs, h1, h2, h3, h4, h5, h6, h7⟩ := tw.hx
    refine ⟨_, rfl, x, _, _, _, .ref c, rfl, h1, T.cl_TwoStacks, T.n_TwoStacks_calls, rfl, c, cdx, _, rfl, tw.jw.hc, rfl, c, cdx, l, rfl, tw.jw.hc, ?_⟩
    intro a dxa na nd nda
    refine ⟨a, dxa, rfl, upd_same, fun l' H1 fl nal e1 e2 k1 => ⟨rfl, ?_⟩⟩
    obtain ⟨s1, fs, jw1⟩ := newPl (T := T) (Fr.mk na) (Fr.mk nd) fl nal e1 e2 k1
    have h1' := s1 _ _ h1
    have hmm : (ms ++ [V.non])[ms.length]? = some .non := List.getElem?_concat_length ..
    refine ⟨_, rfl, _, rfl, x, _, _, _, bv, rfl, h1', T.cl_TwoStacks, T.n_TwoStacks_back, rfl, _, rfl, x, _, _, _, .int ms.length, rfl, h1', T.cl_TwoStacks, T.n_TwoStacks_given, rfl, false, [], .non, URN, ValN, a, dxa, a, 0, l', [], [], ms ++ [.non], bv, .non, e, ms.length, rfl, jsPl, jw1, by decide, by decide, by rw [List.length_append]; show ms.length + 1 < 90000; omega, ?_, ⟨hmm, True.intro⟩, fun r d H2 ld k2 jw2 sp2 => ?_⟩
    · exact ((h7.wk fun _ _ _ _ => True.intro).kp (jsPl (P := P) (w := w) (K := K) (mg := mg) (base := base) (n := 0) (f := .non)) (ds := []) (kp_same s1) mu_nil).more
    · obtain ⟨hj2, ys, hl2, hg2⟩ := pl_end jw2
      exact ⟨_, rfl, a, _, _, _, .ref l', rfl, hj2, T.cl_Planner, T.n_Planner_entries, rfl, q l' ys H2 (same_kp s1 k2 fs) (fs l' (memB memA)) hl2 hg2⟩
def spTwPR (T : Txt K mg) : Sp := fun vs H Q _ => ∃ (uv : List Addr) (f : V) (UR : List JEv → Hp → Prop) (Val : Nat → List V → V → Hp → Prop) (cs : List Addr) (x j jdx c cdx l : Addr) (z : V) (ms : List V) (u : List JEv) (es : List (Nat × Nat × Nat)) (g e : Nat),
  vs = [.ref x] ∧ TwAt T.C_TwoStacks (CJ T) T.C_Calls uv f UR Val cs x j jdx c cdx l z ms u es g e H ∧ ms.length < 9000 ∧ g < ms.length ∧ PlQ T (twRE g e ms.length) H Q
theorem ok_twpr (T : Txt K mg) : FnOk P w K mg base CX0 12 T.f_TwoStacks_plan_remove T.d_TwoStacks_plan_remove ["self"] (spTwPR T) := by
  have G_Calls_check := ok_chk (P := P) (w := w) (base := base) T
  have G_check_filled := ok_filled (P := P) (w := w) (base := base) T
  have G_Planner_init := ok_pi (P := P) (w := w) (base := base) T
  have G_all_spans := ok_all (P := P) (w := w) (base := base) (n := 0) T
  refine T.F_TwoStacks_plan_remove.ok sc_TwoStacks_plan_remove (fun vs H Q E h => ?_) (fun cdv A outer s H vs Q E hr h => ?_)
  · obtain ⟨uv, f, UR, Val, cs, x, j, jdx, c, cdx, l, z, ms, u, es, g, e, rfl, _⟩ := h
    rfl
  · obtain ⟨uv, f, UR, Val, cs, x, j, jdx, c, cdx, l, z, ms, u, es, g, e, rfl, tw, lm, gl, q⟩ := h
    refine ⟨_, (pss_cons (ps_expr (pe_meth0 (pe_fld (pv 0) rfl) T.cl_Calls ⟨T.m_Calls_check, T.t_Calls_check, T.k_Calls_check⟩ G_Calls_check (hr.mono (by omega)) T.b_Calls_check .nil pass0))
      (pss_cons (ps_expr (pe_call G_check_filled (hr.mono (by omega)) rfl T.g_check_filled T.F_check_filled.kp T.b_check_filled .nil pass0 (pa_cons (pe_fld (pv 0) rfl) pa_nil)))
      (pss_cons (ps_set (i := 1) sc_TwoStacks_plan_remove.nd rfl (.inl rfl) (pe_make0 ⟨T.mk_Planner, T.m_Planner_init, T.t_Planner_init, T.kp_Planner⟩ G_Planner_init (hr.mono (by omega)) rfl T.gc_Planner T.b_Planner_init .nil pass0))
      (pss_cons (ps_if (pt_cmpR op_eq (pe_callB call_len_seq (by rfl) T.z_len (by decide +kernel) (pa_cons (pe_fld (pv 0) rfl) pa_nil)) pe_int (nomark _)) (pss_one (ps_expr (pe_call G_all_spans (hr.mono (by omega)) rfl T.g_all_spans T.F_all_spans.kp T.b_all_spans .nil pass0 (pa_cons (pv 1) (pa_cons (pe_fld (pv 0) rfl) pa_nil))))) pss_nil)
      (pss_one (ps_ret (pe_fld (pv 1) rfl))))))), ?_⟩
    obtain ⟨dx, h, fr, bv, xs, h1, h2, h3, h4, h5, h6, h7⟩ := tw.hx
    obtain ⟨q1, q2⟩ := tw.ok
    have ld0 : (ms.drop g).length = ms.length - g := List.length_drop ..
    have lx := h6.len
    refine ⟨_, rfl, x, _, _, _, .ref c, rfl, h1, T.cl_TwoStacks, T.n_TwoStacks_calls, rfl, c, cdx, _, rfl, tw.jw.hc, rfl, c, cdx, l, rfl, tw.jw.hc, ?_⟩
    refine ⟨_, rfl, x, _, _, _, .ref h, rfl, h1, T.cl_TwoStacks, T.n_TwoStacks_held, rfl, h, g, ms.drop g, rfl, h2, by omega, ?_⟩
    intro a dxa na nd nda
    refine ⟨a, dxa, rfl, upd_same, fun l' H1 fl nal e1 e2 k1 => ⟨rfl, ?_⟩⟩
    obtain ⟨s1, fs, jw1⟩ := newPl (T := T) (Fr.mk na) (Fr.mk nd) fl nal e1 e2 k1
    have h1' := s1 _ _ h1
    have h2' := s1 _ _ h2
    refine ⟨_, rfl, x, _, _, _, .ref fr, rfl, h1', T.cl_TwoStacks, T.n_TwoStacks_front, rfl, fr, xs, rfl, .inl (sqlOf (s1 _ _ h4)), rfl, _, rfl, ?_⟩
    by_cases c0 : g = e
    · refine ifT (decide_eq_true (by rw [lx]; exact congrArg V.int (by omega))) ?_
      have eE : twRE g e ms.length = allE ms.length (ms.length - g) := if_pos c0
      have nh : h ∉ [a, l'] ++ ([] : List Addr) := fun m => ne_of_none h2 (fs h m).h rfl
      refine ⟨_, rfl, _, rfl, x, _, _, _, .ref h, rfl, h1', T.cl_TwoStacks, T.n_TwoStacks_held, rfl, false, [], .non, URN, ValN, a, dxa, a, 0, l', [], [], ms, h, g, rfl, jsPl, jw1, by decide, by decide, lm, h2', nh, by omega, (fun _ _ _ => True.intro), fun r ys d H2 ld fr2 k2 jw2 er sps => ?_⟩
      obtain ⟨hj2, ys2, hl2, hg2⟩ := pl_end jw2
      rw [eE] at q
      exact ⟨_, rfl, a, _, _, _, .ref l', rfl, hj2, T.cl_Planner, T.n_Planner_entries, rfl, q l' ys2 H2 (same_kp s1 k2 fs) (fs l' (memB memA)) hl2 hg2⟩
    · refine ifF (decide_eq_false fun y => ?_) ?_
      · rw [lx] at y
        injection y with y
        omega
      have eE : twRE g e ms.length = [] := if_neg c0
      obtain ⟨hj2, ys2, hl2, hg2⟩ := pl_end jw1
      rw [eE] at q
      exact ⟨_, rfl, a, _, _, _, .ref l', rfl, hj2, T.cl_Planner, T.n_Planner_entries, rfl, q l' ys2 H1 s1 (fs l' (memB memA)) hl2 hg2⟩
def spTwPT (T : Txt K mg) : Sp := fun vs H Q _ => ∃ (uv : List Addr) (f : V) (UR : List JEv → Hp → Prop) (Val : Nat → List V → V → Hp → Prop) (cs : List Addr) (x j jdx c cdx l : Addr) (z : V) (ms : List V) (u : List JEv) (es : List (Nat × Nat × Nat)) (g e : Nat),
  vs = [.ref x] ∧ TwAt T.C_TwoStacks (CJ T) T.C_Calls uv f UR Val cs x j jdx c cdx l z ms u es g e H ∧ ms.length < 70000 ∧ PlQ T (twTE g e ms.length) H Q
theorem ok_twpt (T : Txt K mg) : FnOk P w K mg base CX0 12 T.f_TwoStacks_plan_total T.d_TwoStacks_plan_total ["self"] (spTwPT T) := by
  have G_Calls_check := ok_chk (P := P) (w := w) (base := base) T
  have G_Planner_init := ok_pi (P := P) (w := w) (base := base) T
  have G_filled_spans := ok_fillS (P := P) (w := w) (base := base) T
  have G_whole_span := ok_whole (P := P) (w := w) (base := base) (n := 0) T
  refine T.F_TwoStacks_plan_total.ok sc_TwoStacks_plan_total (fun vs H Q E h => ?_) (fun cdv A outer s H vs Q E hr h => ?_)
  · obtain ⟨uv, f, UR, Val, cs, x, j, jdx, c, cdx, l, z, ms, u, es, g, e, rfl, _⟩ := h
    rfl
  · obtain ⟨uv, f, UR, Val, cs, x, j, jdx, c, cdx, l, z, ms, u, es, g, e, rfl, tw, lm, q⟩ := h
    refine ⟨_, (pss_cons (ps_expr (pe_meth0 (pe_fld (pv 0) rfl) T.cl_Calls ⟨T.m_Calls_check, T.t_Calls_check, T.k_Calls_check⟩ G_Calls_check (hr.mono (by omega)) T.b_Calls_check .nil pass0))
      (pss_cons (ps_set (i := 1) sc_TwoStacks_plan_total.nd rfl (.inl rfl) (pe_make0 ⟨T.mk_Planner, T.m_Planner_init, T.t_Planner_init, T.kp_Planner⟩ G_Planner_init (hr.mono (by omega)) rfl T.gc_Planner T.b_Planner_init .nil pass0))
      (pss_cons (ps_expr (pe_call G_whole_span (hr.mono (by omega)) rfl T.g_whole_span T.F_whole_span.kp T.b_whole_span .nil pass0 (pa_cons (pv 1) (pa_cons (pe_call G_filled_spans (hr.mono (by omega)) rfl T.g_filled_spans T.F_filled_spans.kp T.b_filled_spans .nil pass0 (pa_cons (pe_fld (pv 0) rfl) (pa_cons (pe_lst (pa_cons (pe_fld (pv 0) rfl) pa_nil)) pa_nil))) pa_nil))))
      (pss_one (ps_ret (pe_fld (pv 1) rfl)))))), ?_⟩
    obtain ⟨dx, h, fr, bv, xs, h1, h2, h3, h4, h5, h6, h7⟩ := tw.hx
    obtain ⟨q1, q2⟩ := tw.ok
    refine ⟨_, rfl, x, _, _, _, .ref c, rfl, h1, T.cl_TwoStacks, T.n_TwoStacks_calls, rfl, c, cdx, _, rfl, tw.jw.hc, rfl, c, cdx, l, rfl, tw.jw.hc, ?_⟩
    intro a dxa na nd nda
    refine ⟨a, dxa, rfl, upd_same, fun l' H1 fl nal e1 e2 k1 => ⟨rfl, ?_⟩⟩
    obtain ⟨s1, fs, jw1⟩ := newPl (T := T) (Fr.mk na) (Fr.mk nd) fl nal e1 e2 k1
    have h1' := s1 _ _ h1
    refine ⟨_, rfl, _, rfl, x, _, _, _, .ref fr, rfl, h1', T.cl_TwoStacks, T.n_TwoStacks_front, rfl, _, rfl, x, _, _, _, bv, rfl, h1', T.cl_TwoStacks, T.n_TwoStacks_back, rfl, (by decide : 1 ≤ sizeLine), fun bl nbl => ?_⟩
    have fbl := Fr.mk nbl
    have s2 : Same H1 (upd H1 bl (.lst [bv])) := same_newF fbl
    have lx := h6.len
    refine ⟨fr, bl, xs, [bv], rfl, s2 _ _ (s1 _ _ h4), upd_same, by omega, (by show 1 < 90; decide), all_cons (h7.imp (fun z => z.1) fun z => ⟨z.2.2.choose, z.2.2.choose_spec.choose_spec.1⟩) (fun _ z => nomatch z), fun p H3 s3 fp e3 => ?_⟩
    have s13 := s2.trans s3
    have s03 := s1.trans s13
    obtain ⟨L, eL, lL, aL⟩ := tw_spans (ValN) q1 q2 (fun q s z => ((h6.imp (Val1 := ValN) fun _ _ _ _ => True.intro).kp (jsPl (P := P) (w := w) (K := K) (mg := mg) (base := base) (n := 0) (f := .non)) (cs := []) (kp_same s03) mu_nil).at_ q s z) h6.len ((h7.wk (Val1 := ValN) fun _ _ _ _ => True.intro).kp (jsPl (P := P) (w := w) (K := K) (mg := mg) (base := base) (n := 0) (f := .non)) (ds := []) (kp_same s03) mu_nil)
    rw [eL] at e3
    have fpa : p ∉ [a, l'] ++ ([] : List Addr) := ((jw1.same (jsPl (P := P) (w := w) (K := K) (mg := mg) (base := base) (n := 0) (f := .non)) s2).mu (jsPl (P := P) (w := w) (K := K) (mg := mg) (base := base) (n := 0) (f := .non))).fr fp
    have t3 : L.length ≤ 2 := by
      rw [lL]
      unfold twN
      split <;> split <;> omega
    refine ⟨false, [], .non, URN, ValN, a, dxa, a, 0, l', [], [], ms, L, p, twB g e ms.length, rfl, jsPl, jw1.same (jsPl (P := P) (w := w) (K := K) (mg := mg) (base := base) (n := 0) (f := .non)) s13, by show 0 + L.length < 90000; omega, by show 0 + L.length < 90000; omega, by omega, e3, fpa, aL, fun v d H4 ld k4 jw4 _ _ => ?_⟩
    obtain ⟨hj2, ys2, hl2, hg2⟩ := pl_end jw4
    rw [lL] at hg2
    have fs' : ∀ y ∈ [a, l'] ++ ([] : List Addr), Fr H y := fs
    have s04 : Same H H4 := fun b o eb => k4.at_ _ _ (s03 _ _ eb) fun m => ne_of_none eb (fs b m).h rfl
    exact ⟨_, rfl, a, _, _, _, .ref l', rfl, hj2, T.cl_Planner, T.n_Planner_entries, rfl, q l' ys2 H4 s04 (fs l' (memB memA)) hl2 hg2⟩
end
end Ob

set_option Elab.async false
set_option linter.all false
set_option maxRecDepth 100000
set_option maxHeartbeats 1000000
namespace Ob
open PySem PySem.Spec PyProof.Rows L2
open LamX (Tabs TabB TabS ExtN)

set_option hygiene false in
local macro_rules
  | `(tactic| kp_flats) => `(tactic| first
    | assumption
    | exact upd_same
    | (apply atNew; assumption; kp_flats)
    | (apply atNe; (next => kbo_bools); kp_flats)
    | (apply atSame; assumption; kp_flats)
    | (apply atKp; assumption; (next => kaf_pre); kp_flats))
set_option hygiene false in
local macro_rules
  | `(tactic| kaf_pre) => `(tactic| first
    | assumption
    | exact not_nil
    | (apply not_cons; (next => kbo_bools); kaf_pre)
    | (apply not_app; (next => kaf_pre); kaf_pre))
set_option hygiene false in
local macro_rules
  | `(tactic| kbo_bools) => `(tactic| first
    | assumption
    | (apply Ne.symm; assumption)
    | (apply neN; assumption; kp_flats)
    | (apply neN'; assumption; kp_flats))
set_option hygiene false in
local macro_rules
  | `(tactic| o_reads) => `(tactic| first
    | with_reducible rfl
    | assumption
    | rfl
    | kp_flats
    | (show SqL _ _ _ _; first | assumption | (apply sqlOf; kp_flats) | (apply sqlSame; assumption; o_reads))
    | (show SqT _ _ _ _; first | assumption | (apply sqtOf; kp_flats) | (apply sqtAll; assumption) | (apply sqtSame; assumption; o_reads))
    | (show Cls _ _; first | exact T.cl_Calls | exact T.cl_Joiner | exact T.cl_Planner | exact T.cl_EvenSums | exact T.cl_Shape | exact T.cl_TwoStacks)
    | (show NoAttr _ _ _; first | exact T.n_Calls_entries | exact T.n_Calls_running | exact T.n_Joiner_calls | exact T.n_Joiner_join_call | exact T.n_Planner_entries | exact T.n_EvenSums_calls | exact T.n_EvenSums_joiner | exact T.n_EvenSums_zero | exact T.n_EvenSums_given | exact T.n_EvenSums_held | exact T.n_EvenSums_shape | exact T.n_Shape_front | exact T.n_Shape_back | exact T.n_Shape_late | exact T.n_Shape_renewed | exact T.n_TwoStacks_calls | exact T.n_TwoStacks_joiner | exact T.n_TwoStacks_zero | exact T.n_TwoStacks_given | exact T.n_TwoStacks_held | exact T.n_TwoStacks_front | exact T.n_TwoStacks_back)
    | (apply Or.inl; o_reads)
    | (apply Or.inr; o_reads)
    | (apply And.intro; (next => o_reads); o_reads)
    | (apply Exists.intro; o_reads)
    | exact Nat.le_of_ble_eq_true rfl
    | exact Nat.succ_ne_zero _
    | (show Fr _ _; kba_ints)
    | (show Same _ _; kd_subs)
    | (show Kp _ _ _; kxs_still)
    | (show (_ : Nat) ≤ _; simp only [List.length_append, List.length_map, List.length_cons, List.length_nil, List.length_take, List.length_drop, List.length_replicate, List.length_range, sizeLine_eq]; omega)
    | (show _ = none; apply Fr.h; kba_ints)
    | (show Bag _ _; first | assumption | (apply bag_putF; assumption; o_reads) | (apply bag_neF; (next => kbo_bools); o_reads) | (apply bag_kpR; assumption; (next => kaf_pre); o_reads))
    | omega
    | decide)
local macro_rules
  | `(tactic| o_readsAll) => `(tactic| repeat (first
    | (refine fun (pNew : Addr) (nNew : _ = none) => ?_; replace nNew := Fr.mk nNew)
    | (refine fun (xNew dNew : Addr) (nNew : _ = none) (mNew : _ = none) (eNew : dNew ≠ xNew) => ?_; replace nNew := Fr.mk nNew; replace mNew := Fr.mk mNew)
    | (apply And.intro; next => o_reads)
    | apply Exists.intro (α := V)
    | apply Exists.intro (α := Addr)
    | apply Exists.intro (α := Int)
    | apply Exists.intro (α := Bool)
    | apply Exists.intro (α := List V)
    | apply Exists.intro (α := List Nat)
    | apply Exists.intro (α := List (Str × V))
    | apply Exists.intro (α := List _)
    | apply Exists.intro (α := Str)
    | apply Exists.intro (α := HO)
    | apply Exists.intro (α := Sp)
    | apply Exists.intro (α := VK)))
set_option hygiene false in
local macro_rules
  | `(tactic| kba_ints) => `(tactic| first
    | assumption
    | (apply frUp; (first | assumption | (apply Ne.symm; assumption)); kba_ints)
    | (apply noneOf; assumption; intro oF eF; apply Exists.intro; kp_flats)
    | (apply frUp; (next => kbo_bools); kba_ints))
set_option hygiene false in
local macro_rules
  | `(tactic| kxs_still) => `(tactic| first
    | assumption
    | exact kp_refl _ _
    | (apply kp_newF; assumption; kxs_still)
    | (apply kp_new; assumption; kxs_still)
    | (apply kp_up; (next => o_fieldsN); kxs_still)
    | (apply kp_new; (next => kba_ints); kxs_still)
    | (apply kp_sameR; assumption; kxs_still)
    | (apply kp_transR; assumption; kxs_still)
    | (apply kp_freshR; assumption; (next => kaf_suf); kxs_still))
set_option hygiene false in
local macro_rules
  | `(tactic| kaf_suf) => `(tactic| first
    | assumption
    | exact subNil
    | (apply subCons; (first | (apply Or.inl; o_fieldsN) | (apply Or.inr; kba_ints)); kaf_suf)
    | (apply subApp; (next => kaf_suf); kaf_suf))
set_option hygiene false in
local macro_rules
  | `(tactic| o_fieldsN) => `(tactic| first
    | assumption
    | exact memA
    | (apply memB; o_fieldsN)
    | (apply memL; o_fieldsN)
    | (apply memR; o_fieldsN))
set_option hygiene false in
local macro_rules
  | `(tactic| kd_subs) => `(tactic| first
    | assumption
    | exact Same.refl _
    | (apply same_putF; assumption; kd_subs)
    | (apply same_putG; assumption; kd_subs)
    | (apply same_putF; (next => kba_ints); kd_subs)
    | (apply same_transR; assumption; kd_subs))

set_option pp.maxSteps 900
/-! ### plans of even sums, and the log of both -/
theorem RenAt.wk {Val Val1 : Nat → List V → V → Hp → Prop} {ms : List V} {cs ds : List Addr} {b : Nat} {rv : V} {H : Hp} {r : Option Nat} (hv : ∀ i xs v, Val i xs v H → Val1 i xs v H) (fs : ∀ a ∈ ds, Fr H a) (h : RenAt Val ms cs b rv H r) : RenAt Val1 ms ds b rv H r := by
  match r, h with
  | none, h => exact h
  | some k', ⟨rl, ys, h1, h2, h3, h4⟩ => exact ⟨rl, ys, h1, h2, h3.imp hv, fun m => ne_of_none h2 (fs rl m).h rfl⟩
theorem ShAt.wk {Cs : Addr} {Val Val1 : Nat → List V → V → Hp → Prop} {ms : List V} {cs ds : List Addr} {sh : Addr} {g e b : Nat} {r : Option Nat} {H : Hp} (hv : ∀ i xs v, Val i xs v H → Val1 i xs v H) (fs : ∀ a ∈ ds, Fr H a) (h : ShAt Cs Val ms cs sh g e b r H) : ShAt Cs Val1 ms ds sh g e b r H := by
  obtain ⟨⟨dx, fr, bv, lv, rv, xs, h1, h2, h3, h4, h5, h6, h7⟩, h8⟩ := h
  exact ⟨⟨dx, fr, bv, lv, rv, xs, h1, h2, h3.imp hv, h4.wk hv, h5.wk hv, h6.wk hv fs, fun m => ne_of_none h2 (fs fr m).h rfl⟩, fun m => ne_of_none h1 (fs sh m).h rfl⟩
section
variable {P : Program} {w : World} {K : PySem.W.Frag} {mg : Str → Option Value} {base : Heap} {n : Nat}
def spEvPA (T : Txt K mg) : Sp := fun vs H Q _ => ∃ (uv : List Addr) (f : V) (UR : List JEv → Hp → Prop) (Val : Nat → List V → V → Hp → Prop) (cs : List Addr) (x j jdx c cdx l : Addr) (z : V) (ms : List V) (u : List JEv) (es : List (Nat × Nat × Nat)) (g e b : Nat) (r : Option Nat),
  vs = [.ref x] ∧ EvAt T.C_EvenSums T.C_Shape (CJ T) T.C_Calls uv f UR Val cs x j jdx c cdx l z ms u es g e b r H ∧ ms.length < 60000 ∧ PlQ T (addE g e b ms.length r) H Q
theorem ok_evpa (T : Txt K mg) : FnOk P w K mg base CX0 12 T.f_EvenSums_plan_add T.d_EvenSums_plan_add ["self"] (spEvPA T) := by
  have G_Calls_check := ok_chk (P := P) (w := w) (base := base) T
  have G_Planner_init := ok_pi (P := P) (w := w) (base := base) T
  have G_shape_after_addition := ok_shadd (P := P) (w := w) (base := base) (n := 0) T
  refine T.F_EvenSums_plan_add.ok sc_EvenSums_plan_add (fun vs H Q E h => ?_) (fun cdv A outer s H vs Q E hr h => ?_)
  · obtain ⟨uv, f, UR, Val, cs, x, j, jdx, c, cdx, l, z, ms, u, es, g, e, b, r, rfl, _⟩ := h
    rfl
  · obtain ⟨uv, f, UR, Val, cs, x, j, jdx, c, cdx, l, z, ms, u, es, g, e, b, r, rfl, ev, lm, q⟩ := h
    refine ⟨_, (pss_cons (ps_expr (pe_meth0 (pe_fld (pv 0) rfl) T.cl_Calls ⟨T.m_Calls_check, T.t_Calls_check, T.k_Calls_check⟩ G_Calls_check (hr.mono (by omega)) T.b_Calls_check .nil pass0))
      (pss_cons (ps_set (i := 1) sc_EvenSums_plan_add.nd rfl (.inl rfl) (pe_make0 ⟨T.mk_Planner, T.m_Planner_init, T.t_Planner_init, T.kp_Planner⟩ G_Planner_init (hr.mono (by omega)) rfl T.gc_Planner T.b_Planner_init .nil pass0))
      (pss_cons (ps_expr (pe_call G_shape_after_addition (hr.mono (by omega)) rfl T.g_shape_after_addition T.F_shape_after_addition.kp T.b_shape_after_addition .nil pass0 (pa_cons (pv 1) (pa_cons (pe_fld (pv 0) rfl) (pa_cons (Inf.pe_dstar (pe_fld (pv 0) rfl) (pe_fld (pv 0) rfl) pe_non) (pa_cons (pe_fld (pv 0) rfl) pa_nil))))))
      (pss_one (ps_ret (pe_fld (pv 1) rfl)))))), ?_⟩
    have PJ := jsPl (P := P) (w := w) (K := K) (mg := mg) (base := base) (n := 0) (f := .non)
    obtain ⟨dx, h, sh, h1, h2, h3, h4⟩ := ev.hx
    obtain ⟨q1, q2, q3⟩ := ev.ok.le
    refine ⟨_, rfl, x, _, _, _, .ref c, rfl, h1, T.cl_EvenSums, T.n_EvenSums_calls, rfl, c, cdx, _, rfl, ev.jw.hc, rfl, c, cdx, l, rfl, ev.jw.hc, ?_⟩
    intro a dxa na nd nda
    refine ⟨a, dxa, rfl, upd_same, fun l' H1 fl nal e1 e2 k1 => ⟨rfl, ?_⟩⟩
    obtain ⟨s1, fs, jw1⟩ := newPl (T := T) (Fr.mk na) (Fr.mk nd) fl nal e1 e2 k1
    have h1' := s1 _ _ h1
    have h2' := s1 _ _ h2
    refine ⟨_, rfl, _, rfl, x, _, _, _, .ref sh, rfl, h1', T.cl_EvenSums, T.n_EvenSums_shape, rfl, ?_⟩
    intro p np
    have fp := Fr.mk np
    have npx : x ≠ p := ne_of_none h1' np
    have nph : h ≠ p := ne_of_none h2' np
    have hxb : ∀ b2, upd (upd H1 p (.dK [])) p (.dK (heldK g (ms.drop g))) b2 = none → upd (upd (upd H1 p (.dK [])) p (.dK (heldK g (ms.drop g)))) b2 (.dK []) x = some (EO T.C_EvenSums dx c j z ms.length h sh) := fun b2 nb2 => by
      have e0 : upd (upd H1 p (.dK [])) p (.dK (heldK g (ms.drop g))) x = some (EO T.C_EvenSums dx c j z ms.length h sh) := by
        rw [upd_ne npx, upd_ne npx]
        exact h1'
      rw [upd_ne (ne_of_none e0 nb2)]
      exact e0
    refine ⟨_, rfl, x, _, _, _, .ref h, rfl, atNe npx h1', T.cl_EvenSums, T.n_EvenSums_held, rfl, h, _, rfl, nph, upd_same, .inl (atNe nph h2'), by rw [heldK_len, List.length_drop, sizeLine_eq]; omega, fun b2 nb2 => ⟨_, rfl, x, _, _, _, .int ms.length, rfl, hxb b2 nb2, T.cl_EvenSums, T.n_EvenSums_given, rfl, .inl (ms.length : Int), .non, rfl, ?_⟩⟩
    have npb : p ≠ b2 := ne_of_none (H := upd (upd H1 p (.dK [])) p (.dK (heldK g (ms.drop g)))) upd_same nb2
    refine ⟨npb, atNe npb upd_same, upd_same, ?_⟩
    have hlen : (ms ++ [V.non]).length = ms.length + 1 := by
      rw [List.length_append]
      rfl
    have s2 := same_star (a1 := .dK []) (b1 := .dK (heldK g (ms.drop g))) (c1 := .dK []) (d1 := .dK [(Sum.inl (ms.length : Int), .non)]) (e1 := .dK (putK (heldK g (ms.drop g)) (Sum.inl (ms.length : Int)) .non)) np nb2
    have ep : upd (upd (upd (upd (upd H1 p (.dK [])) p (.dK (heldK g (ms.drop g)))) b2 (.dK [])) b2 (.dK [(Sum.inl (ms.length : Int), .non)])) p (.dK (putK (heldK g (ms.drop g)) (Sum.inl (ms.length : Int)) .non)) p = some (.dK (heldK g ((ms ++ [V.non]).drop g))) := by
      have := heldK_put (ps := ms.drop g) (g := g) (v := V.non)
      rw [List.length_drop, show g + (ms.length - g) = ms.length by omega] at this
      rw [upd_same, this, List.drop_append_of_le_length (by omega)]
    generalize upd (upd (upd (upd (upd H1 p (.dK [])) p (.dK (heldK g (ms.drop g)))) b2 (.dK [])) b2 (.dK [(Sum.inl (ms.length : Int), .non)])) p (.dK (putK (heldK g (ms.drop g)) (Sum.inl (ms.length : Int)) .non)) = H2 at s2 ep ⊢
    have s02 := s1.trans s2
    have h1'' := s2 _ _ h1'
    have jw2 := jw1.same PJ s2
    have sa2 : ShAt T.C_Shape ValN ms ([a, l'] ++ []) sh g e b r H2 := (h4.wk (fun _ _ _ _ => True.intro) fs).kp PJ (kp_same (cs := []) s02) mu_nil (fun _ z => nomatch z)
    have np2 : p ∉ [a, l'] ++ ([] : List Addr) := (jw1.mu PJ).fr fp
    refine ⟨_, rfl, x, _, _, _, .int ms.length, rfl, h1'', T.cl_EvenSums, T.n_EvenSums_given, rfl, false, [], .non, URN, ValN, a, dxa, a, 0, l', [], [], ms, .non, [a, l'] ++ [], sh, p, g, e, b, r, rfl, jsPl, jw2, by decide, by decide, by omega, (fun _ m => m), jw2.mu PJ, (fun _ _ _ => True.intro), sa2, ev.ok, ep, np2, fun sh' d H3 ld k3 jw3 sa3 => ?_⟩
    obtain ⟨hj3, ys3, hl3, hg3⟩ := pl_end jw3
    exact ⟨_, rfl, a, _, _, _, .ref l', rfl, hj3, T.cl_Planner, T.n_Planner_entries, rfl, q l' ys3 H3 (same_kp s02 k3 fs) (fs l' (memB memA)) hl3 hg3⟩
def spEvPR (T : Txt K mg) : Sp := fun vs H Q _ => ∃ (uv : List Addr) (f : V) (UR : List JEv → Hp → Prop) (Val : Nat → List V → V → Hp → Prop) (cs : List Addr) (x j jdx c cdx l : Addr) (z : V) (ms : List V) (u : List JEv) (es : List (Nat × Nat × Nat)) (g e b : Nat) (r : Option Nat),
  vs = [.ref x] ∧ EvAt T.C_EvenSums T.C_Shape (CJ T) T.C_Calls uv f UR Val cs x j jdx c cdx l z ms u es g e b r H ∧ ms.length < 60000 ∧ g < ms.length ∧ PlQ T (workE (g + 1) e b ms.length r) H Q
theorem ok_evpr (T : Txt K mg) : FnOk P w K mg base CX0 12 T.f_EvenSums_plan_remove T.d_EvenSums_plan_remove ["self"] (spEvPR T) := by
  have G_Calls_check := ok_chk (P := P) (w := w) (base := base) T
  have G_check_filled := ok_filled (P := P) (w := w) (base := base) T
  have G_oldest := ok_oldest (P := P) (w := w) (base := base) T
  have G_without := ok_without1 (P := P) (w := w) (base := base) T
  have G_Planner_init := ok_pi (P := P) (w := w) (base := base) T
  have G_shape_after_removal := ok_shrem (P := P) (w := w) (base := base) (n := 0) T
  refine T.F_EvenSums_plan_remove.ok sc_EvenSums_plan_remove (fun vs H Q E h => ?_) (fun cdv A outer s H vs Q E hr h => ?_)
  · obtain ⟨uv, f, UR, Val, cs, x, j, jdx, c, cdx, l, z, ms, u, es, g, e, b, r, rfl, _⟩ := h
    rfl
  · obtain ⟨uv, f, UR, Val, cs, x, j, jdx, c, cdx, l, z, ms, u, es, g, e, b, r, rfl, ev, lm, gl, q⟩ := h
    refine ⟨_, (pss_cons (ps_expr (pe_meth0 (pe_fld (pv 0) rfl) T.cl_Calls ⟨T.m_Calls_check, T.t_Calls_check, T.k_Calls_check⟩ G_Calls_check (hr.mono (by omega)) T.b_Calls_check .nil pass0))
      (pss_cons (ps_expr (pe_call G_check_filled (hr.mono (by omega)) rfl T.g_check_filled T.F_check_filled.kp T.b_check_filled .nil pass0 (pa_cons (pe_fld (pv 0) rfl) pa_nil)))
      (pss_cons (ps_set (i := 1) sc_EvenSums_plan_remove.nd rfl (.inl rfl) (pe_make0 ⟨T.mk_Planner, T.m_Planner_init, T.t_Planner_init, T.kp_Planner⟩ G_Planner_init (hr.mono (by omega)) rfl T.gc_Planner T.b_Planner_init .nil pass0))
      (pss_cons (ps_expr (pe_call G_shape_after_removal (hr.mono (by omega)) rfl T.g_shape_after_removal T.F_shape_after_removal.kp T.b_shape_after_removal .nil pass0 (pa_cons (pv 1) (pa_cons (pe_fld (pv 0) rfl) (pa_cons (pe_call G_without (hr.mono (by omega)) rfl T.g_without T.F_without.kp T.b_without .nil pass0 (pa_cons (pe_fld (pv 0) rfl) (pa_cons (pe_lst (pa_cons (pe_call G_oldest (hr.mono (by omega)) rfl T.g_oldest T.F_oldest.kp T.b_oldest .nil pass0 (pa_cons (pe_fld (pv 0) rfl) pa_nil)) pa_nil)) pa_nil))) pa_nil)))))
      (pss_one (ps_ret (pe_fld (pv 1) rfl))))))), ?_⟩
    have PJ := jsPl (P := P) (w := w) (K := K) (mg := mg) (base := base) (n := 0) (f := .non)
    obtain ⟨dx, h, sh, h1, h2, h3, h4⟩ := ev.hx
    obtain ⟨q1, q2, q3⟩ := ev.ok.le
    have ld0 : (ms.drop g).length = ms.length - g := List.length_drop ..
    have hf : fstN g (ms.drop g) = .int g := if_neg (by omega)
    refine ⟨_, rfl, x, _, _, _, .ref c, rfl, h1, T.cl_EvenSums, T.n_EvenSums_calls, rfl, c, cdx, _, rfl, ev.jw.hc, rfl, c, cdx, l, rfl, ev.jw.hc, ?_⟩
    refine ⟨_, rfl, x, _, _, _, .ref h, rfl, h1, T.cl_EvenSums, T.n_EvenSums_held, rfl, h, g, ms.drop g, rfl, h2, by omega, ?_⟩
    intro a dxa na nd nda
    refine ⟨a, dxa, rfl, upd_same, fun l' H1 fl nal e1 e2 k1 => ⟨rfl, ?_⟩⟩
    obtain ⟨s1, fs, jw1⟩ := newPl (T := T) (Fr.mk na) (Fr.mk nd) fl nal e1 e2 k1
    have h1' := s1 _ _ h1
    have h2' := s1 _ _ h2
    refine ⟨_, rfl, _, rfl, x, _, _, _, .ref sh, rfl, h1', T.cl_EvenSums, T.n_EvenSums_shape, rfl, _, rfl, x, _, _, _, .ref h, rfl, h1', T.cl_EvenSums, T.n_EvenSums_held, rfl, _, rfl, x, _, _, _, .ref h, rfl, h1', T.cl_EvenSums, T.n_EvenSums_held, rfl, h, g, ms.drop g, rfl, h2', ?_⟩
    rw [hf]
    refine ⟨(by decide : 1 ≤ sizeLine), fun p np => ?_⟩
    have fp := Fr.mk np
    have s2 : Same H1 (upd H1 p (.lst [.int g])) := same_newF fp
    refine ⟨h, p, g, ms.drop g, rfl, s2 _ _ h2', upd_same, by omega, fun h' H2 s3 fh' e3 => ?_⟩
    rw [List.drop_drop] at e3
    have s13 := s2.trans s3
    have s03 := s1.trans s13
    have jw2 := jw1.same PJ s13
    have sa2 : ShAt T.C_Shape ValN ms ([a, l'] ++ []) sh g e b r H2 := (h4.wk (fun _ _ _ _ => True.intro) fs).kp PJ (kp_same (cs := []) s03) mu_nil (fun _ z => nomatch z)
    have np2 : h' ∉ [a, l'] ++ ([] : List Addr) := ((jw1.same PJ s2).mu PJ).fr fh'
    refine ⟨false, [], .non, URN, ValN, a, dxa, a, 0, l', [], [], ms, [a, l'] ++ [], sh, h', g, e, b, r, rfl, jsPl, jw2, by decide, by decide, by omega, (fun _ m => m), jw2.mu PJ, (fun _ _ _ => True.intro), sa2, ev.ok, gl, e3, np2, fun sh' d H3 ld k3 jw3 sa3 => ?_⟩
    obtain ⟨hj3, ys3, hl3, hg3⟩ := pl_end jw3
    exact ⟨_, rfl, a, _, _, _, .ref l', rfl, hj3, T.cl_Planner, T.n_Planner_entries, rfl, q l' ys3 H3 (same_kp s03 k3 fs) (fs l' (memB memA)) hl3 hg3⟩
def spEvPT (T : Txt K mg) : Sp := fun vs H Q _ => ∃ (uv : List Addr) (f : V) (UR : List JEv → Hp → Prop) (Val : Nat → List V → V → Hp → Prop) (cs : List Addr) (x j jdx c cdx l : Addr) (z : V) (ms : List V) (u : List JEv) (es : List (Nat × Nat × Nat)) (g e b : Nat) (r : Option Nat),
  vs = [.ref x] ∧ EvAt T.C_EvenSums T.C_Shape (CJ T) T.C_Calls uv f UR Val cs x j jdx c cdx l z ms u es g e b r H ∧ ms.length < 60000 ∧ PlQ T (totE g e b ms.length) H Q
theorem ok_evpt (T : Txt K mg) : FnOk P w K mg base CX0 12 T.f_EvenSums_plan_total T.d_EvenSums_plan_total ["self"] (spEvPT T) := by
  have G_Calls_check := ok_chk (P := P) (w := w) (base := base) T
  have G_Planner_init := ok_pi (P := P) (w := w) (base := base) T
  have G_shape_spans := ok_shspans (P := P) (w := w) (base := base) (n := 0) T
  have G_whole_span := ok_whole (P := P) (w := w) (base := base) (n := 0) T
  refine T.F_EvenSums_plan_total.ok sc_EvenSums_plan_total (fun vs H Q E h => ?_) (fun cdv A outer s H vs Q E hr h => ?_)
  · obtain ⟨uv, f, UR, Val, cs, x, j, jdx, c, cdx, l, z, ms, u, es, g, e, b, r, rfl, _⟩ := h
    rfl
  · obtain ⟨uv, f, UR, Val, cs, x, j, jdx, c, cdx, l, z, ms, u, es, g, e, b, r, rfl, ev, lm, q⟩ := h
    refine ⟨_, (pss_cons (ps_expr (pe_meth0 (pe_fld (pv 0) rfl) T.cl_Calls ⟨T.m_Calls_check, T.t_Calls_check, T.k_Calls_check⟩ G_Calls_check (hr.mono (by omega)) T.b_Calls_check .nil pass0))
      (pss_cons (ps_set (i := 1) sc_EvenSums_plan_total.nd rfl (.inl rfl) (pe_make0 ⟨T.mk_Planner, T.m_Planner_init, T.t_Planner_init, T.kp_Planner⟩ G_Planner_init (hr.mono (by omega)) rfl T.gc_Planner T.b_Planner_init .nil pass0))
      (pss_cons (ps_expr (pe_call G_whole_span (hr.mono (by omega)) rfl T.g_whole_span T.F_whole_span.kp T.b_whole_span .nil pass0 (pa_cons (pv 1) (pa_cons (pe_call G_shape_spans (hr.mono (by omega)) rfl T.g_shape_spans T.F_shape_spans.kp T.b_shape_spans .nil pass0 (pa_cons (pe_fld (pv 0) rfl) pa_nil)) pa_nil))))
      (pss_one (ps_ret (pe_fld (pv 1) rfl)))))), ?_⟩
    have PJ := jsPl (P := P) (w := w) (K := K) (mg := mg) (base := base) (n := 0) (f := .non)
    obtain ⟨dx, h, sh, h1, h2, h3, h4⟩ := ev.hx
    refine ⟨_, rfl, x, _, _, _, .ref c, rfl, h1, T.cl_EvenSums, T.n_EvenSums_calls, rfl, c, cdx, _, rfl, ev.jw.hc, rfl, c, cdx, l, rfl, ev.jw.hc, ?_⟩
    intro a dxa na nd nda
    refine ⟨a, dxa, rfl, upd_same, fun l' H1 fl nal e1 e2 k1 => ⟨rfl, ?_⟩⟩
    obtain ⟨s1, fs, jw1⟩ := newPl (T := T) (Fr.mk na) (Fr.mk nd) fl nal e1 e2 k1
    have h1' := s1 _ _ h1
    have sa1 : ShAt T.C_Shape ValN ms ([a, l'] ++ []) sh g e b r H1 := (h4.wk (fun _ _ _ _ => True.intro) fs).kp PJ (kp_same (cs := []) s1) mu_nil (fun _ z => nomatch z)
    refine ⟨_, rfl, _, rfl, x, _, _, _, .ref sh, rfl, h1', T.cl_EvenSums, T.n_EvenSums_shape, rfl, false, [], .non, URN, ValN, ms, [a, l'] ++ [], sh, g, e, b, r, rfl, PJ, by omega, sa1, ev.ok, fun p xs H2 s2 fp e3 lx ax => ?_⟩
    have np : p ∉ [a, l'] ++ ([] : List Addr) := (jw1.mu PJ).fr fp
    have t3 : xs.length ≤ 3 := by
      rw [lx]
      unfold sumN
      split <;> split <;> split <;> omega
    refine ⟨false, [], .non, URN, ValN, a, dxa, a, 0, l', [], [], ms, xs, p, sumB g e b ms.length, rfl, jsPl, jw1.same PJ s2, by show 0 + xs.length < 90000; omega, by show 0 + xs.length < 90000; omega, by omega, e3, np, ax, fun v d H3 ld k3 jw3 _ _ => ?_⟩
    obtain ⟨hj3, ys3, hl3, hg3⟩ := pl_end jw3
    rw [lx] at hg3
    exact ⟨_, rfl, a, _, _, _, .ref l', rfl, hj3, T.cl_Planner, T.n_Planner_entries, rfl, q l' ys3 H3 (same_kp (s1.trans s2) k3 fs) (fs l' (memB memA)) hl3 hg3⟩
/-! the log: a new list -/
def spTwLog (T : Txt K mg) : Sp := fun vs H Q _ => ∃ (x dx c cdx l j h fr : Addr) (z bv : V) (gi : Int) (xs : List V), vs = [.ref x] ∧ H x = some (TO T.C_TwoStacks dx c j z gi h fr bv) ∧ H c = some (CO T.C_Calls cdx l false) ∧ H l = some (.lst xs) ∧ ∀ o H', Fr H o → Same H H' → H' o = some (.lst xs) → Q (.ref o) H'
theorem ok_twlog (T : Txt K mg) : FnOk P w K mg base CX0 1 T.f_TwoStacks_log T.d_TwoStacks_log ["self"] (spTwLog T) := by
  refine T.F_TwoStacks_log.ok sc_TwoStacks_log (fun vs H Q E h => ?_) (fun cdv A outer s H vs Q E hr h => ?_)
  · obtain ⟨x, dx, c, cdx, l, j, h, fr, z, bv, gi, xs, rfl, _⟩ := h
    rfl
  · obtain ⟨x, dx, c, cdx, l, j, h, fr, z, bv, gi, xs, rfl, h1, hc, hl, q⟩ := h
    refine ⟨_, (pss_one (ps_ret (pe_callTy call_list_of (by rfl) T.z_list (by decide +kernel) (pa_cons (pe_fld (pe_fld (pv 0) rfl) rfl) pa_nil)))), ?_⟩
    refine ⟨_, rfl, x, _, _, _, .ref c, rfl, h1, T.cl_TwoStacks, T.n_TwoStacks_calls, rfl, c, _, _, _, .ref l, rfl, hc, T.cl_Calls, T.n_Calls_entries, rfl, ?_⟩
    exact ⟨l, xs, rfl, .inl (sqlOf hl), fun o no => q o _ (Fr.mk no) (same_newF (Fr.mk no)) upd_same⟩
def spEvLog (T : Txt K mg) : Sp := fun vs H Q _ => ∃ (x dx c cdx l j h sh : Addr) (z : V) (gi : Int) (xs : List V), vs = [.ref x] ∧ H x = some (EO T.C_EvenSums dx c j z gi h sh) ∧ H c = some (CO T.C_Calls cdx l false) ∧ H l = some (.lst xs) ∧ ∀ o H', Fr H o → Same H H' → H' o = some (.lst xs) → Q (.ref o) H'
theorem ok_evlog (T : Txt K mg) : FnOk P w K mg base CX0 1 T.f_EvenSums_log T.d_EvenSums_log ["self"] (spEvLog T) := by
  refine T.F_EvenSums_log.ok sc_EvenSums_log (fun vs H Q E h => ?_) (fun cdv A outer s H vs Q E hr h => ?_)
  · obtain ⟨x, dx, c, cdx, l, j, h, sh, z, gi, xs, rfl, _⟩ := h
    rfl
  · obtain ⟨x, dx, c, cdx, l, j, h, sh, z, gi, xs, rfl, h1, hc, hl, q⟩ := h
    refine ⟨_, (pss_one (ps_ret (pe_callTy call_list_of (by rfl) T.z_list (by decide +kernel) (pa_cons (pe_fld (pe_fld (pv 0) rfl) rfl) pa_nil)))), ?_⟩
    refine ⟨_, rfl, x, _, _, _, .ref c, rfl, h1, T.cl_EvenSums, T.n_EvenSums_calls, rfl, c, _, _, _, .ref l, rfl, hc, T.cl_Calls, T.n_Calls_entries, rfl, ?_⟩
    exact ⟨l, xs, rfl, .inl (sqlOf hl), fun o no => q o _ (Fr.mk no) (same_newF (Fr.mk no)) upd_same⟩
end
end Ob

set_option Elab.async false
set_option linter.all false
set_option maxRecDepth 100000
set_option maxHeartbeats 1000000
namespace Ob
open PySem PySem.Spec PyProof.Rows L2
open LamX (Tabs TabB TabS ExtN)

set_option hygiene false in
local macro_rules
  | `(tactic| kp_flats) => `(tactic| first
    | assumption
    | exact upd_same
    | (apply atNew; assumption; kp_flats)
    | (apply atNe; (next => kbo_bools); kp_flats)
    | (apply atSame; assumption; kp_flats)
    | (apply atKp; assumption; (next => kaf_pre); kp_flats))
set_option hygiene false in
local macro_rules
  | `(tactic| kaf_pre) => `(tactic| first
    | assumption
    | exact not_nil
    | (apply not_cons; (next => kbo_bools); kaf_pre)
    | (apply not_app; (next => kaf_pre); kaf_pre))
set_option hygiene false in
local macro_rules
  | `(tactic| kbo_bools) => `(tactic| first
    | assumption
    | (apply Ne.symm; assumption)
    | (apply neN; assumption; kp_flats)
    | (apply neN'; assumption; kp_flats))
set_option hygiene false in
local macro_rules
  | `(tactic| o_reads) => `(tactic| first
    | with_reducible rfl
    | assumption
    | rfl
    | kp_flats
    | (show SqL _ _ _ _; first | assumption | (apply sqlOf; kp_flats) | (apply sqlSame; assumption; o_reads))
    | (show SqT _ _ _ _; first | assumption | (apply sqtOf; kp_flats) | (apply sqtAll; assumption) | (apply sqtSame; assumption; o_reads))
    | (show Cls _ _; first | exact T.cl_Calls | exact T.cl_Joiner | exact T.cl_Planner | exact T.cl_EvenSums | exact T.cl_Shape | exact T.cl_TwoStacks)
    | (show NoAttr _ _ _; first | exact T.n_Calls_entries | exact T.n_Calls_running | exact T.n_Joiner_calls | exact T.n_Joiner_join_call | exact T.n_Planner_entries | exact T.n_EvenSums_calls | exact T.n_EvenSums_joiner | exact T.n_EvenSums_zero | exact T.n_EvenSums_given | exact T.n_EvenSums_held | exact T.n_EvenSums_shape | exact T.n_Shape_front | exact T.n_Shape_back | exact T.n_Shape_late | exact T.n_Shape_renewed | exact T.n_TwoStacks_calls | exact T.n_TwoStacks_joiner | exact T.n_TwoStacks_zero | exact T.n_TwoStacks_given | exact T.n_TwoStacks_held | exact T.n_TwoStacks_front | exact T.n_TwoStacks_back)
    | (apply Or.inl; o_reads)
    | (apply Or.inr; o_reads)
    | (apply And.intro; (next => o_reads); o_reads)
    | (apply Exists.intro; o_reads)
    | exact Nat.le_of_ble_eq_true rfl
    | exact Nat.succ_ne_zero _
    | (show Fr _ _; kba_ints)
    | (show Same _ _; kd_subs)
    | (show Kp _ _ _; kxs_still)
    | (show (_ : Nat) ≤ _; simp only [List.length_append, List.length_map, List.length_cons, List.length_nil, List.length_take, List.length_drop, List.length_replicate, List.length_range, sizeLine_eq]; omega)
    | (show _ = none; apply Fr.h; kba_ints)
    | (show Bag _ _; first | assumption | (apply bag_putF; assumption; o_reads) | (apply bag_neF; (next => kbo_bools); o_reads) | (apply bag_kpR; assumption; (next => kaf_pre); o_reads))
    | omega
    | decide)
local macro_rules
  | `(tactic| o_readsAll) => `(tactic| repeat (first
    | (refine fun (pNew : Addr) (nNew : _ = none) => ?_; replace nNew := Fr.mk nNew)
    | (refine fun (xNew dNew : Addr) (nNew : _ = none) (mNew : _ = none) (eNew : dNew ≠ xNew) => ?_; replace nNew := Fr.mk nNew; replace mNew := Fr.mk mNew)
    | (apply And.intro; next => o_reads)
    | apply Exists.intro (α := V)
    | apply Exists.intro (α := Addr)
    | apply Exists.intro (α := Int)
    | apply Exists.intro (α := Bool)
    | apply Exists.intro (α := List V)
    | apply Exists.intro (α := List Nat)
    | apply Exists.intro (α := List (Str × V))
    | apply Exists.intro (α := List _)
    | apply Exists.intro (α := Str)
    | apply Exists.intro (α := HO)
    | apply Exists.intro (α := Sp)
    | apply Exists.intro (α := VK)))
set_option hygiene false in
local macro_rules
  | `(tactic| kba_ints) => `(tactic| first
    | assumption
    | (apply frUp; (first | assumption | (apply Ne.symm; assumption)); kba_ints)
    | (apply noneOf; assumption; intro oF eF; apply Exists.intro; kp_flats)
    | (apply frUp; (next => kbo_bools); kba_ints))
set_option hygiene false in
local macro_rules
  | `(tactic| kxs_still) => `(tactic| first
    | assumption
    | exact kp_refl _ _
    | (apply kp_newF; assumption; kxs_still)
    | (apply kp_new; assumption; kxs_still)
    | (apply kp_up; (next => o_fieldsN); kxs_still)
    | (apply kp_new; (next => kba_ints); kxs_still)
    | (apply kp_sameR; assumption; kxs_still)
    | (apply kp_transR; assumption; kxs_still)
    | (apply kp_freshR; assumption; (next => kaf_suf); kxs_still))
set_option hygiene false in
local macro_rules
  | `(tactic| kaf_suf) => `(tactic| first
    | assumption
    | exact subNil
    | (apply subCons; (first | (apply Or.inl; o_fieldsN) | (apply Or.inr; kba_ints)); kaf_suf)
    | (apply subApp; (next => kaf_suf); kaf_suf))
set_option hygiene false in
local macro_rules
  | `(tactic| o_fieldsN) => `(tactic| first
    | assumption
    | exact memA
    | (apply memB; o_fieldsN)
    | (apply memL; o_fieldsN)
    | (apply memR; o_fieldsN))
set_option hygiene false in
local macro_rules
  | `(tactic| kd_subs) => `(tactic| first
    | assumption
    | exact Same.refl _
    | (apply same_putF; assumption; kd_subs)
    | (apply same_putG; assumption; kd_subs)
    | (apply same_putF; (next => kba_ints); kd_subs)
    | (apply same_transR; assumption; kd_subs))

/-- an if, when its test is answered: I holds behind it, F where it was false -/
theorem if_by {c : TT} {t u : TS} {D : Ends} {σ : L2.St} {H : Hp} (I : Hp → Prop) (F : Prop) (hT : ∀ H', I H' → t D σ H') (hF : ∀ H', I H' → F → u D σ H') (h : ∀ Q : Bool → Hp → Prop, (∀ b H', I H' → (b = false → F) → Q b H') → c σ H Q) : tIfS c t u D σ H :=
  h (fun b H' => if b = true then t D σ H' else u D σ H') fun b H' i f => by
    cases b with
    | true => exact (if_pos rfl).mpr (hT H' i)
    | false => exact (if_neg (fun z => nomatch z)).mpr (hF H' i (f rfl))

set_option pp.maxSteps 900
/-! ### the plain model of a queue -/
def moK (f b l d : V) : List (Key × V) := [(.inr "front", f), (.inr "back", b), (.inr "later", l), (.inr "done", d)]
/-- a pair of numbers: the range of those from i to j - 1 -/
def Rg (H : Hp) (v : V) (i j : Nat) : Prop := ∃ (p : Addr) (a b : Nat), v = .ref p ∧ H p = some (.tup [.int a, .int b]) ∧ ((i < j ∧ a = i ∧ b = j) ∨ (i = j ∧ a = b))
theorem Rg.kp {H H1 : Hp} {cs : List Addr} {v : V} {i j : Nat} (h : Rg H v i j) (k : Kp cs H H1) (m : Mu H cs) : Rg H1 v i j := by
  obtain ⟨p, a, b, h1, h2, h3⟩ := h
  exact ⟨p, a, b, h1, kp_tup k m h2, h3⟩
def doneV (b : Nat) : Option Nat → V
  | none => .non
  | some k => .int ((b : Int) - (k : Int))
structure MoAt (H : Hp) (m : Addr) (g e b n : Nat) (r : Option Nat) : Prop where
  ex : ∃ vf vb vl, H m = some (.dK (moK vf vb vl (doneV b r))) ∧ Rg H vf g e ∧ Rg H vb e b ∧ Rg H vl b n
theorem MoAt.kp {H H1 : Hp} {cs : List Addr} {m : Addr} {g e b n : Nat} {r : Option Nat} (h : MoAt H m g e b n r) (k : Kp cs H H1) (mu : Mu H cs) (nm : m ∉ cs) : MoAt H1 m g e b n r := by
  obtain ⟨vf, vb, vl, h1, h2, h3, h4⟩ := h.ex
  exact ⟨vf, vb, vl, k.at_ _ _ h1 nm, h2.kp k mu, h3.kp k mu, h4.kp k mu⟩
theorem MoAt.same {H H1 : Hp} {m : Addr} {g e b n : Nat} {r : Option Nat} (h : MoAt H m g e b n r) (s : Same H H1) : MoAt H1 m g e b n r := h.kp (cs := []) (kp_same s) mu_nil not_nil
theorem mo_f {f b l d : V} : valV (moK f b l d) (.inr "front") = some f := valV_pos rfl
theorem mo_b {f b l d : V} : valV (moK f b l d) (.inr "back") = some b := rfl
theorem mo_l {f b l d : V} : valV (moK f b l d) (.inr "later") = some l := rfl
theorem mo_d {f b l d : V} : valV (moK f b l d) (.inr "done") = some d := rfl
theorem mo_sf {f b l d v : V} : putK (moK f b l d) (.inr "front") v = moK v b l d := rfl
theorem mo_sb {f b l d v : V} : putK (moK f b l d) (.inr "back") v = moK f v l d := rfl
theorem mo_sl {f b l d v : V} : putK (moK f b l d) (.inr "later") v = moK f b v d := rfl
theorem mo_sd {f b l d v : V} : putK (moK f b l d) (.inr "done") v = moK f b l v := rfl
section
variable {P : Program} {w : World} {K : PySem.W.Frag} {mg : Str → Option Value} {base : Heap} {n : Nat}
def spNewM : Sp := fun vs H Q _ => vs = [] ∧ ∀ m H', Fr H m → Same H H' → MoAt H' m 0 0 0 0 none → Q (.ref m) H'
theorem ok_newm (T : Txt K mg) : FnOk P w K mg base CX0 1 T.f_l_new_model T.d_l_new_model [] spNewM := by
  refine T.F_l_new_model.ok sc_l_new_model (fun vs H Q E h => ?_) (fun cdv A outer s H vs Q E hr h => ?_)
  · obtain ⟨rfl, _⟩ := h
    rfl
  · obtain ⟨rfl, q⟩ := h
    refine ⟨_, (pss_one (ps_ret (pe_disp (pps_cons pe_str (pe_tup (pa_cons pe_int (pa_cons pe_int pa_nil))) (pps_cons pe_str (pe_tup (pa_cons pe_int (pa_cons pe_int pa_nil))) (pps_cons pe_str (pe_tup (pa_cons pe_int (pa_cons pe_int pa_nil))) (pps_cons pe_str pe_non pps_nil)))) (by rfl) (by rfl) (fun z => by cases z) (by decide)))), ?_⟩
    refine fun m nm => ⟨le2, fun p1 n1 => ⟨le2, fun p2 n2 => ⟨le2, fun p3 n3 => ⟨?_, [(.inr "front", .ref p1), (.inr "back", .ref p2), (.inr "later", .ref p3), (.inr "done", .non)], rfl, (show 4 ≤ 15 by decide), ?_⟩⟩⟩⟩
    · exact atNew (Fr.mk n3) (atNew (Fr.mk n2) (atNew (Fr.mk n1) upd_same))
    · have fm := Fr.mk nm
      have e1 : upd (upd (upd (upd H m (.dK [])) p1 (.tup [.int 0, .int 0])) p2 (.tup [.int 0, .int 0])) p3 (.tup [.int 0, .int 0]) p1 = some (.tup [.int 0, .int 0]) := atNew (Fr.mk n3) (atNew (Fr.mk n2) upd_same)
      have e2 : upd (upd (upd (upd H m (.dK [])) p1 (.tup [.int 0, .int 0])) p2 (.tup [.int 0, .int 0])) p3 (.tup [.int 0, .int 0]) p2 = some (.tup [.int 0, .int 0]) := atNew (Fr.mk n3) upd_same
      have e3 : upd (upd (upd (upd H m (.dK [])) p1 (.tup [.int 0, .int 0])) p2 (.tup [.int 0, .int 0])) p3 (.tup [.int 0, .int 0]) p3 = some (.tup [.int 0, .int 0]) := upd_same
      have em : upd (upd (upd (upd H m (.dK [])) p1 (.tup [.int 0, .int 0])) p2 (.tup [.int 0, .int 0])) p3 (.tup [.int 0, .int 0]) m = some (.dK []) := atNew (Fr.mk n3) (atNew (Fr.mk n2) (atNew (Fr.mk n1) upd_same))
      have s3 : Same H (upd (upd (upd (upd H m (.dK [])) p1 (.tup [.int 0, .int 0])) p2 (.tup [.int 0, .int 0])) p3 (.tup [.int 0, .int 0])) := (((same_newF fm).trans (same_newF (Fr.mk n1))).trans (same_newF (Fr.mk n2))).trans (same_newF (Fr.mk n3))
      generalize upd (upd (upd (upd H m (.dK [])) p1 (.tup [.int 0, .int 0])) p2 (.tup [.int 0, .int 0])) p3 (.tup [.int 0, .int 0]) = H3 at e1 e2 e3 em s3 ⊢
      have k4 : Kp [m] H3 (upd H3 m (.dK (moK (.ref p1) (.ref p2) (.ref p3) .non))) := kp_up memA (kp_refl _ _)
      have m3 : Mu H3 [m] := mu_cons em (fun _ z => nomatch z) (fun _ z => nomatch z) mu_nil
      refine q m _ fm (same_putG fm s3) ⟨_, _, _, upd_same, ?_, ?_, ?_⟩
      · exact ⟨p1, 0, 0, rfl, kp_tup k4 m3 e1, .inr ⟨rfl, rfl⟩⟩
      · exact ⟨p2, 0, 0, rfl, kp_tup k4 m3 e2, .inr ⟨rfl, rfl⟩⟩
      · exact ⟨p3, 0, 0, rfl, kp_tup k4 m3 e3, .inr ⟨rfl, rfl⟩⟩
def spStep : Sp := fun vs H Q _ => ∃ (fm : Nat) (m : Addr) (g e b n : Nat) (r : Option Nat), vs = [.int (fm : Int), .ref m] ∧ MoAt H m g e b n r ∧
  ((fm = 0 ∧ ∀ o H', Same H H' → Fr H o → H' o = some (.lst []) → Q (.ref o) H') ∨
   (fm = 1 ∧ ShPre g e b n r ∧ n < 60000 ∧ ∀ o xs H', Kp [m] H H' → Fr H o → H' o = some (.lst xs) → JLog H' xs (workE g e b n r) → MoAt H' m g (workR g e b n r).1 (workR g e b n r).2.1 n (workR g e b n r).2.2 → Q (.ref o) H'))
theorem ok_step (T : Txt K mg) : FnOk P w K mg base CX0 1 T.f_l_stepped T.d_l_stepped ["_law_form", "_law_model"] spStep := by
  refine T.F_l_stepped.ok sc_l_stepped (fun vs H Q E h => ?_) (fun cdv A outer s H vs Q E hr h => ?_)
  · obtain ⟨fm, m, g, e, b, n, r, rfl, _⟩ := h
    rfl
  · obtain ⟨fm, m, g, e, b, n, r, rfl, hm, hq⟩ := h
    refine ⟨_, (pss_cons (ps_if (pt_cmpR op_eq (pv 0) pe_int (nomark _)) (pss_one (ps_ret (pe_lst pa_nil))) pss_nil)
      (pss_cons (ps_par3 (i := 2) (j := 3) (l := 4) (by rfl) sc_l_stepped.nd rfl rfl rfl (by decide) (by decide) (by decide) rfl rfl rfl (pa_cons (pe_dget (hu_of hr) (pv 1) pe_str (fun _ _ => rfl)) (pa_cons (pe_dget (hu_of hr) (pv 1) pe_str (fun _ _ => rfl)) (pa_cons (pe_lst pa_nil) pa_nil))) (by rfl))
      (pss_cons (ps_if (PW.pt (pw_and (pt_cmpR op_isN (pe_dget (hu_of hr) (pv 1) pe_str (fun _ _ => rfl)) pe_non (nomark _)) (pw_and1 (pt_cmpR op_le (pe_op op_sub (pe_ix (r := rIxT K) ix_tup (pv 3) pe_int (fun _ _ => rfl)) (pe_ix (r := rIxT K) ix_tup (pv 3) pe_int (fun _ _ => rfl))) (pe_op op_sub (pe_ix (r := rIxT K) ix_tup (pv 2) pe_int (fun _ _ => rfl)) (pe_ix (r := rIxT K) ix_tup (pv 2) pe_int (fun _ _ => rfl))) (nomark _))))) (pss_one (ps_ret (pe_lst pa_nil))) pss_nil)
      (pss_cons (ps_set (i := 5) sc_l_stepped.nd rfl (.inl rfl) (pe_ifExp (pt_cmpR op_lt (pe_ix (r := rIxT K) ix_tup (pv 2) pe_int (fun _ _ => rfl)) (pe_ix (r := rIxT K) ix_tup (pv 2) pe_int (fun _ _ => rfl)) (nomark _)) (pe_ix (r := rIxT K) ix_tup (pv 2) pe_int (fun _ _ => rfl)) (pe_ix (r := rIxT K) ix_tup (pv 3) pe_int (fun _ _ => rfl))))
      (C8.pss_cut (ps_if (pt_cmpR op_isN (pe_dget (hu_of hr) (pv 1) pe_str (fun _ _ => rfl)) pe_non (nomark _)) (pss_one (ps_dput (hu_of hr) (pv 1) pe_str (pe_op op_sub (pe_ix (r := rIxT K) ix_tup (pv 3) pe_int (fun _ _ => rfl)) pe_int) rfl)) (pss_one (ps_if (pt_cmpR op_gt (pe_dget (hu_of hr) (pv 1) pe_str (fun _ _ => rfl)) (pv 5) (nomark _)) (pss_cons (ps_dput (hu_of hr) (pv 1) pe_str (pe_op op_sub (pe_dget (hu_of hr) (pv 1) pe_str (fun _ _ => rfl)) pe_int) rfl)
          (pss_one (ps_set (i := 4) sc_l_stepped.nd rfl (.inl rfl) (pe_lst (pa_cons (pe_tup (pa_cons pe_str (pa_cons (pe_tup (pa_cons (pe_dget (hu_of hr) (pv 1) pe_str (fun _ _ => rfl)) (pa_cons (pe_op op_add (pe_dget (hu_of hr) (pv 1) pe_str (fun _ _ => rfl)) pe_int) pa_nil))) (pa_cons (pe_tup (pa_cons (pe_op op_add (pe_dget (hu_of hr) (pv 1) pe_str (fun _ _ => rfl)) pe_int) (pa_cons (pe_ix (r := rIxT K) ix_tup (pv 3) pe_int (fun _ _ => rfl)) pa_nil))) pa_nil)))) pa_nil))))) pss_nil)))
      (pss_cons (ps_if (pt_cmpR op_eq (pe_dget (hu_of hr) (pv 1) pe_str (fun _ _ => rfl)) (pv 5) (nomark _)) (pss_cons (ps_asg (pe_tup (pa_cons (pe_tup (pa_cons (pv 5) (pa_cons (pe_ix (r := rIxT K) ix_tup (pv 3) pe_int (fun _ _ => rfl)) pa_nil))) (pa_cons (pe_dget (hu_of hr) (pv 1) pe_str (fun _ _ => rfl)) (pa_cons (pe_tup (pa_cons pe_int (pa_cons pe_int pa_nil))) pa_nil)))) (pg_tup (by rfl) (pgs_cons (pg_sub (pv 1) pe_str (set_dict (hu_of hr))) (pgs_cons (pg_sub (pv 1) pe_str (set_dict (hu_of hr))) (pgs_cons (pg_sub (pv 1) pe_str (set_dict (hu_of hr))) pgs_nil)))))
        (pss_one (ps_dput (hu_of hr) (pv 1) pe_str pe_non rfl))) pss_nil)
      (pss_one (ps_ret (pv 4))))))))), ?_⟩
    have hT : ∀ {a b : Int}, a = b → decide (V.int a = V.int b) = true := fun e => decide_eq_true (congrArg V.int e)
    have hF : ∀ {a b : Int}, a ≠ b → decide (V.int a = V.int b) = false := fun e => decide_eq_false fun z => e (by injection z)
    rcases hq with ⟨rfl, q⟩ | ⟨rfl, pre, hn, q⟩
    · refine ⟨_, rfl, rfl, _, rfl, ifT (hT rfl) ⟨Nat.zero_le _, fun o no => q o _ (same_newF (Fr.mk no)) (Fr.mk no) upd_same⟩⟩
    · refine ⟨_, rfl, rfl, _, rfl, ifF (hF (by decide)) ?_⟩
      obtain ⟨vf, vb, vl, em, ⟨pf, f0, f1, rfl, ef, hf⟩, ⟨pb, b0, b1, rfl, eb, hb⟩, hl⟩ := hm.ex
      have lmo : ∀ {x y z u : V}, (moK x y z u).length < sizeLine := fun {x y z u} => by
        rw [sizeLine_eq]
        show 4 < 16777216
        decide
      have mm : Mu H [m] := mu_cons em (fun _ z => nomatch z) (fun _ z => nomatch z) mu_nil
      refine ⟨_, rfl, m, _, rfl, DGet.k (k := .inr "front") em, _, rfl, m, _, rfl, DGet.k (k := .inr "back") em, Nat.zero_le _, fun o no => ⟨.ref pf, .ref pb, .ref o, rfl, ?_⟩⟩
      have fo := Fr.mk no
      have s1 : Same H (upd H o (.lst [])) := same_newF fo
      have eo : upd H o (.lst []) o = some (.lst []) := upd_same
      generalize upd H o (.lst []) = H1 at s1 eo ⊢
      have em1 := s1 _ _ em
      have ef1 := s1 _ _ ef
      have eb1 := s1 _ _ eb
      have hl1 := hl.kp (kp_same (cs := []) s1) mu_nil
      have mm1 : Mu H1 [m] := mu_cons em1 (fun _ z => nomatch z) (fun _ z => nomatch z) mu_nil
      have nmo : m ≠ o := ne_of_none em no
      -- the part that is common to a rebuild that begins and one that runs
      have fin : ∀ (k0 : Nat) (H2 : Hp) (o2 : Addr) (ys : List V), g < b → e < b → b ≤ n → k0 ≤ b - g → workE g e b n r = stepE g b k0 → workR g e b n r = stepR g e b n k0 → Kp [m] H H2 → Fr H o2 → m ≠ o2 → H2 o2 = some (.lst ys) → JLog H2 ys (stepE g b k0) → H2 m = some (.dK (moK (.ref pf) (.ref pb) vl (.int ((b : Int) - (stepK g b k0 : Int))))) →
          (tSeq (tIfS (tTest (tOp rEq (tDGet (tVar 1) (tC (V.str "done"))) (tVar 5))) (tSeq (tAsg (tTup (tCons (tTup (tCons (tVar 5) (tCons (tOp (rIxT K) (tVar 3) (tC (V.int 1))) tNil))) (tCons (tDGet (tVar 1) (tC (V.str "later"))) (tCons (tTup (tCons (tC (V.int 0)) (tCons (tC (V.int 0)) tNil))) tNil)))) (gTup K 3 (gCons (gSub (tVar 1) (tC (V.str "front")) rSetD) (gCons (gSub (tVar 1) (tC (V.str "back")) rSetD) (gCons (gSub (tVar 1) (tC (V.str "later")) rSetD) gNil))))) (sDPut (tVar 1) (tC (V.str "done")) (tC V.non))) tNext) (tRet (tVar 4)))
            { nx := fun x H' => Q V.non H', rt := Q } [some (.int (1 : Nat)), some (.ref m), some (.ref pf), some (.ref pb), some (.ref o2), some (.int (g : Int))] H2 := by
        intro k0 H2 o2 ys hgb heb0 hbn hk0 hE hR k2 fo2 nmo2 eo2 jl em2
        rw [hE, hR] at q
        have mm0 : Mu H [m] := mm
        have mm2 : Mu H2 [m] := mu_cons em2 (fun _ z => nomatch z) (fun _ z => nomatch z) mu_nil
        have eb2 := kp_tup k2 mm0 eb
        have ef2 := kp_tup k2 mm0 ef
        have hl2 := hl.kp k2 mm0
        have hK : stepK g b k0 ≤ b - g := by
          unfold stepK
          split <;> omega
        refine ⟨_, rfl, m, _, rfl, DGet.k (k := .inr "done") em2, _, rfl, rfl, _, rfl, ?_⟩
        by_cases c0 : stepK g b k0 = b - g
        · have eR : stepR g e b n k0 = (b, n, none) := if_pos c0
          rw [eR] at q
          refine ifT (hT (by omega)) ?_
          refine ⟨_, rfl, _, rfl, pb, _, 1, _, rfl, rfl, sqtOf eb2, atI_nat (j := 1) rfl, le2, fun p1 n1 => ?_⟩
          have f1' := Fr.mk n1
          have emA := (same_newF (o := .tup [.int (g : Int), .int (b1 : Int)]) f1') _ _ em2
          refine ⟨_, rfl, m, vl, rfl, DGet.k (k := .inr "later") emA, le2, fun p2 n2 => ⟨(by decide : 3 ≤ sizeLine), fun t nt => ?_⟩⟩
          have f2' := Fr.mk n2
          have ft := Fr.mk nt
          have emB := (same_newF (o := .tup [.ref p1, vl, .ref p2]) ft) _ _ ((same_newF (o := .tup [.int 0, .int 0]) f2') _ _ emA)
          have eA : upd (upd (upd H2 p1 (.tup [.int (g : Int), .int (b1 : Int)])) p2 (.tup [.int 0, .int 0])) t (.tup [.ref p1, vl, .ref p2]) p1 = some (.tup [.int (g : Int), .int (b1 : Int)]) := atNew ft (atNew f2' upd_same)
          have eB : upd (upd (upd H2 p1 (.tup [.int (g : Int), .int (b1 : Int)])) p2 (.tup [.int 0, .int 0])) t (.tup [.ref p1, vl, .ref p2]) p2 = some (.tup [.int 0, .int 0]) := atNew ft upd_same
          have eC : upd (upd (upd H2 p1 (.tup [.int (g : Int), .int (b1 : Int)])) p2 (.tup [.int 0, .int 0])) t (.tup [.ref p1, vl, .ref p2]) t = some (.tup [.ref p1, vl, .ref p2]) := upd_same
          have s23 : Same H2 (upd (upd (upd H2 p1 (.tup [.int (g : Int), .int (b1 : Int)])) p2 (.tup [.int 0, .int 0])) t (.tup [.ref p1, vl, .ref p2])) := ((same_newF f1').trans (same_newF f2')).trans (same_newF ft)
          generalize upd (upd (upd H2 p1 (.tup [.int (g : Int), .int (b1 : Int)])) p2 (.tup [.int 0, .int 0])) t (.tup [.ref p1, vl, .ref p2]) = H3 at emB eA eB eC s23 ⊢
          refine ⟨t, _, rfl, sqtOf eC, rfl, _, _, rfl, _, rfl, m, _, rfl, DPut.k (k := .inr "front") emB lmo, _, _, rfl, _, rfl, m, _, rfl, DPut.k (k := .inr "back") upd_same lmo, _, _, rfl, _, rfl, m, _, rfl, DPut.k (k := .inr "later") upd_same lmo, rfl, ?_⟩
          refine ⟨_, rfl, m, _, rfl, DPut.k (k := .inr "done") upd_same lmo, ?_⟩
          have k3 : ∀ o1 o2 o3 o4 : HO, Kp [m] H3 (upd (upd (upd (upd H3 m o1) m o2) m o3) m o4) := fun _ _ _ _ => kp_up memA (kp_up memA (kp_up memA (kp_up memA (kp_refl _ _))))
          have m3 : Mu H3 [m] := mu_cons emB (fun _ z => nomatch z) (fun _ z => nomatch z) mu_nil
          have no2m : o2 ∉ [m] := not_cons (Ne.symm nmo2) not_nil
          refine ⟨_, rfl, q o2 ys _ (kp_trans k2 (kp_trans (kp_same s23) (k3 _ _ _ _))) fo2 ((k3 _ _ _ _).at_ _ _ (s23 _ _ eo2) no2m) ((jl.kp (kp_same (cs := []) s23) mu_nil).kp (k3 _ _ _ _) m3) ⟨_, _, _, upd_same, ?_, ?_, ?_⟩⟩
          · refine ⟨p1, g, b1, rfl, kp_tup (k3 _ _ _ _) m3 eA, .inl ⟨hgb, rfl, ?_⟩⟩
            rcases hb with ⟨_, _, z⟩ | ⟨z1, z2⟩
            · exact z
            · omega
          · exact (hl2.kp (kp_same (cs := []) s23) mu_nil).kp (k3 _ _ _ _) m3
          · exact ⟨p2, 0, 0, rfl, kp_tup (k3 _ _ _ _) m3 eB, .inr ⟨rfl, rfl⟩⟩
        · have eR : stepR g e b n k0 = (e, b, some (stepK g b k0)) := if_neg c0
          rw [eR] at q
          refine ifF (hF (by omega)) ?_
          refine ⟨_, rfl, q o2 ys H2 k2 fo2 eo2 jl ⟨_, _, _, em2, ⟨pf, f0, f1, rfl, ef2, hf⟩, ⟨pb, b0, b1, rfl, eb2, hb⟩, hl2⟩⟩
      have heb : e < b → b0 = e ∧ b1 = b := fun z => by
        rcases hb with ⟨_, h1, h2⟩ | ⟨h1, _⟩
        · exact ⟨h1, h2⟩
        · omega
      have hD : (b1 : Int) - (b0 : Int) = (b : Int) - (e : Int) := by
        rcases hb with ⟨_, h1, h2⟩ | ⟨h1, h2⟩ <;> omega
      have hDf : (f1 : Int) - (f0 : Int) = (e : Int) - (g : Int) := by
        rcases hf with ⟨_, h1, h2⟩ | ⟨h1, h2⟩ <;> omega
      -- the oldest number
      have old : g ≤ e → e < b → ∀ (o2 : Addr) (H2 : Hp) (QQ : VK), H2 pf = some (.tup [.int (f0 : Int), .int (f1 : Int)]) → H2 pb = some (.tup [.int (b0 : Int), .int (b1 : Int)]) → QQ (.int (g : Int)) H2 →
          tIf (tTest (tOp (rI0 fun i j => V.bl (decide (i < j))) (tOp (rIxT K) (tVar 2) (tC (V.int 0))) (tOp (rIxT K) (tVar 2) (tC (V.int 1))))) (tOp (rIxT K) (tVar 2) (tC (V.int 0))) (tOp (rIxT K) (tVar 3) (tC (V.int 0))) [some (.int (1 : Nat)), some (.ref m), some (.ref pf), some (.ref pb), some (.ref o2), none] H2 QQ := by
        intro hge heb' o2 H2 QQ hpf hpb qq
        refine ⟨_, rfl, pf, _, 0, _, rfl, rfl, sqtOf hpf, atI_nat (j := 0) rfl, _, rfl, pf, _, 1, _, rfl, rfl, sqtOf hpf, atI_nat (j := 1) rfl, _, _, rfl, rfl, _, rfl, ?_⟩
        rcases hf with ⟨h0, h1, h2⟩ | ⟨h1, h2⟩
        · refine ifT (decide_eq_true (by omega)) ⟨_, rfl, pf, _, 0, _, rfl, rfl, sqtOf hpf, atI_nat (j := 0) rfl, ?_⟩
          rw [h1]
          exact qq
        · refine ifF (decide_eq_false (by omega)) ⟨_, rfl, pb, _, 0, _, rfl, rfl, sqtOf hpb, atI_nat (j := 0) rfl, ?_⟩
          rw [(heb heb').1, ← h1]
          exact qq
      match r, pre, em, em1 with
      | none, ⟨p1, p2, p3, p4⟩, em, em1 =>
        refine ⟨_, rfl, m, _, rfl, DGet.k (k := .inr "done") em1, rfl, _, rfl, ifT (decide_eq_true rfl) ?_⟩
        refine ⟨_, rfl, pb, _, 1, _, rfl, rfl, sqtOf eb1, atI_nat (j := 1) rfl, _, rfl, pb, _, 0, _, rfl, rfl, sqtOf eb1, atI_nat (j := 0) rfl, _, _, rfl, rfl, _, rfl, pf, _, 1, _, rfl, rfl, sqtOf ef1, atI_nat (j := 1) rfl, _, rfl, pf, _, 0, _, rfl, rfl, sqtOf ef1, atI_nat (j := 0) rfl, _, _, rfl, rfl, _, _, rfl, rfl, _, rfl, ?_⟩
        by_cases c0 : e - g < n - e
        · refine ifF (decide_eq_false (by omega)) ?_
          refine old p1 (by omega) o H1 _ ef1 eb1 ?_
          have hE : workE g e b n none = stepE g b 0 := if_pos c0
          have hR : workR g e b n none = stepR g e b n 0 := if_pos c0
          have hS : stepE g b 0 = [] := by
            unfold stepE deepE
            rw [if_pos (by omega), if_pos rfl]
          have hK : stepK g b 0 = 1 := if_pos (by omega)
          refine ⟨fun σ H2 => σ = [some (.int (1 : Nat)), some (.ref m), some (.ref pf), some (.ref pb), some (.ref o), some (.int (g : Int))] ∧ Kp [m] H H2 ∧ H2 o = some (.lst []) ∧ H2 m = some (.dK (moK (.ref pf) (.ref pb) vl (.int ((b : Int) - (1 : Nat))))), ?_, ?_⟩
          · refine ⟨_, rfl, m, _, rfl, DGet.k (k := .inr "done") em1, rfl, _, rfl, ifT (decide_eq_true rfl) ?_⟩
            refine ⟨_, rfl, pb, _, 1, _, rfl, rfl, sqtOf eb1, atI_nat (j := 1) rfl, _, _, rfl, rfl, _, rfl, m, _, rfl, DPut.k (k := .inr "done") em1 lmo, ?_⟩
            have k2 : Kp [m] H1 (upd H1 m (.dK (putK (moK (.ref pf) (.ref pb) vl (doneV b none)) (.inr "done") (.int ((b1 : Int) - 1))))) := kp_up memA (kp_refl _ _)
            refine ⟨rfl, kp_trans (kp_same s1) k2, k2.at_ _ _ eo (not_cons (Ne.symm nmo) not_nil), ?_⟩
            rw [upd_same, (heb (by omega)).2]
            rfl
          · rintro σ H2 ⟨rfl, k2, eo2, em2⟩
            refine fin 0 H2 o [] (by omega) (by omega) (by omega) (Nat.zero_le _) hE hR k2 fo nmo eo2 ?_ ?_
            · rw [hS]
              exact ⟨rfl, fun q x e z => by cases q <;> cases z⟩
            · rw [hK]
              exact em2
        · refine ifT (decide_eq_true (by omega)) ?_
          have hE : workE g e b n none = [] := if_neg c0
          have hR : workR g e b n none = (e, b, none) := if_neg c0
          rw [hE, hR] at q
          refine ⟨Nat.zero_le _, fun o3 no3 => q o3 [] _ (kp_trans (kp_same s1) (kp_same (same_newF (Fr.mk no3)))) (Fr.mk (s1.free no3)) upd_same ⟨rfl, fun q x e z => by cases q <;> cases z⟩ ((hm.same s1).same (same_newF (Fr.mk no3)))⟩
      | some k, ⟨p1, p2, p3, p4, p5, p6, p7, p8⟩, em, em1 =>
        refine ⟨_, rfl, m, _, rfl, DGet.k (k := .inr "done") em1, rfl, _, rfl, ifF (decide_eq_false fun z => nomatch z) ?_⟩
        refine ifF rfl ?_
        refine old p1 (by omega) o H1 _ ef1 eb1 ?_
        refine ⟨fun σ H2 => ∃ (o2 : Addr) (ys : List V), σ = [some (.int (1 : Nat)), some (.ref m), some (.ref pf), some (.ref pb), some (.ref o2), some (.int (g : Int))] ∧ Kp [m] H H2 ∧ Fr H o2 ∧ m ≠ o2 ∧ H2 o2 = some (.lst ys) ∧ JLog H2 ys (stepE g b k) ∧ H2 m = some (.dK (moK (.ref pf) (.ref pb) vl (.int ((b : Int) - (stepK g b k : Int))))), ?_, ?_⟩
        · refine ⟨_, rfl, m, _, rfl, DGet.k (k := .inr "done") em1, rfl, _, rfl, ifF (decide_eq_false fun z => nomatch z) ?_⟩
          refine ⟨_, rfl, m, _, rfl, DGet.k (k := .inr "done") em1, _, rfl, _, _, rfl, rfl, _, rfl, ?_⟩
          by_cases lk : k < b - g
          · have hS : stepE g b k = [(b - 1 - k, b - k, b)] := by
              unfold stepE deepE
              rw [if_pos lk, if_neg (by omega)]
            have hK : stepK g b k = k + 1 := if_pos lk
            refine ifT (decide_eq_true (by omega)) ?_
            refine ⟨_, rfl, m, _, rfl, DGet.k (k := .inr "done") em1, _, _, rfl, rfl, _, rfl, m, _, rfl, DPut.k (k := .inr "done") em1 lmo, ?_⟩
            have k2 : Kp [m] H1 (upd H1 m (.dK (putK (moK (.ref pf) (.ref pb) vl (doneV b (some k))) (.inr "done") (.int ((b : Int) - (k : Int) - 1))))) := kp_up memA (kp_refl _ _)
            have em2 : upd H1 m (.dK (putK (moK (.ref pf) (.ref pb) vl (doneV b (some k))) (.inr "done") (.int ((b : Int) - (k : Int) - 1)))) m = some (.dK (moK (.ref pf) (.ref pb) vl (.int ((b : Int) - (k : Int) - 1)))) := by
              rw [upd_same]
              rfl
            have eb2 := kp_tup k2 mm1 eb1
            generalize upd H1 m (.dK (putK (moK (.ref pf) (.ref pb) vl (doneV b (some k))) (.inr "done") (.int ((b : Int) - (k : Int) - 1)))) = H2 at k2 em2 eb2 ⊢
            have mm2 : Mu H2 [m] := mu_cons em2 (fun _ z => nomatch z) (fun _ z => nomatch z) mu_nil
            have dg2 : DGet H2 m (.str "done") (some (.int ((b : Int) - (k : Int) - 1))) := DGet.k (k := .inr "done") em2
            refine ⟨_, rfl, m, _, rfl, dg2, _, rfl, m, _, rfl, dg2, _, _, rfl, rfl, le2, fun x1 n1 => ?_⟩
            have g1 := Fr.mk n1
            have em3 := (same_newF (o := .tup [.int ((b : Int) - (k : Int) - 1), .int ((b : Int) - (k : Int) - 1 + 1)]) g1) _ _ em2
            have eb3 := (same_newF (o := .tup [.int ((b : Int) - (k : Int) - 1), .int ((b : Int) - (k : Int) - 1 + 1)]) g1) _ _ eb2
            refine ⟨_, rfl, m, _, rfl, DGet.k (k := .inr "done") em3, _, _, rfl, rfl, _, rfl, pb, _, 1, _, rfl, rfl, sqtOf eb3, atI_nat (j := 1) rfl, le2, fun x2 n2 => ⟨(by decide : 3 ≤ sizeLine), fun x3 n3 => ⟨(by decide : 1 ≤ sizeLine), fun o2 n4 => ?_⟩⟩⟩
            have g2 := Fr.mk n2
            have g3 := Fr.mk n3
            have g4 := Fr.mk n4
            have s24 := (((same_newF (o := .tup [.int ((b : Int) - (k : Int) - 1), .int ((b : Int) - (k : Int) - 1 + 1)]) g1).trans (same_newF (o := .tup [.int ((b : Int) - (k : Int) - 1 + 1), .int (b1 : Int)]) g2)).trans (same_newF (o := .tup [.str "join", .ref x1, .ref x2]) g3)).trans (same_newF (o := .lst [.ref x3]) g4)
            have k12 : Kp [m] H H2 := kp_trans (kp_same s1) k2
            have f4 : Fr H2 o2 := Fr.mk (by
              have := (((same_newF (o := .tup [.int ((b : Int) - (k : Int) - 1), .int ((b : Int) - (k : Int) - 1 + 1)]) g1).trans (same_newF (o := .tup [.int ((b : Int) - (k : Int) - 1 + 1), .int (b1 : Int)]) g2)).trans (same_newF (o := .tup [.str "join", .ref x1, .ref x2]) g3))
              exact this.free n4)
            refine ⟨o2, [.ref x3], rfl, kp_trans k12 (kp_same s24), fr_kp k12 mm2 f4, ne_of_none em2 f4.h, upd_same, ?_, ?_⟩
            · rw [hS]
              refine ⟨rfl, fun q x e z y => ?_⟩
              match q, z, y with
              | 0, z, y =>
                cases z
                cases y
                have i1 : ((b : Int) - (k : Int) - 1) = ((b - 1 - k : Nat) : Int) := by omega
                have i2 : ((b : Int) - (k : Int) - 1 + 1) = ((b - k : Nat) : Int) := by omega
                have i3 : (b1 : Int) = (b : Int) := by rw [(heb (by omega)).2]
                refine ⟨x3, x1, x2, rfl, atNew g4 upd_same, ?_, ?_⟩
                · exact (atNew g4 (atNew g3 (atNew g2 upd_same))).trans (by show some (HO.tup [V.int ((b : Int) - (k : Int) - 1), V.int ((b : Int) - (k : Int) - 1 + 1)]) = _; rw [i2, i1])
                · exact (atNew g4 (atNew g3 upd_same)).trans (by show some (HO.tup [V.int ((b : Int) - (k : Int) - 1 + 1), V.int (b1 : Int)]) = _; rw [i2, i3])
              | q + 1, z, _ => cases q <;> cases z
            · rw [hK, s24 _ _ em2, show ((b : Int) - ((k + 1 : Nat) : Int)) = (b : Int) - (k : Int) - 1 by omega]
          · have hS : stepE g b k = [] := if_neg lk
            have hK : stepK g b k = k := if_neg lk
            refine ifF (decide_eq_false (by omega)) ?_
            refine ⟨o, [], rfl, kp_same s1, fo, nmo, eo, ?_, ?_⟩
            · rw [hS]
              exact ⟨rfl, fun q x e z => by cases q <;> cases z⟩
            · rw [hK]
              exact em1
        · rintro σ H2 ⟨o2, ys, rfl, k2, fo2, nmo2, eo2, jl, em2⟩
          exact fin k H2 o2 ys (by omega) p2 p3 p5 rfl rfl k2 fo2 nmo2 eo2 jl em2
end
end Ob

set_option Elab.async false
set_option linter.all false
set_option maxRecDepth 100000
set_option maxHeartbeats 1000000
namespace Ob
open PySem PySem.Spec PyProof.Rows L2
open LamX (Tabs TabB TabS ExtN)

set_option hygiene false in
local macro_rules
  | `(tactic| kp_flats) => `(tactic| first
    | assumption
    | exact upd_same
    | (apply atNew; assumption; kp_flats)
    | (apply atNe; (next => kbo_bools); kp_flats)
    | (apply atSame; assumption; kp_flats)
    | (apply atKp; assumption; (next => kaf_pre); kp_flats))
set_option hygiene false in
local macro_rules
  | `(tactic| kaf_pre) => `(tactic| first
    | assumption
    | exact not_nil
    | (apply not_cons; (next => kbo_bools); kaf_pre)
    | (apply not_app; (next => kaf_pre); kaf_pre))
set_option hygiene false in
local macro_rules
  | `(tactic| kbo_bools) => `(tactic| first
    | assumption
    | (apply Ne.symm; assumption)
    | (apply neN; assumption; kp_flats)
    | (apply neN'; assumption; kp_flats))
set_option hygiene false in
local macro_rules
  | `(tactic| o_reads) => `(tactic| first
    | with_reducible rfl
    | assumption
    | rfl
    | kp_flats
    | (show SqL _ _ _ _; first | assumption | (apply sqlOf; kp_flats) | (apply sqlSame; assumption; o_reads))
    | (show SqT _ _ _ _; first | assumption | (apply sqtOf; kp_flats) | (apply sqtAll; assumption) | (apply sqtSame; assumption; o_reads))
    | (show Cls _ _; first | exact T.cl_Calls | exact T.cl_Joiner | exact T.cl_Planner | exact T.cl_EvenSums | exact T.cl_Shape | exact T.cl_TwoStacks)
    | (show NoAttr _ _ _; first | exact T.n_Calls_entries | exact T.n_Calls_running | exact T.n_Joiner_calls | exact T.n_Joiner_join_call | exact T.n_Planner_entries | exact T.n_EvenSums_calls | exact T.n_EvenSums_joiner | exact T.n_EvenSums_zero | exact T.n_EvenSums_given | exact T.n_EvenSums_held | exact T.n_EvenSums_shape | exact T.n_Shape_front | exact T.n_Shape_back | exact T.n_Shape_late | exact T.n_Shape_renewed | exact T.n_TwoStacks_calls | exact T.n_TwoStacks_joiner | exact T.n_TwoStacks_zero | exact T.n_TwoStacks_given | exact T.n_TwoStacks_held | exact T.n_TwoStacks_front | exact T.n_TwoStacks_back)
    | (apply Or.inl; o_reads)
    | (apply Or.inr; o_reads)
    | (apply And.intro; (next => o_reads); o_reads)
    | (apply Exists.intro; o_reads)
    | exact Nat.le_of_ble_eq_true rfl
    | exact Nat.succ_ne_zero _
    | (show Fr _ _; kba_ints)
    | (show Same _ _; kd_subs)
    | (show Kp _ _ _; kxs_still)
    | (show (_ : Nat) ≤ _; simp only [List.length_append, List.length_map, List.length_cons, List.length_nil, List.length_take, List.length_drop, List.length_replicate, List.length_range, sizeLine_eq]; omega)
    | (show _ = none; apply Fr.h; kba_ints)
    | (show Bag _ _; first | assumption | (apply bag_putF; assumption; o_reads) | (apply bag_neF; (next => kbo_bools); o_reads) | (apply bag_kpR; assumption; (next => kaf_pre); o_reads))
    | omega
    | decide)
local macro_rules
  | `(tactic| o_readsAll) => `(tactic| repeat (first
    | (refine fun (pNew : Addr) (nNew : _ = none) => ?_; replace nNew := Fr.mk nNew)
    | (refine fun (xNew dNew : Addr) (nNew : _ = none) (mNew : _ = none) (eNew : dNew ≠ xNew) => ?_; replace nNew := Fr.mk nNew; replace mNew := Fr.mk mNew)
    | (apply And.intro; next => o_reads)
    | apply Exists.intro (α := V)
    | apply Exists.intro (α := Addr)
    | apply Exists.intro (α := Int)
    | apply Exists.intro (α := Bool)
    | apply Exists.intro (α := List V)
    | apply Exists.intro (α := List Nat)
    | apply Exists.intro (α := List (Str × V))
    | apply Exists.intro (α := List _)
    | apply Exists.intro (α := Str)
    | apply Exists.intro (α := HO)
    | apply Exists.intro (α := Sp)
    | apply Exists.intro (α := VK)))
set_option hygiene false in
local macro_rules
  | `(tactic| kba_ints) => `(tactic| first
    | assumption
    | (apply frUp; (first | assumption | (apply Ne.symm; assumption)); kba_ints)
    | (apply noneOf; assumption; intro oF eF; apply Exists.intro; kp_flats)
    | (apply frUp; (next => kbo_bools); kba_ints))
set_option hygiene false in
local macro_rules
  | `(tactic| kxs_still) => `(tactic| first
    | assumption
    | exact kp_refl _ _
    | (apply kp_newF; assumption; kxs_still)
    | (apply kp_new; assumption; kxs_still)
    | (apply kp_up; (next => o_fieldsN); kxs_still)
    | (apply kp_new; (next => kba_ints); kxs_still)
    | (apply kp_sameR; assumption; kxs_still)
    | (apply kp_transR; assumption; kxs_still)
    | (apply kp_freshR; assumption; (next => kaf_suf); kxs_still))
set_option hygiene false in
local macro_rules
  | `(tactic| kaf_suf) => `(tactic| first
    | assumption
    | exact subNil
    | (apply subCons; (first | (apply Or.inl; o_fieldsN) | (apply Or.inr; kba_ints)); kaf_suf)
    | (apply subApp; (next => kaf_suf); kaf_suf))
set_option hygiene false in
local macro_rules
  | `(tactic| o_fieldsN) => `(tactic| first
    | assumption
    | exact memA
    | (apply memB; o_fieldsN)
    | (apply memL; o_fieldsN)
    | (apply memR; o_fieldsN))
set_option hygiene false in
local macro_rules
  | `(tactic| kd_subs) => `(tactic| first
    | assumption
    | exact Same.refl _
    | (apply same_putF; assumption; kd_subs)
    | (apply same_putG; assumption; kd_subs)
    | (apply same_putF; (next => kba_ints); kd_subs)
    | (apply same_transR; assumption; kd_subs))

set_option pp.maxSteps 900
theorem JLog.app {H : Hp} {xs ys : List V} {es fs : List (Nat × Nat × Nat)} (h : JLog H xs es) (g : JLog H ys fs) : JLog H (xs ++ ys) (es ++ fs) := by
  refine ⟨by rw [List.length_append, List.length_append, h.len, g.len], fun q x e a b => ?_⟩
  by_cases c : q < xs.length
  · rw [List.getElem?_append_left c] at a
    rw [List.getElem?_append_left (by rw [← h.len]; exact c)] at b
    exact h.at_ q x e a b
  · rw [List.getElem?_append_right (by omega)] at a
    rw [List.getElem?_append_right (by rw [← h.len]; omega), ← h.len] at b
    exact g.at_ _ x e a b
theorem JLog.nil {H : Hp} : JLog H [] [] := ⟨rfl, fun q x e z => by cases q <;> cases z⟩
theorem JLog.one {H : Hp} {x : V} {e : Nat × Nat × Nat} (h : JEnt H x e) : JLog H [x] [e] := ⟨rfl, fun q y d a b => by
  match q, a, b with
  | 0, a, b =>
    cases a
    cases b
    exact h
  | q + 1, a, _ => cases q <;> cases a⟩
theorem lmo {x y z u : V} : (moK x y z u).length < sizeLine := by
  rw [sizeLine_eq]
  show 4 < 16777216
  decide
theorem addE1_len {e b n : Nat} {r : Option Nat} : (addE1 e b n r).length ≤ 1 := by
  match r with
  | none => exact extE_len
  | some k => exact extE_len
theorem workE_le {g e b n : Nat} {r : Option Nat} : (workE g e b n r).length ≤ 1 := workE_len
section
variable {P : Program} {w : World} {K : PySem.W.Frag} {mg : Str → Option Value} {base : Heap} {n : Nat}
def spMAdd : Sp := fun vs H Q _ => ∃ (fm : Nat) (m : Addr) (g e b n : Nat) (r : Option Nat), vs = [.int (fm : Int), .ref m, .int (n : Int)] ∧ MoAt H m g e b n r ∧ n < 50000 ∧
  ((fm = 0 ∧ r = none ∧ b = n ∧ e ≤ n ∧ ∀ o xs H', Kp [m] H H' → Fr H o → H' o = some (.lst xs) → JLog H' xs (extE e n) → MoAt H' m g e (n + 1) (n + 1) none → Q (.ref o) H') ∨
   (fm = 1 ∧ ShOk g e b n r ∧ ∀ o xs H', Kp [m] H H' → Fr H o → H' o = some (.lst xs) → JLog H' xs (addE g e b n r) → MoAt H' m g (addR g e b n r).1 (addR g e b n r).2.1 (n + 1) (addR g e b n r).2.2 → Q (.ref o) H'))
theorem ok_madd (T : Txt K mg) : FnOk P w K mg base CX0 2 T.f_l_added T.d_l_added ["_law_form", "_law_model", "_law_number"] spMAdd := by
  have G_l_stepped := ok_step (P := P) (w := w) (base := base) T
  refine T.F_l_added.ok sc_l_added (fun vs H Q E h => ?_) (fun cdv A outer s H vs Q E hr h => ?_)
  · obtain ⟨fm, m, g, e, b, n, r, rfl, _⟩ := h
    rfl
  · obtain ⟨fm, m, g, e, b, n, r, rfl, hm, hn, hq⟩ := h
    refine ⟨_, (pss_cons (ps_set (i := 3) sc_l_added.nd rfl (.inl rfl) (pe_ifExp (PW.pt (pw_and (pt_cmpR op_eq (pv 0) pe_int (nomark _)) (pw_and1 (pt_cmpR op_notN (pe_dget (hu_of hr) (pv 1) pe_str (fun _ _ => rfl)) pe_non (nomark _))))) pe_str pe_str))
      (pss_cons (ps_asg (pe_dget (hu_of hr) (pv 1) (pv 3) (fun _ _ => rfl)) (pg_tup (by rfl) (pgs_cons (pg_name (i := 4) sc_l_added.nd rfl (.inl rfl)) (pgs_cons (pg_name (i := 5) sc_l_added.nd rfl (.inl rfl)) pgs_nil))))
      (pss_cons (ps_set (i := 6) sc_l_added.nd rfl (.inl rfl) (pe_lst pa_nil))
      (C8.pss_cut (ps_if (pt_cmpR op_eq (pv 4) (pv 5) (nomark _)) (pss_one (ps_dput (hu_of hr) (pv 1) (pv 3) (pe_tup (pa_cons (pv 2) (pa_cons (pe_op op_add (pv 2) pe_int) pa_nil))) rfl)) (pss_cons (ps_dput (hu_of hr) (pv 1) (pv 3) (pe_tup (pa_cons (pv 4) (pa_cons (pe_op op_add (pv 2) pe_int) pa_nil))) rfl)
        (pss_one (ps_set (i := 6) sc_l_added.nd rfl (.inl rfl) (pe_lst (pa_cons (pe_tup (pa_cons pe_str (pa_cons (pe_tup (pa_cons (pv 4) (pa_cons (pv 2) pa_nil))) (pa_cons (pe_tup (pa_cons (pv 2) (pa_cons (pe_op op_add (pv 2) pe_int) pa_nil))) pa_nil)))) pa_nil))))))
      (pss_one (ps_ret (pe_op op_cat (pv 6) (pe_call G_l_stepped (hr.mono (by omega)) rfl T.g_l_stepped T.F_l_stepped.kp T.b_l_stepped .nil pass0 (pa_cons (pv 0) (pa_cons (pv 1) pa_nil)))))))))), ?_⟩
    have hT : ∀ {a b : Int}, a = b → decide (V.int a = V.int b) = true := fun e => decide_eq_true (congrArg V.int e)
    have hF : ∀ {a b : Int}, a ≠ b → decide (V.int a = V.int b) = false := fun e => decide_eq_false fun z => e (by injection z)
    obtain ⟨vf, vb, vl, em, hf, hb, hl⟩ := hm.ex
    have mm : Mu H [m] := mu_cons em (fun _ z => nomatch z) (fun _ z => nomatch z) mu_nil
    have hcase : (r = none ∧ b = n ∧ e ≤ n) ∨ ∃ k, r = some k ∧ fm = 1 ∧ b ≤ n := by
      rcases hq with ⟨h1, h2, h3, h4, _⟩ | ⟨h1, ok, _⟩
      · exact .inl ⟨h2, h3, h4⟩
      · match r, ok with
        | none, ⟨h1, h2, h3, h4⟩ => exact .inl ⟨rfl, h3, by omega⟩
        | some k, ⟨h1, h2, h3, _⟩ => exact .inr ⟨k, rfl, by omega, h3⟩
    have hfm : fm = 0 ∨ fm = 1 := hq.imp (fun z => z.1) fun z => z.1
    -- the second half
    have fin : ∀ (H2 : Hp) (o : Addr) (ys : List V) (sp fv lv : V), Kp [m] H H2 → Fr H o → m ≠ o → H2 o = some (.lst ys) → JLog H2 ys (addE1 e b n r) → MoAt H2 m g e (addB b n r) (n + 1) r →
        tRet (tOp rCat (tVar 6) (tCall spStep [] E0 (tCons (tVar 0) (tCons (tVar 1) tNil)))) { nx := fun x H' => Q V.non H', rt := Q } [some (.int (fm : Int)), some (.ref m), some (.int (n : Int)), some sp, some fv, some lv, some (.ref o)] H2 := by
      intro H2 o ys sp fv lv k2 fo nmo eo jl hm2
      have hm2' : Mu H2 [m] := by
        obtain ⟨_, _, _, z, _⟩ := hm2.ex
        exact mu_cons z (fun _ z => nomatch z) (fun _ z => nomatch z) mu_nil
      have l1 := addE1_len (e := e) (b := b) (n := n) (r := r)
      have lys := jl.len
      refine ⟨_, rfl, _, rfl, _, rfl, fm, m, g, e, addB b n r, n + 1, r, rfl, hm2, ?_⟩
      rcases hq with ⟨h1, h2, h3, h4, q⟩ | ⟨h1, ok, q⟩
      · refine .inl ⟨h1, fun o2 H3 s3 fo2 eo2 => ⟨o, o2, _, _, rfl, rfl, s3 _ _ eo, eo2, by rw [lys, sizeLine_eq]; show _ + 0 ≤ _; omega, fun o3 no3 => ?_⟩⟩
        have f3 := Fr.mk no3
        have s4 := s3.trans (same_newF (o := .lst (ys ++ [])) f3)
        have hm4 := hm2.same s4
        have jl4 := jl.kp (kp_same (cs := []) s4) mu_nil
        rw [h2] at jl4 hm4
        rw [List.append_nil] at jl4 hm4 ⊢
        exact q o3 ys _ (kp_trans k2 (by have := kp_same (cs := [m]) s4; rw [List.append_nil] at this; exact this)) (fr_kp k2 hm2' (Fr.mk (s3.free no3))) upd_same jl4 hm4
      · refine .inr ⟨h1, add_pre ok, by omega, fun o2 xs2 H3 k3 fo2 eo2 jl2 hm3 => ⟨o, o2, _, _, rfl, rfl, k3.at_ _ _ eo (not_cons (Ne.symm nmo) not_nil), eo2, ?_, fun o3 no3 => ?_⟩⟩
        · have l2 := jl2.len
          have l3 := workE_len (g := g) (e := e) (b := addB b n r) (n := n + 1) (r := r)
          rw [lys, l2, sizeLine_eq]
          omega
        · have f3 := Fr.mk no3
          have s4 := same_newF (o := .lst (ys ++ xs2)) f3
          have hm3' : Mu H3 [m] := by
            obtain ⟨_, _, _, z, _⟩ := hm3.ex
            exact mu_cons z (fun _ z => nomatch z) (fun _ z => nomatch z) mu_nil
          have k23 := kp_trans k2 k3
          exact q o3 (ys ++ xs2) _ (kp_trans k23 (kp_same s4)) (fr_kp k23 hm3' f3) upd_same (((jl.kp k3 hm2').app jl2).kp (kp_same (cs := []) s4) mu_nil) (hm3.same s4)
    rcases hcase with ⟨rfl, rfl, hen⟩ | ⟨k, rfl, rfl, hbn⟩
    · obtain ⟨pb, b0, b1, rfl, eb, hb⟩ := hb
      have hpos : tIf (tAnd (tTest (tOp rEq (tVar 0) (tC (V.int 1)))) (tTest (tOp (fun x y H Q => y = V.non ∧ Q (V.bl (!decide (x = V.non))) H) (tDGet (tVar 1) (tC (V.str "done"))) (tC V.non)))) (tC (V.str "later")) (tC (V.str "back")) = tIf (tAnd (tTest (tOp rEq (tVar 0) (tC (V.int 1)))) (tTest (tOp (fun x y H Q => y = V.non ∧ Q (V.bl (!decide (x = V.non))) H) (tDGet (tVar 1) (tC (V.str "done"))) (tC V.non)))) (tC (V.str "later")) (tC (V.str "back")) := rfl
      have spot : ∀ (QQ : VK) (σ : L2.St), σ[0]? = some (some (.int (fm : Int))) → σ[1]? = some (some (.ref m)) → QQ (.str "back") H → tIf (tAnd (tTest (tOp rEq (tVar 0) (tC (V.int 1)))) (tTest (tOp (fun x y H Q => y = V.non ∧ Q (V.bl (!decide (x = V.non))) H) (tDGet (tVar 1) (tC (V.str "done"))) (tC V.non)))) (tC (V.str "later")) (tC (V.str "back")) σ H QQ := by
        intro QQ σ h0 h1 qq
        rcases hfm with z | z
        · exact ⟨_, h0, rfl, _, rfl, ifF (hF (by omega)) (ifF rfl qq)⟩
        · exact ⟨_, h0, rfl, _, rfl, ifT (hT (by omega)) ⟨_, h1, m, _, rfl, DGet.k (k := .inr "done") em, rfl, _, rfl, ifF (by rw [decide_eq_true (show doneV b none = V.non from rfl)]; rfl) qq⟩⟩
      refine spot _ _ rfl rfl ?_
      refine ⟨_, rfl, _, rfl, m, _, rfl, DGet.k (k := .inr "back") em, pb, _, rfl, sqtOf eb, rfl, _, _, rfl, _, _, rfl, rfl, Nat.zero_le _, fun o no => ?_⟩
      have lat : ∀ Hx : Hp, Kp [m] H Hx → Rg Hx vl (b + 1) (b + 1) := fun Hx kx => by
        obtain ⟨p, a, c, h1, h2, h3⟩ := hl
        refine ⟨p, a, c, h1, kp_tup kx mm h2, .inr ⟨rfl, ?_⟩⟩
        rcases h3 with ⟨z, _⟩ | ⟨_, z⟩
        · omega
        · exact z
      have fo := Fr.mk no
      have s1 : Same H (upd H o (.lst [])) := same_newF fo
      have eo : upd H o (.lst []) o = some (.lst []) := upd_same
      have nmo : m ≠ o := ne_of_none em no
      have em1 := s1 _ _ em
      generalize upd H o (.lst []) = H1 at s1 eo em1 ⊢
      have mm1 : Mu H1 [m] := mu_cons em1 (fun _ z => nomatch z) (fun _ z => nomatch z) mu_nil
      refine ⟨fun σ H2 => ∃ (o2 : Addr) (ys : List V), σ = [some (.int (fm : Int)), some (.ref m), some (.int (b : Int)), some (.str "back"), some (.int (b0 : Int)), some (.int (b1 : Int)), some (.ref o2)] ∧ Kp [m] H H2 ∧ Fr H o2 ∧ m ≠ o2 ∧ H2 o2 = some (.lst ys) ∧ JLog H2 ys (addE1 e b b none) ∧ MoAt H2 m g e (addB b b none) (b + 1) none, ?_, ?_⟩
      · refine ⟨_, rfl, _, rfl, rfl, _, rfl, ?_⟩
        have hE : addE1 e b b none = extE e b := rfl
        have rgn : ∀ (Hx : Hp) (p1 : Addr) (a : Nat), a = e → Hx p1 = some (.tup [.int (a : Int), .int ((b + 1 : Nat) : Int)]) → e ≤ b → Rg Hx (.ref p1) e (b + 1) := fun Hx p1 a ea hp li => ⟨p1, a, b + 1, rfl, hp, .inl ⟨by omega, ea, rfl⟩⟩
        by_cases c0 : b0 = b1
        · have ei : e = b := by
            rcases hb with ⟨h1, h2, h3⟩ | ⟨h1, _⟩
            · omega
            · exact h1
          refine ifT (hT (by omega)) ?_
          refine ⟨_, rfl, _, rfl, _, _, rfl, rfl, le2, fun p1 n1 => ?_⟩
          have g1 := Fr.mk n1
          have s2 : Same H1 (upd H1 p1 (.tup [.int (b : Int), .int ((b : Int) + 1)])) := same_newF g1
          have ep : upd H1 p1 (.tup [.int (b : Int), .int ((b : Int) + 1)]) p1 = some (.tup [.int (b : Int), .int ((b + 1 : Nat) : Int)]) := by
            rw [upd_same]
            rfl
          generalize upd H1 p1 (.tup [.int (b : Int), .int ((b : Int) + 1)]) = H2 at s2 ep ⊢
          have em2 := s2 _ _ em1
          have mm2 : Mu H2 [m] := mu_cons em2 (fun _ z => nomatch z) (fun _ z => nomatch z) mu_nil
          refine ⟨_, rfl, _, rfl, m, _, rfl, DPut.k (k := .inr "back") em2 lmo, ?_⟩
          have k3 : ∀ z : HO, Kp [m] H2 (upd H2 m z) := fun _ => kp_up memA (kp_refl _ _)
          have k03 : ∀ z : HO, Kp [m] H (upd H2 m z) := fun z => kp_trans (kp_same (s1.trans s2)) (k3 z)
          refine ⟨o, [], rfl, k03 _, fo, nmo, (k3 _).at_ _ _ (s2 _ _ eo) (not_cons (Ne.symm nmo) not_nil), ?_, ⟨_, _, _, upd_same, (hf.kp (kp_same (cs := []) (s1.trans s2)) mu_nil).kp (k3 _) mm2, rgn _ p1 _ ei.symm (kp_tup (k3 _) mm2 ep) hen, lat _ (kp_trans (kp_same (s1.trans s2)) (k3 _))⟩⟩
          rw [hE]
          unfold extE
          rw [if_pos ei]
          exact JLog.nil
        · have ei : e < b ∧ b0 = e := by
            rcases hb with ⟨h1, h2, h3⟩ | ⟨_, h1⟩
            · exact ⟨h1, h2⟩
            · exact absurd h1 c0
          refine ifF (hF (by omega)) ?_
          refine ⟨_, rfl, _, rfl, _, _, rfl, rfl, le2, fun p1 n1 => ?_⟩
          have g1 := Fr.mk n1
          have s2 : Same H1 (upd H1 p1 (.tup [.int (b0 : Int), .int ((b : Int) + 1)])) := same_newF g1
          have ep : upd H1 p1 (.tup [.int (b0 : Int), .int ((b : Int) + 1)]) p1 = some (.tup [.int (b0 : Int), .int ((b + 1 : Nat) : Int)]) := by
            rw [upd_same]
            rfl
          generalize upd H1 p1 (.tup [.int (b0 : Int), .int ((b : Int) + 1)]) = H2 at s2 ep ⊢
          have em2 := s2 _ _ em1
          have mm2 : Mu H2 [m] := mu_cons em2 (fun _ z => nomatch z) (fun _ z => nomatch z) mu_nil
          refine ⟨_, rfl, _, rfl, m, _, rfl, DPut.k (k := .inr "back") em2 lmo, ?_⟩
          have k3 : ∀ z : HO, Kp [m] H2 (upd H2 m z) := fun _ => kp_up memA (kp_refl _ _)
          have k03 : ∀ z : HO, Kp [m] H (upd H2 m z) := fun z => kp_trans (kp_same (s1.trans s2)) (k3 z)
          have hmo : MoAt _ m g e (addB b b none) (b + 1) none := ⟨_, _, _, upd_same, (hf.kp (kp_same (cs := []) (s1.trans s2)) mu_nil).kp (k3 _) mm2, rgn _ p1 _ ei.2 (kp_tup (k3 _) mm2 ep) hen, lat _ (kp_trans (kp_same (s1.trans s2)) (k3 _))⟩
          refine ⟨_, rfl, _, rfl, le2, fun x1 n2 => ⟨_, rfl, _, rfl, _, _, rfl, rfl, le2, fun x2 n3 => ⟨(by decide : 3 ≤ sizeLine), fun x3 n4 => ⟨(by decide : 1 ≤ sizeLine), fun o2 n5 => ?_⟩⟩⟩⟩
          have g2 := Fr.mk n2
          have g3 := Fr.mk n3
          have g4 := Fr.mk n4
          have g5 := Fr.mk n5
          have sA := ((same_newF (o := .tup [.int (b0 : Int), .int (b : Int)]) g2).trans (same_newF (o := .tup [.int (b : Int), .int ((b : Int) + 1)]) g3)).trans (same_newF (o := .tup [.str "join", .ref x1, .ref x2]) g4)
          have sB := sA.trans (same_newF (o := .lst [.ref x3]) g5)
          have mmU : ∀ z : List (Key × V), Mu (upd H2 m (.dK z)) [m] := fun z => mu_cons upd_same (fun _ z => nomatch z) (fun _ z => nomatch z) mu_nil
          have f5 : Fr H o2 := fr_kp (k03 _) (mmU _) (Fr.mk (sA.free n5))
          refine ⟨o2, [.ref x3], rfl, kp_trans (k03 _) (kp_same sB), f5, ne_of_none em f5.h, upd_same, ?_, hmo.same sB⟩
          rw [hE]
          unfold extE
          rw [if_neg (by omega)]
          refine JLog.one ⟨x3, x1, x2, rfl, atNew g5 upd_same, ?_, ?_⟩
          · refine (atNew g5 (atNew g4 (atNew g3 upd_same))).trans ?_
            have eb0 : (b0 : Int) = _ := congrArg (fun z : Nat => (z : Int)) ei.2
            rw [eb0]
          · exact atNew g5 (atNew g4 upd_same)
      · rintro σ H2 ⟨o2, ys, rfl, k2, fo2, nmo2, eo2, jl2, hm2⟩
        exact fin H2 o2 ys _ _ _ k2 fo2 nmo2 eo2 jl2 hm2
    · have hb' := hb
      clear hb
      obtain ⟨pb, b0, b1, rfl, eb, hb⟩ := hl
      refine ⟨_, rfl, rfl, _, rfl, ifT (hT rfl) ⟨_, rfl, m, _, rfl, DGet.k (k := .inr "done") em, rfl, _, rfl, ifT (by rw [decide_eq_false (show ¬ doneV b (some k) = V.non from fun z => nomatch z)]; rfl) ?_⟩⟩
      refine ⟨_, rfl, _, rfl, m, _, rfl, DGet.k (k := .inr "later") em, pb, _, rfl, sqtOf eb, rfl, _, _, rfl, _, _, rfl, rfl, Nat.zero_le _, fun o no => ?_⟩
      have fo := Fr.mk no
      have s1 : Same H (upd H o (.lst [])) := same_newF fo
      have eo : upd H o (.lst []) o = some (.lst []) := upd_same
      have nmo : m ≠ o := ne_of_none em no
      have em1 := s1 _ _ em
      generalize upd H o (.lst []) = H1 at s1 eo em1 ⊢
      have mm1 : Mu H1 [m] := mu_cons em1 (fun _ z => nomatch z) (fun _ z => nomatch z) mu_nil
      refine ⟨fun σ H2 => ∃ (o2 : Addr) (ys : List V), σ = [some (.int ((1 : Nat) : Int)), some (.ref m), some (.int (n : Int)), some (.str "later"), some (.int (b0 : Int)), some (.int (b1 : Int)), some (.ref o2)] ∧ Kp [m] H H2 ∧ Fr H o2 ∧ m ≠ o2 ∧ H2 o2 = some (.lst ys) ∧ JLog H2 ys (addE1 e b n (some k)) ∧ MoAt H2 m g e (addB b n (some k)) (n + 1) (some k), ?_, ?_⟩
      · refine ⟨_, rfl, _, rfl, rfl, _, rfl, ?_⟩
        have hE : addE1 e b n (some k) = extE b n := rfl
        have rgn : ∀ (Hx : Hp) (p1 : Addr) (a : Nat), a = b → Hx p1 = some (.tup [.int (a : Int), .int ((n + 1 : Nat) : Int)]) → b ≤ n → Rg Hx (.ref p1) b (n + 1) := fun Hx p1 a ea hp li => ⟨p1, a, n + 1, rfl, hp, .inl ⟨by omega, ea, rfl⟩⟩
        by_cases c0 : b0 = b1
        · have ei : b = n := by
            rcases hb with ⟨h1, h2, h3⟩ | ⟨h1, _⟩
            · omega
            · exact h1
          refine ifT (hT (by omega)) ?_
          refine ⟨_, rfl, _, rfl, _, _, rfl, rfl, le2, fun p1 n1 => ?_⟩
          have g1 := Fr.mk n1
          have s2 : Same H1 (upd H1 p1 (.tup [.int (n : Int), .int ((n : Int) + 1)])) := same_newF g1
          have ep : upd H1 p1 (.tup [.int (n : Int), .int ((n : Int) + 1)]) p1 = some (.tup [.int (n : Int), .int ((n + 1 : Nat) : Int)]) := by
            rw [upd_same]
            rfl
          generalize upd H1 p1 (.tup [.int (n : Int), .int ((n : Int) + 1)]) = H2 at s2 ep ⊢
          have em2 := s2 _ _ em1
          have mm2 : Mu H2 [m] := mu_cons em2 (fun _ z => nomatch z) (fun _ z => nomatch z) mu_nil
          refine ⟨_, rfl, _, rfl, m, _, rfl, DPut.k (k := .inr "later") em2 lmo, ?_⟩
          have k3 : ∀ z : HO, Kp [m] H2 (upd H2 m z) := fun _ => kp_up memA (kp_refl _ _)
          have k03 : ∀ z : HO, Kp [m] H (upd H2 m z) := fun z => kp_trans (kp_same (s1.trans s2)) (k3 z)
          refine ⟨o, [], rfl, k03 _, fo, nmo, (k3 _).at_ _ _ (s2 _ _ eo) (not_cons (Ne.symm nmo) not_nil), ?_, ⟨_, _, _, upd_same, (hf.kp (kp_same (cs := []) (s1.trans s2)) mu_nil).kp (k3 _) mm2, (hb'.kp (kp_same (cs := []) (s1.trans s2)) mu_nil).kp (k3 _) mm2, rgn _ p1 _ ei.symm (kp_tup (k3 _) mm2 ep) hbn⟩⟩
          rw [hE]
          unfold extE
          rw [if_pos ei]
          exact JLog.nil
        · have ei : b < n ∧ b0 = b := by
            rcases hb with ⟨h1, h2, h3⟩ | ⟨_, h1⟩
            · exact ⟨h1, h2⟩
            · exact absurd h1 c0
          refine ifF (hF (by omega)) ?_
          refine ⟨_, rfl, _, rfl, _, _, rfl, rfl, le2, fun p1 n1 => ?_⟩
          have g1 := Fr.mk n1
          have s2 : Same H1 (upd H1 p1 (.tup [.int (b0 : Int), .int ((n : Int) + 1)])) := same_newF g1
          have ep : upd H1 p1 (.tup [.int (b0 : Int), .int ((n : Int) + 1)]) p1 = some (.tup [.int (b0 : Int), .int ((n + 1 : Nat) : Int)]) := by
            rw [upd_same]
            rfl
          generalize upd H1 p1 (.tup [.int (b0 : Int), .int ((n : Int) + 1)]) = H2 at s2 ep ⊢
          have em2 := s2 _ _ em1
          have mm2 : Mu H2 [m] := mu_cons em2 (fun _ z => nomatch z) (fun _ z => nomatch z) mu_nil
          refine ⟨_, rfl, _, rfl, m, _, rfl, DPut.k (k := .inr "later") em2 lmo, ?_⟩
          have k3 : ∀ z : HO, Kp [m] H2 (upd H2 m z) := fun _ => kp_up memA (kp_refl _ _)
          have k03 : ∀ z : HO, Kp [m] H (upd H2 m z) := fun z => kp_trans (kp_same (s1.trans s2)) (k3 z)
          have hmo : MoAt _ m g e (addB b n (some k)) (n + 1) (some k) := ⟨_, _, _, upd_same, (hf.kp (kp_same (cs := []) (s1.trans s2)) mu_nil).kp (k3 _) mm2, (hb'.kp (kp_same (cs := []) (s1.trans s2)) mu_nil).kp (k3 _) mm2, rgn _ p1 _ ei.2 (kp_tup (k3 _) mm2 ep) hbn⟩
          refine ⟨_, rfl, _, rfl, le2, fun x1 n2 => ⟨_, rfl, _, rfl, _, _, rfl, rfl, le2, fun x2 n3 => ⟨(by decide : 3 ≤ sizeLine), fun x3 n4 => ⟨(by decide : 1 ≤ sizeLine), fun o2 n5 => ?_⟩⟩⟩⟩
          have g2 := Fr.mk n2
          have g3 := Fr.mk n3
          have g4 := Fr.mk n4
          have g5 := Fr.mk n5
          have sA := ((same_newF (o := .tup [.int (b0 : Int), .int (n : Int)]) g2).trans (same_newF (o := .tup [.int (n : Int), .int ((n : Int) + 1)]) g3)).trans (same_newF (o := .tup [.str "join", .ref x1, .ref x2]) g4)
          have sB := sA.trans (same_newF (o := .lst [.ref x3]) g5)
          have mmU : ∀ z : List (Key × V), Mu (upd H2 m (.dK z)) [m] := fun z => mu_cons upd_same (fun _ z => nomatch z) (fun _ z => nomatch z) mu_nil
          have f5 : Fr H o2 := fr_kp (k03 _) (mmU _) (Fr.mk (sA.free n5))
          refine ⟨o2, [.ref x3], rfl, kp_trans (k03 _) (kp_same sB), f5, ne_of_none em f5.h, upd_same, ?_, hmo.same sB⟩
          rw [hE]
          unfold extE
          rw [if_neg (by omega)]
          refine JLog.one ⟨x3, x1, x2, rfl, atNew g5 upd_same, ?_, ?_⟩
          · refine (atNew g5 (atNew g4 (atNew g3 upd_same))).trans ?_
            have eb0 : (b0 : Int) = _ := congrArg (fun z : Nat => (z : Int)) ei.2
            rw [eb0]
          · exact atNew g5 (atNew g4 upd_same)
      · rintro σ H2 ⟨o2, ys, rfl, k2, fo2, nmo2, eo2, jl2, hm2⟩
        exact fin H2 o2 ys _ _ _ k2 fo2 nmo2 eo2 jl2 hm2
end
end Ob

set_option Elab.async false
set_option linter.all false
set_option maxRecDepth 100000
set_option maxHeartbeats 1000000
namespace Ob
open PySem PySem.Spec PyProof.Rows L2
open LamX (Tabs TabB TabS ExtN)

set_option hygiene false in
local macro_rules
  | `(tactic| kp_flats) => `(tactic| first
    | assumption
    | exact upd_same
    | (apply atNew; assumption; kp_flats)
    | (apply atNe; (next => kbo_bools); kp_flats)
    | (apply atSame; assumption; kp_flats)
    | (apply atKp; assumption; (next => kaf_pre); kp_flats))
set_option hygiene false in
local macro_rules
  | `(tactic| kaf_pre) => `(tactic| first
    | assumption
    | exact not_nil
    | (apply not_cons; (next => kbo_bools); kaf_pre)
    | (apply not_app; (next => kaf_pre); kaf_pre))
set_option hygiene false in
local macro_rules
  | `(tactic| kbo_bools) => `(tactic| first
    | assumption
    | (apply Ne.symm; assumption)
    | (apply neN; assumption; kp_flats)
    | (apply neN'; assumption; kp_flats))
set_option hygiene false in
local macro_rules
  | `(tactic| o_reads) => `(tactic| first
    | with_reducible rfl
    | assumption
    | rfl
    | kp_flats
    | (show SqL _ _ _ _; first | assumption | (apply sqlOf; kp_flats) | (apply sqlSame; assumption; o_reads))
    | (show SqT _ _ _ _; first | assumption | (apply sqtOf; kp_flats) | (apply sqtAll; assumption) | (apply sqtSame; assumption; o_reads))
    | (show Cls _ _; first | exact T.cl_Calls | exact T.cl_Joiner | exact T.cl_Planner | exact T.cl_EvenSums | exact T.cl_Shape | exact T.cl_TwoStacks)
    | (show NoAttr _ _ _; first | exact T.n_Calls_entries | exact T.n_Calls_running | exact T.n_Joiner_calls | exact T.n_Joiner_join_call | exact T.n_Planner_entries | exact T.n_EvenSums_calls | exact T.n_EvenSums_joiner | exact T.n_EvenSums_zero | exact T.n_EvenSums_given | exact T.n_EvenSums_held | exact T.n_EvenSums_shape | exact T.n_Shape_front | exact T.n_Shape_back | exact T.n_Shape_late | exact T.n_Shape_renewed | exact T.n_TwoStacks_calls | exact T.n_TwoStacks_joiner | exact T.n_TwoStacks_zero | exact T.n_TwoStacks_given | exact T.n_TwoStacks_held | exact T.n_TwoStacks_front | exact T.n_TwoStacks_back)
    | (apply Or.inl; o_reads)
    | (apply Or.inr; o_reads)
    | (apply And.intro; (next => o_reads); o_reads)
    | (apply Exists.intro; o_reads)
    | exact Nat.le_of_ble_eq_true rfl
    | exact Nat.succ_ne_zero _
    | (show Fr _ _; kba_ints)
    | (show Same _ _; kd_subs)
    | (show Kp _ _ _; kxs_still)
    | (show (_ : Nat) ≤ _; simp only [List.length_append, List.length_map, List.length_cons, List.length_nil, List.length_take, List.length_drop, List.length_replicate, List.length_range, sizeLine_eq]; omega)
    | (show _ = none; apply Fr.h; kba_ints)
    | (show Bag _ _; first | assumption | (apply bag_putF; assumption; o_reads) | (apply bag_neF; (next => kbo_bools); o_reads) | (apply bag_kpR; assumption; (next => kaf_pre); o_reads))
    | omega
    | decide)
local macro_rules
  | `(tactic| o_readsAll) => `(tactic| repeat (first
    | (refine fun (pNew : Addr) (nNew : _ = none) => ?_; replace nNew := Fr.mk nNew)
    | (refine fun (xNew dNew : Addr) (nNew : _ = none) (mNew : _ = none) (eNew : dNew ≠ xNew) => ?_; replace nNew := Fr.mk nNew; replace mNew := Fr.mk mNew)
    | (apply And.intro; next => o_reads)
    | apply Exists.intro (α := V)
    | apply Exists.intro (α := Addr)
    | apply Exists.intro (α := Int)
    | apply Exists.intro (α := Bool)
    | apply Exists.intro (α := List V)
    | apply Exists.intro (α := List Nat)
    | apply Exists.intro (α := List (Str × V))
    | apply Exists.intro (α := List _)
    | apply Exists.intro (α := Str)
    | apply Exists.intro (α := HO)
    | apply Exists.intro (α := Sp)
    | apply Exists.intro (α := VK)))
set_option hygiene false in
local macro_rules
  | `(tactic| kba_ints) => `(tactic| first
    | assumption
    | (apply frUp; (first | assumption | (apply Ne.symm; assumption)); kba_ints)
    | (apply noneOf; assumption; intro oF eF; apply Exists.intro; kp_flats)
    | (apply frUp; (next => kbo_bools); kba_ints))
set_option hygiene false in
local macro_rules
  | `(tactic| kxs_still) => `(tactic| first
    | assumption
    | exact kp_refl _ _
    | (apply kp_newF; assumption; kxs_still)
    | (apply kp_new; assumption; kxs_still)
    | (apply kp_up; (next => o_fieldsN); kxs_still)
    | (apply kp_new; (next => kba_ints); kxs_still)
    | (apply kp_sameR; assumption; kxs_still)
    | (apply kp_transR; assumption; kxs_still)
    | (apply kp_freshR; assumption; (next => kaf_suf); kxs_still))
set_option hygiene false in
local macro_rules
  | `(tactic| kaf_suf) => `(tactic| first
    | assumption
    | exact subNil
    | (apply subCons; (first | (apply Or.inl; o_fieldsN) | (apply Or.inr; kba_ints)); kaf_suf)
    | (apply subApp; (next => kaf_suf); kaf_suf))
set_option hygiene false in
local macro_rules
  | `(tactic| o_fieldsN) => `(tactic| first
    | assumption
    | exact memA
    | (apply memB; o_fieldsN)
    | (apply memL; o_fieldsN)
    | (apply memR; o_fieldsN))
set_option hygiene false in
local macro_rules
  | `(tactic| kd_subs) => `(tactic| first
    | assumption
    | exact Same.refl _
    | (apply same_putF; assumption; kd_subs)
    | (apply same_putG; assumption; kd_subs)
    | (apply same_putF; (next => kba_ints); kd_subs)
    | (apply same_transR; assumption; kd_subs))

set_option pp.maxSteps 900
theorem allE_rev {n : Nat} : ∀ {k : Nat}, k + 1 ≤ n → allE n (k + 1) = ((List.range' (n - 1 - k) k).map fun i => (i, i + 1, n)).reverse
  | 0, _ => by
    show allE n 0 ++ deepE n 0 = _
    unfold deepE
    rw [if_pos rfl]
    rfl
  | k + 1, h => by
    show allE n (k + 1) ++ deepE n (k + 1) = _
    rw [allE_rev (by omega), show n - 1 - (k + 1) = n - 2 - k by omega, List.range'_succ, List.map_cons, List.reverse_cons]
    have h1 : n - 2 - k + 1 = n - 1 - k := by omega
    rw [h1]
    unfold deepE
    rw [if_neg (Nat.succ_ne_zero k), show n - 1 - (k + 1) = n - 2 - k by omega, show n - (k + 1) = n - 1 - k by omega]
theorem JLog.rev {H : Hp} {xs : List V} {es : List (Nat × Nat × Nat)} (h : JLog H xs es) : JLog H xs.reverse es.reverse := by
  refine ⟨by rw [List.length_reverse, List.length_reverse, h.len], fun q x e a b => ?_⟩
  have hq : q < xs.length := by
    have := (List.getElem?_eq_some_iff.mp a).1
    rw [List.length_reverse] at this
    exact this
  rw [List.getElem?_reverse hq] at a
  rw [List.getElem?_reverse (by rw [← h.len]; exact hq), ← h.len] at b
  exact h.at_ _ x e a b
section
variable {P : Program} {w : World} {K : PySem.W.Frag} {mg : Str → Option Value} {base : Heap} {n : Nat}
def spMRem : Sp := fun vs H Q _ => ∃ (fm : Nat) (m : Addr) (g e b n : Nat) (r : Option Nat), vs = [.int (fm : Int), .ref m] ∧ MoAt H m g e b n r ∧ n < 9000 ∧ g < n ∧
  ((fm = 0 ∧ r = none ∧ b = n ∧ g ≤ e ∧ e ≤ n ∧ ∀ o xs H', Kp [m] H H' → Fr H o → H' o = some (.lst xs) → JLog H' xs (twRE g e n) → MoAt H' m (g + 1) (twRX g e n) n n none → Q (.ref o) H') ∨
   (fm = 1 ∧ ShOk g e b n r ∧ ∀ o xs H', Kp [m] H H' → Fr H o → H' o = some (.lst xs) → JLog H' xs (workE (g + 1) e b n r) → MoAt H' m (g + 1) (workR (g + 1) e b n r).1 (workR (g + 1) e b n r).2.1 n (workR (g + 1) e b n r).2.2 → Q (.ref o) H'))
theorem ok_mrem (T : Txt K mg) : FnOk P w K mg base CX0 2 T.f_l_removed T.d_l_removed ["_law_form", "_law_model"] spMRem := by
  have G_l_stepped := ok_step (P := P) (w := w) (base := base) T
  refine T.F_l_removed.ok sc_l_removed (fun vs H Q E h => ?_) (fun cdv A outer s H vs Q E hr h => ?_)
  · obtain ⟨fm, m, g, e, b, n, r, rfl, _⟩ := h
    rfl
  · obtain ⟨fm, m, g, e, b, n, r, rfl, hm, hn, gl, hq⟩ := h
    refine ⟨_, (pss_cons (ps_set (i := 2) sc_l_removed.nd rfl (.inl rfl) (pe_lst pa_nil))
      (C8.pss_cut (ps_if (PW.pt (pw_and (pt_cmpR op_eq (pv 0) pe_int (nomark _)) (pw_and1 (pt_cmpR op_eq (pe_ix (r := rIxT K) ix_tup (pe_dget (hu_of hr) (pv 1) pe_str (fun _ _ => rfl)) pe_int (fun _ _ => rfl)) (pe_ix (r := rIxT K) ix_tup (pe_dget (hu_of hr) (pv 1) pe_str (fun _ _ => rfl)) pe_int (fun _ _ => rfl)) (nomark _))))) (pss_cons (ps_asg (pe_dget (hu_of hr) (pv 1) pe_str (fun _ _ => rfl)) (pg_tup (by rfl) (pgs_cons (pg_name (i := 3) sc_l_removed.nd rfl (.inl rfl)) (pgs_cons (pg_name (i := 4) sc_l_removed.nd rfl (.inr rfl)) pgs_nil))))
        (pss_cons (ps_set (i := 2) sc_l_removed.nd rfl (.inl rfl) (pe_revL (pe_lc (own := [("_law_number", 5)]) (g := gName 5) (tt := tYes) rfl sc_l_removed.nd (pi_range2 (by rfl) T.z_range (pa_cons (pv 3) (pa_cons (pe_op op_sub (pv 4) pe_int) pa_nil))) (blkOk_by (N := n_l_removed) (sc := defScope s_l_removed) (by decide +kernel)) (fun _ _ _ _ _ => (pg_name (i := 5) sc_l_removed.nd rfl (.inl rfl))) (fun _ _ _ _ _ => pts_nil) (fun _ _ _ _ _ => (pe_tup (pa_cons pe_str (pa_cons (pe_tup (pa_cons (pv 5) (pa_cons (pe_op op_add (pv 5) pe_int) pa_nil))) (pa_cons (pe_tup (pa_cons (pe_op op_add (pv 5) pe_int) (pa_cons (pv 4) pa_nil))) pa_nil))))))))
        (pss_one (ps_asg (pe_tup (pa_cons (pe_dget (hu_of hr) (pv 1) pe_str (fun _ _ => rfl)) (pa_cons (pe_tup (pa_cons pe_int (pa_cons pe_int pa_nil))) pa_nil))) (pg_tup (by rfl) (pgs_cons (pg_sub (pv 1) pe_str (set_dict (hu_of hr))) (pgs_cons (pg_sub (pv 1) pe_str (set_dict (hu_of hr))) pgs_nil))))))) pss_nil)
      (pss_cons (ps_asg (pe_dget (hu_of hr) (pv 1) pe_str (fun _ _ => rfl)) (pg_tup (by rfl) (pgs_cons (pg_name (i := 3) sc_l_removed.nd rfl (.inl rfl)) (pgs_cons (pg_name (i := 4) sc_l_removed.nd rfl (.inr rfl)) pgs_nil))))
      (pss_cons (ps_dput (hu_of hr) (pv 1) pe_str (pe_tup (pa_cons (pe_op op_add (pv 3) pe_int) (pa_cons (pv 4) pa_nil))) rfl)
      (pss_one (ps_ret (pe_op op_cat (pv 2) (pe_call G_l_stepped (hr.mono (by omega)) rfl T.g_l_stepped T.F_l_stepped.kp T.b_l_stepped .nil pass0 (pa_cons (pv 0) (pa_cons (pv 1) pa_nil)))))))))), ?_⟩
    have hT : ∀ {a b : Int}, a = b → decide (V.int a = V.int b) = true := fun e => decide_eq_true (congrArg V.int e)
    have hF : ∀ {a b : Int}, a ≠ b → decide (V.int a = V.int b) = false := fun e => decide_eq_false fun z => e (by injection z)
    obtain ⟨vf, vb, vl, em, hf, hb, hl⟩ := hm.ex
    have mm : Mu H [m] := mu_cons em (fun _ z => nomatch z) (fun _ z => nomatch z) mu_nil
    refine ⟨Nat.zero_le _, fun o no => ?_⟩
    have fo := Fr.mk no
    have s1 : Same H (upd H o (.lst [])) := same_newF fo
    have eo : upd H o (.lst []) o = some (.lst []) := upd_same
    have nmo : m ≠ o := ne_of_none em no
    have em1 := s1 _ _ em
    generalize upd H o (.lst []) = H1 at s1 eo em1 ⊢
    have mm1 : Mu H1 [m] := mu_cons em1 (fun _ z => nomatch z) (fun _ z => nomatch z) mu_nil
    have hm1 := hm.same s1
    have hE0 : fm = 0 ∨ fm = 1 := hq.imp (fun z => z.1) fun z => z.1
    refine ⟨fun σ H2 => ∃ (o2 : Addr) (ys : List V) (E : Nat) (y3 y4 y5 : Option V), σ = [some (.int (fm : Int)), some (.ref m), some (.ref o2), y3, y4, y5] ∧ Kp [m] H H2 ∧ Fr H o2 ∧ m ≠ o2 ∧ H2 o2 = some (.lst ys) ∧ g < E ∧ (fm = 0 → E = twRX g e n ∧ JLog H2 ys (twRE g e n)) ∧ (fm = 1 → E = e ∧ ys = []) ∧ MoAt H2 m g E b n r, ?_, ?_⟩
    · rcases hq with ⟨rfl, rfl, rfl, hge, hen, q⟩ | ⟨rfl, ok, q⟩
      · obtain ⟨pf, f0, f1, rfl, ef, hf⟩ := hf
        have ef1 := s1 _ _ ef
        refine ⟨_, rfl, rfl, _, rfl, ifT (hT rfl) ⟨_, rfl, m, _, rfl, DGet.k (k := .inr "front") em1, pf, _, 0, _, rfl, rfl, sqtOf ef1, atI_nat (j := 0) rfl, _, rfl, m, _, rfl, DGet.k (k := .inr "front") em1, pf, _, 1, _, rfl, rfl, sqtOf ef1, atI_nat (j := 1) rfl, rfl, _, rfl, ?_⟩⟩
        by_cases c0 : g = e
        · have ef01 : f0 = f1 := by
            rcases hf with ⟨z, _⟩ | ⟨_, z⟩
            · omega
            · exact z
          refine ifT (hT (by omega)) ?_
          obtain ⟨pb, b0, b1, rfl, eb, hb⟩ := hb
          have eb1 := s1 _ _ eb
          have ebn : b0 = g ∧ b1 = b := by
            rcases hb with ⟨_, z1, z2⟩ | ⟨z, _⟩
            · exact ⟨by omega, z2⟩
            · omega
          refine ⟨_, rfl, m, _, rfl, DGet.k (k := .inr "back") em1, pb, _, rfl, sqtOf eb1, rfl, _, _, rfl, _, _, rfl, rfl, ?_⟩
          have hb1 : b1 ≤ 9000 := by omega
          refine ⟨_, rfl, _, rfl, _, _, rfl, rfl, (b0 : Int), (b1 : Int) - 1, rfl, ⟨by omega, by omega, by omega, by omega⟩, fun D nD => ?_⟩
          have fD := Fr.mk nD
          have hlen : ((b1 : Int) - 1 - (b0 : Int)).toNat = b - 1 - g := by omega
          rw [hlen]
          refine lc_range (lo := (b0 : Int)) (n := b - 1 - g) (fun q H5 => ∃ xs : List V, Same H1 H5 ∧ H5 D = some (.lst xs) ∧ JLog H5 xs ((List.range' g q).map fun i => (i, i + 1, b))) ⟨[], same_newF fD, upd_same, JLog.nil⟩ ?_ ?_
          · rintro q H5 lq ⟨xs, s5, e5, j5⟩
            have lxs : xs.length = q := by
              rw [j5.len, List.length_map, List.length_range']
            refine ⟨rfl, _, rfl, _, rfl, _, _, rfl, rfl, le2, fun x1 n1 => ⟨_, rfl, _, _, rfl, rfl, _, rfl, le2, fun x2 n2 => ⟨(by decide : 3 ≤ sizeLine), fun x3 n3 => ?_⟩⟩⟩
            have g1 := Fr.mk n1
            have g2 := Fr.mk n2
            have g3 := Fr.mk n3
            have sA := ((same_newF (o := .tup [.int ((b0 : Int) + (q : Int)), .int ((b0 : Int) + (q : Int) + 1)]) g1).trans (same_newF (o := .tup [.int ((b0 : Int) + (q : Int) + 1), .int (b1 : Int)]) g2)).trans (same_newF (o := .tup [.str "join", .ref x1, .ref x2]) g3)
            have i1 : (b0 : Int) + (q : Int) = ((g + q : Nat) : Int) := by omega
            have i2 : (b0 : Int) + (q : Int) + 1 = ((g + q + 1 : Nat) : Int) := by omega
            have i3 : (b1 : Int) = (b : Int) := by omega
            have je : JEnt (upd (upd (upd H5 x1 (.tup [.int ((b0 : Int) + (q : Int)), .int ((b0 : Int) + (q : Int) + 1)])) x2 (.tup [.int ((b0 : Int) + (q : Int) + 1), .int (b1 : Int)])) x3 (.tup [.str "join", .ref x1, .ref x2])) (.ref x3) (g + q, g + q + 1, b) := by
              refine ⟨x3, x1, x2, rfl, upd_same, ?_, ?_⟩
              · exact (atNew g3 (atNew g2 upd_same)).trans (by show some (HO.tup [V.int ((b0 : Int) + (q : Int)), V.int ((b0 : Int) + (q : Int) + 1)]) = some (HO.tup [V.int ((g + q : Nat) : Int), V.int ((g + q + 1 : Nat) : Int)]); rw [i2, i1])
              · exact (atNew g3 upd_same).trans (by show some (HO.tup [V.int ((b0 : Int) + (q : Int) + 1), V.int (b1 : Int)]) = some (HO.tup [V.int ((g + q + 1 : Nat) : Int), V.int (b : Int)]); rw [i2, i3])
            have e6 := sA _ _ e5
            refine ⟨_, e6, by rw [lxs, sizeLine_eq]; omega, xs ++ [.ref x3], same_putG fD (s5.trans sA), upd_same, ?_⟩
            have kU : Kp [D] (upd (upd (upd H5 x1 (.tup [.int ((b0 : Int) + (q : Int)), .int ((b0 : Int) + (q : Int) + 1)])) x2 (.tup [.int ((b0 : Int) + (q : Int) + 1), .int (b1 : Int)])) x3 (.tup [.str "join", .ref x1, .ref x2])) (upd (upd (upd (upd H5 x1 (.tup [.int ((b0 : Int) + (q : Int)), .int ((b0 : Int) + (q : Int) + 1)])) x2 (.tup [.int ((b0 : Int) + (q : Int) + 1), .int (b1 : Int)])) x3 (.tup [.str "join", .ref x1, .ref x2])) D (.lst (xs ++ [.ref x3]))) := kp_up memA (kp_refl _ _)
            have mD := mu_lst e6 mu_nil
            rw [List.range'_concat, List.map_append]
            refine ((j5.kp (kp_same (cs := []) sA) mu_nil).kp kU mD).app ?_
            have := je.kp kU mD
            rw [show g + 1 * q = g + q by omega]
            exact JLog.one this
          · rintro H5 ⟨xs, s5, e5, j5⟩
            refine ⟨D, xs, rfl, sqlOf e5, fun o2 no2 => ?_⟩
            have fo2 := Fr.mk no2
            have sR : Same H5 (upd H5 o2 (.lst xs.reverse)) := same_newF fo2
            have eR : upd H5 o2 (.lst xs.reverse) o2 = some (.lst xs.reverse) := upd_same
            have jR := (j5.kp (kp_same (cs := []) sR) mu_nil).rev
            have s15 := s5.trans sR
            have fo20 : Fr H o2 := Fr.mk ((s1.trans s5).free no2)
            generalize upd H5 o2 (.lst xs.reverse) = H6 at sR eR jR s15 ⊢
            have em6 := s15 _ _ em1
            have nmo2 : m ≠ o2 := ne_of_none em fo20.h
            refine ⟨_, rfl, m, _, rfl, DGet.k (k := .inr "back") em6, le2, fun p2 n2 => ⟨le2, fun t nt => ?_⟩⟩
            have h2' := Fr.mk n2
            have ht := Fr.mk nt
            have s67 := (same_newF (o := .tup [.int 0, .int 0]) h2').trans (same_newF (o := .tup [.ref pb, .ref p2]) ht)
            have em7 := s67 _ _ em6
            have e2' : upd (upd H6 p2 (.tup [.int 0, .int 0])) t (.tup [.ref pb, .ref p2]) p2 = some (.tup [.int 0, .int 0]) := atNew ht upd_same
            have et' : upd (upd H6 p2 (.tup [.int 0, .int 0])) t (.tup [.ref pb, .ref p2]) t = some (.tup [.ref pb, .ref p2]) := upd_same
            generalize upd (upd H6 p2 (.tup [.int 0, .int 0])) t (.tup [.ref pb, .ref p2]) = H7 at s67 em7 e2' et' ⊢
            have m7 : Mu H7 [m] := mu_cons em7 (fun _ z => nomatch z) (fun _ z => nomatch z) mu_nil
            refine ⟨t, _, rfl, sqtOf et', rfl, _, _, rfl, _, rfl, m, _, rfl, DPut.k (k := .inr "front") em7 lmo, _, _, rfl, _, rfl, m, _, rfl, DPut.k (k := .inr "back") upd_same lmo, rfl, ?_⟩
            have k8 : ∀ z1 z2 : HO, Kp [m] H7 (upd (upd H7 m z1) m z2) := fun _ _ => kp_up memA (kp_up memA (kp_refl _ _))
            have s07 := s1.trans (s15.trans s67)
            have k08 : ∀ z1 z2 : HO, Kp [m] H (upd (upd H7 m z1) m z2) := fun z1 z2 => kp_trans (kp_same s07) (k8 z1 z2)
            have hX : twRX g e b = b := if_pos c0
            have hE : twRE g e b = allE b (b - g) := if_pos c0
            refine ⟨o2, _, b, _, _, _, rfl, k08 _ _, fo20, nmo2, (k8 _ _).at_ _ _ (s67 _ _ eR) (not_cons (Ne.symm nmo2) not_nil), gl, (fun _ => ⟨hX.symm, ?_⟩), (fun z => absurd z (by decide)), ⟨_, _, _, upd_same, ?_, ?_, ?_⟩⟩
            · rw [hE, show b - g = (b - 1 - g) + 1 by omega, allE_rev (by omega), show b - 1 - (b - 1 - g) = g by omega]
              exact (jR.kp (kp_same (cs := []) s67) mu_nil).kp (k8 _ _) m7
            · exact ⟨pb, b0, b1, rfl, kp_tup (k8 _ _) m7 (s67 _ _ (s15 _ _ eb1)), .inl ⟨gl, ebn.1, ebn.2⟩⟩
            · exact ⟨p2, 0, 0, rfl, kp_tup (k8 _ _) m7 e2', .inr ⟨rfl, rfl⟩⟩
            · exact hl.kp (k08 _ _) mm
        · have ef01 : f0 ≠ f1 := by
            rcases hf with ⟨_, z1, z2⟩ | ⟨z, _⟩
            · omega
            · exact absurd z c0
          refine ifF (hF (by omega)) ?_
          have hX : twRX g e b = e := if_neg c0
          have hE : twRE g e b = [] := if_neg c0
          exact ⟨o, [], e, none, none, none, rfl, kp_same s1, fo, nmo, eo, by omega, (fun _ => ⟨hX.symm, by rw [hE]; exact JLog.nil⟩), (fun z => absurd z (by decide)), hm1⟩
      · have := (rem_pre ok gl).1
        refine ⟨_, rfl, rfl, _, rfl, ifF (hF (by decide)) (ifF rfl ?_)⟩
        exact ⟨o, [], e, none, none, none, rfl, kp_same s1, fo, nmo, eo, this, (fun z => absurd z (by decide)), (fun _ => ⟨rfl, rfl⟩), hm1⟩
    · rintro σ H2 ⟨o2, ys, E, y3, y4, y5, rfl, k2, fo2, nmo2, eo2, gE, h0, h1, hm2⟩
      obtain ⟨vf, vb, vl, em2, ⟨pf, f0, f1, rfl, ef, hf⟩, hb2, hl2⟩ := hm2.ex
      have ef01 : f0 = g ∧ f1 = E := by
        rcases hf with ⟨_, z1, z2⟩ | ⟨z, _⟩
        · exact ⟨z1, z2⟩
        · omega
      have mm2 : Mu H2 [m] := mu_cons em2 (fun _ z => nomatch z) (fun _ z => nomatch z) mu_nil
      refine ⟨_, rfl, m, _, rfl, DGet.k (k := .inr "front") em2, pf, _, rfl, sqtOf ef, rfl, _, _, rfl, _, _, rfl, rfl, ?_⟩
      refine ⟨_, rfl, _, _, rfl, rfl, _, rfl, le2, fun p1 n1 => ?_⟩
      have g1 := Fr.mk n1
      have s3 := same_newF (o := .tup [.int ((f0 : Int) + 1), .int (f1 : Int)]) g1
      have em3 := s3 _ _ em2
      have ep : upd H2 p1 (.tup [.int ((f0 : Int) + 1), .int (f1 : Int)]) p1 = some (.tup [.int ((f0 + 1 : Nat) : Int), .int (f1 : Int)]) := by
        rw [upd_same]
        rfl
      generalize upd H2 p1 (.tup [.int ((f0 : Int) + 1), .int (f1 : Int)]) = H3 at s3 em3 ep ⊢
      have m3 : Mu H3 [m] := mu_cons em3 (fun _ z => nomatch z) (fun _ z => nomatch z) mu_nil
      refine ⟨_, rfl, m, _, rfl, DPut.k (k := .inr "front") em3 lmo, ?_⟩
      have k4 : ∀ z : HO, Kp [m] H3 (upd H3 m z) := fun _ => kp_up memA (kp_refl _ _)
      have k04 : ∀ z : HO, Kp [m] H (upd H3 m z) := fun z => kp_trans k2 (kp_trans (kp_same s3) (k4 z))
      have hm4 : MoAt (upd H3 m (.dK (moK (.ref p1) vb vl (doneV b r)))) m (g + 1) E b n r := by
        refine ⟨_, _, _, upd_same, ⟨p1, f0 + 1, f1, rfl, kp_tup (k4 _) m3 ep, ?_⟩, (hb2.kp (kp_same (cs := []) s3) mu_nil).kp (k4 _) m3, (hl2.kp (kp_same (cs := []) s3) mu_nil).kp (k4 _) m3⟩
        by_cases c : g + 1 < E
        · exact .inl ⟨c, by omega, by omega⟩
        · exact .inr ⟨by omega, by omega⟩
      have eo4 := (k4 (.dK (moK (.ref p1) vb vl (doneV b r)))).at_ _ _ (s3 _ _ eo2) (not_cons (Ne.symm nmo2) not_nil)
      have mm4 : Mu (upd H3 m (.dK (moK (.ref p1) vb vl (doneV b r)))) [m] := mu_cons upd_same (fun _ z => nomatch z) (fun _ z => nomatch z) mu_nil
      have k4' := k4 (.dK (moK (.ref p1) vb vl (doneV b r)))
      have k04' := k04 (.dK (moK (.ref p1) vb vl (doneV b r)))
      have key : ∀ H4, H4 = upd H3 m (.dK (moK (.ref p1) vb vl (doneV b r))) → tRet (tOp rCat (tVar 2) (tCall spStep [] E0 (tCons (tVar 0) (tCons (tVar 1) tNil)))) { nx := fun x H' => Q V.non H', rt := Q } [some (.int (fm : Int)), some (.ref m), some (.ref o2), some (.int (f0 : Int)), some (.int (f1 : Int)), y5] H4 := by
        intro H4 e4
        rw [← e4] at hm4 eo4 mm4 k4' k04'
        refine ⟨_, rfl, _, rfl, _, rfl, fm, m, g + 1, E, b, n, r, rfl, hm4, ?_⟩
        rcases hq with ⟨z1, z2, z3, z4, z5, q⟩ | ⟨z1, ok, q⟩
        · obtain ⟨hX, jl⟩ := h0 z1
          have jl4 := (jl.kp (kp_same (cs := []) s3) mu_nil).kp k4' m3
          refine .inl ⟨z1, fun o3 H5 s5 fo3 eo3 => ⟨o2, o3, _, _, rfl, rfl, s5 _ _ eo4, eo3, ?_, fun o4 no4 => ?_⟩⟩
          · have := twR_len (g := g) (e := e) (n := n)
            rw [jl.len, sizeLine_eq]
            show _ + 0 ≤ _
            omega
          · have f4 := Fr.mk no4
            have s6 := s5.trans (same_newF (o := .lst (ys ++ [])) f4)
            have hm6 := hm4.same s6
            have jl6 := jl4.kp (kp_same (cs := []) s6) mu_nil
            have k06 := kp_trans k04' (kp_same (cs := [m]) s6)
            rw [List.append_nil] at hm6 jl6 k06 ⊢
            rw [z2, z3, hX] at hm6
            exact q o4 ys _ k06 (fr_kp k04' mm4 (Fr.mk (s5.free no4))) upd_same jl6 hm6
        · obtain ⟨hX, hys⟩ := h1 z1
          subst hX
          subst hys
          refine .inr ⟨z1, (rem_pre ok gl).2, by omega, fun o3 xs3 H5 k5 fo3 eo3 jl5 hm5 => ⟨o2, o3, _, _, rfl, rfl, k5.at_ _ _ eo4 (not_cons (Ne.symm nmo2) not_nil), eo3, ?_, fun o4 no4 => ?_⟩⟩
          · have := workE_len (g := g + 1) (e := E) (b := b) (n := n) (r := r)
            rw [jl5.len, sizeLine_eq]
            show 0 + _ ≤ _
            omega
          · have f4 := Fr.mk no4
            have s6 := same_newF (o := .lst ([] ++ xs3)) f4
            have mm5 : Mu H5 [m] := by
              obtain ⟨_, _, _, z, _⟩ := hm5.ex
              exact mu_cons z (fun _ z => nomatch z) (fun _ z => nomatch z) mu_nil
            have k05 := kp_trans k04' k5
            exact q o4 xs3 _ (kp_trans k05 (kp_same s6)) (fr_kp k05 mm5 f4) upd_same (jl5.kp (kp_same (cs := []) s6) mu_nil) (hm5.same s6)
      exact key _ rfl
end
end Ob

set_option Elab.async false
set_option linter.all false
set_option maxRecDepth 100000
set_option maxHeartbeats 1000000
namespace Ob
open PySem PySem.Spec PyProof.Rows L2
open LamX (Tabs TabB TabS ExtN)

set_option hygiene false in
local macro_rules
  | `(tactic| kp_flats) => `(tactic| first
    | assumption
    | exact upd_same
    | (apply atNew; assumption; kp_flats)
    | (apply atNe; (next => kbo_bools); kp_flats)
    | (apply atSame; assumption; kp_flats)
    | (apply atKp; assumption; (next => kaf_pre); kp_flats))
set_option hygiene false in
local macro_rules
  | `(tactic| kaf_pre) => `(tactic| first
    | assumption
    | exact not_nil
    | (apply not_cons; (next => kbo_bools); kaf_pre)
    | (apply not_app; (next => kaf_pre); kaf_pre))
set_option hygiene false in
local macro_rules
  | `(tactic| kbo_bools) => `(tactic| first
    | assumption
    | (apply Ne.symm; assumption)
    | (apply neN; assumption; kp_flats)
    | (apply neN'; assumption; kp_flats))
set_option hygiene false in
local macro_rules
  | `(tactic| o_reads) => `(tactic| first
    | with_reducible rfl
    | assumption
    | rfl
    | kp_flats
    | (show SqL _ _ _ _; first | assumption | (apply sqlOf; kp_flats) | (apply sqlSame; assumption; o_reads))
    | (show SqT _ _ _ _; first | assumption | (apply sqtOf; kp_flats) | (apply sqtAll; assumption) | (apply sqtSame; assumption; o_reads))
    | (show Cls _ _; first | exact T.cl_Calls | exact T.cl_Joiner | exact T.cl_Planner | exact T.cl_EvenSums | exact T.cl_Shape | exact T.cl_TwoStacks)
    | (show NoAttr _ _ _; first | exact T.n_Calls_entries | exact T.n_Calls_running | exact T.n_Joiner_calls | exact T.n_Joiner_join_call | exact T.n_Planner_entries | exact T.n_EvenSums_calls | exact T.n_EvenSums_joiner | exact T.n_EvenSums_zero | exact T.n_EvenSums_given | exact T.n_EvenSums_held | exact T.n_EvenSums_shape | exact T.n_Shape_front | exact T.n_Shape_back | exact T.n_Shape_late | exact T.n_Shape_renewed | exact T.n_TwoStacks_calls | exact T.n_TwoStacks_joiner | exact T.n_TwoStacks_zero | exact T.n_TwoStacks_given | exact T.n_TwoStacks_held | exact T.n_TwoStacks_front | exact T.n_TwoStacks_back)
    | (apply Or.inl; o_reads)
    | (apply Or.inr; o_reads)
    | (apply And.intro; (next => o_reads); o_reads)
    | (apply Exists.intro; o_reads)
    | exact Nat.le_of_ble_eq_true rfl
    | exact Nat.succ_ne_zero _
    | (show Fr _ _; kba_ints)
    | (show Same _ _; kd_subs)
    | (show Kp _ _ _; kxs_still)
    | (show (_ : Nat) ≤ _; simp only [List.length_append, List.length_map, List.length_cons, List.length_nil, List.length_take, List.length_drop, List.length_replicate, List.length_range, sizeLine_eq]; omega)
    | (show _ = none; apply Fr.h; kba_ints)
    | (show Bag _ _; first | assumption | (apply bag_putF; assumption; o_reads) | (apply bag_neF; (next => kbo_bools); o_reads) | (apply bag_kpR; assumption; (next => kaf_pre); o_reads))
    | omega
    | decide)
local macro_rules
  | `(tactic| o_readsAll) => `(tactic| repeat (first
    | (refine fun (pNew : Addr) (nNew : _ = none) => ?_; replace nNew := Fr.mk nNew)
    | (refine fun (xNew dNew : Addr) (nNew : _ = none) (mNew : _ = none) (eNew : dNew ≠ xNew) => ?_; replace nNew := Fr.mk nNew; replace mNew := Fr.mk mNew)
    | (apply And.intro; next => o_reads)
    | apply Exists.intro (α := V)
    | apply Exists.intro (α := Addr)
    | apply Exists.intro (α := Int)
    | apply Exists.intro (α := Bool)
    | apply Exists.intro (α := List V)
    | apply Exists.intro (α := List Nat)
    | apply Exists.intro (α := List (Str × V))
    | apply Exists.intro (α := List _)
    | apply Exists.intro (α := Str)
    | apply Exists.intro (α := HO)
    | apply Exists.intro (α := Sp)
    | apply Exists.intro (α := VK)))
set_option hygiene false in
local macro_rules
  | `(tactic| kba_ints) => `(tactic| first
    | assumption
    | (apply frUp; (first | assumption | (apply Ne.symm; assumption)); kba_ints)
    | (apply noneOf; assumption; intro oF eF; apply Exists.intro; kp_flats)
    | (apply frUp; (next => kbo_bools); kba_ints))
set_option hygiene false in
local macro_rules
  | `(tactic| kxs_still) => `(tactic| first
    | assumption
    | exact kp_refl _ _
    | (apply kp_newF; assumption; kxs_still)
    | (apply kp_new; assumption; kxs_still)
    | (apply kp_up; (next => o_fieldsN); kxs_still)
    | (apply kp_new; (next => kba_ints); kxs_still)
    | (apply kp_sameR; assumption; kxs_still)
    | (apply kp_transR; assumption; kxs_still)
    | (apply kp_freshR; assumption; (next => kaf_suf); kxs_still))
set_option hygiene false in
local macro_rules
  | `(tactic| kaf_suf) => `(tactic| first
    | assumption
    | exact subNil
    | (apply subCons; (first | (apply Or.inl; o_fieldsN) | (apply Or.inr; kba_ints)); kaf_suf)
    | (apply subApp; (next => kaf_suf); kaf_suf))
set_option hygiene false in
local macro_rules
  | `(tactic| o_fieldsN) => `(tactic| first
    | assumption
    | exact memA
    | (apply memB; o_fieldsN)
    | (apply memL; o_fieldsN)
    | (apply memR; o_fieldsN))
set_option hygiene false in
local macro_rules
  | `(tactic| kd_subs) => `(tactic| first
    | assumption
    | exact Same.refl _
    | (apply same_putF; assumption; kd_subs)
    | (apply same_putG; assumption; kd_subs)
    | (apply same_putF; (next => kba_ints); kd_subs)
    | (apply same_transR; assumption; kd_subs))

set_option pp.maxSteps 900
section
variable {P : Program} {w : World} {K : PySem.W.Frag} {mg : Str → Option Value} {base : Heap} {n : Nat}
def spQueue (Ct Ce Cs : Addr) (Cj : Addr × Addr) (Cc : Addr) : Sp := fun vs H Q _ => ∃ (k : Nat) (f z : V), vs = [.int (k : Int), f, z] ∧ k < 2 ∧
  ∀ (x j jdx c cdx l : Addr) H', Same H H' → Fr H x → Fr H j → Fr H c → Fr H l → (∀ (H9 : Hp) (uv : List Addr) (UR : List JEv → Hp → Prop) (Val : Nat → List V → V → Hp → Prop) (cs : List Addr), Same H' H9 → Mu H9 cs → (∀ a ∈ [x, c, l] ++ uv, a ∈ cs) → (∀ a ∈ cs, a ∈ [x, c, l] ∨ (∃ o, H a = some o) ∨ H' a = none) → (∀ a ∈ uv, ∃ o, H a = some o) → UR [] H9 → (k = 0 ∧ TwAt Ct Cj Cc uv f UR Val cs x j jdx c cdx l z [] [] [] 0 0 H9) ∨ (k = 1 ∧ EvAt Ce Cs Cj Cc uv f UR Val cs x j jdx c cdx l z [] [] [] 0 0 0 none H9)) →
    (∃ C dx fs, H' x = some (.ins C dx fs)) → (∃ C dx fs, H' c = some (.ins C dx fs)) → H' l = some (.lst []) → Q (.ref x) H'
theorem ok_queue (T : Txt K mg) : FnOk P w K mg base CX0 8 T.f_l_queue T.d_l_queue ["_law_form", "_law_call_here", "_law_empty"] (spQueue T.C_TwoStacks T.C_EvenSums T.C_Shape (CJ T) T.C_Calls) := by
  have G_EvenSums_init := ok_ei (P := P) (w := w) (base := base) T
  have G_TwoStacks_init := ok_ti (P := P) (w := w) (base := base) T
  obtain ⟨mv0, KB_EvenSums_init⟩ := FunD.kbinds0 (ps := ["self", "join", "zero"]) T.F_EvenSums_init 2 ["zero"] [] (fun us mv ws => us ++ ws) (List.cons_ne_nil _ _) (fun _ z => nomatch z) (fun a _ c => a.append c)
    (fun D doc pm an cdv ct us mv ws h1 h2 h3 => match us, h1, mv, h2, ws, h3 with | [_, _], _, [], _, [_], _ => rfl)
  obtain ⟨mv1, KB_TwoStacks_init⟩ := FunD.kbinds0 (ps := ["self", "join", "zero"]) T.F_TwoStacks_init 2 ["zero"] [] (fun us mv ws => us ++ ws) (List.cons_ne_nil _ _) (fun _ z => nomatch z) (fun a _ c => a.append c)
    (fun D doc pm an cdv ct us mv ws h1 h2 h3 => match us, h1, mv, h2, ws, h3 with | [_, _], _, [], _, [_], _ => rfl)
  refine T.F_l_queue.ok sc_l_queue (fun vs H Q E h => ?_) (fun cdv A outer s H vs Q E hr h => ?_)
  · obtain ⟨k, f, z, rfl, _⟩ := h
    rfl
  · obtain ⟨k, f, z, rfl, hk, q⟩ := h
    refine ⟨_, (pss_cons (ps_if (pt_cmpR op_eq (pv 0) pe_int (nomark _)) (pss_one (ps_ret (pe_makeK ⟨T.mk_TwoStacks, T.m_TwoStacks_init, T.t_TwoStacks_init, T.kp_TwoStacks⟩ G_TwoStacks_init (hr.mono (by omega)) rfl T.gc_TwoStacks KB_TwoStacks_init pass0 (pa_cons (pv 1) pa_nil) (pk_cons (pv 2) pk_nil)))) pss_nil)
      (pss_one (ps_ret (pe_makeK ⟨T.mk_EvenSums, T.m_EvenSums_init, T.t_EvenSums_init, T.kp_EvenSums⟩ G_EvenSums_init (hr.mono (by omega)) rfl T.gc_EvenSums KB_EvenSums_init pass0 (pa_cons (pv 1) pa_nil) (pk_cons (pv 2) pk_nil))))), ?_⟩
    have hT : ∀ {a b : Int}, a = b → decide (V.int a = V.int b) = true := fun e => decide_eq_true (congrArg V.int e)
    have hF : ∀ {a b : Int}, a ≠ b → decide (V.int a = V.int b) = false := fun e => decide_eq_false fun z => e (by injection z)
    match k, hk with
    | 0, _ =>
      refine ⟨_, rfl, rfl, _, rfl, ifT (hT rfl) ⟨_, rfl, _, rfl, rfl, rfl, fun x dx nx nd ndx => ⟨x, dx, f, z, rfl, upd_same, fun j jdx c cdx l h fr H3 fj fc fll fh ff d1 d2 d3 d4 d5 d6 d7 d8 d9 d10 d11 d12 g1 g2 g3 g4 g5 g6 k3 => ⟨rfl, ?_⟩⟩⟩⟩
      have fx := Fr.mk nx
      have fd := Fr.mk nd
      have s23 : Same H H3 := fun b o z => k3.at_ _ _ (by rw [upd_ne (ne_of_none z fx.h), upd_ne (ne_of_none z fd.h)]; exact z) (not_cons (ne_of_none z fx.h) not_nil)
      have up : ∀ {b : Addr}, Fr (upd (upd H dx (.own x)) x (.ins T.C_TwoStacks dx [])) b → Fr H b := fun {b} z => noneOf z fun o e => ⟨o, by rw [upd_ne (ne_of_none e fx.h), upd_ne (ne_of_none e fd.h)]; exact e⟩
      refine q x j jdx c cdx l H3 s23 fx (up fj) (up fc) (up fll) (fun H9 uv UR Val cs s9 mu sub has hau ur => ?_) ⟨_, _, _, g1⟩ ⟨_, _, _, g3⟩ g4
      have out : ∀ {b : Addr} {o : HO}, H3 b = some o → Fr H b → b ≠ x → b ≠ c → b ≠ l → b ∉ cs := fun {b o} e3 y a1 a2 a3 m => (has b m).elim (fun m => (List.mem_cons.mp m).elim a1 fun m => (List.mem_cons.mp m).elim a2 fun m => a3 (List.mem_singleton.mp m)) fun z => z.elim (fun ⟨o, e⟩ => ne_of_none e y.h rfl) fun e => by rw [e] at e3; cases e3
      have ou : ∀ {b : Addr}, Fr H b → b ∉ uv := fun {b} y m => by
        obtain ⟨o, e⟩ := hau b m
        exact ne_of_none e y.h rfl
      exact Or.inl ⟨rfl, twNew mu sub (out g2 (up fj) d4 d5 d6) (out g5 (up fh) d7 d8 d9) (out g6 (up ff) d10 d11 d12) (not_cons d2 (not_cons d3 (ou fx))) (ou (up fj)) (ou (up fc)) (ou (up fll)) ur (s9 _ _ g1) (s9 _ _ g2) (s9 _ _ g3) (s9 _ _ g4) (s9 _ _ g5) (s9 _ _ g6)⟩
    | 1, _ =>
      refine ⟨_, rfl, rfl, _, rfl, ifF (hF (by decide)) ⟨_, rfl, _, rfl, rfl, rfl, fun x dx nx nd ndx => ⟨x, dx, f, z, rfl, upd_same, fun j jdx c cdx l h sh sdx fr H3 fj fc fll fh fs ff d1 d2 d3 d4 d5 d6 d7 d8 d9 d10 d11 d12 d13 d14 d15 g1 g2 g3 g4 g5 g6 g7 k3 => ⟨rfl, ?_⟩⟩⟩⟩
      have fx := Fr.mk nx
      have fd := Fr.mk nd
      have s23 : Same H H3 := fun b o z => k3.at_ _ _ (by rw [upd_ne (ne_of_none z fx.h), upd_ne (ne_of_none z fd.h)]; exact z) (not_cons (ne_of_none z fx.h) not_nil)
      have up : ∀ {b : Addr}, Fr (upd (upd H dx (.own x)) x (.ins T.C_EvenSums dx [])) b → Fr H b := fun {b} z => noneOf z fun o e => ⟨o, by rw [upd_ne (ne_of_none e fx.h), upd_ne (ne_of_none e fd.h)]; exact e⟩
      refine q x j jdx c cdx l H3 s23 fx (up fj) (up fc) (up fll) (fun H9 uv UR Val cs s9 mu sub has hau ur => ?_) ⟨_, _, _, g1⟩ ⟨_, _, _, g3⟩ g4
      have out : ∀ {b : Addr} {o : HO}, H3 b = some o → Fr H b → b ≠ x → b ≠ c → b ≠ l → b ∉ cs := fun {b o} e3 y a1 a2 a3 m => (has b m).elim (fun m => (List.mem_cons.mp m).elim a1 fun m => (List.mem_cons.mp m).elim a2 fun m => a3 (List.mem_singleton.mp m)) fun z => z.elim (fun ⟨o, e⟩ => ne_of_none e y.h rfl) fun e => by rw [e] at e3; cases e3
      have ou : ∀ {b : Addr}, Fr H b → b ∉ uv := fun {b} y m => by
        obtain ⟨o, e⟩ := hau b m
        exact ne_of_none e y.h rfl
      exact Or.inr ⟨rfl, evNew (H := H3) mu sub (out g2 (up fj) d4 d5 d6) (out g5 (up fh) d7 d8 d9) (out g6 (up fs) d10 d11 d12) (out g7 (up ff) d13 d14 d15) (not_cons d2 (not_cons d3 (ou fx))) (ou (up fj)) (ou (up fc)) (ou (up fll)) ur (s9 _ _ g1) (s9 _ _ g2) (s9 _ _ g3) (s9 _ _ g4) (s9 _ _ g5) (s9 _ _ g6) (s9 _ _ g7)⟩
end
end Ob

set_option Elab.async false
set_option linter.all false
set_option maxRecDepth 100000
set_option maxHeartbeats 1000000
namespace Ob
open PySem PySem.Spec PyProof.Rows L2
open LamX (Tabs TabB TabS ExtN)

set_option hygiene false in
local macro_rules
  | `(tactic| kp_flats) => `(tactic| first
    | assumption
    | exact upd_same
    | (apply atNew; assumption; kp_flats)
    | (apply atNe; (next => kbo_bools); kp_flats)
    | (apply atSame; assumption; kp_flats)
    | (apply atKp; assumption; (next => kaf_pre); kp_flats))
set_option hygiene false in
local macro_rules
  | `(tactic| kaf_pre) => `(tactic| first
    | assumption
    | exact not_nil
    | (apply not_cons; (next => kbo_bools); kaf_pre)
    | (apply not_app; (next => kaf_pre); kaf_pre))
set_option hygiene false in
local macro_rules
  | `(tactic| kbo_bools) => `(tactic| first
    | assumption
    | (apply Ne.symm; assumption)
    | (apply neN; assumption; kp_flats)
    | (apply neN'; assumption; kp_flats))
set_option hygiene false in
local macro_rules
  | `(tactic| o_reads) => `(tactic| first
    | with_reducible rfl
    | assumption
    | rfl
    | kp_flats
    | (show SqL _ _ _ _; first | assumption | (apply sqlOf; kp_flats) | (apply sqlSame; assumption; o_reads))
    | (show SqT _ _ _ _; first | assumption | (apply sqtOf; kp_flats) | (apply sqtAll; assumption) | (apply sqtSame; assumption; o_reads))
    | (show Cls _ _; first | exact T.cl_Calls | exact T.cl_Joiner | exact T.cl_Planner | exact T.cl_EvenSums | exact T.cl_Shape | exact T.cl_TwoStacks)
    | (show NoAttr _ _ _; first | exact T.n_Calls_entries | exact T.n_Calls_running | exact T.n_Joiner_calls | exact T.n_Joiner_join_call | exact T.n_Planner_entries | exact T.n_EvenSums_calls | exact T.n_EvenSums_joiner | exact T.n_EvenSums_zero | exact T.n_EvenSums_given | exact T.n_EvenSums_held | exact T.n_EvenSums_shape | exact T.n_Shape_front | exact T.n_Shape_back | exact T.n_Shape_late | exact T.n_Shape_renewed | exact T.n_TwoStacks_calls | exact T.n_TwoStacks_joiner | exact T.n_TwoStacks_zero | exact T.n_TwoStacks_given | exact T.n_TwoStacks_held | exact T.n_TwoStacks_front | exact T.n_TwoStacks_back)
    | (apply Or.inl; o_reads)
    | (apply Or.inr; o_reads)
    | (apply And.intro; (next => o_reads); o_reads)
    | (apply Exists.intro; o_reads)
    | exact Nat.le_of_ble_eq_true rfl
    | exact Nat.succ_ne_zero _
    | (show Fr _ _; kba_ints)
    | (show Same _ _; kd_subs)
    | (show Kp _ _ _; kxs_still)
    | (show (_ : Nat) ≤ _; simp only [List.length_append, List.length_map, List.length_cons, List.length_nil, List.length_take, List.length_drop, List.length_replicate, List.length_range, sizeLine_eq]; omega)
    | (show _ = none; apply Fr.h; kba_ints)
    | (show Bag _ _; first | assumption | (apply bag_putF; assumption; o_reads) | (apply bag_neF; (next => kbo_bools); o_reads) | (apply bag_kpR; assumption; (next => kaf_pre); o_reads))
    | omega
    | decide)
local macro_rules
  | `(tactic| o_readsAll) => `(tactic| repeat (first
    | (refine fun (pNew : Addr) (nNew : _ = none) => ?_; replace nNew := Fr.mk nNew)
    | (refine fun (xNew dNew : Addr) (nNew : _ = none) (mNew : _ = none) (eNew : dNew ≠ xNew) => ?_; replace nNew := Fr.mk nNew; replace mNew := Fr.mk mNew)
    | (apply And.intro; next => o_reads)
    | apply Exists.intro (α := V)
    | apply Exists.intro (α := Addr)
    | apply Exists.intro (α := Int)
    | apply Exists.intro (α := Bool)
    | apply Exists.intro (α := List V)
    | apply Exists.intro (α := List Nat)
    | apply Exists.intro (α := List (Str × V))
    | apply Exists.intro (α := List _)
    | apply Exists.intro (α := Str)
    | apply Exists.intro (α := HO)
    | apply Exists.intro (α := Sp)
    | apply Exists.intro (α := VK)))
set_option hygiene false in
local macro_rules
  | `(tactic| kba_ints) => `(tactic| first
    | assumption
    | (apply frUp; (first | assumption | (apply Ne.symm; assumption)); kba_ints)
    | (apply noneOf; assumption; intro oF eF; apply Exists.intro; kp_flats)
    | (apply frUp; (next => kbo_bools); kba_ints))
set_option hygiene false in
local macro_rules
  | `(tactic| kxs_still) => `(tactic| first
    | assumption
    | exact kp_refl _ _
    | (apply kp_newF; assumption; kxs_still)
    | (apply kp_new; assumption; kxs_still)
    | (apply kp_up; (next => o_fieldsN); kxs_still)
    | (apply kp_new; (next => kba_ints); kxs_still)
    | (apply kp_sameR; assumption; kxs_still)
    | (apply kp_transR; assumption; kxs_still)
    | (apply kp_freshR; assumption; (next => kaf_suf); kxs_still))
set_option hygiene false in
local macro_rules
  | `(tactic| kaf_suf) => `(tactic| first
    | assumption
    | exact subNil
    | (apply subCons; (first | (apply Or.inl; o_fieldsN) | (apply Or.inr; kba_ints)); kaf_suf)
    | (apply subApp; (next => kaf_suf); kaf_suf))
set_option hygiene false in
local macro_rules
  | `(tactic| o_fieldsN) => `(tactic| first
    | assumption
    | exact memA
    | (apply memB; o_fieldsN)
    | (apply memL; o_fieldsN)
    | (apply memR; o_fieldsN))
set_option hygiene false in
local macro_rules
  | `(tactic| kd_subs) => `(tactic| first
    | assumption
    | exact Same.refl _
    | (apply same_putF; assumption; kd_subs)
    | (apply same_putG; assumption; kd_subs)
    | (apply same_putF; (next => kba_ints); kd_subs)
    | (apply same_transR; assumption; kd_subs))

set_option pp.maxSteps 900
/-- over zip of two lists -/
theorem lc_zip {K : PySem.W.Frag} {a b : Addr} {xs ys : List V} {g : TG} {tt : TT} {te : TE} {vs : List Nat} {σ : L2.St} {H1 : Hp} {D : Addr} {Qd : Hp → Prop} (hxy : ys.length ≤ xs.length) (Pv : Nat → Hp → Prop) (h0 : Pv 0 (upd H1 D (.lst []))) (hl : ∀ i H, Pv i H → SqL K H a xs ∧ SqL K H b ys)
    (hs : ∀ i x y T H, xs[i]? = some x → ys[i]? = some y → Pv i H → H T = none → g (.ref T) (wipe σ vs) (upd H T (.tup [x, y])) fun σ2 H2 => wipe σ2 vs = wipe σ vs ∧ tt σ2 H2 fun b H3 =>
      if b = true then te σ2 H3 fun y H4 => ∃ acc, H4 D = some (.lst acc) ∧ acc.length < sizeLine ∧ Pv (i + 1) (upd H4 D (.lst (acc ++ [y]))) else Pv (i + 1) H3) (hd : ∀ H, Pv ys.length H → Qd H) :
    ∃ W : Nat → Nat → Hp → Prop, (∃ m, W 0 m (upd H1 D (.lst []))) ∧ ∀ i m H, W i m H →
      ((Itz K a b).stop i H ∧ Qd H) ∨ ((Itz K a b).go i H ∧ ∃ Nx : Hp → Prop, (∀ H', Nx H' → ∃ m', m' < m ∧ W (i + 1) m' H') ∧ ∀ x H', (Itz K a b).yld i H x H' → g x (wipe σ vs) H' fun σ2 H2 => wipe σ2 vs = wipe σ vs ∧ tt σ2 H2 fun b H3 =>
        if b = true then te σ2 H3 fun y H4 => ∃ acc, H4 D = some (.lst acc) ∧ acc.length < sizeLine ∧ Nx (upd H4 D (.lst (acc ++ [y]))) else Nx H3) := by
  refine ⟨fun i m H => m = ys.length - i ∧ i ≤ ys.length ∧ Pv i H, ⟨ys.length, rfl, Nat.zero_le _, h0⟩, ?_⟩
  rintro i m H ⟨rfl, hi, p⟩
  obtain ⟨qx, qy⟩ := hl i H p
  by_cases hlt : i < ys.length
  · have hx : xs[i]? = some xs[i] := List.getElem?_eq_getElem (by omega)
    have hy : ys[i]? = some ys[i] := List.getElem?_eq_getElem hlt
    refine .inr ⟨⟨xs, ys, _, _, qx, qy, hx, hy⟩, Pv (i + 1), fun H' p' => ⟨ys.length - (i + 1), by omega, rfl, hlt, p'⟩, fun v H' y => ?_⟩
    obtain ⟨T, x', y', rfl, hT, rfl, f1, f2⟩ := y
    exact hs i x' y' T H (f1 xs qx) (f2 ys qy) p hT
  · have e : i = ys.length := by omega
    subst e
    exact .inl ⟨⟨xs, ys, qx, qy, Or.inr (Nat.le_refl _)⟩, hd H p⟩
def prtV (g e b n : Nat) (vf vb vl : V) : Nat → List V
  | 0 => []
  | 1 => [] ++ (if g < e then [vf] else [])
  | 2 => ([] ++ (if g < e then [vf] else [])) ++ (if e < b then [vb] else [])
  | _ => (([] ++ (if g < e then [vf] else [])) ++ (if e < b then [vb] else [])) ++ (if b < n then [vl] else [])
theorem if1_len {c : Prop} [Decidable c] {v : V} : (if c then [v] else []).length ≤ 1 := by
  split
  · exact Nat.le_refl 1
  · exact Nat.zero_le 1
section
variable {P : Program} {w : World} {K : PySem.W.Frag} {mg : Str → Option Value} {base : Heap} {n : Nat}
def spSum : Sp := fun vs H Q _ => ∃ (m : Addr) (g e b n : Nat) (r : Option Nat), vs = [.ref m] ∧ MoAt H m g e b n r ∧ g ≤ e ∧ e ≤ b ∧ b ≤ n ∧ (g = e → b = n) ∧ (e = b → b = n) ∧ ∀ o xs H', Same H H' → Fr H o → H' o = some (.lst xs) → JLog H' xs (totE g e b n) → Q (.ref o) H'
theorem ok_msum (T : Txt K mg) : FnOk P w K mg base CX0 2 T.f_l_summed T.d_l_summed ["_law_model"] spSum := by
  refine T.F_l_summed.ok sc_l_summed (fun vs H Q E h => ?_) (fun cdv A outer s H vs Q E hr h => ?_)
  · obtain ⟨m, g, e, b, n, r, rfl, _⟩ := h
    rfl
  · obtain ⟨m, g, e, b, n, r, rfl, hm, l1, l2, l3, c1, c2, q⟩ := h
    refine ⟨_, (pss_cons (ps_set (i := 1) sc_l_summed.nd rfl (.inr rfl) (pe_lc (own := [("_law_word", 4)]) (g := gName 4)  rfl sc_l_summed.nd (pi_list (pe_lst (pa_cons pe_str (pa_cons pe_str (pa_cons pe_str pa_nil))))) (blkOk_by (N := n_l_summed) (sc := defScope s_l_summed) (by decide +kernel)) (fun _ _ _ _ _ => (pg_name (i := 4) sc_l_summed.nd rfl (.inl rfl))) (fun _ _ _ _ _ => (pts_one (pt_cmpR op_lt (pe_ix (r := rIxT K) ix_tup (pe_dget (hu_of hr) (pv 0) (pv 4) (fun _ _ => rfl)) pe_int (fun _ _ => rfl)) (pe_ix (r := rIxT K) ix_tup (pe_dget (hu_of hr) (pv 0) (pv 4) (fun _ _ => rfl)) pe_int (fun _ _ => rfl)) (nomark _)))) (fun _ _ _ _ _ => (pe_dget (hu_of hr) (pv 0) (pv 4) (fun _ _ => rfl)))))
      (pss_one (ps_ret (pe_lc (own := [("_law_one", 2), ("_law_other", 3)]) (g := (gTup K 2 (gCons (gName 2) (gCons (gName 3) gNil)))) (tt := tYes) rfl sc_l_summed.nd (RZ.pi_zipA (by rfl) T.z_zip (pa_cons (pv 1) (pa_cons (pe_slice sl_list (pv 1) (po_some pe_int) po_none) pa_nil))) (blkOk_by (N := n_l_summed) (sc := defScope s_l_summed) (by decide +kernel)) (fun _ _ _ _ _ => (pg_tup (by rfl) (pgs_cons (pg_name (i := 2) sc_l_summed.nd rfl (.inl rfl)) (pgs_cons (pg_name (i := 3) sc_l_summed.nd rfl (.inl rfl)) pgs_nil)))) (fun _ _ _ _ _ => pts_nil) (fun _ _ _ _ _ => (pe_tup (pa_cons pe_str (pa_cons (pe_tup (pa_cons (pe_ix (r := rIxT K) ix_tup (pe_ix (r := rIxL K) ix_list (pv 1) pe_int (fun _ _ => rfl)) pe_int (fun _ _ => rfl)) (pa_cons (pe_ix (r := rIxT K) ix_tup (pv 2) pe_int (fun _ _ => rfl)) pa_nil))) (pa_cons (pv 3) pa_nil))))))))), ?_⟩
    obtain ⟨vf, vb, vl, em, hf, hb, hl⟩ := hm.ex
    refine ⟨(by decide : 3 ≤ sizeLine), fun ql nql => ⟨ql, rfl, ⟨_, sqlOf upd_same⟩, fun D nD => ?_⟩⟩
    have fql := Fr.mk nql
    have fD := Fr.mk nD
    have s1 : Same H (upd H ql (.lst [.str "front", .str "back", .str "later"])) := same_newF fql
    have eql : upd H ql (.lst [.str "front", .str "back", .str "later"]) ql = some (.lst [.str "front", .str "back", .str "later"]) := upd_same
    generalize upd H ql (.lst [.str "front", .str "back", .str "later"]) = Hq at s1 eql fD ⊢
    obtain ⟨pf, f0, f1, rfl, epf, hpf⟩ := hf
    obtain ⟨pb, b0, b1, rfl, epb, hpb⟩ := hb
    obtain ⟨pl, l0, l1', rfl, epl, hpl⟩ := hl
    generalize hPR : prtV g e b n (.ref pf) (.ref pb) (.ref pl) = prt
    have prt0 : prt 1 = prt 0 ++ (if g < e then [V.ref pf] else []) := by rw [← hPR]; rfl
    have prt1 : prt 2 = prt 1 ++ (if e < b then [V.ref pb] else []) := by rw [← hPR]; rfl
    have prt2 : prt 3 = prt 2 ++ (if b < n then [V.ref pl] else []) := by rw [← hPR]; rfl
    have prtz : prt 0 = [] := by rw [← hPR]; rfl
    have prt_len : ∀ k, k ≤ 3 → (prt k).length ≤ k := fun k hk => by
      have z1 := if1_len (c := g < e) (v := V.ref pf)
      have z2 := if1_len (c := e < b) (v := V.ref pb)
      have z3 := if1_len (c := b < n) (v := V.ref pl)
      match k, hk with
      | 0, _ => rw [prtz]; exact Nat.le_refl _
      | 1, _ =>
        rw [prt0, prtz, List.length_append]
        show 0 + _ ≤ 1
        omega
      | 2, _ =>
        rw [prt1, prt0, prtz, List.length_append, List.length_append]
        show 0 + _ + _ ≤ 2
        omega
      | 3, _ =>
        rw [prt2, prt1, prt0, prtz, List.length_append, List.length_append, List.length_append]
        show 0 + _ + _ + _ ≤ 3
        omega
      | k + 4, h => exact absurd h (by omega)
    refine lc_list (K := K) (xs := [.str "front", .str "back", .str "later"]) (fun i H' => Same Hq H' ∧ H' D = some (.lst (prt i))) ⟨same_newF fD, by rw [upd_same, prtz]⟩ (fun i H' _ z => sqlOf (z.1 _ _ eql)) ?_ ?_
    · rintro i x H5 hx ⟨s5, e5⟩
      match i, hx with
      | 0, hx =>
        cases hx
        refine ⟨rfl, _, rfl, _, rfl, m, _, rfl, DGet.k (k := .inr "front") (s5 _ _ (s1 _ _ em)), pf, _, 0, _, rfl, rfl, sqtOf (s5 _ _ (s1 _ _ epf)), atI_nat (j := 0) rfl, _, rfl, _, rfl, m, _, rfl, DGet.k (k := .inr "front") (s5 _ _ (s1 _ _ em)), pf, _, 1, _, rfl, rfl, sqtOf (s5 _ _ (s1 _ _ epf)), atI_nat (j := 1) rfl, _, _, rfl, rfl, _, rfl, ?_⟩
        by_cases c : g < e
        · have : f0 < f1 := by
            rcases hpf with ⟨_, z1, z2⟩ | ⟨z, _⟩ <;> omega
          refine ifT (decide_eq_true (by omega)) ⟨_, rfl, _, rfl, m, _, rfl, DGet.k (k := .inr "front") (s5 _ _ (s1 _ _ em)), _, e5, ?_, same_putG fD s5, ?_⟩
          · exact Nat.lt_of_le_of_lt (prt_len 0 (by decide)) (by rw [sizeLine_eq]; decide)
          · rw [upd_same, prt0]
            rw [if_pos c]
        · have : ¬ f0 < f1 := by
            rcases hpf with ⟨z, _⟩ | ⟨_, z⟩ <;> omega
          refine ifF (decide_eq_false (by omega)) ⟨s5, ?_⟩
          rw [e5, prt0, if_neg c, List.append_nil]
      | 1, hx =>
        cases hx
        refine ⟨rfl, _, rfl, _, rfl, m, _, rfl, DGet.k (k := .inr "back") (s5 _ _ (s1 _ _ em)), pb, _, 0, _, rfl, rfl, sqtOf (s5 _ _ (s1 _ _ epb)), atI_nat (j := 0) rfl, _, rfl, _, rfl, m, _, rfl, DGet.k (k := .inr "back") (s5 _ _ (s1 _ _ em)), pb, _, 1, _, rfl, rfl, sqtOf (s5 _ _ (s1 _ _ epb)), atI_nat (j := 1) rfl, _, _, rfl, rfl, _, rfl, ?_⟩
        by_cases c : e < b
        · have : b0 < b1 := by
            rcases hpb with ⟨_, z1, z2⟩ | ⟨z, _⟩ <;> omega
          refine ifT (decide_eq_true (by omega)) ⟨_, rfl, _, rfl, m, _, rfl, DGet.k (k := .inr "back") (s5 _ _ (s1 _ _ em)), _, e5, ?_, same_putG fD s5, ?_⟩
          · exact Nat.lt_of_le_of_lt (prt_len 1 (by decide)) (by rw [sizeLine_eq]; decide)
          · rw [upd_same, prt1]
            rw [if_pos c]
        · have : ¬ b0 < b1 := by
            rcases hpb with ⟨z, _⟩ | ⟨_, z⟩ <;> omega
          refine ifF (decide_eq_false (by omega)) ⟨s5, ?_⟩
          rw [e5, prt1, if_neg c, List.append_nil]
      | 2, hx =>
        cases hx
        refine ⟨rfl, _, rfl, _, rfl, m, _, rfl, DGet.k (k := .inr "later") (s5 _ _ (s1 _ _ em)), pl, _, 0, _, rfl, rfl, sqtOf (s5 _ _ (s1 _ _ epl)), atI_nat (j := 0) rfl, _, rfl, _, rfl, m, _, rfl, DGet.k (k := .inr "later") (s5 _ _ (s1 _ _ em)), pl, _, 1, _, rfl, rfl, sqtOf (s5 _ _ (s1 _ _ epl)), atI_nat (j := 1) rfl, _, _, rfl, rfl, _, rfl, ?_⟩
        by_cases c : b < n
        · have : l0 < l1' := by
            rcases hpl with ⟨_, z1, z2⟩ | ⟨z, _⟩ <;> omega
          refine ifT (decide_eq_true (by omega)) ⟨_, rfl, _, rfl, m, _, rfl, DGet.k (k := .inr "later") (s5 _ _ (s1 _ _ em)), _, e5, ?_, same_putG fD s5, ?_⟩
          · exact Nat.lt_of_le_of_lt (prt_len 2 (by decide)) (by rw [sizeLine_eq]; decide)
          · rw [upd_same, prt2]
            rw [if_pos c]
        · have : ¬ l0 < l1' := by
            rcases hpl with ⟨z, _⟩ | ⟨_, z⟩ <;> omega
          refine ifF (decide_eq_false (by omega)) ⟨s5, ?_⟩
          rw [e5, prt2, if_neg c, List.append_nil]
      | i + 3, hx => cases i <;> cases hx
    · rintro H5 ⟨s5, e5⟩
      have s05 := s1.trans s5
      have lP : (prt 3).length = sumN g e b n := by
        rw [prt2, prt1, prt0, prtz]
        unfold sumN
        by_cases x1 : g < e <;> by_cases x2 : e < b <;> by_cases x3 : b < n <;> simp [x1, x2, x3]
      have hP : 2 ≤ (prt 3).length → ∀ q v, (prt 3)[q]? = some v → ∃ p, v = .ref p ∧ H p = some (.tup [.int (sumB g e b n q : Nat), .int (sumB g e b n (q + 1) : Nat)]) := by
        intro h2 q v hv
        have ge : g < e := by
          rcases Nat.lt_or_ge g e with z | z
          · exact z
          · have : b = n := c1 (by omega)
            rw [lP] at h2
            unfold sumN at h2
            rw [if_neg (show ¬ g < e by omega), if_neg (show ¬ b < n by omega)] at h2
            split at h2 <;> omega
        have Ef : H pf = some (.tup [.int (g : Nat), .int (e : Nat)]) := by
          rcases hpf with ⟨_, z1, z2⟩ | ⟨z, _⟩
          · rw [epf, z1, z2]
          · omega
        rw [prt2, prt1, prt0, prtz, if_pos ge] at hv
        by_cases x2 : e < b
        · have Eb : H pb = some (.tup [.int (e : Nat), .int (b : Nat)]) := by
            rcases hpb with ⟨_, z1, z2⟩ | ⟨z, _⟩
            · rw [epb, z1, z2]
            · omega
          rw [if_pos x2] at hv
          by_cases x3 : b < n
          · have El : H pl = some (.tup [.int (b : Nat), .int (n : Nat)]) := by
              rcases hpl with ⟨_, z1, z2⟩ | ⟨z, _⟩
              · rw [epl, z1, z2]
              · omega
            rw [if_pos x3] at hv
            match q, hv with
            | 0, hv => cases hv; exact ⟨pf, rfl, Ef⟩
            | 1, hv => cases hv; exact ⟨pb, rfl, Eb⟩
            | 2, hv => cases hv; exact ⟨pl, rfl, El⟩
            | q + 3, hv => cases q <;> cases hv
          · rw [if_neg x3, List.append_nil] at hv
            match q, hv with
            | 0, hv => cases hv; exact ⟨pf, rfl, Ef⟩
            | 1, hv => cases hv; exact ⟨pb, rfl, Eb⟩
            | q + 2, hv => cases q <;> cases hv
        · have x3 : ¬ b < n := by
            have := c2 (by omega)
            omega
          rw [if_neg x2, if_neg x3, List.append_nil, List.append_nil] at hv
          match q, hv with
          | 0, hv => cases hv; exact ⟨pf, rfl, Ef⟩
          | q + 1, hv => cases q <;> cases hv
      generalize prt 3 = PP at lP hP e5
      have l3 : PP.length ≤ 3 := by
        rw [lP]
        unfold sumN
        split <;> split <;> split <;> omega
      refine ⟨_, rfl, _, rfl, 1, rfl, D, _, rfl, sqlOf e5, fun p2 np2 => ?_⟩
      have fp2 := Fr.mk np2
      have s6 : Same H5 (upd H5 p2 (.lst (cutV PP (some 1) none))) := same_newF fp2
      have ep2 : upd H5 p2 (.lst (cutV PP (some 1) none)) p2 = some (.lst (PP.drop 1)) := by
        have ec : cutV PP (some 1) none = PP.drop 1 := by
          cases PP with
          | nil => rfl
          | cons x xs =>
            unfold cutV
            simp [HT.sIx]
        rw [upd_same, ec]
      generalize upd H5 p2 (.lst (cutV PP (some 1) none)) = H6 at s6 ep2 ⊢
      have s06 := s05.trans s6
      refine ⟨D, p2, _, _, rfl, .inl ⟨sqlOf (s6 _ _ e5), sqlOf ep2, fun D2 nD2 => ?_⟩⟩
      have fD2 := Fr.mk nD2
      refine lc_zip (K := K) (xs := PP) (ys := PP.drop 1) (by rw [List.length_drop]; omega) (fun i H' => ∃ zs, Same H6 H' ∧ H' D2 = some (.lst zs) ∧ JLog H' zs ((List.range i).map fun q => (sumB g e b n 0, sumB g e b n (q + 1), sumB g e b n (q + 2)))) ⟨[], same_newF fD2, upd_same, JLog.nil⟩ (fun i H' ⟨_, z, _⟩ => ⟨sqlOf (z _ _ (s6 _ _ e5)), sqlOf (z _ _ ep2)⟩) ?_ ?_
      · rintro i x y T7 H7 hx hy ⟨zs, s7, e7, j7⟩ nT
        rw [List.getElem?_drop, Nat.add_comm] at hy
        have hi : i + 1 < PP.length := (List.getElem?_eq_some_iff.mp hy).1
        have h2 : 2 ≤ PP.length := by omega
        obtain ⟨p0, ep0, h0⟩ := hP h2 0 _ (List.getElem?_eq_getElem (show 0 < PP.length by omega))
        obtain ⟨px, rfl, hpx⟩ := hP h2 i x hx
        obtain ⟨py, rfl, hpy⟩ := hP h2 (i + 1) y hy
        have fT := Fr.mk nT
        have sT := same_newF (o := .tup [.ref px, .ref py]) fT
        have s08 := (s06.trans s7).trans sT
        have eD8 := sT _ _ (s7 _ _ (s6 _ _ e5))
        have ee0 : PP[0]? = some (.ref p0) := by
          rw [List.getElem?_eq_getElem (show 0 < PP.length by omega), ep0]
        refine ⟨T7, _, rfl, sqtOf upd_same, rfl, _, _, rfl, _, _, rfl, rfl, rfl, ?_⟩
        refine ⟨_, rfl, D, _, 0, _, rfl, rfl, sqlOf eD8, atI_nat (j := 0) ee0, p0, _, 0, _, rfl, rfl, sqtOf (s08 _ _ h0), atI_nat (j := 0) rfl, _, rfl, px, _, 1, _, rfl, rfl, sqtOf (s08 _ _ hpx), atI_nat (j := 1) rfl, le2, fun x1 n1 => ⟨_, rfl, (by decide : 3 ≤ sizeLine), fun x2 n2 => ?_⟩⟩
        have g1 := Fr.mk n1
        have g2 := Fr.mk n2
        have sA := (same_newF (o := .tup [.int (sumB g e b n 0 : Nat), .int (sumB g e b n (i + 1) : Nat)]) g1).trans (same_newF (o := .tup [.str "join", .ref x1, .ref py]) g2)
        have sB := sT.trans sA
        have e9 := sB _ _ e7
        have lzs : zs.length = i := by
          rw [j7.len, List.length_map, List.length_range]
        have je : JEnt (upd (upd (upd H7 T7 (.tup [.ref px, .ref py])) x1 (.tup [.int (sumB g e b n 0 : Nat), .int (sumB g e b n (i + 1) : Nat)])) x2 (.tup [.str "join", .ref x1, .ref py])) (.ref x2) (sumB g e b n 0, sumB g e b n (i + 1), sumB g e b n (i + 2)) :=
          ⟨x2, x1, py, rfl, upd_same, atNew g2 upd_same, sA _ _ (s08 _ _ hpy)⟩
        refine ⟨_, e9, by rw [lzs, sizeLine_eq]; omega, zs ++ [.ref x2], same_putG fD2 (s7.trans sB), upd_same, ?_⟩
        have kU : Kp [D2] (upd (upd (upd H7 T7 (.tup [.ref px, .ref py])) x1 (.tup [.int (sumB g e b n 0 : Nat), .int (sumB g e b n (i + 1) : Nat)])) x2 (.tup [.str "join", .ref x1, .ref py])) (upd (upd (upd (upd H7 T7 (.tup [.ref px, .ref py])) x1 (.tup [.int (sumB g e b n 0 : Nat), .int (sumB g e b n (i + 1) : Nat)])) x2 (.tup [.str "join", .ref x1, .ref py])) D2 (.lst (zs ++ [.ref x2]))) := kp_up memA (kp_refl _ _)
        have mD := mu_lst e9 mu_nil
        rw [List.range_succ, List.map_append]
        exact ((j7.kp (kp_same (cs := []) sB) mu_nil).kp kU mD).app (JLog.one (je.kp kU mD))
      · rintro H7 ⟨zs, s7, e7, j7⟩
        rw [List.length_drop, lP] at j7
        exact q D2 zs H7 (s06.trans s7) (Fr.mk ((s06).free nD2)) e7 j7
end
end Ob

set_option Elab.async false
set_option linter.all false
set_option maxRecDepth 100000
set_option maxHeartbeats 1000000
namespace Ob
open PySem PySem.Spec PyProof.Rows L2
open LamX (Tabs TabB TabS ExtN)

set_option hygiene false in
local macro_rules
  | `(tactic| kp_flats) => `(tactic| first
    | assumption
    | exact upd_same
    | (apply atNew; assumption; kp_flats)
    | (apply atNe; (next => kbo_bools); kp_flats)
    | (apply atSame; assumption; kp_flats)
    | (apply atKp; assumption; (next => kaf_pre); kp_flats))
set_option hygiene false in
local macro_rules
  | `(tactic| kaf_pre) => `(tactic| first
    | assumption
    | exact not_nil
    | (apply not_cons; (next => kbo_bools); kaf_pre)
    | (apply not_app; (next => kaf_pre); kaf_pre))
set_option hygiene false in
local macro_rules
  | `(tactic| kbo_bools) => `(tactic| first
    | assumption
    | (apply Ne.symm; assumption)
    | (apply neN; assumption; kp_flats)
    | (apply neN'; assumption; kp_flats))
set_option hygiene false in
local macro_rules
  | `(tactic| o_reads) => `(tactic| first
    | with_reducible rfl
    | assumption
    | rfl
    | kp_flats
    | (show SqL _ _ _ _; first | assumption | (apply sqlOf; kp_flats) | (apply sqlSame; assumption; o_reads))
    | (show SqT _ _ _ _; first | assumption | (apply sqtOf; kp_flats) | (apply sqtAll; assumption) | (apply sqtSame; assumption; o_reads))
    | (show Cls _ _; first | exact T.cl_Calls | exact T.cl_Joiner | exact T.cl_Planner | exact T.cl_EvenSums | exact T.cl_Shape | exact T.cl_TwoStacks)
    | (show NoAttr _ _ _; first | exact T.n_Calls_entries | exact T.n_Calls_running | exact T.n_Joiner_calls | exact T.n_Joiner_join_call | exact T.n_Planner_entries | exact T.n_EvenSums_calls | exact T.n_EvenSums_joiner | exact T.n_EvenSums_zero | exact T.n_EvenSums_given | exact T.n_EvenSums_held | exact T.n_EvenSums_shape | exact T.n_Shape_front | exact T.n_Shape_back | exact T.n_Shape_late | exact T.n_Shape_renewed | exact T.n_TwoStacks_calls | exact T.n_TwoStacks_joiner | exact T.n_TwoStacks_zero | exact T.n_TwoStacks_given | exact T.n_TwoStacks_held | exact T.n_TwoStacks_front | exact T.n_TwoStacks_back)
    | (apply Or.inl; o_reads)
    | (apply Or.inr; o_reads)
    | (apply And.intro; (next => o_reads); o_reads)
    | (apply Exists.intro; o_reads)
    | exact Nat.le_of_ble_eq_true rfl
    | exact Nat.succ_ne_zero _
    | (show Fr _ _; kba_ints)
    | (show Same _ _; kd_subs)
    | (show Kp _ _ _; kxs_still)
    | (show (_ : Nat) ≤ _; simp only [List.length_append, List.length_map, List.length_cons, List.length_nil, List.length_take, List.length_drop, List.length_replicate, List.length_range, sizeLine_eq]; omega)
    | (show _ = none; apply Fr.h; kba_ints)
    | (show Bag _ _; first | assumption | (apply bag_putF; assumption; o_reads) | (apply bag_neF; (next => kbo_bools); o_reads) | (apply bag_kpR; assumption; (next => kaf_pre); o_reads))
    | omega
    | decide)
local macro_rules
  | `(tactic| o_readsAll) => `(tactic| repeat (first
    | (refine fun (pNew : Addr) (nNew : _ = none) => ?_; replace nNew := Fr.mk nNew)
    | (refine fun (xNew dNew : Addr) (nNew : _ = none) (mNew : _ = none) (eNew : dNew ≠ xNew) => ?_; replace nNew := Fr.mk nNew; replace mNew := Fr.mk mNew)
    | (apply And.intro; next => o_reads)
    | apply Exists.intro (α := V)
    | apply Exists.intro (α := Addr)
    | apply Exists.intro (α := Int)
    | apply Exists.intro (α := Bool)
    | apply Exists.intro (α := List V)
    | apply Exists.intro (α := List Nat)
    | apply Exists.intro (α := List (Str × V))
    | apply Exists.intro (α := List _)
    | apply Exists.intro (α := Str)
    | apply Exists.intro (α := HO)
    | apply Exists.intro (α := Sp)
    | apply Exists.intro (α := VK)))
set_option hygiene false in
local macro_rules
  | `(tactic| kba_ints) => `(tactic| first
    | assumption
    | (apply frUp; (first | assumption | (apply Ne.symm; assumption)); kba_ints)
    | (apply noneOf; assumption; intro oF eF; apply Exists.intro; kp_flats)
    | (apply frUp; (next => kbo_bools); kba_ints))
set_option hygiene false in
local macro_rules
  | `(tactic| kxs_still) => `(tactic| first
    | assumption
    | exact kp_refl _ _
    | (apply kp_newF; assumption; kxs_still)
    | (apply kp_new; assumption; kxs_still)
    | (apply kp_up; (next => o_fieldsN); kxs_still)
    | (apply kp_new; (next => kba_ints); kxs_still)
    | (apply kp_sameR; assumption; kxs_still)
    | (apply kp_transR; assumption; kxs_still)
    | (apply kp_freshR; assumption; (next => kaf_suf); kxs_still))
set_option hygiene false in
local macro_rules
  | `(tactic| kaf_suf) => `(tactic| first
    | assumption
    | exact subNil
    | (apply subCons; (first | (apply Or.inl; o_fieldsN) | (apply Or.inr; kba_ints)); kaf_suf)
    | (apply subApp; (next => kaf_suf); kaf_suf))
set_option hygiene false in
local macro_rules
  | `(tactic| o_fieldsN) => `(tactic| first
    | assumption
    | exact memA
    | (apply memB; o_fieldsN)
    | (apply memL; o_fieldsN)
    | (apply memR; o_fieldsN))
set_option hygiene false in
local macro_rules
  | `(tactic| kd_subs) => `(tactic| first
    | assumption
    | exact Same.refl _
    | (apply same_putF; assumption; kd_subs)
    | (apply same_putG; assumption; kd_subs)
    | (apply same_putF; (next => kba_ints); kd_subs)
    | (apply same_transR; assumption; kd_subs))

set_option pp.maxSteps 900
def nm_l_right : Nat → Nat → Str := fun l _ => if l = 349 then ("_law_right" : Str) ++ ".<locals>." ++ "<lambda>" else ("_law_right" : Str) ++ ".<locals>." ++ "<lambda>"
def TT {K : PySem.W.Frag} {mg : Str → Option Value} (T : Txt K mg) : List NdefX.NTab := [(T.p_l_right, nm_l_right)]
theorem hm_l_right {K : PySem.W.Frag} {mg : Str → Option Value} (T : Txt K mg) : (T.p_l_right, nm_l_right) ∈ TT T := List.mem_cons_self ..
theorem hu_l_right {K : PySem.W.Frag} {mg : Str → Option Value} (T : Txt K mg) : ∀ p ∈ TT T, p.1 = T.p_l_right → p.2 = nm_l_right := fun p m e => by
  rcases List.mem_cons.mp m with rfl | m
  · exact rfl
  · cases m
open NdefX (TabsN)
open Inf (LClo cut mend cellsOf)
/-! ### the join of the law: it notes what it gets -/
def lamOf : Stmt → Nat → Expr
  | .Assign _ (.Call _ es _ _) _, i => es.getD i (.Constant .none 0 ⟨0, 0, 0, 0⟩)
  | _, _ => .Constant .none 0 ⟨0, 0, 0, 0⟩
def lamF (q : Str) (cl : List (Str × Addr)) (c : Addr) : Expr → Inf.LF
  | .Lambda ps b sc _ => ⟨q, ps, b, sc, cl, c⟩
  | _ => ⟨q, { posonlyargs := [], args := [], vararg := none, kwonlyargs := [], kw_defaults := [], kwarg := none, defaults := [] }, .Constant .none 0 ⟨0, 0, 0, 0⟩, defScope s_law, cl, c⟩
def qJ : Str := ("_law_right" : Str) ++ ".<locals>." ++ "<lambda>"
def LJ (cl : List (Str × Addr)) (c : Addr) : Inf.LF := lamF qJ cl c (lamOf ((defBody s_l_right).getD 2 (.Pass ⟨0, 0, 0, 0⟩)) 1)
abbrev frJ : List Str := ["_law_notes", "_law_odd"]
abbrev nJ : List Str := ["_law_one", "_law_other", "_law_notes", "_law_odd"]
theorem cellJ : ∀ y ∈ frJ, (defScope s_l_right).names.lookup y = some .cell := by decide +kernel
theorem scJ : NdefX.NScope nJ ["_law_one", "_law_other"] frJ (LJ [] 0).scope := NdefX.nscope_by (by decide +kernel)
theorem kp_ext {cs : List Addr} {H H1 : Hp} (k : Kp cs H H1) (n : Mu H cs) {t : Addr} {φ : Heap → Prop} (h : H t = some (.ext φ)) : H1 t = some (.ext φ) := k.at_ _ _ h (n.ext h)
theorem cellAt_kp {cs : List Addr} {H H1 : Hp} {c : Addr} {v : V} (h : Inf.CellAt H c v) (k : Kp cs H H1) (m : Mu H cs) : Inf.CellAt H1 c v := by
  obtain ⟨φ, e1, e2⟩ := h
  exact ⟨φ, kp_ext k m e1, e2⟩
theorem lclo_kp {cs : List Addr} {H H1 : Hp} {f : Addr} {F : Inf.LF} {fr : List Str} {ws : List V} (h : LClo H f F fr ws) (k : Kp cs H H1) (m : Mu H cs) : LClo H1 f F fr ws :=
  ⟨kp_ext k m h.fn, kp_ext k m h.code, h.len, h.dom, h.inj, fun i y e => by
    obtain ⟨c, v, a, b, d⟩ := h.at_ i y e
    exact ⟨c, v, a, b, cellAt_kp d k m⟩⟩
theorem mend_kp {cs ds : List Addr} {H H1 : Hp} (e : ∀ b ∈ cs, ∃ φ, H b = some (.ext φ)) (s : Kp ds (cut cs H) H1) (no : ∀ b ∈ cs, H1 b = none) : Kp ds H (mend cs H H1) := ⟨fun b o h n => by
  by_cases hb : b ∈ cs
  · rw [Inf.mend_in hb]
    exact h
  · rw [Inf.mend_out hb]
    exact s.at_ _ _ ((Inf.cut_out hb).trans h) n⟩
/-- the numbers from i to j - 1, in a tuple -/
def rgi (i k : Nat) : List V := (List.range' i k).map fun q : Nat => V.int (q : Int)
theorem rgi_app (i a b : Nat) : rgi i a ++ rgi (i + a) b = rgi i (a + b) := by
  unfold rgi
  rw [← List.map_append, List.range'_append_1]
theorem rgi_len (i k : Nat) : (rgi i k).length = k := by
  unfold rgi
  rw [List.length_map, List.length_range']
/-- what stands for a run of members -/
def ValO (odd : Bool) (i : Nat) (xs : List V) (v : V) (H : Hp) : Prop := (0 < xs.length ∧ i + xs.length < 90000) ∧ if odd = true then v = .non else ∃ p, v = .ref p ∧ H p = some (.tup (rgi i xs.length))
theorem valO_kp {odd : Bool} {cs : List Addr} {i : Nat} {xs : List V} {v : V} {H H1 : Hp} (h : ValO odd i xs v H) (k : Kp cs H H1) (m : Mu H cs) : ValO odd i xs v H1 := by
  unfold ValO at h ⊢
  obtain ⟨h0, h⟩ := h
  refine ⟨h0, ?_⟩
  split at h
  · rename_i c
    rw [if_pos c]
    exact h
  · rename_i c
    rw [if_neg c]
    obtain ⟨p, h1, h2⟩ := h
    exact ⟨p, h1, kp_tup k m h2⟩
/-- a noted call -/
def NoteAt (odd : Bool) (H : Hp) (t : V) (ev : JEv) : Prop := ∃ p, t = .ref p ∧ H p = some (.tup [ev.1, ev.2.1]) ∧ (if odd = true then ev.1 = .non ∧ ev.2.1 = .non else (∃ p1, ev.1 = .ref p1 ∧ H p1 = some (.tup (rgi (entOf ev).1 ((entOf ev).2.1 - (entOf ev).1)))) ∧ ∃ p2, ev.2.1 = .ref p2 ∧ H p2 = some (.tup (rgi (entOf ev).2.1 ((entOf ev).2.2 - (entOf ev).2.1))))
theorem NoteAt.kp {odd : Bool} {cs : List Addr} {H H1 : Hp} {t : V} {ev : JEv} (h : NoteAt odd H t ev) (k : Kp cs H H1) (m : Mu H cs) : NoteAt odd H1 t ev := by
  obtain ⟨p, h1, h2, h3⟩ := h
  refine ⟨p, h1, kp_tup k m h2, ?_⟩
  split at h3
  · rename_i c
    rw [if_pos c]
    exact h3
  · rename_i c
    rw [if_neg c]
    obtain ⟨⟨p1, a1, a2⟩, p2, b1, b2⟩ := h3
    exact ⟨⟨p1, a1, kp_tup k m a2⟩, p2, b1, kp_tup k m b2⟩
structure Notes (odd : Bool) (pn : Addr) (u : List JEv) (H : Hp) : Prop where
  bd : ∀ ev ∈ u, (entOf ev).1 < 90000 ∧ (entOf ev).2.1 < 90000 ∧ (entOf ev).2.2 < 90000
  ex : ∃ ts : List V, H pn = some (.lst ts) ∧ ts.length = u.length ∧ ∀ (q : Nat) (t : V) (ev : JEv), ts[q]? = some t → u[q]? = some ev → NoteAt odd H t ev
theorem Notes.kp {odd : Bool} {pn : Addr} {u : List JEv} {cs : List Addr} {H H1 : Hp} (h : Notes odd pn u H) (k : Kp cs H H1) (m : Mu H cs) (n : pn ∉ cs) : Notes odd pn u H1 := by
  obtain ⟨ts, h1, h2, h3⟩ := h.ex
  exact ⟨h.bd, ts, k.at_ _ _ h1 n, h2, fun q t ev a b => (h3 q t ev a b).kp k m⟩
theorem Notes.cv {odd : Bool} {pn : Addr} {u : List JEv} {H H1 : Hp} (k : Cv H H1) (h : Notes odd pn u H) : Notes odd pn u H1 := by
  obtain ⟨ts, h1, h2, h3⟩ := h.ex
  refine ⟨h.bd, ts, k.lst h1, h2, fun q t ev a b => ?_⟩
  obtain ⟨p, g1, g2, g3⟩ := h3 q t ev a b
  refine ⟨p, g1, k.tup g2, ?_⟩
  split at g3
  · rename_i c
    rw [if_pos c]
    exact g3
  · rename_i c
    rw [if_neg c]
    obtain ⟨⟨p1, a1, a2⟩, p2, b1, b2⟩ := g3
    exact ⟨⟨p1, a1, k.tup a2⟩, p2, b1, k.tup b2⟩
theorem valO_cv {odd : Bool} {i : Nat} {xs : List V} {v : V} {H H1 : Hp} (k : Cv H H1) (h : ValO odd i xs v H) : ValO odd i xs v H1 := by
  unfold ValO at h ⊢
  obtain ⟨h0, h⟩ := h
  refine ⟨h0, ?_⟩
  split at h
  · rename_i c
    rw [if_pos c]
    exact h
  · rename_i c
    rw [if_neg c]
    obtain ⟨p, h1, h2⟩ := h
    exact ⟨p, h1, k.tup h2⟩
section
variable {P : Program} {w : World} {K : PySem.W.Frag} {mg : Str → Option Value} {base : Heap}
def spNoting : Sp := fun vs H Q _ => ∃ (pn : Addr) (a b : V) (odd : Bool) (ts : List V) (i la lb : Nat), vs = [.ref pn, a, b, .bl odd] ∧ H pn = some (.lst ts) ∧ ts.length < 95000 ∧ la + lb < 95000 ∧ 0 < la ∧ (odd = false → (∃ p, a = .ref p ∧ H p = some (.tup (rgi i la))) ∧ ∃ p, b = .ref p ∧ H p = some (.tup (rgi (i + la) lb))) ∧
  ∀ t v H', Kp [pn] H H' → H' pn = some (.lst (ts ++ [.ref t])) → H' t = some (.tup [a, b]) → (if odd = true then v = .non else ∃ p, v = .ref p ∧ H' p = some (.tup (rgi i (la + lb)))) → Q v H'
theorem ok_noting (T : Txt K mg) : FnOk P w K mg base CX0 1 T.f_l_noting T.d_l_noting ["_law_notes", "_law_one", "_law_other", "_law_odd"] spNoting := by
  refine T.F_l_noting.ok sc_l_noting (fun vs H Q E h => ?_) (fun cdv A outer s H vs Q E hr h => ?_)
  · obtain ⟨pn, a, b, odd, ts, i, la, lb, rfl, _⟩ := h
    rfl
  · obtain ⟨pn, a, b, odd, ts, i, la, lb, rfl, hp, hl, hlab, hla, hab, q⟩ := h
    refine ⟨_, (pss_cons (ps_expr (pe_bm PySem.F.plainAttrs_list PySem.F.slot_list_append PySem.F.type_list_append mt_append (pv 0) (pa_cons (pe_tup (pa_cons (pv 1) (pa_cons (pv 2) pa_nil))) pa_nil)))
      (pss_one (ps_ret (pe_ifExp (pt_val (pv 3)) pe_non (pe_op op_catT (pv 1) (pv 2)))))), ?_⟩
    refine ⟨_, rfl, .inl ⟨rfl, _, sqlOf hp⟩, _, rfl, _, rfl, le2, fun t nt => ?_⟩
    have ft := Fr.mk nt
    have s1 : Same H (upd H t (.tup [a, b])) := same_newF ft
    have hp1 := s1 _ _ hp
    have et : upd H t (.tup [a, b]) t = some (.tup [a, b]) := upd_same
    generalize upd H t (.tup [a, b]) = H1 at s1 hp1 et ⊢
    refine ⟨pn, _, _, rfl, rfl, hp1, by rw [sizeLine_eq]; omega, ?_⟩
    have k2 : Kp [pn] H1 (upd H1 pn (.lst (ts ++ [.ref t]))) := kp_up memA (kp_refl _ _)
    have m1 : Mu H1 [pn] := mu_lst hp1 mu_nil
    have ep : upd H1 pn (.lst (ts ++ [.ref t])) pn = some (.lst (ts ++ [.ref t])) := upd_same
    have et2 := kp_tup k2 m1 et
    cases odd with
    | true => exact ⟨_, rfl, _, rfl, ifT rfl (q t .non _ (kp_trans (kp_same s1) k2) ep et2 rfl)⟩
    | false =>
      obtain ⟨⟨pa, rfl, ha⟩, pb, rfl, hb⟩ := hab rfl
      have ha2 := kp_tup k2 m1 (s1 _ _ ha)
      have hb2 := kp_tup k2 m1 (s1 _ _ hb)
      refine ⟨_, rfl, _, rfl, ifF rfl ?_⟩
      have hne : rgi i la ≠ [] := fun z => by
        have := rgi_len i la
        rw [z] at this
        have : 0 = la := this
        omega
      refine ⟨_, rfl, _, rfl, pa, pb, _, _, rfl, rfl, sqtOf ha2, sqtOf hb2, hne, by rw [rgi_len, rgi_len, sizeLine_eq]; omega, fun hz => ?_, fun _ r nr => ?_⟩
      · have hl0 : lb = 0 := by
          have := rgi_len (i + la) lb
          rw [hz] at this
          exact this.symm
        exact q t (.ref pa) _ (kp_trans (kp_same s1) k2) ep et2 ⟨pa, rfl, by rw [hl0]; exact ha2⟩
      · have fr := Fr.mk nr
        have sr := same_newF (o := .tup (rgi i la ++ rgi (i + la) lb)) fr
        exact q t (.ref r) _ (kp_trans (kp_same s1) (kp_trans k2 (kp_same sr))) (sr _ _ ep) (sr _ _ et2) ⟨r, rfl, by rw [upd_same, rgi_app]⟩
def spLJ : List (Option V) → Sp := fun ws vs H Q _ => ∃ (pn : Addr) (a b : V) (odd : Bool) (ts : List V) (i la lb : Nat), ws = [some (.ref pn), some (.bl odd)] ∧ vs = [a, b] ∧ H pn = some (.lst ts) ∧ ts.length < 95000 ∧ la + lb < 95000 ∧ 0 < la ∧ (odd = false → (∃ p, a = .ref p ∧ H p = some (.tup (rgi i la))) ∧ ∃ p, b = .ref p ∧ H p = some (.tup (rgi (i + la) lb))) ∧
  ∀ t v H', Kp [pn] H H' → H' pn = some (.lst (ts ++ [.ref t])) → H' t = some (.tup [a, b]) → (if odd = true then v = .non else ∃ p, v = .ref p ∧ H' p = some (.tup (rgi i (la + lb)))) → Q v H'
theorem lamJ (T : Txt K mg) {cl : List (Str × Addr)} {c f : Addr} : FnR P w K mg base CX0 2 f (fun vs H Q E => ∃ ws, LClo H f (LJ cl c) frJ ws ∧ spLJ (ws.map some) vs (cut (cellsOf (LJ cl c).nf frJ) H) (fun v H1 => (∀ b, b ∈ cellsOf (LJ cl c).nf frJ → H1 b = Option.none) → Q v (mend (cellsOf (LJ cl c).nf frJ) H H1)) E) := by
  have G_l_noting := ok_noting (P := P) (w := w) (base := base) T
  refine Inf.lam_cloR (k := 1) (N := nJ) (ps := ["_law_one", "_law_other"]) scJ (fun _ _ us hl => match us, hl with | [_, _], _ => rfl) (fun ws vs H Q E h => ?_) (fun A outer s H vs ws Q E hr hl h => ?_)
  · obtain ⟨pn, a, b, odd, ts, i, la, lb, rfl, rfl, _⟩ := h
    rfl
  · obtain ⟨pn, a, b, odd, ts, i, la, lb, rfl, rfl, h1⟩ := h
    refine ⟨_, pe_call G_l_noting (by exact hr) (by rfl) (by exact T.g_l_noting) T.F_l_noting.kp T.b_l_noting .nil pass0 (pa_cons (pv 2) (pa_cons (pv 0) (pa_cons (pv 1) (pa_cons (pv 3) pa_nil)))), ?_⟩
    exact ⟨_, rfl, _, rfl, _, rfl, _, rfl, pn, a, b, odd, ts, i, la, lb, rfl, h1⟩
def URT (f : Addr) (cl : List (Str × Addr)) (c pn : Addr) (odd : Bool) (u : List JEv) (H : Hp) : Prop := LClo H f (LJ cl c) frJ [.ref pn, .bl odd] ∧ Notes odd pn u H
def URU (f : Addr) (cl : List (Str × Addr)) (c pn : Addr) (odd : Bool) (u : List JEv) (H : Hp) : Prop := H f = some (Inf.LamO f (LJ cl c)) ∧ H c = some (LamX.CodeO c qJ) ∧ Notes odd pn u H
theorem jsO (T : Txt K mg) {f c pn : Addr} {cl : List (Str × Addr)} {odd : Bool} : JS P w K mg base 2 true [pn] (.ref f) (URT f cl c pn odd) (ValO odd) where
  ur := fun {cs u H H1} h kk m n => ⟨lclo_kp h.1 kk m, h.2.kp kk m (n pn memA)⟩
  val := fun h kk m => valO_kp h kk m
  mu := fun h => by
    obtain ⟨ts, h1, _⟩ := h.2.ex
    exact mu_lst h1 mu_nil
  pl := fun h => nomatch h
  act := fun _ {i xs ys a b u H Q} ha hb hu lu lx q => by
    obtain ⟨hc, hn⟩ := hu
    obtain ⟨ts, h1, h2, h3⟩ := hn.ex
    have out : ∀ b o, H b = some o → (∀ φ, o ≠ .ext φ) → b ∉ cellsOf (LJ cl c).nf frJ := fun b o e n => hc.out e n
    refine ⟨f, _, Q, rfl, ?_, lamJ T, ⟨[.ref pn, .bl odd], hc, pn, a, b, odd, ts, i, xs.length, ys.length, rfl, rfl, (Inf.cut_out (out _ _ h1 (fun _ z => nomatch z))).trans h1, by omega, by omega, ha.1.1, fun ho => ?_, fun t v H1 k1 e1 e2 hv no => ?_⟩, fun _ _ z => z⟩
    · exact .inl ⟨_, hc.fn, Inf.lamHO⟩
    · subst ho
      obtain ⟨pa, ea, ha⟩ : ∃ p, a = .ref p ∧ H p = some (.tup (rgi i xs.length)) := ha.2
      obtain ⟨pb, eb, hb⟩ : ∃ p, b = .ref p ∧ H p = some (.tup (rgi (i + xs.length) ys.length)) := hb.2
      exact ⟨⟨pa, ea, (Inf.cut_out (out _ _ ha (fun _ z => nomatch z))).trans ha⟩, pb, eb, (Inf.cut_out (out _ _ hb (fun _ z => nomatch z))).trans hb⟩
    · have e' : ∀ y o, H1 y = some o → mend (cellsOf (LJ cl c).nf frJ) H H1 y = some o := fun y o e => by
        rw [Inf.mend_out fun m => by rw [no y m] at e; cases e]
        exact e
      have k2 : Kp [pn] H (mend (cellsOf (LJ cl c).nf frJ) H H1) := mend_kp (fun b m => by obtain ⟨v, φ, e, _⟩ := hc.cell m; exact ⟨φ, e⟩) k1 no
      have m0 : Mu H [pn] := mu_lst h1 mu_nil
      refine q v _ k2 ⟨lclo_kp hc k2 m0, ⟨fun ev hm => (List.mem_append.mp hm).elim (hn.bd ev) fun z => ?_, ts ++ [.ref t], e' _ _ e1, by rw [List.length_append, List.length_append, h2]; rfl, fun q' t' ev a1 a2 => ?_⟩⟩ ?_
      · have := hb.1.2
        rw [List.mem_singleton.mp z]
        show i < 90000 ∧ i + xs.length < 90000 ∧ i + xs.length + ys.length < 90000
        omega
      · by_cases c0 : q' < ts.length
        · rw [List.getElem?_append_left c0] at a1
          rw [List.getElem?_append_left (by rw [← h2]; exact c0)] at a2
          exact (h3 q' t' ev a1 a2).kp k2 m0
        · rw [List.getElem?_append_right (by omega)] at a1
          rw [List.getElem?_append_right (by rw [← h2]; omega), ← h2] at a2
          match q' - ts.length, a1, a2 with
          | 0, a1, a2 =>
            cases a1
            cases a2
            refine ⟨t, rfl, e' _ _ e2, ?_⟩
            cases odd with
            | true =>
              rw [if_pos rfl]
              exact ⟨ha.2, hb.2⟩
            | false =>
              rw [if_neg (fun z => nomatch z)]
              obtain ⟨pa, ea, ha⟩ : ∃ p, a = .ref p ∧ H p = some (.tup (rgi i xs.length)) := ha.2
              obtain ⟨pb, eb, hb⟩ : ∃ p, b = .ref p ∧ H p = some (.tup (rgi (i + xs.length) ys.length)) := hb.2
              refine ⟨⟨pa, ea, ?_⟩, pb, eb, ?_⟩
              · show _ = some (HO.tup (rgi i (i + xs.length - i)))
                rw [Nat.add_sub_cancel_left]
                exact kp_tup k2 m0 ha
              · show _ = some (HO.tup (rgi (i + xs.length) (i + xs.length + ys.length - (i + xs.length))))
                rw [Nat.add_sub_cancel_left]
                exact kp_tup k2 m0 hb
          | r + 1, a1, _ => cases r <;> cases a1
      · unfold ValO
        have ha0 := ha.1.1
        have hb0 := hb.1.2
        refine ⟨⟨by rw [List.length_append]; omega, by rw [List.length_append]; omega⟩, ?_⟩
        cases odd with
        | true => exact hv
        | false =>
          rw [if_neg (fun z => nomatch z)] at hv ⊢
          obtain ⟨pv, ev, hv⟩ := hv
          exact ⟨pv, ev, by rw [List.length_append]; exact e' _ _ hv⟩
theorem toldO {X : Cx} {σ : L2.St} {H : Hp} {f c pn : Addr} {cl : List (Str × Addr)} {odd : Bool} {u : List JEv} (ecl : cl = cloFrom X.env.cells (LJ [] 0).scope.names []) (hN : X.N[2]? = some ("_law_notes" : Str)) (hN2 : X.N[7]? = some ("_law_odd" : Str)) (hc : ∀ y ∈ frJ, X.env.scope.names.lookup y = some .cell) (hσ : σ[2]? = some (some (.ref pn))) (hσ2 : σ[7]? = some (some (.bl odd))) : Told X σ (URU f cl c pn odd) (URT f cl c pn odd) (ValO odd) u H where
  to := fun cT HT tel h => ⟨tel.lclo (F := LJ cl c) (js := [2, 7]) (ws := [.ref pn, .bl odd]) scJ ecl hc (show [X.N[2]?, X.N[7]?] = [some ("_law_notes" : Str), some ("_law_odd" : Str)] by rw [hN, hN2]) (show [σ[2]?, σ[7]?] = [some (some (.ref pn)), some (some (.bl odd))] by rw [hσ, hσ2]) h.1 h.2.1, h.2.2.cv (cv_same tel.same)⟩
  back := fun cT HT H3 u1 tel t1 h h3 => by
    have no : ∀ {b : Addr} {o : HO}, H b = some o → b ∉ cT := fun {b o} e z => by
      rw [tel.no b z] at e
      cases e
    refine ⟨?_, ?_, ?_⟩
    · rw [Inf.cut_out (no h.1)]
      exact LClo.fn h3.1
    · rw [Inf.cut_out (no h.2.1)]
      exact LClo.code h3.1
    · exact h3.2.cv (cv_tel tel t1)
  v1 := fun cT HT tel i xs v h => valO_cv (cv_same tel.same) h
  v2 := fun cT HT H3 tel t1 i xs v h => valO_cv (cv_tel tel t1) h
end
end Ob

set_option Elab.async false
set_option linter.all false
set_option maxRecDepth 100000
set_option maxHeartbeats 1000000
namespace Ob
open PySem PySem.Spec PyProof.Rows L2
open LamX (Tabs TabB TabS ExtN)

set_option hygiene false in
local macro_rules
  | `(tactic| kp_flats) => `(tactic| first
    | assumption
    | exact upd_same
    | (apply atNew; assumption; kp_flats)
    | (apply atNe; (next => kbo_bools); kp_flats)
    | (apply atSame; assumption; kp_flats)
    | (apply atKp; assumption; (next => kaf_pre); kp_flats))
set_option hygiene false in
local macro_rules
  | `(tactic| kaf_pre) => `(tactic| first
    | assumption
    | exact not_nil
    | (apply not_cons; (next => kbo_bools); kaf_pre)
    | (apply not_app; (next => kaf_pre); kaf_pre))
set_option hygiene false in
local macro_rules
  | `(tactic| kbo_bools) => `(tactic| first
    | assumption
    | (apply Ne.symm; assumption)
    | (apply neN; assumption; kp_flats)
    | (apply neN'; assumption; kp_flats))
set_option hygiene false in
local macro_rules
  | `(tactic| o_reads) => `(tactic| first
    | with_reducible rfl
    | assumption
    | rfl
    | kp_flats
    | (show SqL _ _ _ _; first | assumption | (apply sqlOf; kp_flats) | (apply sqlSame; assumption; o_reads))
    | (show SqT _ _ _ _; first | assumption | (apply sqtOf; kp_flats) | (apply sqtAll; assumption) | (apply sqtSame; assumption; o_reads))
    | (show Cls _ _; first | exact T.cl_Calls | exact T.cl_Joiner | exact T.cl_Planner | exact T.cl_EvenSums | exact T.cl_Shape | exact T.cl_TwoStacks)
    | (show NoAttr _ _ _; first | exact T.n_Calls_entries | exact T.n_Calls_running | exact T.n_Joiner_calls | exact T.n_Joiner_join_call | exact T.n_Planner_entries | exact T.n_EvenSums_calls | exact T.n_EvenSums_joiner | exact T.n_EvenSums_zero | exact T.n_EvenSums_given | exact T.n_EvenSums_held | exact T.n_EvenSums_shape | exact T.n_Shape_front | exact T.n_Shape_back | exact T.n_Shape_late | exact T.n_Shape_renewed | exact T.n_TwoStacks_calls | exact T.n_TwoStacks_joiner | exact T.n_TwoStacks_zero | exact T.n_TwoStacks_given | exact T.n_TwoStacks_held | exact T.n_TwoStacks_front | exact T.n_TwoStacks_back)
    | (apply Or.inl; o_reads)
    | (apply Or.inr; o_reads)
    | (apply And.intro; (next => o_reads); o_reads)
    | (apply Exists.intro; o_reads)
    | exact Nat.le_of_ble_eq_true rfl
    | exact Nat.succ_ne_zero _
    | (show Fr _ _; kba_ints)
    | (show Same _ _; kd_subs)
    | (show Kp _ _ _; kxs_still)
    | (show (_ : Nat) ≤ _; simp only [List.length_append, List.length_map, List.length_cons, List.length_nil, List.length_take, List.length_drop, List.length_replicate, List.length_range, sizeLine_eq]; omega)
    | (show _ = none; apply Fr.h; kba_ints)
    | (show Bag _ _; first | assumption | (apply bag_putF; assumption; o_reads) | (apply bag_neF; (next => kbo_bools); o_reads) | (apply bag_kpR; assumption; (next => kaf_pre); o_reads))
    | omega
    | decide)
local macro_rules
  | `(tactic| o_readsAll) => `(tactic| repeat (first
    | (refine fun (pNew : Addr) (nNew : _ = none) => ?_; replace nNew := Fr.mk nNew)
    | (refine fun (xNew dNew : Addr) (nNew : _ = none) (mNew : _ = none) (eNew : dNew ≠ xNew) => ?_; replace nNew := Fr.mk nNew; replace mNew := Fr.mk mNew)
    | (apply And.intro; next => o_reads)
    | apply Exists.intro (α := V)
    | apply Exists.intro (α := Addr)
    | apply Exists.intro (α := Int)
    | apply Exists.intro (α := Bool)
    | apply Exists.intro (α := List V)
    | apply Exists.intro (α := List Nat)
    | apply Exists.intro (α := List (Str × V))
    | apply Exists.intro (α := List _)
    | apply Exists.intro (α := Str)
    | apply Exists.intro (α := HO)
    | apply Exists.intro (α := Sp)
    | apply Exists.intro (α := VK)))
set_option hygiene false in
local macro_rules
  | `(tactic| kba_ints) => `(tactic| first
    | assumption
    | (apply frUp; (first | assumption | (apply Ne.symm; assumption)); kba_ints)
    | (apply noneOf; assumption; intro oF eF; apply Exists.intro; kp_flats)
    | (apply frUp; (next => kbo_bools); kba_ints))
set_option hygiene false in
local macro_rules
  | `(tactic| kxs_still) => `(tactic| first
    | assumption
    | exact kp_refl _ _
    | (apply kp_newF; assumption; kxs_still)
    | (apply kp_new; assumption; kxs_still)
    | (apply kp_up; (next => o_fieldsN); kxs_still)
    | (apply kp_new; (next => kba_ints); kxs_still)
    | (apply kp_sameR; assumption; kxs_still)
    | (apply kp_transR; assumption; kxs_still)
    | (apply kp_freshR; assumption; (next => kaf_suf); kxs_still))
set_option hygiene false in
local macro_rules
  | `(tactic| kaf_suf) => `(tactic| first
    | assumption
    | exact subNil
    | (apply subCons; (first | (apply Or.inl; o_fieldsN) | (apply Or.inr; kba_ints)); kaf_suf)
    | (apply subApp; (next => kaf_suf); kaf_suf))
set_option hygiene false in
local macro_rules
  | `(tactic| o_fieldsN) => `(tactic| first
    | assumption
    | exact memA
    | (apply memB; o_fieldsN)
    | (apply memL; o_fieldsN)
    | (apply memR; o_fieldsN))
set_option hygiene false in
local macro_rules
  | `(tactic| kd_subs) => `(tactic| first
    | assumption
    | exact Same.refl _
    | (apply same_putF; assumption; kd_subs)
    | (apply same_putG; assumption; kd_subs)
    | (apply same_putF; (next => kba_ints); kd_subs)
    | (apply same_transR; assumption; kd_subs))

set_option pp.maxSteps 900
section
variable {P : Program} {w : World} {K : PySem.W.Frag} {mg : Str → Option Value} {base : Heap} {n : Nat}
theorem MoAt.mu {H : Hp} {m : Addr} {g e b n : Nat} {r : Option Nat} (h : MoAt H m g e b n r) : Mu H [m] := by
  obtain ⟨_, _, _, z, _⟩ := h.ex
  exact mu_cons z (fun _ z => nomatch z) (fun _ z => nomatch z) mu_nil
/-- a queue, and the plain model of it -/
def QM (T : Txt K mg) (fm : Nat) (uv : List Addr) (f : V) (UR : List JEv → Hp → Prop) (Val : Nat → List V → V → Hp → Prop) (cs : List Addr) (x j jdx c cdx l : Addr) (z : V) (ms : List V) (u : List JEv) (es : List (Nat × Nat × Nat)) (g : Nat) (m : Addr) (H : Hp) : Prop :=
  (fm = 0 ∧ ∃ e, TwAt T.C_TwoStacks (CJ T) T.C_Calls uv f UR Val cs x j jdx c cdx l z ms u es g e H ∧ MoAt H m g e ms.length ms.length none) ∨ (fm = 1 ∧ ∃ e b r, EvAt T.C_EvenSums T.C_Shape (CJ T) T.C_Calls uv f UR Val cs x j jdx c cdx l z ms u es g e b r H ∧ MoAt H m g e b ms.length r)
theorem QM.same {T : Txt K mg} {fm : Nat} {uv : List Addr} {f : V} {UR : List JEv → Hp → Prop} {Val : Nat → List V → V → Hp → Prop} {cs : List Addr} {x j jdx c cdx l : Addr} {z : V} {ms : List V} {u : List JEv} {es : List (Nat × Nat × Nat)} {g : Nat} {m : Addr} {H H1 : Hp} (U : JS P w K mg base n true uv f UR Val) (h : QM T fm uv f UR Val cs x j jdx c cdx l z ms u es g m H) (s : Same H H1) : QM T fm uv f UR Val cs x j jdx c cdx l z ms u es g m H1 :=
  h.imp (fun ⟨a, e, b, c⟩ => ⟨a, e, b.same U s, c.same s⟩) fun ⟨a, e, b, r, d, c⟩ => ⟨a, e, b, r, d.same U s, c.same s⟩
theorem tw_tot {g e n : Nat} : totE g e n n = twTE g e n := by
  unfold totE twTE sumN twN wholeE
  rw [if_neg (Nat.lt_irrefl n), Nat.add_zero]
  by_cases c : g < e <;> by_cases d : e < n <;> simp [c, d]
  refine ⟨rfl, ?_, rfl⟩
  show e = if g < e then e else n
  rw [if_pos c]
theorem twTE_le {g e n : Nat} : (twTE g e n).length ≤ 2 := by
  unfold twTE wholeE twN
  rw [List.length_map, List.length_range]
  split <;> split <;> omega
theorem totE_le {g e b n : Nat} : (totE g e b n).length ≤ 2 := by
  unfold totE wholeE sumN
  rw [List.length_map, List.length_range]
  split <;> split <;> split <;> omega
theorem RenAt.cons {Val : Nat → List V → V → Hp → Prop} {ms : List V} {cs : List Addr} {b : Nat} {rv : V} {H : Hp} {r : Option Nat} {o : Addr} (fo : Fr H o) (h : RenAt Val ms cs b rv H r) : RenAt Val ms (o :: cs) b rv H r := by
  match r, h with
  | none, h => exact h
  | some k', ⟨rl, ys, h1, h2, h3, h4⟩ => exact ⟨rl, ys, h1, h2, h3, not_cons (ne_of_none h2 fo.h) h4⟩
theorem ShAt.cons {Cs : Addr} {Val : Nat → List V → V → Hp → Prop} {ms : List V} {cs : List Addr} {sh : Addr} {g e b : Nat} {r : Option Nat} {H : Hp} {o : Addr} (fo : Fr H o) (h : ShAt Cs Val ms cs sh g e b r H) : ShAt Cs Val ms (o :: cs) sh g e b r H := by
  obtain ⟨⟨dx, fr, bv, lv, rv, xs, h1, h2, h3, h4, h5, h6, h7⟩, h8⟩ := h
  exact ⟨⟨dx, fr, bv, lv, rv, xs, h1, h2, h3, h4, h5, h6.cons fo, not_cons (ne_of_none h2 fo.h) h7⟩, not_cons (ne_of_none h1 fo.h) h8⟩
section
variable {uv : List Addr} {f z : V} {UR : List JEv → Hp → Prop} {Val : Nat → List V → V → Hp → Prop} {Ct Ce Cs : Addr} {Cj : Addr × Addr} {Cc x j jdx c cdx l o : Addr} {u : List JEv} {es : List (Nat × Nat × Nat)} {H H1 : Hp} {ms ys : List V} {cs : List Addr} {g e b : Nat} {r : Option Nat}
theorem EvAt.addc (U : JS P w K mg base n true uv f UR Val) (h : EvAt Ce Cs Cj Cc uv f UR Val cs x j jdx c cdx l z ms u es g e b r H) (s : Same H H1) (fo : Fr H o) (e1 : H1 o = some (.lst ys)) : EvAt Ce Cs Cj Cc uv f UR Val (o :: cs) x j jdx c cdx l z ms u es g e b r H1 := by
  obtain ⟨dx, hh, sh, h1, h2, h3, h4⟩ := h.hx
  exact ⟨⟨dx, hh, sh, s _ _ h1, s _ _ h2, not_cons (ne_of_none h2 fo.h) h3, (h4.cons fo).kp U (kp_same (cs := []) s) mu_nil (fun _ z => nomatch z)⟩, h.jw.same U s, h.ok, h.mm.kp U (kp_same (cs := []) s) mu_nil, mu_lst e1 (h.mu.same s), fun a m => List.mem_cons_of_mem _ (h.sub a m), not_cons (ne_of_none h.jw.hj fo.h) h.nj, h.nx⟩
theorem TwAt.addc (U : JS P w K mg base n true uv f UR Val) (h : TwAt Ct Cj Cc uv f UR Val cs x j jdx c cdx l z ms u es g e H) (s : Same H H1) (fo : Fr H o) (e1 : H1 o = some (.lst ys)) : TwAt Ct Cj Cc uv f UR Val (o :: cs) x j jdx c cdx l z ms u es g e H1 := by
  obtain ⟨dx, hh, fr, bv, xs, h1, h2, h3, h4, h5, h6, h7⟩ := h.hx
  have k := kp_same (cs := []) s
  exact ⟨⟨dx, hh, fr, bv, xs, s _ _ h1, s _ _ h2, not_cons (ne_of_none h2 fo.h) h3, s _ _ h4, not_cons (ne_of_none h4 fo.h) h5, h6.kp U k mu_nil, h7.kp U k mu_nil⟩, h.jw.same U s, h.ok, h.mm.kp U k mu_nil, mu_lst e1 (h.mu.same s), fun a m => List.mem_cons_of_mem _ (h.sub a m), not_cons (ne_of_none h.jw.hj fo.h) h.nj, h.nx⟩
end
def spCall (P : Program) (w : World) (T : Txt K mg) (base : Heap) (n : Nat) : Sp := fun vs H Q _ => ∃ (uv : List Addr) (f : V) (UR : List JEv → Hp → Prop) (Val : Nat → List V → V → Hp → Prop) (cs : List Addr) (x j jdx c cdx l : Addr) (z : V) (ms : List V) (u : List JEv) (es : List (Nat × Nat × Nat)) (g fm kd : Nat) (m : Addr) (thing : V),
  vs = [.ref x, .ref m, .int (fm : Int), .int (kd : Int), .int (ms.length : Int), thing] ∧ kd < 3 ∧ JS P w K mg base n true uv f UR Val ∧ QM T fm uv f UR Val cs x j jdx c cdx l z ms u es g m H ∧ u.length < 79000 ∧ es.length < 79000 ∧ ms.length < 8000 ∧ m ∈ cs ∧ m ∉ [x, c, l] ++ uv ∧ (kd = 0 → Val ms.length [thing] thing H) ∧ (kd = 1 → g < ms.length) ∧
  ∀ t o1 o2 xs1 xs2 d ds H', H' t = some (.tup [.ref o1, .ref o2, .bl true]) → H' o1 = some (.lst xs1) → JLog H' xs1 ds → H' o2 = some (.lst xs2) → JLog H' xs2 ds → Fr H o1 → Fr H o2 → d.length = ds.length → ds.length ≤ ms.length + 3 → Kp ([x, c, l] ++ uv ++ [m]) H H' →
    QM T fm uv f UR Val (o1 :: cs) x j jdx c cdx l z (if kd = 0 then ms ++ [thing] else ms) (u ++ d) (es ++ ds) (if kd = 1 then g + 1 else g) m H' → Q (.ref t) H'
theorem ok_call (T : Txt K mg) : FnOk P w K mg base CX0 (n + 14) T.f_l_call T.d_l_call ["_law_queue_here", "_law_model", "_law_form", "_law_kind", "_law_number", "_law_thing"] (spCall P w T base n) := by
  have G_TwoStacks_plan_add := ok_twpa (P := P) (w := w) (base := base) T
  have G_EvenSums_plan_add := ok_evpa (P := P) (w := w) (base := base) T
  have G_TwoStacks_plan_remove := ok_twpr (P := P) (w := w) (base := base) T
  have G_EvenSums_plan_remove := ok_evpr (P := P) (w := w) (base := base) T
  have G_TwoStacks_plan_total := ok_twpt (P := P) (w := w) (base := base) T
  have G_EvenSums_plan_total := ok_evpt (P := P) (w := w) (base := base) T
  have G_TwoStacks_add := ok_twadd (P := P) (w := w) (base := base) (n := n) T
  have G_EvenSums_add := ok_evadd (P := P) (w := w) (base := base) (n := n) T
  have G_TwoStacks_remove_oldest := ok_twrem (P := P) (w := w) (base := base) (n := n) T
  have G_EvenSums_remove_oldest := ok_evrem (P := P) (w := w) (base := base) (n := n) T
  have G_TwoStacks_total := ok_twtot (P := P) (w := w) (base := base) (n := n) T
  have G_EvenSums_total := ok_evtot (P := P) (w := w) (base := base) (n := n) T
  have G_l_added := ok_madd (P := P) (w := w) (base := base) T
  have G_l_removed := ok_mrem (P := P) (w := w) (base := base) T
  have G_l_summed := ok_msum (P := P) (w := w) (base := base) T
  refine T.F_l_call.ok sc_l_call (fun vs H Q E h => ?_) (fun cdv A outer s H vs Q E hr h => ?_)
  · obtain ⟨uv, f, UR, Val, cs, x, j, jdx, c, cdx, l, z, ms, u, es, g, fm, kd, m, thing, rfl, _⟩ := h
    rfl
  · obtain ⟨uv, f, UR, Val, cs, x, j, jdx, c, cdx, l, z, ms, u, es, g, fm, kd, m, thing, rfl, hkd, U, hQ, lu, le, lm, mc, nm, hv, hg, q⟩ := h
    refine ⟨_, (pss_cons (ps_if (pt_cmpR op_eq (pv 3) pe_int (nomark _)) (pss_cons (ps_par (i := 6) (j := 7) (by rfl) sc_l_call.nd rfl rfl (by decide) rfl rfl (pa_cons (pe_either (pe_meth0 (pv 0) T.cl_TwoStacks ⟨T.m_TwoStacks_plan_add, T.t_TwoStacks_plan_add, T.k_TwoStacks_plan_add⟩ G_TwoStacks_plan_add (hr.mono (by omega)) T.b_TwoStacks_plan_add .nil pass0) (pe_meth0 (pv 0) T.cl_EvenSums ⟨T.m_EvenSums_plan_add, T.t_EvenSums_plan_add, T.k_EvenSums_plan_add⟩ G_EvenSums_plan_add (hr.mono (by omega)) T.b_EvenSums_plan_add .nil pass0)) (pa_cons (pe_call G_l_added (hr.mono (by omega)) rfl T.g_l_added T.F_l_added.kp T.b_l_added .nil pass0 (pa_cons (pv 2) (pa_cons (pv 1) (pa_cons (pv 4) pa_nil)))) pa_nil)) (by rfl))
        (pss_one (ps_ret (pe_tup (pa_cons (pv 6) (pa_cons (pv 7) (pa_cons (pe_cmpR op_eq (pe_either (pe_meth (pv 0) T.cl_TwoStacks ⟨T.m_TwoStacks_add, T.t_TwoStacks_add, T.k_TwoStacks_add⟩ G_TwoStacks_add (hr.mono (by omega)) T.b_TwoStacks_add .nil pass0 (pa_cons (pv 5) pa_nil)) (pe_meth (pv 0) T.cl_EvenSums ⟨T.m_EvenSums_add, T.t_EvenSums_add, T.k_EvenSums_add⟩ G_EvenSums_add (hr.mono (by omega)) T.b_EvenSums_add .nil pass0 (pa_cons (pv 5) pa_nil))) (pv 4) (nomark _)) pa_nil))))))) pss_nil)
      (pss_cons (ps_if (pt_cmpR op_eq (pv 3) pe_int (nomark _)) (pss_cons (ps_set (i := 8) sc_l_call.nd rfl (.inl rfl) (pe_ifExp (pt_cmpR op_lt (pe_ix (r := rIxT K) ix_tup (pe_dget (hu_of hr) (pv 1) pe_str (fun _ _ => rfl)) pe_int (fun _ _ => rfl)) (pe_ix (r := rIxT K) ix_tup (pe_dget (hu_of hr) (pv 1) pe_str (fun _ _ => rfl)) pe_int (fun _ _ => rfl)) (nomark _)) (pe_ix (r := rIxT K) ix_tup (pe_dget (hu_of hr) (pv 1) pe_str (fun _ _ => rfl)) pe_int (fun _ _ => rfl)) (pe_ix (r := rIxT K) ix_tup (pe_dget (hu_of hr) (pv 1) pe_str (fun _ _ => rfl)) pe_int (fun _ _ => rfl))))
        (pss_cons (ps_par (i := 6) (j := 7) (by rfl) sc_l_call.nd rfl rfl (by decide) rfl rfl (pa_cons (pe_either (pe_meth0 (pv 0) T.cl_TwoStacks ⟨T.m_TwoStacks_plan_remove, T.t_TwoStacks_plan_remove, T.k_TwoStacks_plan_remove⟩ G_TwoStacks_plan_remove (hr.mono (by omega)) T.b_TwoStacks_plan_remove .nil pass0) (pe_meth0 (pv 0) T.cl_EvenSums ⟨T.m_EvenSums_plan_remove, T.t_EvenSums_plan_remove, T.k_EvenSums_plan_remove⟩ G_EvenSums_plan_remove (hr.mono (by omega)) T.b_EvenSums_plan_remove .nil pass0)) (pa_cons (pe_call G_l_removed (hr.mono (by omega)) rfl T.g_l_removed T.F_l_removed.kp T.b_l_removed .nil pass0 (pa_cons (pv 2) (pa_cons (pv 1) pa_nil))) pa_nil)) (by rfl))
        (pss_one (ps_ret (pe_tup (pa_cons (pv 6) (pa_cons (pv 7) (pa_cons (pe_cmpR op_eq (pe_either (pe_meth0 (pv 0) T.cl_TwoStacks ⟨T.m_TwoStacks_remove_oldest, T.t_TwoStacks_remove_oldest, T.k_TwoStacks_remove_oldest⟩ G_TwoStacks_remove_oldest (hr.mono (by omega)) T.b_TwoStacks_remove_oldest .nil pass0) (pe_meth0 (pv 0) T.cl_EvenSums ⟨T.m_EvenSums_remove_oldest, T.t_EvenSums_remove_oldest, T.k_EvenSums_remove_oldest⟩ G_EvenSums_remove_oldest (hr.mono (by omega)) T.b_EvenSums_remove_oldest .nil pass0)) (pv 8) (nomark _)) pa_nil)))))))) pss_nil)
      (pss_cons (ps_set (i := 7) sc_l_call.nd rfl (.inl rfl) (pe_call G_l_summed (hr.mono (by omega)) rfl T.g_l_summed T.F_l_summed.kp T.b_l_summed .nil pass0 (pa_cons (pv 1) pa_nil)))
      (pss_cons (ps_set (i := 6) sc_l_call.nd rfl (.inl rfl) (pe_either (pe_meth0 (pv 0) T.cl_TwoStacks ⟨T.m_TwoStacks_plan_total, T.t_TwoStacks_plan_total, T.k_TwoStacks_plan_total⟩ G_TwoStacks_plan_total (hr.mono (by omega)) T.b_TwoStacks_plan_total .nil pass0) (pe_meth0 (pv 0) T.cl_EvenSums ⟨T.m_EvenSums_plan_total, T.t_EvenSums_plan_total, T.k_EvenSums_plan_total⟩ G_EvenSums_plan_total (hr.mono (by omega)) T.b_EvenSums_plan_total .nil pass0)))
      (pss_cons (ps_expr (pe_either (pe_meth0 (pv 0) T.cl_TwoStacks ⟨T.m_TwoStacks_total, T.t_TwoStacks_total, T.k_TwoStacks_total⟩ G_TwoStacks_total (hr.mono (by omega)) T.b_TwoStacks_total .nil pass0) (pe_meth0 (pv 0) T.cl_EvenSums ⟨T.m_EvenSums_total, T.t_EvenSums_total, T.k_EvenSums_total⟩ G_EvenSums_total (hr.mono (by omega)) T.b_EvenSums_total .nil pass0)))
      (pss_one (ps_ret (pe_tup (pa_cons (pv 6) (pa_cons (pv 7) (pa_cons pe_bl pa_nil))))))))))), ?_⟩
    have hT : ∀ {a b : Int}, a = b → decide (V.int a = V.int b) = true := fun e => decide_eq_true (congrArg V.int e)
    have hF : ∀ {a b : Int}, a ≠ b → decide (V.int a = V.int b) = false := fun e => decide_eq_false fun z => e (by injection z)
    have dis : ∀ a ∈ [x, c, l] ++ uv, a ∉ [m] := fun a ha => not_cons (fun z => nm (by rw [← z]; exact ha)) not_nil
    have smc : ∀ a ∈ [m], a ∈ cs := subCons mc subNil
    have m0 : Mu H ([x, c, l] ++ uv) := by
      rcases hQ with ⟨_, e, tw, _⟩ | ⟨_, e, b, r, ev, _⟩
      · exact tw.mu.sub tw.sub
      · exact ev.mu.sub ev.sub
    have hmm : Mu H [m] := by
      rcases hQ with ⟨_, e, _, z⟩ | ⟨_, e, b, r, _, z⟩
      · exact z.mu
      · exact z.mu
    have nom : ∀ o, Fr H o → o ∉ [m] := fun o fo h => by
      obtain ⟨y, e, _⟩ := hmm o h
      exact ne_of_none e fo.h rfl
    have nox : ∀ o, Fr H o → o ∉ [x, c, l] ++ uv := fun o fo => m0.fr fo
    have fin : ∀ (ms' : List V) (g' : Nat) (o1 o2 : Addr) (xs1 xs2 : List V) (d : List JEv) (ds : List (Nat × Nat × Nat)) (H2 H3 : Hp) (bb : Bool), ms' = (if kd = 0 then ms ++ [thing] else ms) → g' = (if kd = 1 then g + 1 else g) → bb = true → Fr H o1 → Fr H o2 → Kp [m] H H2 → H2 o1 = some (.lst xs1) → JLog H2 xs1 ds → H2 o2 = some (.lst xs2) → JLog H2 xs2 ds → Mu H2 ([x, c, l] ++ uv) → Kp ([x, c, l] ++ uv) H2 H3 → d.length = ds.length → ds.length ≤ ms.length + 3 →
        QM T fm uv f UR Val (o1 :: cs) x j jdx c cdx l z ms' (u ++ d) (es ++ ds) g' m H3 → ∀ t, H3 t = none → Q (.ref t) (upd H3 t (.tup [.ref o1, .ref o2, .bl bb])) := by
      intro ms' g' o1 o2 xs1 xs2 d ds H2 H3 bb e1 e2 eb f1 f2 k2 h1 j1 h2 j2 m2 k3 ld lds hq t nt
      subst e1
      subst e2
      subst eb
      have ft := Fr.mk nt
      have s4 := same_newF (o := .tup [.ref o1, .ref o2, .bl true]) ft
      have kk : Kp ([x, c, l] ++ uv ++ [m]) H H3 := kp_trans (kp_more k2 fun a m => memR m) (kp_more k3 fun a m => memL m)
      exact q t o1 o2 xs1 xs2 d ds _ upd_same (s4 _ _ (k3.at_ _ _ h1 (nox o1 f1))) ((j1.kp k3 m2).kp (kp_same (cs := []) s4) mu_nil) (s4 _ _ (k3.at_ _ _ h2 (nox o2 f2))) ((j2.kp k3 m2).kp (kp_same (cs := []) s4) mu_nil) f1 f2 ld lds (kp_trans kk (kp_same s4)) (hq.same U s4)
    match kd, hkd with
    | 0, _ =>
      refine ⟨_, rfl, rfl, _, rfl, ifT (hT rfl) ?_⟩
      rcases hQ with ⟨rfl, e, tw, hm⟩ | ⟨rfl, e, b, r, ev, hm⟩
      · obtain ⟨dx, hh, fr, bv, ys, h1, _⟩ := tw.hx
        refine .inl ⟨_, rfl, x, _, _, rfl, h1, rfl, uv, f, UR, Val, cs, x, j, jdx, c, cdx, l, z, ms, u, es, g, e, rfl, tw, by omega, fun o1 xs1 H1 s1 f1 e1 j1 => ?_⟩
        have hm1 := hm.same s1
        refine ⟨_, rfl, _, rfl, _, rfl, 0, m, g, e, ms.length, ms.length, none, rfl, hm1, by omega, .inl ⟨rfl, rfl, rfl, tw.ok.2, fun o2 xs2 H2 k2 f2 e2 j2 hm2 => ⟨.ref o1, .ref o2, rfl, ?_⟩⟩⟩
        have tw2 := (tw.addc U s1 f1 e1).kp U k2 hm1.mu hm2.mu (fun a m => List.mem_cons_of_mem _ (smc a m)) dis
        have k02 : Kp [m] H H2 := kp_trans (kp_same s1) k2
        obtain ⟨dx2, hh2, fr2, bv2, ys2, h2, _⟩ := tw2.hx
        refine ⟨_, rfl, _, rfl, .inl ⟨_, rfl, x, _, _, rfl, h2, rfl, _, rfl, uv, f, UR, Val, o1 :: cs, x, j, jdx, c, cdx, l, z, ms, u, es, g, e, thing, rfl, U, tw2, by omega, by omega, by omega, U.val (hv rfl) k02 hmm, fun d H3 ld k3 tw3 => ⟨_, rfl, rfl, (by decide : 3 ≤ sizeLine), fun t nt => ?_⟩⟩⟩
        have m2 := tw2.mu.sub tw2.sub
        have hl := extE_len (i := e) (m := ms.length)
        have hm3 := hm2.kp k3 m2 nm
        refine fin _ _ o1 o2 xs1 xs2 d _ H2 H3 _ rfl rfl (hT rfl) f1 (Fr.mk (s1.free f2.h)) k02 (k2.at_ _ _ e1 (nom o1 f1)) (j1.kp k2 hm1.mu) e2 j2 m2 k3 ld (by omega) (.inl ⟨rfl, e, tw3, ?_⟩) t nt
        rw [if_pos rfl, if_neg (by decide), List.length_append]
        exact hm3
      · obtain ⟨dx, hh, sh, h1, _⟩ := ev.hx
        refine .inr ⟨_, rfl, x, _, _, rfl, h1, rfl, uv, f, UR, Val, cs, x, j, jdx, c, cdx, l, z, ms, u, es, g, e, b, r, rfl, ev, by omega, fun o1 xs1 H1 s1 f1 e1 j1 => ?_⟩
        have hm1 := hm.same s1
        refine ⟨_, rfl, _, rfl, _, rfl, 1, m, g, e, b, ms.length, r, rfl, hm1, by omega, .inr ⟨rfl, ev.ok, fun o2 xs2 H2 k2 f2 e2 j2 hm2 => ⟨.ref o1, .ref o2, rfl, ?_⟩⟩⟩
        have ev2 := (ev.addc U s1 f1 e1).kp U k2 hm1.mu hm2.mu (fun a m => List.mem_cons_of_mem _ (smc a m)) dis
        have k02 : Kp [m] H H2 := kp_trans (kp_same s1) k2
        obtain ⟨dx2, hh2, sh2, h2, _⟩ := ev2.hx
        refine ⟨_, rfl, _, rfl, .inr ⟨_, rfl, x, _, _, rfl, h2, rfl, _, rfl, uv, f, UR, Val, o1 :: cs, x, j, jdx, c, cdx, l, z, ms, u, es, g, e, b, r, thing, rfl, U, ev2, by omega, by omega, by omega, U.val (hv rfl) k02 hmm, fun d H3 ld k3 ev3 => ⟨_, rfl, rfl, (by decide : 3 ≤ sizeLine), fun t nt => ?_⟩⟩⟩
        have m2 := ev2.mu.sub ev2.sub
        have hl := addE_len (g := g) (e := e) (b := b) (n := ms.length) (r := r)
        have hm3 := hm2.kp k3 m2 nm
        refine fin _ _ o1 o2 xs1 xs2 d _ H2 H3 _ rfl rfl (hT rfl) f1 (Fr.mk (s1.free f2.h)) k02 (k2.at_ _ _ e1 (nom o1 f1)) (j1.kp k2 hm1.mu) e2 j2 m2 k3 ld (by omega) (.inr ⟨rfl, _, _, _, ev3, ?_⟩) t nt
        rw [if_pos rfl, if_neg (by decide), List.length_append]
        exact hm3
    | 1, _ =>
      have gl := hg rfl
      refine ⟨_, rfl, rfl, _, rfl, ifF (hF (by decide)) ⟨_, rfl, rfl, _, rfl, ifT (hT rfl) ?_⟩⟩
      have old : ∀ (QQ : VK), QQ (.int (g : Int)) H → tIf (tTest (tOp (rI0 fun i j => V.bl (decide (i < j))) (tOp (rIxT K) (tDGet (tVar 1) (tC (V.str "front"))) (tC (V.int 0))) (tOp (rIxT K) (tDGet (tVar 1) (tC (V.str "front"))) (tC (V.int 1))))) (tOp (rIxT K) (tDGet (tVar 1) (tC (V.str "front"))) (tC (V.int 0))) (tOp (rIxT K) (tDGet (tVar 1) (tC (V.str "back"))) (tC (V.int 0))) (L2.start n_l_call [.ref x, .ref m, .int (fm : Int), .int ((1 : Nat) : Int), .int (ms.length : Int), thing]) H QQ := by
        intro QQ qq
        have hx : ∃ e b r, MoAt H m g e b ms.length r ∧ g ≤ e ∧ (g < e ∨ e < b) := by
          rcases hQ with ⟨_, e, tw, hm⟩ | ⟨_, e, b, r, ev, hm⟩
          · have := tw.ok
            exact ⟨e, _, _, hm, this.1, by omega⟩
          · have := (rem_pre ev.ok gl).1
            exact ⟨e, b, r, hm, by omega, .inl this⟩
        obtain ⟨e, b, r, hm, hge, hor⟩ := hx
        obtain ⟨vf, vb, vl, em, ⟨pf, f0, f1, rfl, ef, hf⟩, ⟨pb, b0, b1, rfl, eb, hb⟩, _⟩ := hm.ex
        refine ⟨_, rfl, m, _, rfl, DGet.k (k := .inr "front") em, pf, _, 0, _, rfl, rfl, sqtOf ef, atI_nat (j := 0) rfl, _, rfl, m, _, rfl, DGet.k (k := .inr "front") em, pf, _, 1, _, rfl, rfl, sqtOf ef, atI_nat (j := 1) rfl, _, _, rfl, rfl, _, rfl, ?_⟩
        rcases hf with ⟨h0, h1, h2⟩ | ⟨h1, h2⟩
        · refine ifT (decide_eq_true (by omega)) ⟨_, rfl, m, _, rfl, DGet.k (k := .inr "front") em, pf, _, 0, _, rfl, rfl, sqtOf ef, atI_nat (j := 0) rfl, ?_⟩
          rw [h1]
          exact qq
        · refine ifF (decide_eq_false (by omega)) ⟨_, rfl, m, _, rfl, DGet.k (k := .inr "back") em, pb, _, 0, _, rfl, rfl, sqtOf eb, atI_nat (j := 0) rfl, ?_⟩
          rcases hb with ⟨_, z1, _⟩ | ⟨z1, _⟩
          · rw [z1, ← h1]
            exact qq
          · omega
      refine old _ ?_
      rcases hQ with ⟨rfl, e, tw, hm⟩ | ⟨rfl, e, b, r, ev, hm⟩
      · obtain ⟨dx, hh, fr, bv, ys, h1, _⟩ := tw.hx
        refine .inl ⟨_, rfl, x, _, _, rfl, h1, rfl, uv, f, UR, Val, cs, x, j, jdx, c, cdx, l, z, ms, u, es, g, e, rfl, tw, by omega, gl, fun o1 xs1 H1 s1 f1 e1 j1 => ?_⟩
        have hm1 := hm.same s1
        refine ⟨_, rfl, _, rfl, 0, m, g, e, ms.length, ms.length, none, rfl, hm1, by omega, gl, .inl ⟨rfl, rfl, rfl, tw.ok.1, tw.ok.2, fun o2 xs2 H2 k2 f2 e2 j2 hm2 => ⟨.ref o1, .ref o2, rfl, ?_⟩⟩⟩
        have tw2 := (tw.addc U s1 f1 e1).kp U k2 hm1.mu hm2.mu (fun a m => List.mem_cons_of_mem _ (smc a m)) dis
        have k02 : Kp [m] H H2 := kp_trans (kp_same s1) k2
        obtain ⟨dx2, hh2, fr2, bv2, ys2, h2, _⟩ := tw2.hx
        refine ⟨_, rfl, _, rfl, .inl ⟨_, rfl, x, _, _, rfl, h2, rfl, uv, f, UR, Val, o1 :: cs, x, j, jdx, c, cdx, l, z, ms, u, es, g, e, rfl, U, tw2, by omega, by omega, by omega, gl, fun d H3 ld k3 tw3 => ⟨_, rfl, rfl, (by decide : 3 ≤ sizeLine), fun t nt => ?_⟩⟩⟩
        have m2 := tw2.mu.sub tw2.sub
        have hl := twR_len (g := g) (e := e) (n := ms.length)
        exact fin _ _ o1 o2 xs1 xs2 d _ H2 H3 _ rfl rfl (hT rfl) f1 (Fr.mk (s1.free f2.h)) k02 (k2.at_ _ _ e1 (nom o1 f1)) (j1.kp k2 hm1.mu) e2 j2 m2 k3 ld (by omega) (.inl ⟨rfl, _, tw3, hm2.kp k3 m2 nm⟩) t nt
      · obtain ⟨dx, hh, sh, h1, _⟩ := ev.hx
        refine .inr ⟨_, rfl, x, _, _, rfl, h1, rfl, uv, f, UR, Val, cs, x, j, jdx, c, cdx, l, z, ms, u, es, g, e, b, r, rfl, ev, by omega, gl, fun o1 xs1 H1 s1 f1 e1 j1 => ?_⟩
        have hm1 := hm.same s1
        refine ⟨_, rfl, _, rfl, 1, m, g, e, b, ms.length, r, rfl, hm1, by omega, gl, .inr ⟨rfl, ev.ok, fun o2 xs2 H2 k2 f2 e2 j2 hm2 => ⟨.ref o1, .ref o2, rfl, ?_⟩⟩⟩
        have ev2 := (ev.addc U s1 f1 e1).kp U k2 hm1.mu hm2.mu (fun a m => List.mem_cons_of_mem _ (smc a m)) dis
        have k02 : Kp [m] H H2 := kp_trans (kp_same s1) k2
        obtain ⟨dx2, hh2, sh2, h2, _⟩ := ev2.hx
        refine ⟨_, rfl, _, rfl, .inr ⟨_, rfl, x, _, _, rfl, h2, rfl, uv, f, UR, Val, o1 :: cs, x, j, jdx, c, cdx, l, z, ms, u, es, g, e, b, r, rfl, U, ev2, by omega, by omega, by omega, gl, fun d H3 ld k3 ev3 => ⟨_, rfl, rfl, (by decide : 3 ≤ sizeLine), fun t nt => ?_⟩⟩⟩
        have m2 := ev2.mu.sub ev2.sub
        have hl := workE_len (g := g + 1) (e := e) (b := b) (n := ms.length) (r := r)
        exact fin _ _ o1 o2 xs1 xs2 d _ H2 H3 _ rfl rfl (hT rfl) f1 (Fr.mk (s1.free f2.h)) k02 (k2.at_ _ _ e1 (nom o1 f1)) (j1.kp k2 hm1.mu) e2 j2 m2 k3 ld (by omega) (.inr ⟨rfl, _, _, _, ev3, hm2.kp k3 m2 nm⟩) t nt
    | 2, _ =>
      refine ⟨_, rfl, rfl, _, rfl, ifF (hF (by decide)) ⟨_, rfl, rfl, _, rfl, ifF (hF (by decide)) ?_⟩⟩
      rcases hQ with ⟨rfl, e, tw, hm⟩ | ⟨rfl, e, b, r, ev, hm⟩
      · have ok := tw.ok
        refine ⟨_, rfl, m, g, e, ms.length, ms.length, none, rfl, hm, ok.1, ok.2, Nat.le_refl _, (fun _ => rfl), (fun _ => rfl), fun o2 xs2 H1 s1 f2 e2 j2 => ?_⟩
        have tw1 := tw.same U s1
        obtain ⟨dx, hh, fr, bv, ys, h1, _⟩ := tw1.hx
        refine .inl ⟨_, rfl, x, _, _, rfl, h1, rfl, uv, f, UR, Val, cs, x, j, jdx, c, cdx, l, z, ms, u, es, g, e, rfl, tw1, by omega, fun o1 xs1 H2 s2 f1 e1 j1 => ?_⟩
        have tw2 := tw1.addc U s2 f1 e1
        obtain ⟨dx2, hh2, fr2, bv2, ys2, h2, _⟩ := tw2.hx
        have s02 := s1.trans s2
        rw [tw_tot] at j2
        have m2 := tw2.mu.sub tw2.sub
        have hl := twTE_le (g := g) (e := e) (n := ms.length)
        have f1' : Fr H o1 := Fr.mk (s1.free f1.h)
        have j2' := j2.kp (kp_same (cs := []) s2) mu_nil
        refine .inl ⟨_, rfl, x, _, _, rfl, h2, rfl, uv, f, UR, Val, o1 :: cs, x, j, jdx, c, cdx, l, z, ms, u, es, g, e, rfl, U, tw2, by omega, by omega, by omega, fun hz => ?_, fun v d H3 gl ld k3 tw3 vl => ?_⟩
        · have e0 : twTE g e ms.length = [] := by
            unfold twTE twN
            rw [if_neg (by omega), if_neg (by omega)]
            rfl
          rw [e0] at j1 j2'
          refine ⟨_, rfl, _, rfl, (by decide : 3 ≤ sizeLine), fun t nt => ?_⟩
          refine fin _ _ o1 o2 xs1 xs2 [] [] H2 H2 true rfl rfl rfl f1' f2 (kp_same s02) e1 j1 (s2 _ _ e2) j2' m2 (kp_refl _ _) rfl (Nat.zero_le _) (.inl ⟨rfl, e, ?_, hm.same s02⟩) t nt
          rw [List.append_nil, List.append_nil]
          exact tw2
        · refine ⟨_, rfl, _, rfl, (by decide : 3 ≤ sizeLine), fun t nt => ?_⟩
          exact fin _ _ o1 o2 xs1 xs2 d _ H2 H3 true rfl rfl rfl f1' f2 (kp_same s02) e1 j1 (s2 _ _ e2) j2' m2 (kp_more k3 fun a m => memB m) ld (by omega) (.inl ⟨rfl, e, tw3, (hm.same s02).kp (kp_more k3 fun a m => memB m) m2 nm⟩) t nt
      · obtain ⟨q1, q2, q3⟩ := ev.ok.le
        have hgb : g = e → b = ms.length := fun z => by
          match r, ev.ok with
          | none, ⟨_, _, h, _⟩ => exact h
          | some k, ⟨h, _⟩ => omega
        have heb : e = b → b = ms.length := fun z => by
          match r, ev.ok with
          | none, ⟨_, _, h, _⟩ => exact h
          | some k, ⟨_, h, _⟩ => omega
        refine ⟨_, rfl, m, g, e, b, ms.length, r, rfl, hm, q1, q2, q3, hgb, heb, fun o2 xs2 H1 s1 f2 e2 j2 => ?_⟩
        have ev1 := ev.same U s1
        obtain ⟨dx, hh, sh, h1, _⟩ := ev1.hx
        refine .inr ⟨_, rfl, x, _, _, rfl, h1, rfl, uv, f, UR, Val, cs, x, j, jdx, c, cdx, l, z, ms, u, es, g, e, b, r, rfl, ev1, by omega, fun o1 xs1 H2 s2 f1 e1 j1 => ?_⟩
        have ev2 := ev1.addc U s2 f1 e1
        obtain ⟨dx2, hh2, sh2, h2, _⟩ := ev2.hx
        have s02 := s1.trans s2
        have m2 := ev2.mu.sub ev2.sub
        have hl := totE_le (g := g) (e := e) (b := b) (n := ms.length)
        have f1' : Fr H o1 := Fr.mk (s1.free f1.h)
        have j2' := j2.kp (kp_same (cs := []) s2) mu_nil
        refine .inr ⟨_, rfl, x, _, _, rfl, h2, rfl, uv, f, UR, Val, o1 :: cs, x, j, jdx, c, cdx, l, z, ms, u, es, g, e, b, r, rfl, U, ev2, by omega, by omega, by omega, fun hz => ?_, fun v d H3 gl ld k3 ev3 vl => ?_⟩
        · have e0 : totE g e b ms.length = [] := by
            unfold totE sumN
            rw [if_neg (by omega), if_neg (by omega), if_neg (by omega)]
            rfl
          rw [e0] at j1 j2'
          refine ⟨_, rfl, _, rfl, (by decide : 3 ≤ sizeLine), fun t nt => ?_⟩
          refine fin _ _ o1 o2 xs1 xs2 [] [] H2 H2 true rfl rfl rfl f1' f2 (kp_same s02) e1 j1 (s2 _ _ e2) j2' m2 (kp_refl _ _) rfl (Nat.zero_le _) (.inr ⟨rfl, e, b, r, ?_, hm.same s02⟩) t nt
          rw [List.append_nil, List.append_nil]
          exact ev2
        · refine ⟨_, rfl, _, rfl, (by decide : 3 ≤ sizeLine), fun t nt => ?_⟩
          exact fin _ _ o1 o2 xs1 xs2 d _ H2 H3 true rfl rfl rfl f1' f2 (kp_same s02) e1 j1 (s2 _ _ e2) j2' m2 (kp_more k3 fun a m => memB m) ld (by omega) (.inr ⟨rfl, e, b, r, ev3, (hm.same s02).kp (kp_more k3 fun a m => memB m) m2 nm⟩) t nt
end
end Ob

set_option Elab.async false
set_option linter.all false
set_option maxRecDepth 100000
set_option maxHeartbeats 1000000
namespace Ob
open PySem PySem.Spec PyProof.Rows L2
open LamX (Tabs TabB TabS ExtN)

set_option hygiene false in
local macro_rules
  | `(tactic| kp_flats) => `(tactic| first
    | assumption
    | exact upd_same
    | (apply atNew; assumption; kp_flats)
    | (apply atNe; (next => kbo_bools); kp_flats)
    | (apply atSame; assumption; kp_flats)
    | (apply atKp; assumption; (next => kaf_pre); kp_flats))
set_option hygiene false in
local macro_rules
  | `(tactic| kaf_pre) => `(tactic| first
    | assumption
    | exact not_nil
    | (apply not_cons; (next => kbo_bools); kaf_pre)
    | (apply not_app; (next => kaf_pre); kaf_pre))
set_option hygiene false in
local macro_rules
  | `(tactic| kbo_bools) => `(tactic| first
    | assumption
    | (apply Ne.symm; assumption)
    | (apply neN; assumption; kp_flats)
    | (apply neN'; assumption; kp_flats))
set_option hygiene false in
local macro_rules
  | `(tactic| o_reads) => `(tactic| first
    | with_reducible rfl
    | assumption
    | rfl
    | kp_flats
    | (show SqL _ _ _ _; first | assumption | (apply sqlOf; kp_flats) | (apply sqlSame; assumption; o_reads))
    | (show SqT _ _ _ _; first | assumption | (apply sqtOf; kp_flats) | (apply sqtAll; assumption) | (apply sqtSame; assumption; o_reads))
    | (show Cls _ _; first | exact T.cl_Calls | exact T.cl_Joiner | exact T.cl_Planner | exact T.cl_EvenSums | exact T.cl_Shape | exact T.cl_TwoStacks)
    | (show NoAttr _ _ _; first | exact T.n_Calls_entries | exact T.n_Calls_running | exact T.n_Joiner_calls | exact T.n_Joiner_join_call | exact T.n_Planner_entries | exact T.n_EvenSums_calls | exact T.n_EvenSums_joiner | exact T.n_EvenSums_zero | exact T.n_EvenSums_given | exact T.n_EvenSums_held | exact T.n_EvenSums_shape | exact T.n_Shape_front | exact T.n_Shape_back | exact T.n_Shape_late | exact T.n_Shape_renewed | exact T.n_TwoStacks_calls | exact T.n_TwoStacks_joiner | exact T.n_TwoStacks_zero | exact T.n_TwoStacks_given | exact T.n_TwoStacks_held | exact T.n_TwoStacks_front | exact T.n_TwoStacks_back)
    | (apply Or.inl; o_reads)
    | (apply Or.inr; o_reads)
    | (apply And.intro; (next => o_reads); o_reads)
    | (apply Exists.intro; o_reads)
    | exact Nat.le_of_ble_eq_true rfl
    | exact Nat.succ_ne_zero _
    | (show Fr _ _; kba_ints)
    | (show Same _ _; kd_subs)
    | (show Kp _ _ _; kxs_still)
    | (show (_ : Nat) ≤ _; simp only [List.length_append, List.length_map, List.length_cons, List.length_nil, List.length_take, List.length_drop, List.length_replicate, List.length_range, sizeLine_eq]; omega)
    | (show _ = none; apply Fr.h; kba_ints)
    | (show Bag _ _; first | assumption | (apply bag_putF; assumption; o_reads) | (apply bag_neF; (next => kbo_bools); o_reads) | (apply bag_kpR; assumption; (next => kaf_pre); o_reads))
    | omega
    | decide)
local macro_rules
  | `(tactic| o_readsAll) => `(tactic| repeat (first
    | (refine fun (pNew : Addr) (nNew : _ = none) => ?_; replace nNew := Fr.mk nNew)
    | (refine fun (xNew dNew : Addr) (nNew : _ = none) (mNew : _ = none) (eNew : dNew ≠ xNew) => ?_; replace nNew := Fr.mk nNew; replace mNew := Fr.mk mNew)
    | (apply And.intro; next => o_reads)
    | apply Exists.intro (α := V)
    | apply Exists.intro (α := Addr)
    | apply Exists.intro (α := Int)
    | apply Exists.intro (α := Bool)
    | apply Exists.intro (α := List V)
    | apply Exists.intro (α := List Nat)
    | apply Exists.intro (α := List (Str × V))
    | apply Exists.intro (α := List _)
    | apply Exists.intro (α := Str)
    | apply Exists.intro (α := HO)
    | apply Exists.intro (α := Sp)
    | apply Exists.intro (α := VK)))
set_option hygiene false in
local macro_rules
  | `(tactic| kba_ints) => `(tactic| first
    | assumption
    | (apply frUp; (first | assumption | (apply Ne.symm; assumption)); kba_ints)
    | (apply noneOf; assumption; intro oF eF; apply Exists.intro; kp_flats)
    | (apply frUp; (next => kbo_bools); kba_ints))
set_option hygiene false in
local macro_rules
  | `(tactic| kxs_still) => `(tactic| first
    | assumption
    | exact kp_refl _ _
    | (apply kp_newF; assumption; kxs_still)
    | (apply kp_new; assumption; kxs_still)
    | (apply kp_up; (next => o_fieldsN); kxs_still)
    | (apply kp_new; (next => kba_ints); kxs_still)
    | (apply kp_sameR; assumption; kxs_still)
    | (apply kp_transR; assumption; kxs_still)
    | (apply kp_freshR; assumption; (next => kaf_suf); kxs_still))
set_option hygiene false in
local macro_rules
  | `(tactic| kaf_suf) => `(tactic| first
    | assumption
    | exact subNil
    | (apply subCons; (first | (apply Or.inl; o_fieldsN) | (apply Or.inr; kba_ints)); kaf_suf)
    | (apply subApp; (next => kaf_suf); kaf_suf))
set_option hygiene false in
local macro_rules
  | `(tactic| o_fieldsN) => `(tactic| first
    | assumption
    | exact memA
    | (apply memB; o_fieldsN)
    | (apply memL; o_fieldsN)
    | (apply memR; o_fieldsN))
set_option hygiene false in
local macro_rules
  | `(tactic| kd_subs) => `(tactic| first
    | assumption
    | exact Same.refl _
    | (apply same_putF; assumption; kd_subs)
    | (apply same_putG; assumption; kd_subs)
    | (apply same_putF; (next => kba_ints); kd_subs)
    | (apply same_transR; assumption; kd_subs))

set_option pp.maxSteps 900
open NdefX (TabsN)
theorem tab_ne {T : List NdefX.NTab} {P : Addr} {nm : Nat → Nat → Str} {H : Hp} {a : Addr} {o : HO} (t : TabsN T H) (m : (P, nm) ∈ T) (e : H a = some o) (n : ∀ ps, o ≠ .tbl ps) : a ≠ P := fun z => by
  obtain ⟨ps, h, _⟩ := t _ m
  have h : H P = some (.tbl ps) := h
  rw [← z, e] at h
  exact n ps (Option.some.inj h)
section
variable {P : Program} {w : World} {K : PySem.W.Frag} {mg : Str → Option Value} {base : Heap} {n : Nat}
def spRange : Sp := fun vs H Q _ => ∃ i j : Nat, vs = [.int (i : Int), .int (j : Int)] ∧ j < 90000 ∧ i < 90000 ∧ ∀ p H', Same H H' → H' p = some (.tup (rgi i (j - i))) → Q (.ref p) H'
theorem ok_range (T : Txt K mg) : FnOk P w K mg base CX0 1 T.f_l_range T.d_l_range ["_law_first", "_law_end"] spRange := by
  refine T.F_l_range.ok sc_l_range (fun vs H Q E h => ?_) (fun cdv A outer s H vs Q E hr h => ?_)
  · obtain ⟨i, j, rfl, _⟩ := h
    rfl
  · obtain ⟨i, j, rfl, hj, hi, q⟩ := h
    refine ⟨_, (pss_one (ps_ret (pe_tupRg rfl (by rfl) T.z_tuple (prg_2 (by rfl) T.z_range (pv 0) (pv 1))))), ?_⟩
    refine ⟨_, rfl, _, rfl, _, _, rfl, rfl, RgOk.of_le (by omega) (by omega) (by omega) (by omega), fun p np => ?_⟩
    refine q p _ (same_newF (Fr.mk np)) ?_
    rw [upd_same]
    congr 2
    unfold rgV rgi
    rw [show ((j : Int) - (i : Int)).toNat = j - i by omega, List.range'_eq_map_range, List.map_map]
    refine List.map_congr_left fun q _ => ?_
    show V.int ((i : Int) + (q : Int)) = V.int ((i + q : Nat) : Int)
    rw [Int.natCast_add]
structure J7 (T : Txt K mg) (fm : Nat) (f cd : Addr) (cl : List (Str × Addr)) (odd : Bool) (cs : List Addr) (x j jdx c cdx l pn m bag : Addr) (z : V) (ms : List V) (u : List JEv) (es : List (Nat × Nat × Nat)) (g : Nat) (lg : Addr) (el : List (Nat × Nat × Nat)) (H : Hp) : Prop where
  q : QM T fm [pn] (.ref f) (URU f cl cd pn odd) (ValO odd) cs x j jdx c cdx l z ms u es g m H
  hlg : ∃ xs, H lg = some (.lst xs) ∧ JLog H xs el
  hbag : Bag H bag
  htab : TabsN (TT T) H
  hm : m ∈ cs
  hb : bag ∈ cs
  n1 : m ∉ [x, c, l] ++ [pn]
  n2 : bag ∉ [x, c, l] ++ [pn]
  n3 : m ≠ bag
  nl : lg ∉ [x, c, l] ++ [pn] ++ [m] ++ [bag]
variable {T : Txt K mg} {fm : Nat} {f cd : Addr} {cl : List (Str × Addr)} {odd : Bool} {cs : List Addr} {x j jdx c cdx l pn m bag : Addr} {z : V} {ms : List V} {u : List JEv} {es : List (Nat × Nat × Nat)} {g : Nat} {lg : Addr} {el : List (Nat × Nat × Nat)} {H H1 : Hp}
/-- the queue, and its model, where others of what may change have changed -/
theorem QM.kpu {ds : List Addr} (h : QM T fm [pn] (.ref f) (URU f cl cd pn odd) (ValO odd) cs x j jdx c cdx l z ms u es g m H) (k : Kp ds H H1) (mu : Mu H ds) (mu1 : Mu H1 ds) (s : ∀ a ∈ ds, a ∈ cs) (d : ∀ a ∈ [x, c, l] ++ [pn], a ∉ ds) (nm : m ∉ ds) : QM T fm [pn] (.ref f) (URU f cl cd pn odd) (ValO odd) cs x j jdx c cdx l z ms u es g m H1 := by
  have ne : ∀ {a : Addr} {φ : Heap → Prop}, H a = some (.ext φ) → a ∉ ds := fun {a φ} e hd => mu.ext e hd
  have kq : Kq ds H H1 := fun b o e _ n => k.at_ _ _ e n
  have hu : URU f cl cd pn odd u H → URU f cl cd pn odd u H1 := fun y => ⟨k.at_ _ _ y.1 (ne y.1), k.at_ _ _ y.2.1 (ne y.2.1), y.2.2.kp k mu (d pn (memR memA))⟩
  exact h.imp (fun ⟨a, e, b, c⟩ => ⟨a, e, b.kq kq mu mu1 s d (fun _ _ _ y => valO_kp y k mu) hu, c.kp k mu nm⟩) fun ⟨a, e, b, r, dd, c⟩ => ⟨a, e, b, r, dd.kq kq mu mu1 s d (fun _ _ _ y => valO_kp y k mu) hu, c.kp k mu nm⟩
theorem QM.com (h : QM T fm [pn] (.ref f) (URU f cl cd pn odd) (ValO odd) cs x j jdx c cdx l z ms u es g m H) : (∃ C dx fs, H x = some (.ins C dx fs)) ∧ JW (CJ T) T.C_Calls true [pn] (.ref f) (URU f cl cd pn odd) j jdx c cdx l u es H ∧ g ≤ ms.length ∧ Mu H cs ∧ (∀ a ∈ [x, c, l] ++ [pn], a ∈ cs) ∧ (∃ kv, H m = some (.dK kv)) := by
  rcases h with ⟨_, e, tw, hm⟩ | ⟨_, e, b, r, ev, hm⟩
  · obtain ⟨dx, hh, fr, bv, xs, h1, _⟩ := tw.hx
    obtain ⟨_, _, _, y, _⟩ := hm.ex
    exact ⟨⟨_, _, _, h1⟩, tw.jw, Nat.le_trans tw.ok.1 tw.ok.2, tw.mu, tw.sub, _, y⟩
  · obtain ⟨dx, hh, sh, h1, _⟩ := ev.hx
    obtain ⟨_, _, _, y, _⟩ := hm.ex
    have := ev.ok.le
    exact ⟨⟨_, _, _, h1⟩, ev.jw, by omega, ev.mu, ev.sub, _, y⟩
theorem J7.objs (h : J7 T fm f cd cl odd cs x j jdx c cdx l pn m bag z ms u es g lg el H) : ∀ a ∈ [x, c, l] ++ [pn] ++ [m], ∃ o, H a = some o ∧ (∀ ps, o ≠ .tbl ps) ∧ ∀ φ, o ≠ .ext φ := by
  obtain ⟨⟨C, dx, fs, hx⟩, jw, _, _, _, kv, hmk⟩ := h.q.com
  obtain ⟨xs, l1, _⟩ := jw.lg
  obtain ⟨ts, p1, _⟩ := jw.ur.2.2.ex
  exact subCons ⟨_, hx, (fun _ z => nomatch z), fun _ z => nomatch z⟩ (subCons ⟨_, jw.hc, (fun _ z => nomatch z), fun _ z => nomatch z⟩ (subCons ⟨_, l1, (fun _ z => nomatch z), fun _ z => nomatch z⟩ (subCons ⟨_, p1, (fun _ z => nomatch z), fun _ z => nomatch z⟩ (subCons ⟨_, hmk, (fun _ z => nomatch z), fun _ z => nomatch z⟩ subNil))))
theorem J7.same (h : J7 T fm f cd cl odd cs x j jdx c cdx l pn m bag z ms u es g lg el H) (s : Same H H1) : J7 T fm f cd cl odd cs x j jdx c cdx l pn m bag z ms u es g lg el H1 := by
  obtain ⟨xs, h1, h2⟩ := h.hlg
  exact ⟨h.q.kpu (kp_same (cs := []) s) mu_nil mu_nil (fun _ z => nomatch z) (fun _ _ => not_nil) not_nil, ⟨xs, s _ _ h1, h2.kp (kp_same (cs := []) s) mu_nil⟩, bag_kpR (kp_same (cs := []) s) not_nil h.hbag, tabsN_kp h.htab (kp_same (cs := []) s) (fun _ z => nomatch z), h.hm, h.hb, h.n1, h.n2, h.n3, h.nl⟩
theorem J7.take (h : J7 T fm f cd cl odd cs x j jdx c cdx l pn m bag z ms u es g lg el H) (k : Kp [bag] H H1) (b : Bag H1 bag) : J7 T fm f cd cl odd cs x j jdx c cdx l pn m bag z ms u es g lg el H1 := by
  obtain ⟨xs, h1, h2⟩ := h.hlg
  obtain ⟨bx, b1⟩ := bag_lst h.hbag
  obtain ⟨bx2, b2⟩ := bag_lst b
  have mu : Mu H [bag] := mu_lst b1 mu_nil
  refine ⟨h.q.kpu k mu (mu_lst b2 mu_nil) (subCons h.hb subNil) (fun a ha => not_cons (fun z => h.n2 (by rw [← z]; exact ha)) not_nil) (not_cons h.n3 not_nil), ⟨xs, k.at_ _ _ h1 (not_cons (fun z => h.nl (by rw [z]; exact memR memA)) not_nil), h2.kp k mu⟩, b, tabsN_kp h.htab k (subCons ⟨_, b1, (fun _ z => nomatch z), fun _ z => nomatch z⟩ subNil), h.hm, h.hb, h.n1, h.n2, h.n3, h.nl⟩
/-- a list that was given back is changed -/
theorem J7.chg {o : Addr} {ys : List V} {v : HO} (h : J7 T fm f cd cl odd cs x j jdx c cdx l pn m bag z ms u es g lg el H) (ho : H o = some (.lst ys)) (hoc : o ∈ cs) (n1 : o ∉ [x, c, l] ++ [pn] ++ [m] ++ [bag]) (n2 : o ≠ lg) {zs : List V} (hv : v = .lst zs) : J7 T fm f cd cl odd cs x j jdx c cdx l pn m bag z ms u es g lg el (upd H o v) := by
  subst hv
  obtain ⟨xs, h1, h2⟩ := h.hlg
  have k : Kp [o] H (upd H o (.lst zs)) := kp_up memA (kp_refl _ _)
  have mu : Mu H [o] := mu_lst ho mu_nil
  refine ⟨h.q.kpu k mu (mu_lst upd_same mu_nil) (subCons hoc subNil) (fun a ha => not_cons (fun z => n1 (by rw [← z]; exact memL (memL ha))) not_nil) (not_cons (fun z => n1 (by rw [← z]; exact memL (memR memA))) not_nil), ⟨xs, k.at_ _ _ h1 (not_cons (Ne.symm n2) not_nil), h2.kp k mu⟩, bag_kpR k (not_cons (fun z => n1 (by rw [← z]; exact memR memA)) not_nil) h.hbag, tabsN_kp h.htab k (subCons ⟨_, ho, (fun _ z => nomatch z), fun _ z => nomatch z⟩ subNil), h.hm, h.hb, h.n1, h.n2, h.n3, h.nl⟩
end
section
variable {P : Program} {w : World} {base : Heap} {X : Cx} {T : Txt X.K X.mg} {fm : Nat} {f cd : Addr} {cl : List (Str × Addr)} {odd : Bool} {cs : List Addr} {x j jdx c cdx l pn m bag : Addr} {z : V} {ms : List V} {u : List JEv} {es : List (Nat × Nat × Nat)} {g : Nat} {lg : Addr} {el : List (Nat × Nat × Nat)} {H : Hp} {σ : L2.St} {Q : VK}
theorem QM.cv {X : Cx} {T : Txt X.K X.mg} {uv : List Addr} {f : V} {UR UR1 : List JEv → Hp → Prop} {Val : Nat → List V → V → Hp → Prop} {H H1 : Hp} (h : QM T fm uv f UR Val cs x j jdx c cdx l z ms u es g m H) (k : Cv H H1) (hv : ∀ i xs v, Val i xs v H → Val i xs v H1) (hu : UR u H → UR1 u H1) : QM T fm uv f UR1 Val cs x j jdx c cdx l z ms u es g m H1 := by
  have mc : ∀ {g e b n : Nat} {r : Option Nat}, MoAt H m g e b n r → MoAt H1 m g e b n r := fun {g e b n r} hm => by
    obtain ⟨vf, vb, vl, h1, ⟨p1, a1, b1, e1, q1, r1⟩, ⟨p2, a2, b2, e2, q2, r2⟩, ⟨p3, a3, b3, e3, q3, r3⟩⟩ := hm.ex
    exact ⟨vf, vb, vl, k.dK h1, ⟨p1, a1, b1, e1, k.tup q1, r1⟩, ⟨p2, a2, b2, e2, k.tup q2, r2⟩, ⟨p3, a3, b3, e3, k.tup q3, r3⟩⟩
  exact h.imp (fun ⟨a, e, b, c⟩ => ⟨a, e, b.kq (cv_kq k) mu_nil mu_nil (fun _ z => nomatch z) (fun _ _ => not_nil) hv hu, mc c⟩) fun ⟨a, e, b, r, d, c⟩ => ⟨a, e, b, r, d.kq (cv_kq k) mu_nil mu_nil (fun _ z => nomatch z) (fun _ _ => not_nil) hv hu, mc c⟩
theorem t_call (ecl : cl = cloFrom X.env.cells (LJ [] 0).scope.names []) (hN : X.N[2]? = some ("_law_notes" : Str)) (hN2 : X.N[7]? = some ("_law_odd" : Str)) (hc : ∀ y ∈ frJ, X.env.scope.names.lookup y = some .cell) (h2 : σ[2]? = some (some (.ref pn))) (h7 : σ[7]? = some (some (.bl odd)))
    (h : J7 T fm f cd cl odd cs x j jdx c cdx l pn m bag z ms u es g lg el H) (lu : u.length < 79000) (le : es.length < 79000) (lm : ms.length < 8000) {kd : Nat} (hk : kd < 3) {thing : V} (hv : kd = 0 → ValO odd ms.length [thing] thing H) (hg : kd = 1 → g < ms.length)
    (q : ∀ t o1 o2 xs1 xs2 d ds H1, H1 t = some (.tup [.ref o1, .ref o2, .bl true]) → H1 o1 = some (.lst xs1) → JLog H1 xs1 ds → H1 o2 = some (.lst xs2) → JLog H1 xs2 ds → Fr H o1 → Fr H o2 → d.length = ds.length → ds.length ≤ ms.length + 3 → Kp ([x, c, l] ++ [pn] ++ [m]) H H1 →
      J7 T fm f cd cl odd (o1 :: cs) x j jdx c cdx l pn m bag z (if kd = 0 then ms ++ [thing] else ms) (u ++ d) (es ++ ds) (if kd = 1 then g + 1 else g) lg el H1 → Q (.ref t) H1) :
    ∀ cT HT, Inf.Tel X.env.cells X.env.scope.names X.N σ H cT HT → spCall P w T base 2 ([.ref x, .ref m, .int (fm : Int), .int (kd : Int), .int (ms.length : Int), thing] ++ []) HT (fun v H2 => (∀ b, b ∈ cT → H2 b = HT b) ∧ Q v (Inf.cut cT H2)) E0 := by
  intro cT HT tel
  have TL := toldO (X := X) (H := H) (f := f) (c := cd) (u := u) ecl hN hN2 hc h2 h7
  have hQT : QM T fm [pn] (.ref f) (URT f cl cd pn odd) (ValO odd) cs x j jdx c cdx l z ms u es g m HT := h.q.cv (cv_same tel.same) (TL.v1 cT HT tel) (TL.to cT HT tel)
  have mT : Mu HT ([x, c, l] ++ [pn] ++ [m]) := fun a ha => by
    obtain ⟨o, e1, e2, e3⟩ := h.objs a ha
    have hmu := h.q.com.2.2.2.1
    have hin : a ∈ cs := by
      rcases List.mem_append.mp ha with y | y
      · exact h.q.com.2.2.2.2.1 a y
      · rw [List.mem_singleton.mp y]; exact h.hm
    obtain ⟨o', y1, y2⟩ := hmu a hin
    exact ⟨o', tel.same _ _ y1, y2⟩
  refine ⟨[pn], .ref f, URT f cl cd pn odd, ValO odd, cs, x, j, jdx, c, cdx, l, z, ms, u, es, g, fm, kd, m, thing, rfl, hk, jsO T, hQT, lu, le, lm, h.hm, h.n1, (fun e => valO_kp (hv e) (kp_same (cs := []) tel.same) mu_nil), hg, fun t o1 o2 xs1 xs2 d ds H8 e0 e1 j1 e2 j2 f1 f2 ld l2 k8 q8 => ?_⟩
  obtain ⟨t1, t2⟩ := tel_kp tel k8 mT
  have cv := cv_tel tel t1
  have q9 := q8.cv cv (TL.v2 cT HT H8 tel t1) (TL.back cT HT H8 _ tel t1 h.q.com.2.1.ur)
  obtain ⟨xs, g1, g2⟩ := h.hlg
  have mH : Mu H ([x, c, l] ++ [pn] ++ [m]) := fun a ha => by
    obtain ⟨o, y1, y2⟩ := mT a ha
    obtain ⟨o', z1, _, z3⟩ := h.objs a ha
    have := tel.same _ _ z1
    rw [y1] at this
    cases Option.some.inj this
    exact ⟨o, z1, y2⟩
  have nlg : lg ∉ [x, c, l] ++ [pn] ++ [m] := fun y => h.nl (memL y)
  have nbg : bag ∉ [x, c, l] ++ [pn] ++ [m] := fun y => by
    rcases List.mem_append.mp y with y | y
    · exact h.n2 y
    · exact h.n3 (List.mem_singleton.mp y).symm
  refine ⟨t1, q t o1 o2 xs1 xs2 d ds _ (cv.tup e0) (cv.lst e1) (j1.cv cv) (cv.lst e2) (j2.cv cv) (Fr.mk (tel.same.free f1.h)) (Fr.mk (tel.same.free f2.h)) ld l2 t2 ⟨q9, ⟨xs, t2.at_ _ _ g1 nlg, g2.kp t2 mH⟩, bag_kpR t2 nbg h.hbag, tabsN_kp h.htab t2 (fun a ha => h.objs a ha), List.mem_cons_of_mem _ h.hm, List.mem_cons_of_mem _ h.hb, h.n1, h.n2, h.n3, h.nl⟩⟩
end
end Ob

set_option Elab.async false
set_option linter.all false
set_option maxRecDepth 100000
set_option maxHeartbeats 1000000
namespace Ob
open PySem PySem.Spec PyProof.Rows L2
open LamX (Tabs TabB TabS ExtN)

set_option hygiene false in
local macro_rules
  | `(tactic| kp_flats) => `(tactic| first
    | assumption
    | exact upd_same
    | (apply atNew; assumption; kp_flats)
    | (apply atNe; (next => kbo_bools); kp_flats)
    | (apply atSame; assumption; kp_flats)
    | (apply atKp; assumption; (next => kaf_pre); kp_flats))
set_option hygiene false in
local macro_rules
  | `(tactic| kaf_pre) => `(tactic| first
    | assumption
    | exact not_nil
    | (apply not_cons; (next => kbo_bools); kaf_pre)
    | (apply not_app; (next => kaf_pre); kaf_pre))
set_option hygiene false in
local macro_rules
  | `(tactic| kbo_bools) => `(tactic| first
    | assumption
    | (apply Ne.symm; assumption)
    | (apply neN; assumption; kp_flats)
    | (apply neN'; assumption; kp_flats))
set_option hygiene false in
local macro_rules
  | `(tactic| o_reads) => `(tactic| first
    | with_reducible rfl
    | assumption
    | rfl
    | kp_flats
    | (show SqL _ _ _ _; first | assumption | (apply sqlOf; kp_flats) | (apply sqlSame; assumption; o_reads))
    | (show SqT _ _ _ _; first | assumption | (apply sqtOf; kp_flats) | (apply sqtAll; assumption) | (apply sqtSame; assumption; o_reads))
    | (show Cls _ _; first | exact T.cl_Calls | exact T.cl_Joiner | exact T.cl_Planner | exact T.cl_EvenSums | exact T.cl_Shape | exact T.cl_TwoStacks)
    | (show NoAttr _ _ _; first | exact T.n_Calls_entries | exact T.n_Calls_running | exact T.n_Joiner_calls | exact T.n_Joiner_join_call | exact T.n_Planner_entries | exact T.n_EvenSums_calls | exact T.n_EvenSums_joiner | exact T.n_EvenSums_zero | exact T.n_EvenSums_given | exact T.n_EvenSums_held | exact T.n_EvenSums_shape | exact T.n_Shape_front | exact T.n_Shape_back | exact T.n_Shape_late | exact T.n_Shape_renewed | exact T.n_TwoStacks_calls | exact T.n_TwoStacks_joiner | exact T.n_TwoStacks_zero | exact T.n_TwoStacks_given | exact T.n_TwoStacks_held | exact T.n_TwoStacks_front | exact T.n_TwoStacks_back)
    | (apply Or.inl; o_reads)
    | (apply Or.inr; o_reads)
    | (apply And.intro; (next => o_reads); o_reads)
    | (apply Exists.intro; o_reads)
    | exact Nat.le_of_ble_eq_true rfl
    | exact Nat.succ_ne_zero _
    | (show Fr _ _; kba_ints)
    | (show Same _ _; kd_subs)
    | (show Kp _ _ _; kxs_still)
    | (show (_ : Nat) ≤ _; simp only [List.length_append, List.length_map, List.length_cons, List.length_nil, List.length_take, List.length_drop, List.length_replicate, List.length_range, sizeLine_eq]; omega)
    | (show _ = none; apply Fr.h; kba_ints)
    | (show Bag _ _; first | assumption | (apply bag_putF; assumption; o_reads) | (apply bag_neF; (next => kbo_bools); o_reads) | (apply bag_kpR; assumption; (next => kaf_pre); o_reads))
    | omega
    | decide)
local macro_rules
  | `(tactic| o_readsAll) => `(tactic| repeat (first
    | (refine fun (pNew : Addr) (nNew : _ = none) => ?_; replace nNew := Fr.mk nNew)
    | (refine fun (xNew dNew : Addr) (nNew : _ = none) (mNew : _ = none) (eNew : dNew ≠ xNew) => ?_; replace nNew := Fr.mk nNew; replace mNew := Fr.mk mNew)
    | (apply And.intro; next => o_reads)
    | apply Exists.intro (α := V)
    | apply Exists.intro (α := Addr)
    | apply Exists.intro (α := Int)
    | apply Exists.intro (α := Bool)
    | apply Exists.intro (α := List V)
    | apply Exists.intro (α := List Nat)
    | apply Exists.intro (α := List (Str × V))
    | apply Exists.intro (α := List _)
    | apply Exists.intro (α := Str)
    | apply Exists.intro (α := HO)
    | apply Exists.intro (α := Sp)
    | apply Exists.intro (α := VK)))
set_option hygiene false in
local macro_rules
  | `(tactic| kba_ints) => `(tactic| first
    | assumption
    | (apply frUp; (first | assumption | (apply Ne.symm; assumption)); kba_ints)
    | (apply noneOf; assumption; intro oF eF; apply Exists.intro; kp_flats)
    | (apply frUp; (next => kbo_bools); kba_ints))
set_option hygiene false in
local macro_rules
  | `(tactic| kxs_still) => `(tactic| first
    | assumption
    | exact kp_refl _ _
    | (apply kp_newF; assumption; kxs_still)
    | (apply kp_new; assumption; kxs_still)
    | (apply kp_up; (next => o_fieldsN); kxs_still)
    | (apply kp_new; (next => kba_ints); kxs_still)
    | (apply kp_sameR; assumption; kxs_still)
    | (apply kp_transR; assumption; kxs_still)
    | (apply kp_freshR; assumption; (next => kaf_suf); kxs_still))
set_option hygiene false in
local macro_rules
  | `(tactic| kaf_suf) => `(tactic| first
    | assumption
    | exact subNil
    | (apply subCons; (first | (apply Or.inl; o_fieldsN) | (apply Or.inr; kba_ints)); kaf_suf)
    | (apply subApp; (next => kaf_suf); kaf_suf))
set_option hygiene false in
local macro_rules
  | `(tactic| o_fieldsN) => `(tactic| first
    | assumption
    | exact memA
    | (apply memB; o_fieldsN)
    | (apply memL; o_fieldsN)
    | (apply memR; o_fieldsN))
set_option hygiene false in
local macro_rules
  | `(tactic| kd_subs) => `(tactic| first
    | assumption
    | exact Same.refl _
    | (apply same_putF; assumption; kd_subs)
    | (apply same_putG; assumption; kd_subs)
    | (apply same_putF; (next => kba_ints); kd_subs)
    | (apply same_transR; assumption; kd_subs))

set_option pp.maxSteps 900
/-! ### entries and notes as plain data -/
def natsD (i k : Nat) : List PyData := (List.range' i k).map fun q : Nat => PyData.int (q : Int)
def entD (e : Nat × Nat × Nat) : PyData := .tuple [.str "join", .tuple [.int e.1, .int e.2.1], .tuple [.int e.2.1, .int e.2.2]]
def noteD (odd : Bool) (e : Nat × Nat × Nat) : PyData := if odd = true then .tuple [.none, .none] else .tuple [.tuple (natsD e.1 (e.2.1 - e.1)), .tuple (natsD e.2.1 (e.2.2 - e.2.1))]
theorem lay_map {α : Type} {f : α → PyData} {k : Nat} (h : ∀ x, PyData.canLay0 (f x) = true ∧ PyData.depth (f x) ≤ k) : ∀ l : List α, PyData.canLayAll0 (l.map f) = true ∧ PyData.depthAll (l.map f) ≤ k + 1
  | [] => ⟨rfl, Nat.zero_le _⟩
  | x :: l => by
    obtain ⟨a, b⟩ := lay_map h l
    obtain ⟨c, d⟩ := h x
    refine ⟨?_, ?_⟩
    · rw [List.map_cons]
      simp only [PyData.canLayAll0, a, c, Bool.and_self]
    · rw [List.map_cons]
      simp only [PyData.depthAll]
      omega
theorem lay_nat (i k : Nat) : PyData.canLayAll0 (natsD i k) = true ∧ PyData.depthAll (natsD i k) ≤ 2 := lay_map (k := 1) (fun q => ⟨by simp only [PyData.canLay0], by simp only [PyData.depth]; omega⟩) _
theorem lay_ent (e : Nat × Nat × Nat) : PyData.canLay0 (entD e) = true ∧ PyData.depth (entD e) ≤ 5 := by
  refine ⟨?_, ?_⟩
  · unfold entD
    simp only [PyData.canLayAll0, PyData.canLay0, Bool.and_self, Bool.and_true]
    decide +kernel
  · unfold entD
    simp only [PyData.depthAll, PyData.depth]
    omega
theorem lay_note (odd : Bool) (e : Nat × Nat × Nat) : PyData.canLay0 (noteD odd e) = true ∧ PyData.depth (noteD odd e) ≤ 6 := by
  obtain ⟨a, b⟩ := lay_nat e.1 (e.2.1 - e.1)
  obtain ⟨c, d⟩ := lay_nat e.2.1 (e.2.2 - e.2.1)
  unfold noteD
  split
  · exact ⟨by decide +kernel, by decide +kernel⟩
  · refine ⟨?_, ?_⟩
    · simp only [PyData.canLayAll0, PyData.canLay0, a, c, Bool.and_self, Bool.and_true]
    · simp only [PyData.depthAll, PyData.depth]
      omega
theorem sh_map {α : Type} {f : α → PyData} (h : ∀ x, PyData.canLay0 (f x) = true ∧ PyData.depth (f x) ≤ 6) (l : List α) : SeqAt.shaped (.list (l.map f)) = true := by
  obtain ⟨a, b⟩ := lay_map h l
  unfold SeqAt.shaped
  rw [Bool.and_eq_true]
  refine ⟨?_, decide_eq_true ?_⟩
  · simp only [PyData.canLay0, a]
  · simp only [PyData.depth]
    omega
theorem sh_ent (es : List (Nat × Nat × Nat)) : SeqAt.shaped (.list (es.map entD)) = true := sh_map (fun e => ⟨(lay_ent e).1, by have := (lay_ent e).2; omega⟩) es
theorem sh_note (odd : Bool) (es : List (Nat × Nat × Nat)) : SeqAt.shaped (.list (es.map (noteD odd))) = true := sh_map (lay_note odd) es
theorem eq_sh {d : PyData} (h : SeqAt.shaped d = true) : (!PyData.eqv d d) = false := by
  rw [SeqAt.eqv_refl _ (SeqAt.canLay_of_shaped h)]
  rfl
section
variable {K : PySem.W.Frag} {H : Hp}
theorem dpAll_of : ∀ {xs : List V} {ds : List PyData}, xs.length = ds.length → (∀ (q : Nat) x d, xs[q]? = some x → ds[q]? = some d → Dp K H x d) → DpAll K H xs ds
  | [], [], _, _ => .nil
  | x :: xs, d :: ds, l, h => .cons (h 0 x d rfl rfl) (dpAll_of (Nat.succ.inj l) fun q y e a b => h (q + 1) y e a b)
  | [], _ :: _, l, _ => nomatch l
  | _ :: _, [], l, _ => nomatch l
theorem dp_nats (i k : Nat) : DpAll K H (rgi i k) (natsD i k) := by
  unfold rgi natsD
  induction (List.range' i k) with
  | nil => exact .nil
  | cons x l ih => exact .cons (.int _) ih
theorem dp_ent {x : V} {e : Nat × Nat × Nat} (h : JEnt H x e) : Dp K H x (entD e) := by
  obtain ⟨p, a, b, rfl, h1, h2, h3⟩ := h
  exact .tup (sqtOf h1) (.cons (.str _) (.cons (.tup (sqtOf h2) (.cons (.int _) (.cons (.int _) .nil))) (.cons (.tup (sqtOf h3) (.cons (.int _) (.cons (.int _) .nil))) .nil)))
theorem dp_jlog {a : Addr} {xs : List V} {es : List (Nat × Nat × Nat)} (ha : H a = some (.lst xs)) (h : JLog H xs es) : Dp K H (.ref a) (.list (es.map entD)) := .lst (sqlOf ha) (dpAll_of (by rw [List.length_map, h.len]) fun q x d h1 h2 => by
  rw [List.getElem?_map] at h2
  cases he : es[q]? with
  | none =>
    rw [he] at h2
    cases h2
  | some e =>
    rw [he] at h2
    cases h2
    exact dp_ent (h.at_ q x e h1 he))
theorem dp_note {odd : Bool} {t : V} {ev : JEv} (h : NoteAt odd H t ev) : Dp K H t (noteD odd (entOf ev)) := by
  obtain ⟨p, rfl, h1, h2⟩ := h
  unfold noteD
  split at h2
  · rename_i c
    rw [if_pos c]
    rw [h2.1, h2.2] at h1
    exact .tup (sqtOf h1) (.cons .non (.cons .non .nil))
  · rename_i c
    rw [if_neg c]
    obtain ⟨⟨p1, a1, a2⟩, p2, b1, b2⟩ := h2
    rw [a1, b1] at h1
    exact .tup (sqtOf h1) (.cons (.tup (sqtOf a2) (dp_nats _ _)) (.cons (.tup (sqtOf b2) (dp_nats _ _)) .nil))
theorem dp_notes {odd : Bool} {pn : Addr} {u : List JEv} {es : List (Nat × Nat × Nat)} (h : Notes odd pn u H) (e : es = u.map entOf) : Dp K H (.ref pn) (.list (es.map (noteD odd))) := by
  subst e
  obtain ⟨ts, h1, h2, h3⟩ := h.ex
  refine .lst (sqlOf h1) (dpAll_of (by rw [List.length_map, List.length_map, h2]) fun q x d a b => ?_)
  rw [List.map_map, List.getElem?_map] at b
  cases he : u[q]? with
  | none =>
    rw [he] at b
    cases b
  | some ev =>
    rw [he] at b
    cases b
    exact dp_note (h3 q x ev a he)
theorem dp_nones {a p : Addr} {n : Nat} {es : List (Nat × Nat × Nat)} (ha : H a = some (.lst (List.replicate n (.ref p)))) (hp : H p = some (.tup [.non, .non])) (hn : n = es.length) : Dp K H (.ref a) (.list (es.map (noteD true))) := by
  refine .lst (sqlOf ha) (dpAll_of (by rw [List.length_map, List.length_replicate, hn]) fun q x d h1 h2 => ?_)
  have h1 := (List.getElem?_eq_some_iff.mp h1).2
  rw [List.getElem_replicate] at h1
  subst h1
  rw [List.getElem?_map] at h2
  cases he : es[q]? with
  | none =>
    rw [he] at h2
    cases h2
  | some ev =>
    rw [he] at h2
    cases h2
    exact .tup (sqtOf hp) (.cons .non (.cons .non .nil))
end
end Ob

set_option Elab.async false
set_option linter.all false
set_option maxRecDepth 100000
set_option maxHeartbeats 1000000
namespace Ob
open PySem PySem.Spec PyProof.Rows L2
open LamX (Tabs TabB TabS ExtN)

set_option hygiene false in
local macro_rules
  | `(tactic| kp_flats) => `(tactic| first
    | assumption
    | exact upd_same
    | (apply atNew; assumption; kp_flats)
    | (apply atNe; (next => kbo_bools); kp_flats)
    | (apply atSame; assumption; kp_flats)
    | (apply atKp; assumption; (next => kaf_pre); kp_flats))
set_option hygiene false in
local macro_rules
  | `(tactic| kaf_pre) => `(tactic| first
    | assumption
    | exact not_nil
    | (apply not_cons; (next => kbo_bools); kaf_pre)
    | (apply not_app; (next => kaf_pre); kaf_pre))
set_option hygiene false in
local macro_rules
  | `(tactic| kbo_bools) => `(tactic| first
    | assumption
    | (apply Ne.symm; assumption)
    | (apply neN; assumption; kp_flats)
    | (apply neN'; assumption; kp_flats))
set_option hygiene false in
local macro_rules
  | `(tactic| o_reads) => `(tactic| first
    | with_reducible rfl
    | assumption
    | rfl
    | kp_flats
    | (show SqL _ _ _ _; first | assumption | (apply sqlOf; kp_flats) | (apply sqlSame; assumption; o_reads))
    | (show SqT _ _ _ _; first | assumption | (apply sqtOf; kp_flats) | (apply sqtAll; assumption) | (apply sqtSame; assumption; o_reads))
    | (show Cls _ _; first | exact T.cl_Calls | exact T.cl_Joiner | exact T.cl_Planner | exact T.cl_EvenSums | exact T.cl_Shape | exact T.cl_TwoStacks)
    | (show NoAttr _ _ _; first | exact T.n_Calls_entries | exact T.n_Calls_running | exact T.n_Joiner_calls | exact T.n_Joiner_join_call | exact T.n_Planner_entries | exact T.n_EvenSums_calls | exact T.n_EvenSums_joiner | exact T.n_EvenSums_zero | exact T.n_EvenSums_given | exact T.n_EvenSums_held | exact T.n_EvenSums_shape | exact T.n_Shape_front | exact T.n_Shape_back | exact T.n_Shape_late | exact T.n_Shape_renewed | exact T.n_TwoStacks_calls | exact T.n_TwoStacks_joiner | exact T.n_TwoStacks_zero | exact T.n_TwoStacks_given | exact T.n_TwoStacks_held | exact T.n_TwoStacks_front | exact T.n_TwoStacks_back)
    | (apply Or.inl; o_reads)
    | (apply Or.inr; o_reads)
    | (apply And.intro; (next => o_reads); o_reads)
    | (apply Exists.intro; o_reads)
    | exact Nat.le_of_ble_eq_true rfl
    | exact Nat.succ_ne_zero _
    | (show Fr _ _; kba_ints)
    | (show Same _ _; kd_subs)
    | (show Kp _ _ _; kxs_still)
    | (show (_ : Nat) ≤ _; simp only [List.length_append, List.length_map, List.length_cons, List.length_nil, List.length_take, List.length_drop, List.length_replicate, List.length_range, sizeLine_eq]; omega)
    | (show _ = none; apply Fr.h; kba_ints)
    | (show Bag _ _; first | assumption | (apply bag_putF; assumption; o_reads) | (apply bag_neF; (next => kbo_bools); o_reads) | (apply bag_kpR; assumption; (next => kaf_pre); o_reads))
    | omega
    | decide)
local macro_rules
  | `(tactic| o_readsAll) => `(tactic| repeat (first
    | (refine fun (pNew : Addr) (nNew : _ = none) => ?_; replace nNew := Fr.mk nNew)
    | (refine fun (xNew dNew : Addr) (nNew : _ = none) (mNew : _ = none) (eNew : dNew ≠ xNew) => ?_; replace nNew := Fr.mk nNew; replace mNew := Fr.mk mNew)
    | (apply And.intro; next => o_reads)
    | apply Exists.intro (α := V)
    | apply Exists.intro (α := Addr)
    | apply Exists.intro (α := Int)
    | apply Exists.intro (α := Bool)
    | apply Exists.intro (α := List V)
    | apply Exists.intro (α := List Nat)
    | apply Exists.intro (α := List (Str × V))
    | apply Exists.intro (α := List _)
    | apply Exists.intro (α := Str)
    | apply Exists.intro (α := HO)
    | apply Exists.intro (α := Sp)
    | apply Exists.intro (α := VK)))
set_option hygiene false in
local macro_rules
  | `(tactic| kba_ints) => `(tactic| first
    | assumption
    | (apply frUp; (first | assumption | (apply Ne.symm; assumption)); kba_ints)
    | (apply noneOf; assumption; intro oF eF; apply Exists.intro; kp_flats)
    | (apply frUp; (next => kbo_bools); kba_ints))
set_option hygiene false in
local macro_rules
  | `(tactic| kxs_still) => `(tactic| first
    | assumption
    | exact kp_refl _ _
    | (apply kp_newF; assumption; kxs_still)
    | (apply kp_new; assumption; kxs_still)
    | (apply kp_up; (next => o_fieldsN); kxs_still)
    | (apply kp_new; (next => kba_ints); kxs_still)
    | (apply kp_sameR; assumption; kxs_still)
    | (apply kp_transR; assumption; kxs_still)
    | (apply kp_freshR; assumption; (next => kaf_suf); kxs_still))
set_option hygiene false in
local macro_rules
  | `(tactic| kaf_suf) => `(tactic| first
    | assumption
    | exact subNil
    | (apply subCons; (first | (apply Or.inl; o_fieldsN) | (apply Or.inr; kba_ints)); kaf_suf)
    | (apply subApp; (next => kaf_suf); kaf_suf))
set_option hygiene false in
local macro_rules
  | `(tactic| o_fieldsN) => `(tactic| first
    | assumption
    | exact memA
    | (apply memB; o_fieldsN)
    | (apply memL; o_fieldsN)
    | (apply memR; o_fieldsN))
set_option hygiene false in
local macro_rules
  | `(tactic| kd_subs) => `(tactic| first
    | assumption
    | exact Same.refl _
    | (apply same_putF; assumption; kd_subs)
    | (apply same_putG; assumption; kd_subs)
    | (apply same_putF; (next => kba_ints); kd_subs)
    | (apply same_transR; assumption; kd_subs))

set_option pp.maxSteps 900
open NdefX (TabsN)
theorem sql_kp {K : PySem.W.Frag} {cs : List Addr} {H H1 : Hp} {a : Addr} {xs : List V} (h : SqL K H a xs) (k : Kp cs H H1) (n : ∀ o, H a = some o → (∀ ps, o ≠ .tbl ps) → a ∉ cs) : SqL K H1 a xs := by
  rcases h with (h | ⟨o, h⟩) | h
  · exact .inl (.inl (k.at_ _ _ h (n _ h (fun _ z => nomatch z))))
  · exact .inl (.inr ⟨o, k.at_ _ _ h (n _ h (fun _ z => nomatch z))⟩)
  · exact .inr h
section
variable {K : PySem.W.Frag} {mg : Str → Option Value} {T : Txt K mg} {fm i : Nat} {uv : List Addr} {f : V} {UR : List JEv → Hp → Prop} {Val : Nat → List V → V → Hp → Prop} {cs : List Addr} {x j jdx c cdx l m : Addr} {z : V} {ms : List V} {u : List JEv} {es : List (Nat × Nat × Nat)} {g : Nat} {H : Hp} {σ : L2.St} {Q : VK}
theorem t_log (hv : σ[i]? = some (some (.ref x))) (h : QM T fm uv f UR Val cs x j jdx c cdx l z ms u es g m H) (q : ∀ o H' xs, Fr H o → Same H H' → H' o = some (.lst xs) → JLog H' xs es → Q (.ref o) H') :
    tEither (tMeth T.C_TwoStacks "log" (spTwLog T) [] E0 (tVar i) tNil) (tMeth T.C_EvenSums "log" (spEvLog T) [] E0 (tVar i) tNil) σ H Q := by
  rcases h with ⟨_, e, tw, _⟩ | ⟨_, e, b, r, ev, _⟩
  · obtain ⟨dx, hh, fr, bv, ys, h1, _⟩ := tw.hx
    obtain ⟨xs, l1, l2⟩ := tw.jw.lg
    exact .inl ⟨_, hv, x, _, _, rfl, h1, rfl, x, dx, c, cdx, l, j, hh, fr, z, bv, _, xs, rfl, h1, tw.jw.hc, l1, fun o H' fo s e => q o H' xs fo s e (l2.kp (kp_same (cs := []) s) mu_nil)⟩
  · obtain ⟨dx, hh, sh, h1, _⟩ := ev.hx
    obtain ⟨xs, l1, l2⟩ := ev.jw.lg
    exact .inr ⟨_, hv, x, _, _, rfl, h1, rfl, x, dx, c, cdx, l, j, hh, sh, z, _, xs, rfl, h1, ev.jw.hc, l1, fun o H' fo s e => q o H' xs fo s e (l2.kp (kp_same (cs := []) s) mu_nil)⟩
end
theorem flat_rep (x : V) : ∀ n : Nat, (List.replicate n [x]).flatten = List.replicate n x
  | 0 => rfl
  | n + 1 => by
    rw [List.replicate_succ, List.replicate_succ, List.flatten_cons, flat_rep x n]
    rfl
/-- what a noted call should be -/
def AskAt (H : Hp) (y : V) (e : Nat × Nat × Nat) : Prop := ∃ p p1 p2 : Addr, y = .ref p ∧ H p = some (.tup [.ref p1, .ref p2]) ∧ H p1 = some (.tup (rgi e.1 (e.2.1 - e.1))) ∧ H p2 = some (.tup (rgi e.2.1 (e.2.2 - e.2.1)))
theorem AskAt.kp {H H1 : Hp} {y : V} {e : Nat × Nat × Nat} {cs : List Addr} (h : AskAt H y e) (k : Kp cs H H1) (m : Mu H cs) : AskAt H1 y e := by
  obtain ⟨p, p1, p2, h1, h2, h3, h4⟩ := h
  exact ⟨p, p1, p2, h1, kp_tup k m h2, kp_tup k m h3, kp_tup k m h4⟩
theorem dp_asks {K : PySem.W.Frag} {H : Hp} {a : Addr} {ys : List V} {es : List (Nat × Nat × Nat)} (ha : H a = some (.lst ys)) (hl : ys.length = es.length) (h : ∀ (q : Nat) y e, ys[q]? = some y → es[q]? = some e → AskAt H y e) : Dp K H (.ref a) (.list (es.map (noteD false))) := .lst (sqlOf ha) (dpAll_of (by rw [List.length_map, hl]) fun q x d h1 h2 => by
  rw [List.getElem?_map] at h2
  cases he : es[q]? with
  | none =>
    rw [he] at h2
    cases h2
  | some e =>
    rw [he] at h2
    cases h2
    obtain ⟨p, p1, p2, rfl, a1, a2, a3⟩ := h q x e h1 he
    exact .tup (sqtOf a1) (.cons (.tup (sqtOf a2) (dp_nats _ _)) (.cons (.tup (sqtOf a3) (dp_nats _ _)) .nil)))
section
variable {P : Program} {w : World} {base : Heap} {X : Cx} {T : Txt X.K X.mg} {fm : Nat} {f cd : Addr} {cl : List (Str × Addr)} {odd : Bool} {cs : List Addr} {x j jdx c cdx l pn m bag : Addr} {z : V} {ms : List V} {u : List JEv} {es : List (Nat × Nat × Nat)} {g : Nat} {lg : Addr} {el : List (Nat × Nat × Nat)} {H0 : Hp} {σ : L2.St} {Q : VK} {t : TA}
theorem t_callA (ecl : cl = cloFrom X.env.cells (LJ [] 0).scope.names []) (hN : X.N[2]? = some ("_law_notes" : Str)) (hN2 : X.N[7]? = some ("_law_odd" : Str)) (hc : ∀ y ∈ frJ, X.env.scope.names.lookup y = some .cell) (h2 : σ[2]? = some (some (.ref pn))) (h7 : σ[7]? = some (some (.bl odd)))
    (h : J7 T fm f cd cl odd cs x j jdx c cdx l pn m bag z ms u es g lg el H0) (lu : u.length < 79000) (le : es.length < 79000) (lm : ms.length < 8000) {kd : Nat} (hk : kd < 3) (hg : kd = 1 → g < ms.length)
    (ht : ∀ K : List V → Hp → Prop, (∀ thing H, Same H0 H → ValO odd ms.length [thing] thing H → K [.ref x, .ref m, .int (fm : Int), .int (kd : Int), .int (ms.length : Int), thing] H) → t σ H0 K)
    (q : ∀ thing tt o1 o2 xs1 xs2 d ds H1, H1 tt = some (.tup [.ref o1, .ref o2, .bl true]) → H1 o1 = some (.lst xs1) → JLog H1 xs1 ds → H1 o2 = some (.lst xs2) → JLog H1 xs2 ds → Fr H0 o1 → Fr H0 o2 → d.length = ds.length → ds.length ≤ ms.length + 3 → Kp ([x, c, l] ++ [pn] ++ [m]) H0 H1 →
      J7 T fm f cd cl odd (o1 :: cs) x j jdx c cdx l pn m bag z (if kd = 0 then ms ++ [thing] else ms) (u ++ d) (es ++ ds) (if kd = 1 then g + 1 else g) lg el H1 → Q (.ref tt) H1) :
    Inf.tCallT X (spCall P w T base 2) [] t σ H0 Q :=
  ht _ fun _ H s hv => t_call ecl hN hN2 hc h2 h7 (h.same s) lu le lm hk (fun _ => hv) hg fun tt o1 o2 xs1 xs2 d ds H1 e0 e1 j1 e2 j2 f1 f2 ld l2 k1 q1 => q _ tt o1 o2 xs1 xs2 d ds H1 e0 e1 j1 e2 j2 (Fr.mk (s.free f1.h)) (Fr.mk (s.free f2.h)) ld l2 (kp_trans (kp_same s) k1) q1
end
section
variable {P : Program} {w : World} {K : PySem.W.Frag} {mg : Str → Option Value} {base : Heap} {n : Nat}
def R7 (T : Txt K mg) (H0 : Hp) (fm : Nat) (f cd : Addr) (cl : List (Str × Addr)) (odd : Bool) (x j jdx c cdx l pn m bag : Addr) (z : V) (i k : Nat) (Y : Option V → Nat → Nat → Prop) (σ : L2.St) (H : Hp) : Prop :=
  ∃ (lg : Addr) (cs : List Addr) (ms : List V) (u : List JEv) (es : List (Nat × Nat × Nat)) (g road : Nat) (y10 y11 y12 y13 y14 y15 y16 y17 y18 y19 y20 : Option V),
    σ = [some (.ref bag), some (.int (fm : Int)), some (.ref pn), some (.ref lg), some (.int (ms.length : Int)), some (.int (g : Int)), some (.int (road : Int)), some (.bl odd), some (.ref m), some (.ref x), y10, y11, y12, y13, y14, y15, y16, y17, y18, y19, y20] ∧
    road < 3 ∧ ms.length ≤ i ∧ es.length ≤ 200 * i + k ∧ Y y11 ms.length g ∧ Kp [T.p_l_right, bag] H0 H ∧ J7 T fm f cd cl odd cs x j jdx c cdx l pn m bag z ms u es g lg es H
def spRight (T : Txt K mg) : Sp := fun vs H Q _ => ∃ (bag : Addr) (fm : Nat), vs = [.ref bag, .int (fm : Int)] ∧ fm < 2 ∧ Bag H bag ∧ TabsN (TT T) H ∧ ∀ H', Kp [T.p_l_right, bag] H H' → TabsN (TT T) H' → Q (.bl true) H'
theorem ok_right (T : Txt K mg) (TB : LamX.TabB base mg T.c_l_right T.p_l_right) : FnOk P w K mg base CX0 24 T.f_l_right T.d_l_right ["_law_bag_here", "_law_form"] (spRight T) := by
  have G_l_take := ok_takeK (P := P) (w := w) (base := base) T
  have G_l_new_model := ok_newm (P := P) (w := w) (base := base) T
  have G_l_queue := ok_queue (P := P) (w := w) (base := base) T
  have G_l_call := ok_call (P := P) (w := w) (base := base) (n := 2) T
  have G_l_range := ok_range (P := P) (w := w) (base := base) T
  have G_TwoStacks_log := ok_twlog (P := P) (w := w) (base := base) T
  have G_EvenSums_log := ok_evlog (P := P) (w := w) (base := base) T
  refine T.F_l_right.ok sc_l_right (fun vs H Q E h => ?_) (fun A outer s H0 vs Q E hr h => ?_)
  · obtain ⟨bag, fm, rfl, _⟩ := h
    rfl
  · obtain ⟨bag, fm, rfl, hfm, hb, ht, q⟩ := h
    refine ⟨_, (pss_cons (ps_asg (pe_tup (pa_cons (pe_lst pa_nil) (pa_cons (pe_lst pa_nil) (pa_cons pe_int (pa_cons pe_int (pa_cons pe_int pa_nil)))))) (pg_tup (by rfl) (pgs_cons (pg_name (i := 2) sc_l_right.nd rfl (.inr rfl)) (pgs_cons (pg_name (i := 3) sc_l_right.nd rfl (.inl rfl)) (pgs_cons (pg_name (i := 4) sc_l_right.nd rfl (.inl rfl)) (pgs_cons (pg_name (i := 5) sc_l_right.nd rfl (.inl rfl)) (pgs_cons (pg_name (i := 6) sc_l_right.nd rfl (.inl rfl)) pgs_nil)))))))
      (pss_cons (ps_asg (pe_tup (pa_cons (pe_cmpR op_eq (pe_call G_l_take (hr.mono (by omega)) rfl T.g_l_take T.F_l_take.kp T.b_l_take .nil pass0 (pa_cons (pv 0) (pa_cons pe_int pa_nil))) pe_int (nomark _)) (pa_cons (pe_call0 G_l_new_model (hr.mono (by omega)) rfl T.g_l_new_model T.F_l_new_model.kp T.b_l_new_model .nil pass0) pa_nil))) (pg_tup (by rfl) (pgs_cons (pg_name (i := 7) sc_l_right.nd rfl (.inr rfl)) (pgs_cons (pg_name (i := 8) sc_l_right.nd rfl (.inl rfl)) pgs_nil))))
      (pss_cons (ps_set (i := 9) sc_l_right.nd rfl (.inl rfl) (pe_call G_l_queue (hr.mono (by omega)) rfl T.g_l_queue T.F_l_queue.kp T.b_l_queue .nil pass0 (pa_cons (pv 1) (pa_cons (Inf.pe_lamP (T := TT T) (nm := nm_l_right) (c := T.c_l_right) (P := T.p_l_right) TB rfl (hm_l_right T) rfl (hu_l_right T) rfl (NdefX.ndef_free (sc := defScope s_l_right) (fr := ["_law_notes", "_law_odd"]) (by decide +kernel))) (pa_cons (pe_tup pa_nil) pa_nil)))))
      (pss_cons (ps_for (passes_of rfl) rfl (pi_range1 (by rfl) T.z_range (pa_cons (pe_op op_add pe_int (pe_call G_l_take (hr.mono (by omega)) rfl T.g_l_take T.F_l_take.kp T.b_l_take .nil pass0 (pa_cons (pv 0) (pa_cons pe_int pa_nil)))) pa_nil)) (pg_name (i := 10) sc_l_right.nd rfl (.inl rfl)) (C8.pss_cut (ps_if (pt_cmpR op_eq (pe_call G_l_take (hr.mono (by omega)) rfl T.g_l_take T.F_l_take.kp T.b_l_take .nil pass0 (pa_cons (pv 0) (pa_cons pe_int pa_nil))) pe_int (nomark _)) (pss_one (ps_set (i := 6) sc_l_right.nd rfl (.inl rfl) (pe_call G_l_take (hr.mono (by omega)) rfl T.g_l_take T.F_l_take.kp T.b_l_take .nil pass0 (pa_cons (pv 0) (pa_cons pe_int pa_nil))))) pss_nil)
        (C8.pss_cut (ps_set (i := 11) sc_l_right.nd rfl (.inl rfl) (pe_ifExp (pt_cmpR op_gt (pe_call G_l_take (hr.mono (by omega)) rfl T.g_l_take T.F_l_take.kp T.b_l_take .nil pass0 (pa_cons (pv 0) (pa_cons pe_int pa_nil))) pe_int (nomark _)) (pe_ix (r := rIxL K) ix_list (pe_lst (pa_cons pe_int (pa_cons pe_int (pa_cons pe_int pa_nil)))) (pv 6) (fun _ _ => rfl)) pe_int))
        (C8.pss_cut (ps_if (PW.pt (pw_and (pt_cmpR op_eq (pv 11) pe_int (nomark _)) (pw_and1 (pt_cmpR op_eq (pv 4) (pv 5) (nomark _))))) (pss_one (ps_set (i := 11) sc_l_right.nd rfl (.inl rfl) pe_int)) pss_nil)
        (pss_cons (ps_asg (Inf.pe_callT (fun _ => rfl) G_l_call (hr.mono (by omega)) rfl T.g_l_call T.F_l_call.kp T.b_l_call .nil (pa_cons (pv 9) (pa_cons (pv 8) (pa_cons (pv 1) (pa_cons (pv 11) (pa_cons (pv 4) (pa_cons (pe_ifExp (pt_val (pv 7)) pe_non (pe_tup (pa_cons (pv 4) pa_nil))) pa_nil))))))) (pg_tup (by rfl) (pgs_cons (pg_name (i := 12) sc_l_right.nd rfl (.inl rfl)) (pgs_cons (pg_name (i := 13) sc_l_right.nd rfl (.inl rfl)) (pgs_cons (pg_name (i := 14) sc_l_right.nd rfl (.inl rfl)) pgs_nil)))))
        (pss_cons (ps_if (PW.pt (pw_or (pt_not (pt_val (pv 14))) (pw_or1 (pt_cmpR (op_neD hr.units) (pv 12) (pv 13) (nomark _))))) (pss_one (ps_ret pe_bl)) pss_nil)
        (pss_cons (ps_par (i := 4) (j := 5) (by rfl) sc_l_right.nd rfl rfl (by decide) rfl rfl (pa_cons (pe_op op_add (pv 4) (pe_callTy call_int1 (by rfl) T.z_int (by decide +kernel) (pa_cons (pe_cmpR op_eq (pv 11) pe_int (nomark _)) pa_nil))) (pa_cons (pe_op op_add (pv 5) (pe_callTy call_int1 (by rfl) T.z_int (by decide +kernel) (pa_cons (pe_cmpR op_eq (pv 11) pe_int (nomark _)) pa_nil))) pa_nil)) (by rfl))
        (pss_cons (ps_set (i := 3) sc_l_right.nd rfl (.inl rfl) (pe_op op_cat (pv 3) (pv 13)))
        (pss_cons (ps_setLc (i := 15) (own := [("_law_word", 20), ("_law_a", 16), ("_law_b", 17), ("_law_c", 18), ("_law_d", 19)]) (g := (gTup K 3 (gCons (gName 20) (gCons (gTup K 2 (gCons (gName 16) (gCons (gName 17) gNil))) (gCons (gTup K 2 (gCons (gName 18) (gCons (gName 19) gNil))) gNil))))) (tt := tYes) rfl sc_l_right.nd rfl rfl (sw_true rfl rfl rfl (by decide +kernel)) (pi_list (pv 3)) (blkOk_by (N := n_l_right) (sc := defScope s_l_right) (by decide +kernel)) (fun _ _ _ _ _ => (pg_tup (by rfl) (pgs_cons (pg_name (i := 20) sc_l_right.nd rfl (.inl rfl)) (pgs_cons (pg_tup (by rfl) (pgs_cons (pg_name (i := 16) sc_l_right.nd rfl (.inl rfl)) (pgs_cons (pg_name (i := 17) sc_l_right.nd rfl (.inl rfl)) pgs_nil))) (pgs_cons (pg_tup (by rfl) (pgs_cons (pg_name (i := 18) sc_l_right.nd rfl (.inl rfl)) (pgs_cons (pg_name (i := 19) sc_l_right.nd rfl (.inl rfl)) pgs_nil))) pgs_nil))))) (fun _ _ _ _ _ => pts_nil) (fun _ _ _ _ _ => (pe_tup (pa_cons (pe_call G_l_range (hr.mono (by omega)) rfl T.g_l_range T.F_l_range.kp T.b_l_range .nil pass0 (pa_cons (pv 16) (pa_cons (pv 17) pa_nil))) (pa_cons (pe_call G_l_range (hr.mono (by omega)) rfl T.g_l_range T.F_l_range.kp T.b_l_range .nil pass0 (pa_cons (pv 18) (pa_cons (pv 19) pa_nil))) pa_nil)))))
        (pss_cons (ps_if (PW.pt (pw_or (pt_cmpR (op_neD hr.units) (pe_either (pe_meth0 (pv 9) T.cl_TwoStacks ⟨T.m_TwoStacks_log, T.t_TwoStacks_log, T.k_TwoStacks_log⟩ G_TwoStacks_log (hr.mono (by omega)) T.b_TwoStacks_log .nil pass0) (pe_meth0 (pv 9) T.cl_EvenSums ⟨T.m_EvenSums_log, T.t_EvenSums_log, T.k_EvenSums_log⟩ G_EvenSums_log (hr.mono (by omega)) T.b_EvenSums_log .nil pass0)) (pv 3) (nomark _)) (pw_or1 (pt_cmpR (op_neD hr.units) (pv 2) (pe_ifExp (pt_val (pv 7)) (pe_op op_rep (pe_lst (pa_cons (pe_tup (pa_cons pe_non (pa_cons pe_non pa_nil))) pa_nil)) (pe_callB call_len_seq (by rfl) T.z_len (by decide +kernel) (pa_cons (pv 3) pa_nil))) (pv 15)) (nomark _))))) (pss_one (ps_ret pe_bl)) pss_nil)
        (pss_cons (ps_expr (pe_bm PySem.F.plainAttrs_list PySem.F.slot_list_append PySem.F.type_list_append mt_append (pv 12) (pa_cons pe_non pa_nil)))
        (pss_one (ps_expr (pe_bm PySem.F.plainAttrs_list PySem.F.slot_list_append PySem.F.type_list_append mt_append (pe_either (pe_meth0 (pv 9) T.cl_TwoStacks ⟨T.m_TwoStacks_log, T.t_TwoStacks_log, T.k_TwoStacks_log⟩ G_TwoStacks_log (hr.mono (by omega)) T.b_TwoStacks_log .nil pass0) (pe_meth0 (pv 9) T.cl_EvenSums ⟨T.m_EvenSums_log, T.t_EvenSums_log, T.k_EvenSums_log⟩ G_EvenSums_log (hr.mono (by omega)) T.b_EvenSums_log .nil pass0)) (pa_cons pe_non pa_nil)))))))))))))))
      (pss_one (ps_ret pe_bl)))))), ?_⟩
    have hT : ∀ {a b : Int}, a = b → decide (V.int a = V.int b) = true := fun e => decide_eq_true (congrArg V.int e)
    have hF : ∀ {a b : Int}, a ≠ b → decide (V.int a = V.int b) = false := fun e => decide_eq_false fun z => e (by injection z)
    refine ⟨Nat.zero_le _, fun pn npn => ⟨Nat.zero_le _, fun lg nlg => ⟨(by decide : 5 ≤ sizeLine), fun t1 nt1 => ⟨t1, _, rfl, sqtOf upd_same, rfl, _, _, rfl, _, _, rfl, _, _, rfl, _, _, rfl, _, _, rfl, rfl, ?_⟩⟩⟩⟩
    have fpn := Fr.mk npn
    have flg := Fr.mk nlg
    have ft1 := Fr.mk nt1
    have s1 : Same H0 (upd (upd (upd H0 pn (.lst [])) lg (.lst [])) t1 (.tup [.ref pn, .ref lg, .int 0, .int 0, .int 0])) := ((same_newF fpn).trans (same_newF flg)).trans (same_newF ft1)
    have ep : upd (upd (upd H0 pn (.lst [])) lg (.lst [])) t1 (.tup [.ref pn, .ref lg, .int 0, .int 0, .int 0]) pn = some (.lst []) := atNew ft1 (atNew flg upd_same)
    have el : upd (upd (upd H0 pn (.lst [])) lg (.lst [])) t1 (.tup [.ref pn, .ref lg, .int 0, .int 0, .int 0]) lg = some (.lst []) := atNew ft1 upd_same
    have npl : pn ≠ lg := ne_of_none (H := upd H0 pn (.lst [])) upd_same nlg
    have flg0 : Fr H0 lg := Fr.mk ((same_newF (o := .lst []) fpn).free nlg)
    show tSeq _ _ _ _ (upd (upd (upd H0 pn (.lst [])) lg (.lst [])) t1 (.tup [.ref pn, .ref lg, .int 0, .int 0, .int 0]))
    generalize upd (upd (upd H0 pn (.lst [])) lg (.lst [])) t1 (.tup [.ref pn, .ref lg, .int 0, .int 0, .int 0]) = H1 at s1 ep el ⊢
    have b1 : Bag H1 bag := bag_kpR (kp_same (cs := []) s1) not_nil hb
    refine ⟨_, rfl, bag, 4, rfl, b1, by decide, by decide, fun r0 H2 r00 r01 b2 k2 => ?_⟩
    refine ⟨rfl, rfl, fun m H3 fm3 s3 mo3 => ⟨(by decide : 2 ≤ sizeLine), fun t2 nt2 => ⟨t2, _, rfl, sqtOf upd_same, rfl, _, _, rfl, _, _, rfl, rfl, ?_⟩⟩⟩
    have npb : pn ≠ bag := bag_ne hb npn
    have nlb : lg ≠ bag := bag_ne hb flg0.h
    have ep2 := k2.at_ _ _ ep (not_cons npb not_nil)
    have el2 := k2.at_ _ _ el (not_cons nlb not_nil)
    obtain ⟨bx1, hbx1⟩ := bag_lst b1
    obtain ⟨bx2, hbx2⟩ := bag_lst b2
    have k02 : Kp [T.p_l_right, bag] H0 H2 := kp_trans (kp_same s1) (kp_more k2 fun a z => memB z)
    have s4 : Same H2 (upd H3 t2 (.tup [.bl (decide (V.int r0 = V.int 0)), .ref m])) := s3.trans (same_newF (Fr.mk nt2))
    have mo4 := mo3.same (same_newF (o := .tup [.bl (decide (V.int r0 = V.int 0)), .ref m]) (Fr.mk nt2))
    have tb2 : TabsN (TT T) H2 := tabsN_kp (tabsN_kp ht (kp_same (cs := []) s1) (fun _ z => nomatch z)) k2 (subCons ⟨_, hbx1, (fun _ z => nomatch z), fun _ z => nomatch z⟩ subNil)
    show tSeq _ _ _ _ (upd H3 t2 (.tup [.bl (decide (V.int r0 = V.int 0)), .ref m]))
    generalize decide (V.int r0 = V.int 0) = odd at s4 mo4 ⊢
    generalize upd H3 t2 (.tup [.bl odd, .ref m]) = H4 at s4 mo4 ⊢
    have tb4 := tabsN_kp tb2 (kp_same (cs := []) s4) (fun _ z => nomatch z)
    refine ⟨_, rfl, tb4, fun f c' H5 k5 n5 tb5 nf hf hc' => ?_⟩
    obtain ⟨cl, ecl, hf⟩ : ∃ cl, (cl = cloFrom (cxOf CX0 P w K mg base n_l_right "_law_right" (defScope s_l_right) T.f_l_right (Value.ref T.c_l_right) A outer s H0 E).env.cells (LJ [] 0).scope.names []) ∧ H5 f = some (Inf.LamO f (LJ cl c')) := ⟨_, rfl, hf⟩
    have hc' : H5 c' = some (LamX.CodeO c' qJ) := hc'
    have k5 : Kp [T.p_l_right] H4 H5 := ⟨fun b o e n => k5 b o e fun z => n (by rw [z]; exact memA)⟩
    refine ⟨Nat.zero_le _, fun zt nzt => ⟨fm, .ref f, .ref zt, rfl, hfm, fun x j jdx c cdx l H6 s6 fx fj fc fl mk hx hc hl => ?_⟩⟩
    have tr : ∀ {a : Addr} {o : HO}, H4 a = some o → (∀ ps, o ≠ .tbl ps) → H5 a = some o := fun {a o} e n => k5.at_ _ _ e (not_cons (tab_ne tb4 (hm_l_right T) e n) not_nil)
    have s7 : Same H5 H6 := (same_newF (Fr.mk nzt)).trans s6
    have fr5 : ∀ {b : Addr}, Fr (upd H5 zt (.tup [])) b → Fr H5 b := fun h => Fr.mk ((same_newF (o := .tup []) (Fr.mk nzt)).free h.h)
    have fx := fr5 fx
    have fc := fr5 fc
    have fl := fr5 fl
    have ep5 := tr (s4 _ _ ep2) (fun _ z => nomatch z)
    have el5 := tr (s4 _ _ el2) (fun _ z => nomatch z)
    have eb5 := tr (s4 _ _ hbx2) (fun _ z => nomatch z)
    obtain ⟨vf, vb, vl, em4, _⟩ := mo4.ex
    have em5 := tr em4 (fun _ z => nomatch z)
    have mm4 : T.p_l_right ≠ m := (tab_ne tb4 (hm_l_right T) em4 (fun _ z => nomatch z)).symm
    have mo6 : MoAt H6 m 0 0 0 0 none := (mo4.kp k5 (fun a ha => by
      rw [List.mem_singleton.mp ha]
      obtain ⟨ps, y, _⟩ := tb4 _ (hm_l_right T)
      exact ⟨_, y, (fun _ z => nomatch z), fun _ z => nomatch z⟩) (not_cons mm4.symm not_nil)).same s7
    obtain ⟨C1, dx1, fs1, ex6⟩ := hx
    obtain ⟨C2, dx2, fs2, ec6⟩ := hc
    have ne5 : ∀ {a b : Addr} {o : HO}, H5 a = some o → Fr H5 b → a ≠ b := fun e y => ne_of_none e y.h
    have npm : pn ≠ m := ne_of_none ep2 fm3.h
    have nbm : bag ≠ m := ne_of_none hbx2 fm3.h
    have nlm : lg ≠ m := ne_of_none el2 fm3.h
    have b5 : Bag H5 bag := bag_kpR k5 (not_cons (tab_ne tb4 (hm_l_right T) (s4 _ _ hbx2) (fun _ z => nomatch z)) not_nil) (bag_kpR (kp_same (cs := []) s4) not_nil b2)
    have out : ∀ {a : Addr} {o : HO}, H5 a = some o → a ∉ [x, c, l] := fun e => not_cons (ne5 e fx) (not_cons (ne5 e fc) (not_cons (ne5 e fl) not_nil))
    have outp : ∀ {a : Addr} {o : HO}, H5 a = some o → a ≠ pn → a ∉ [x, c, l] ++ [pn] := fun e n h => (List.mem_append.mp h).elim (out e) fun h => n (List.mem_singleton.mp h)
    have hUR : URU f cl c' pn odd [] H6 := ⟨s7 _ _ hf, s7 _ _ hc', (fun _ z => nomatch z), [], s7 _ _ ep5, rfl, fun q t ev a b => by cases q <;> cases a⟩
    have key := mk H6 [pn] (URU f cl c' pn odd) (ValO odd) [x, c, l, pn, m, bag] (Same.refl _) (mu_ins ex6 (mu_ins ec6 (mu_lst hl (mu_lst (s7 _ _ ep5) (mu_cons (s7 _ _ em5) (fun _ z => nomatch z) (fun _ z => nomatch z) (mu_lst (s7 _ _ eb5) mu_nil)))))) (subCons memA (subCons (memB memA) (subCons (memB (memB memA)) (subCons (memB (memB (memB memA))) subNil)))) (subCons (.inl memA) (subCons (.inl (memB memA)) (subCons (.inl (memB (memB memA))) (subCons (.inr (.inl ⟨_, same_newF (Fr.mk nzt) _ _ ep5⟩)) (subCons (.inr (.inl ⟨_, same_newF (Fr.mk nzt) _ _ em5⟩)) (subCons (.inr (.inl ⟨_, same_newF (Fr.mk nzt) _ _ eb5⟩)) subNil)))))) (subCons ⟨_, same_newF (Fr.mk nzt) _ _ ep5⟩ subNil) hUR
    have j6 : J7 T fm f c' cl odd [x, c, l, pn, m, bag] x j jdx c cdx l pn m bag (.ref zt) [] [] [] 0 lg [] H6 :=
      ⟨key.imp (fun h => ⟨h.1, 0, h.2, mo6⟩) (fun h => ⟨h.1, 0, 0, none, h.2, mo6⟩), ⟨[], s7 _ _ el5, JLog.nil⟩, bag_kpR (kp_same (cs := []) s7) not_nil b5, tabsN_kp tb5 (kp_same (cs := []) s7) (fun _ z => nomatch z), memB (memB (memB (memB memA))), memB (memB (memB (memB (memB memA)))), outp em5 npm.symm, outp eb5 npb.symm, nbm.symm, fun h => (List.mem_append.mp h).elim (fun h => (List.mem_append.mp h).elim (outp el5 npl.symm) fun h => nlm (List.mem_singleton.mp h)) fun h => nlb (List.mem_singleton.mp h)⟩
    have k04 : Kp [T.p_l_right, bag] H0 H4 := kp_trans k02 (kp_same s4)
    have k06 : Kp [T.p_l_right, bag] H0 H6 := kp_trans (kp_trans k04 (kp_more k5 (subCons memA subNil))) (kp_same s7)
    have fz : ∀ {b : Addr}, Fr H5 b → Fr H0 b := fun {b} y => noneOf y fun o e => by
      by_cases c1 : b = T.p_l_right
      · obtain ⟨ps, y, _⟩ := tb5 _ (hm_l_right T)
        exact ⟨_, by rw [c1]; exact y⟩
      by_cases c2 : b = bag
      · exact ⟨_, by rw [c2]; exact eb5⟩
      exact ⟨o, k5.at_ _ _ (k04.at_ _ _ e (not_cons c1 (not_cons c2 not_nil))) (not_cons c1 not_nil)⟩
    have fm0 : Fr H0 m := noneOf fm3 fun o e => by
      by_cases c2 : m = bag
      · exact ⟨_, by rw [c2]; exact hbx2⟩
      exact ⟨o, k2.at_ _ _ (s1 _ _ e) (not_cons c2 not_nil)⟩
    have frs : ∀ d ∈ [x, c, l] ++ [pn] ++ [m], d ∈ [T.p_l_right, bag] ∨ Fr H0 d := subCons (.inr (fz fx)) (subCons (.inr (fz fc)) (subCons (.inr (fz fl)) (subCons (.inr fpn) (subCons (.inr fm0) subNil))))
    clear mk key
    have hcell : ∀ y ∈ frJ, (cxOf CX0 P w K mg base n_l_right "_law_right" (defScope s_l_right) T.f_l_right (Value.ref T.c_l_right) A outer s H0 E).env.scope.names.lookup y = some .cell := cellJ
    refine ⟨_, rfl, bag, 81, rfl, j6.hbag, by decide, by decide, fun mt H7 m0 m1 b7 k7 => ⟨_, _, rfl, rfl, _, rfl, by omega, by omega, ?_⟩⟩
    refine for_range (n := (10 + mt).toNat) (fun i σ H => R7 T H0 fm f c' cl odd x j jdx c cdx l pn m bag (.ref zt) i 0 (fun _ _ _ => True) σ H) ⟨lg, _, [], [], [], 0, 0, _, _, _, _, _, _, _, _, _, _, _, rfl, by decide, Nat.le_refl _, Nat.zero_le _, True.intro, kp_trans k06 (kp_more k7 fun a z => memB z), j6.take k7 b7⟩ ?_ ?_
    · intro i σ H7 li R
      refine ⟨fun σ H => R7 T H0 fm f c' cl odd x j jdx c cdx l pn m bag (.ref zt) i 0 (fun _ _ _ => True) σ H, ?_, ?_⟩
      · obtain ⟨lg, cs, ms, u, es, g, road, y10, y11, y12, y13, y14, y15, y16, y17, y18, y19, y20, rfl, hr0, lm, le, _, k0, j7⟩ := R
        refine ⟨_, rfl, bag, 6, rfl, j7.hbag, by decide, by decide, fun r H8 q0 q1 b8 k8 => ⟨rfl, _, rfl, ite2 (fun e => ?_) (fun e => ?_)⟩⟩
        · refine ⟨_, rfl, bag, 3, rfl, b8, by decide, by decide, fun r3 H9 q2 q3 b9 k9 => ?_⟩
          obtain ⟨rn, rfl⟩ := Int.eq_ofNat_of_zero_le q2
          exact ⟨lg, cs, ms, u, es, g, rn, _, _, _, _, _, _, _, _, _, _, _, rfl, by omega, lm, le, True.intro, kp_trans k0 (kp_more (kp_trans k8 k9) fun a z => memB z), (j7.take k8 b8).take k9 b9⟩
        · exact ⟨lg, cs, ms, u, es, g, road, _, _, _, _, _, _, _, _, _, _, _, rfl, hr0, lm, le, True.intro, kp_trans k0 (kp_more k8 fun a z => memB z), j7.take k8 b8⟩
      · intro σ H8 R
        refine ⟨fun σ H => R7 T H0 fm f c' cl odd x j jdx c cdx l pn m bag (.ref zt) i 0 (fun y _ _ => ∃ kd : Nat, kd < 3 ∧ y = some (.int (kd : Int))) σ H, ?_, ?_⟩
        · obtain ⟨lg, cs, ms, u, es, g, road, y10, y11, y12, y13, y14, y15, y16, y17, y18, y19, y20, rfl, hr0, lm, le, _, k0, j7⟩ := R
          refine ⟨_, rfl, bag, 4, rfl, j7.hbag, by decide, by decide, fun r H9 q0 q1 b9 k9 => ⟨_, _, rfl, rfl, _, rfl, ite2 (fun e => ?_) (fun e => ?_)⟩⟩
          · refine ⟨(by decide : 3 ≤ sizeLine), fun q nq => ?_⟩
            have j9 := (j7.take k9 b9).same (same_newF (o := .lst [.int 0, .int 0, .int 1]) (Fr.mk nq))
            have k9' := kp_trans (kp_trans k0 (kp_more k9 fun a z => memB z)) (kp_same (same_newF (o := .lst [.int 0, .int 0, .int 1]) (Fr.mk nq)))
            have eq9 : upd H9 q (.lst [.int 0, .int 0, .int 1]) q = some (.lst [.int 0, .int 0, .int 1]) := upd_same
            match road, hr0 with
            | 0, hr0 => exact ⟨_, rfl, q, _, 0, .int 0, rfl, rfl, sqlOf eq9, atI_nat (j := 0) rfl, lg, cs, ms, u, es, g, 0, _, _, _, _, _, _, _, _, _, _, _, rfl, hr0, lm, le, ⟨0, by decide, rfl⟩, k9', j9⟩
            | 1, hr0 => exact ⟨_, rfl, q, _, 1, .int 0, rfl, rfl, sqlOf eq9, atI_nat (j := 1) rfl, lg, cs, ms, u, es, g, 1, _, _, _, _, _, _, _, _, _, _, _, rfl, hr0, lm, le, ⟨0, by decide, rfl⟩, k9', j9⟩
            | 2, hr0 => exact ⟨_, rfl, q, _, 2, .int 1, rfl, rfl, sqlOf eq9, atI_nat (j := 2) rfl, lg, cs, ms, u, es, g, 2, _, _, _, _, _, _, _, _, _, _, _, rfl, hr0, lm, le, ⟨1, by decide, rfl⟩, k9', j9⟩
          · exact ⟨lg, cs, ms, u, es, g, road, _, _, _, _, _, _, _, _, _, _, _, rfl, hr0, lm, le, ⟨2, by decide, rfl⟩, kp_trans k0 (kp_more k9 fun a z => memB z), j7.take k9 b9⟩
        · intro σ H9 R
          refine ⟨fun σ H => R7 T H0 fm f c' cl odd x j jdx c cdx l pn m bag (.ref zt) i 0 (fun y n g => ∃ kd : Nat, kd < 3 ∧ y = some (.int (kd : Int)) ∧ (kd = 1 → g < n)) σ H, ?_, ?_⟩
          · obtain ⟨lg, cs, ms, u, es, g, road, y10, y11, y12, y13, y14, y15, y16, y17, y18, y19, y20, rfl, hr0, lm, le, ⟨kd, hkd, rfl⟩, k0, j7⟩ := R
            have gl := j7.q.com.2.2.1
            by_cases e1 : kd = 1
            · subst e1
              refine ⟨_, rfl, rfl, _, rfl, ifT (hT rfl) ⟨_, rfl, _, rfl, rfl, _, rfl, ?_⟩⟩
              by_cases e2 : ms.length = g
              · refine ifT (hT (by omega)) ?_
                exact ⟨lg, cs, ms, u, es, g, road, _, _, _, _, _, _, _, _, _, _, _, rfl, hr0, lm, le, ⟨0, by decide, rfl, fun z => nomatch z⟩, k0, j7⟩
              · refine ifF (hF (by omega)) ?_
                exact ⟨lg, cs, ms, u, es, g, road, _, _, _, _, _, _, _, _, _, _, _, rfl, hr0, lm, le, ⟨1, by decide, rfl, fun _ => by omega⟩, k0, j7⟩
            · refine ⟨_, rfl, rfl, _, rfl, ifF (hF (by omega)) (ifF rfl ?_)⟩
              exact ⟨lg, cs, ms, u, es, g, road, _, _, _, _, _, _, _, _, _, _, _, rfl, hr0, lm, le, ⟨kd, hkd, rfl, fun z => absurd z e1⟩, k0, j7⟩
          · intro σ H10 R
            obtain ⟨lg, cs, ms, u, es, g, road, y10, y11, y12, y13, y14, y15, y16, y17, y18, y19, y20, rfl, hr0, lm, le, ⟨kd, hkd, rfl, hg⟩, k0, j7⟩ := R
            have lu : u.length = es.length := by rw [j7.q.com.2.1.ue, List.length_map]
            unfold tSeq tAsg
            refine t_callA (P := P) (w := w) (base := base) (σ := [some (.ref bag), some (.int (fm : Int)), some (.ref pn), some (.ref lg), some (.int (ms.length : Int)), some (.int (g : Int)), some (.int (road : Int)), some (.bl odd), some (.ref m), some (.ref x), y10, some (.int (kd : Int)), y12, y13, y14, y15, y16, y17, y18, y19, y20]) ecl rfl rfl hcell rfl rfl j7 (by omega) (by omega) (by omega) hkd hg (fun QQ kq => ?_) fun thing t o1 o2 xs1 xs2 d ds H12 e0 e1 q1 e2 q2 f1 f2 ld l2 k12 j12 => ?_
            · refine ⟨_, rfl, _, rfl, _, rfl, _, rfl, _, rfl, _, rfl, odd, rfl, ?_⟩
              cases odd with
              | true => exact ifT rfl (kq _ _ (Same.refl _) ⟨⟨by decide, by show ms.length + 1 < 90000; omega⟩, rfl⟩)
              | false =>
                refine ifF rfl ⟨_, rfl, (by decide : 1 ≤ sizeLine), fun p np => ?_⟩
                exact kq _ _ (same_newF (Fr.mk np)) ⟨⟨Nat.zero_lt_one, by show ms.length + 1 < 90000; omega⟩, p, rfl, upd_same⟩
            refine ⟨t, _, rfl, sqtOf e0, rfl, _, _, rfl, _, _, rfl, _, _, rfl, rfl, ?_⟩
            have k12 := kp_fresh k0 k12 frs
            refine ⟨_, rfl, true, rfl, ifF rfl ⟨_, rfl, _, rfl, _, _, dp_jlog e1 q1, dp_jlog e2 q2, sh_ent ds, sh_ent ds, _, rfl, ifF (eq_sh (sh_ent ds)) ?_⟩⟩
            refine ⟨_, rfl, _, rfl, rfl, .inr ⟨_, rfl, _, _, rfl, rfl, _, rfl, _, rfl, rfl, .inr ⟨_, rfl, _, _, rfl, rfl, _, _, rfl, ?_⟩⟩⟩
            obtain ⟨L, hL, jL⟩ := j12.hlg
            have hds : ds.length ≤ i + 3 := by omega
            have lL := jL.len
            have lx2 := q2.len
            have lx1 := q1.len
            refine ⟨_, rfl, _, rfl, lg, o2, L, xs2, rfl, rfl, hL, e2, by rw [sizeLine_eq]; omega, fun p np => ?_⟩
            have fp := Fr.mk np
            have s13 : Same H12 (upd H12 p (.lst (L ++ xs2))) := same_newF fp
            have ep13 : upd H12 p (.lst (L ++ xs2)) p = some (.lst (L ++ xs2)) := upd_same
            have k13 := kp_trans k12 (kp_same s13)
            have j13 := j12.same s13
            have jl13 : JLog (upd H12 p (.lst (L ++ xs2))) (L ++ xs2) (es ++ ds) := (jL.app q2).kp (kp_same (cs := []) s13) mu_nil
            have eo13 := s13 _ _ e1
            have npo : o1 ≠ p := ne_of_none e1 np
            obtain ⟨bx12, hbx12⟩ := bag_lst j12.hbag
            have nlp : p ∉ [x, c, l] ++ [pn] ++ [m] ++ [bag] := fun h => (List.mem_append.mp h).elim (fun h => by
              obtain ⟨o, y, _⟩ := j12.objs _ h
              exact ne_of_none y np rfl) fun h => ne_of_none hbx12 np (List.mem_singleton.mp h).symm
            obtain ⟨bx10, hbx10⟩ := bag_lst j7.hbag
            have nlo : o1 ∉ [x, c, l] ++ [pn] ++ [m] ++ [bag] := fun h => (List.mem_append.mp h).elim (fun h => by
              obtain ⟨o, y, _⟩ := j7.objs _ h
              exact ne_of_none y f1.h rfl) fun h => ne_of_none hbx10 f1.h (List.mem_singleton.mp h).symm
            have fo10 : Fr H0 o1 := noneOf f1 fun o e => by
              by_cases c1 : o1 = T.p_l_right
              · obtain ⟨ps, y, _⟩ := j7.htab _ (hm_l_right T)
                exact ⟨_, by rw [c1]; exact y⟩
              by_cases c2 : o1 = bag
              · exact ⟨_, by rw [c2]; exact hbx10⟩
              exact ⟨o, k0.at_ _ _ e (not_cons c1 (not_cons c2 not_nil))⟩
            generalize upd H12 p (.lst (L ++ xs2)) = H13 at s13 ep13 k13 j13 jl13 eo13 ⊢
            have j13' : J7 T fm f c' cl odd (o1 :: cs) x j jdx c cdx l pn m bag (.ref zt) (if kd = 0 then ms ++ [thing] else ms) (u ++ d) (es ++ ds) (if kd = 1 then g + 1 else g) p (es ++ ds) H13 := ⟨j13.q, ⟨_, ep13, jl13⟩, j13.hbag, j13.htab, j13.hm, j13.hb, j13.n1, j13.n2, j13.n3, nlp⟩
            have hue := j13.q.com.2.1.ue
            have hbd : ∀ (q : Nat) (e : Nat × Nat × Nat), (es ++ ds)[q]? = some e → e.1 < 90000 ∧ e.2.1 < 90000 ∧ e.2.2 < 90000 := fun q e h => by
              rw [hue, List.getElem?_map] at h
              obtain ⟨ev, h1, h2⟩ := Option.map_eq_some_iff.mp h
              rw [← h2]
              exact j13.q.com.2.1.ur.2.2.bd ev (List.mem_of_getElem? h1)
            refine ⟨_, rfl, p, rfl, ⟨_, sqlOf ep13⟩, fun D nD => ?_⟩
            have fD := Fr.mk nD
            have en : (ms.length : Int) + (if decide (V.int (kd : Int) = V.int 0) = true then 1 else 0) = (((if kd = 0 then ms ++ [thing] else ms).length : Nat) : Int) := by
              by_cases c0 : kd = 0
              · rw [if_pos c0, if_pos (hT (by omega)), List.length_append]
                rfl
              · rw [if_neg c0, if_neg (by rw [hF (by omega)]; exact fun z => nomatch z)]
                omega
            have eg : (g : Int) + (if decide (V.int (kd : Int) = V.int 1) = true then 1 else 0) = (((if kd = 1 then g + 1 else g) : Nat) : Int) := by
              by_cases c0 : kd = 1
              · rw [if_pos c0, if_pos (hT (by omega))]
                rfl
              · rw [if_neg c0, if_neg (by rw [hF (by omega)]; exact fun z => nomatch z)]
                omega
            have lm' : (if kd = 0 then ms ++ [thing] else ms).length ≤ i + 1 := by
              split
              · rw [List.length_append]
                show ms.length + 1 ≤ i + 1
                omega
              · omega
            refine lc_list (K := K) (xs := L ++ xs2) (fun i H' => Same H13 H' ∧ ∃ ys, H' D = some (.lst ys) ∧ ys.length = i ∧ ∀ (q : Nat) y e, ys[q]? = some y → (es ++ ds)[q]? = some e → AskAt H' y e) ⟨same_newF fD, [], upd_same, rfl, fun q y e h => by cases q <;> cases h⟩ (fun i H' _ z => sqlOf (z.1 _ _ ep13)) ?_ ?_
            · rintro i' xe H14 hx ⟨s14, ys, eD, ly, hy⟩
              have li' := (List.getElem?_eq_some_iff.mp hx).1
              have ljl := jl13.len
              obtain ⟨e, he⟩ : ∃ e, (es ++ ds)[i']? = some e := ⟨_, List.getElem?_eq_getElem (by rw [← ljl]; exact li')⟩
              obtain ⟨pe, a, b, rfl, h1, h2, h3⟩ := jl13.at_ _ _ _ hx he
              obtain ⟨be1, be2, be3⟩ := hbd _ _ he
              simp only [wipe, List.map_cons, List.map_nil, List.set_cons_succ, List.set_cons_zero]
              refine ⟨pe, _, rfl, sqtOf (s14 _ _ h1), rfl, _, _, rfl, _, _, rfl, a, _, rfl, sqtOf (s14 _ _ h2), rfl, _, _, rfl, _, _, rfl, rfl, _, _, rfl, b, _, rfl, sqtOf (s14 _ _ h3), rfl, _, _, rfl, _, _, rfl, rfl, rfl, rfl, ?_⟩
              unfold tYes
              refine ifT rfl ?_
              refine ⟨_, rfl, _, rfl, e.1, e.2.1, rfl, be2, be1, fun p1 H15 s15 e15 => ⟨_, rfl, _, rfl, e.2.1, e.2.2, rfl, be3, be2, fun p2 H16 s16 e16 => ⟨(by decide : 2 ≤ sizeLine), fun t nt => ?_⟩⟩⟩
              have ft := Fr.mk nt
              have s17 := same_newF (o := .tup [.ref p1, .ref p2]) ft
              have sD : Same H14 (upd H16 t (.tup [.ref p1, .ref p2])) := s15.trans (s16.trans s17)
              have eD2 := sD _ _ eD
              have mD : Mu (upd H16 t (.tup [.ref p1, .ref p2])) [D] := mu_lst eD2 mu_nil
              have kD : Kp [D] (upd H16 t (.tup [.ref p1, .ref p2])) (upd (upd H16 t (.tup [.ref p1, .ref p2])) D (.lst (ys ++ [.ref t]))) := kp_up memA (kp_refl _ _)
              refine ⟨ys, eD2, by rw [ly, sizeLine_eq]; rw [List.length_append] at li'; omega, same_putG fD (s14.trans sD), ys ++ [.ref t], upd_same, by rw [List.length_append, ly]; rfl, fun q y e' a1 a2 => ?_⟩
              by_cases c0 : q < ys.length
              · rw [List.getElem?_append_left c0] at a1
                exact ((hy q y e' a1 a2).kp (kp_same (cs := []) sD) mu_nil).kp kD mD
              · rw [List.getElem?_append_right (by omega)] at a1
                have hq : q = i' := by
                  have h1 : q - ys.length < 1 := (List.getElem?_eq_some_iff.mp a1).1
                  omega
                rw [hq, ly, Nat.sub_self] at a1
                cases a1
                rw [hq, he] at a2
                cases a2
                have q0 : AskAt (upd H16 t (.tup [.ref p1, .ref p2])) (.ref t) e := ⟨t, p1, p2, rfl, upd_same, s17 _ _ (s16 _ _ e15), s17 _ _ e16⟩
                exact q0.kp kD mD
            · rintro H14 ⟨s14, ys, eD, ly, hy⟩
              have j14 := j13'.same s14
              dsimp only [tIfS, tOr, tTest, tOp]
              refine t_log (i := 9) rfl j14.q fun o H15 xs15 fo s15 eo jo => ?_
              have s45 := s14.trans s15
              obtain ⟨xsL, hL15, jL15⟩ := (j14.same s15).hlg
              refine ⟨_, rfl, _, _, dp_jlog eo jo, dp_jlog hL15 jL15, sh_ent _, sh_ent _, _, rfl, ifF (eq_sh (sh_ent _)) ⟨_, rfl, _, rfl, odd, rfl, ?_⟩⟩
              have j15 := (j14.same s15).q.com.2.1
              cases odd with
              | true =>
                refine ifT rfl ⟨(by decide : 2 ≤ sizeLine), fun tp ntp => ⟨(by decide : 1 ≤ sizeLine), fun lp nlp2 => ?_⟩⟩
                have sa := same_newF (o := .tup [.non, .non]) (Fr.mk ntp)
                have sb := same_newF (o := .lst [.ref tp]) (Fr.mk nlp2)
                have sab := sa.trans sb
                have hL16 := sab _ _ hL15
                refine ⟨_, rfl, p, _, rfl, .inl (sqlOf hL16), lp, _, [.ref tp], rfl, rfl, upd_same, ?_, ?_, ?_, fun rp nrp => ?_⟩
                · have := jL15.len
                  rw [List.length_append] at this
                  omega
                · have := jL15.len
                  rw [List.length_append] at this
                  omega
                · have := jL15.len
                  rw [List.length_append] at this
                  rw [sizeLine_eq]
                  show 1 * _ ≤ _
                  omega
                have s56 := sab.trans (same_newF (o := .lst (List.replicate ((xsL.length : Nat) : Int).toNat [V.ref tp]).flatten) (Fr.mk nrp))
                have etp := same_newF (o := .lst (List.replicate ((xsL.length : Nat) : Int).toNat [V.ref tp]).flatten) (Fr.mk nrp) _ _ (sb _ _ (upd_same (H := H15) (a := tp) (o := .tup [.non, .non])))
                have s16 := s45.trans s56
                refine ⟨_, _, dp_notes (j13'.same s16).q.com.2.1.ur.2.2 (j13'.same s16).q.com.2.1.ue, dp_nones (n := xsL.length) (by rw [upd_same, flat_rep]; rfl) etp jL15.len, sh_note _ _, sh_note _ _, _, rfl, ifF (eq_sh (sh_note _ _)) ?_⟩
                show tNext _ _ (upd _ rp _)
                generalize upd (upd (upd H15 tp (.tup [.non, .non])) lp (.lst [.ref tp])) rp (.lst (List.replicate ((xsL.length : Nat) : Int).toNat [V.ref tp]).flatten) = H16 at s16 ⊢
                have j16 := j13'.same s16
                have eo16 := s16 _ _ eo13
                refine ⟨_, rfl, .inl ⟨rfl, _, sqlOf eo16⟩, o1, _, _, rfl, rfl, eo16, by rw [sizeLine_eq]; omega, ?_⟩
                have j17 := j16.chg eo16 memA nlo npo (v := .lst (xs1 ++ [.non])) rfl
                have k17 : Kp [T.p_l_right, bag] H0 (upd H16 o1 (.lst (xs1 ++ [.non]))) := kp_fresh (kp_trans k13 (kp_same s16)) (kp_up (cs := [o1]) memA (kp_refl _ _)) (subCons (.inr fo10) subNil)
                dsimp only [tDrop, tBM]
                refine t_log (i := 9) rfl j17.q fun o H18 ys fo s18 eo jo => ?_
                have lys := jo.len
                refine ⟨.inl ⟨rfl, _, sqlOf eo⟩, o, _, _, rfl, rfl, eo, by rw [sizeLine_eq]; rw [lys, List.length_append]; omega, ?_⟩
                have s19 := same_putG (o := .lst (ys ++ [.non])) fo s18
                exact ⟨p, _, _, _, _, _, road, _, _, _, _, _, _, _, _, _, _, _, by rw [← en, ← eg]; rfl, hr0, lm', by rw [List.length_append]; omega, True.intro, kp_trans k17 (kp_same s19), j17.same s19⟩
              | false =>
                refine ifF rfl ⟨_, rfl, ?_⟩
                have s16 := s45
                have ey := fun (q : Nat) y e a b => (hy q y e a b).kp (kp_same (cs := []) s15) mu_nil
                refine ⟨_, _, dp_notes (j13'.same s16).q.com.2.1.ur.2.2 (j13'.same s16).q.com.2.1.ue, dp_asks (s15 _ _ eD) (by rw [ly, jl13.len]) ey, sh_note _ _, sh_note _ _, _, rfl, ifF (eq_sh (sh_note _ _)) ?_⟩
                show tNext _ _ H15
                generalize H15 = H16 at s16 ⊢
                have j16 := j13'.same s16
                have eo16 := s16 _ _ eo13
                refine ⟨_, rfl, .inl ⟨rfl, _, sqlOf eo16⟩, o1, _, _, rfl, rfl, eo16, by rw [sizeLine_eq]; omega, ?_⟩
                have j17 := j16.chg eo16 memA nlo npo (v := .lst (xs1 ++ [.non])) rfl
                have k17 : Kp [T.p_l_right, bag] H0 (upd H16 o1 (.lst (xs1 ++ [.non]))) := kp_fresh (kp_trans k13 (kp_same s16)) (kp_up (cs := [o1]) memA (kp_refl _ _)) (subCons (.inr fo10) subNil)
                dsimp only [tDrop, tBM]
                refine t_log (i := 9) rfl j17.q fun o H18 ys fo s18 eo jo => ?_
                have lys := jo.len
                refine ⟨.inl ⟨rfl, _, sqlOf eo⟩, o, _, _, rfl, rfl, eo, by rw [sizeLine_eq]; rw [lys, List.length_append]; omega, ?_⟩
                have s19 := same_putG (o := .lst (ys ++ [.non])) fo s18
                exact ⟨p, _, _, _, _, _, road, _, _, _, _, _, _, _, _, _, _, _, by rw [← en, ← eg]; rfl, hr0, lm', by rw [List.length_append]; omega, True.intro, kp_trans k17 (kp_same s19), j17.same s19⟩
    · rintro σ H7 ⟨lg, cs, ms, u, es, g, road, y10, y11, y12, y13, y14, y15, y16, y17, y18, y19, y20, rfl, hr0, lm, le, _, k0, j7⟩
      exact q _ k0 j7.htab
end
end Ob

set_option Elab.async false
set_option linter.all false
set_option maxRecDepth 100000
set_option maxHeartbeats 1000000
namespace Ob
open PySem PySem.Spec PyProof.Rows L2
open LamX (Tabs TabB TabS ExtN)

set_option hygiene false in
local macro_rules
  | `(tactic| kp_flats) => `(tactic| first
    | assumption
    | exact upd_same
    | (apply atNew; assumption; kp_flats)
    | (apply atNe; (next => kbo_bools); kp_flats)
    | (apply atSame; assumption; kp_flats)
    | (apply atKp; assumption; (next => kaf_pre); kp_flats))
set_option hygiene false in
local macro_rules
  | `(tactic| kaf_pre) => `(tactic| first
    | assumption
    | exact not_nil
    | (apply not_cons; (next => kbo_bools); kaf_pre)
    | (apply not_app; (next => kaf_pre); kaf_pre))
set_option hygiene false in
local macro_rules
  | `(tactic| kbo_bools) => `(tactic| first
    | assumption
    | (apply Ne.symm; assumption)
    | (apply neN; assumption; kp_flats)
    | (apply neN'; assumption; kp_flats))
set_option hygiene false in
local macro_rules
  | `(tactic| o_reads) => `(tactic| first
    | with_reducible rfl
    | assumption
    | rfl
    | kp_flats
    | (show SqL _ _ _ _; first | assumption | (apply sqlOf; kp_flats) | (apply sqlSame; assumption; o_reads))
    | (show SqT _ _ _ _; first | assumption | (apply sqtOf; kp_flats) | (apply sqtAll; assumption) | (apply sqtSame; assumption; o_reads))
    | (show Cls _ _; first | exact T.cl_Calls | exact T.cl_Joiner | exact T.cl_Planner | exact T.cl_EvenSums | exact T.cl_Shape | exact T.cl_TwoStacks)
    | (show NoAttr _ _ _; first | exact T.n_Calls_entries | exact T.n_Calls_running | exact T.n_Joiner_calls | exact T.n_Joiner_join_call | exact T.n_Planner_entries | exact T.n_EvenSums_calls | exact T.n_EvenSums_joiner | exact T.n_EvenSums_zero | exact T.n_EvenSums_given | exact T.n_EvenSums_held | exact T.n_EvenSums_shape | exact T.n_Shape_front | exact T.n_Shape_back | exact T.n_Shape_late | exact T.n_Shape_renewed | exact T.n_TwoStacks_calls | exact T.n_TwoStacks_joiner | exact T.n_TwoStacks_zero | exact T.n_TwoStacks_given | exact T.n_TwoStacks_held | exact T.n_TwoStacks_front | exact T.n_TwoStacks_back)
    | (apply Or.inl; o_reads)
    | (apply Or.inr; o_reads)
    | (apply And.intro; (next => o_reads); o_reads)
    | (apply Exists.intro; o_reads)
    | exact Nat.le_of_ble_eq_true rfl
    | exact Nat.succ_ne_zero _
    | (show Fr _ _; kba_ints)
    | (show Same _ _; kd_subs)
    | (show Kp _ _ _; kxs_still)
    | (show (_ : Nat) ≤ _; simp only [List.length_append, List.length_map, List.length_cons, List.length_nil, List.length_take, List.length_drop, List.length_replicate, List.length_range, sizeLine_eq]; omega)
    | (show _ = none; apply Fr.h; kba_ints)
    | (show Bag _ _; first | assumption | (apply bag_putF; assumption; o_reads) | (apply bag_neF; (next => kbo_bools); o_reads) | (apply bag_kpR; assumption; (next => kaf_pre); o_reads))
    | omega
    | decide)
local macro_rules
  | `(tactic| o_readsAll) => `(tactic| repeat (first
    | (refine fun (pNew : Addr) (nNew : _ = none) => ?_; replace nNew := Fr.mk nNew)
    | (refine fun (xNew dNew : Addr) (nNew : _ = none) (mNew : _ = none) (eNew : dNew ≠ xNew) => ?_; replace nNew := Fr.mk nNew; replace mNew := Fr.mk mNew)
    | (apply And.intro; next => o_reads)
    | apply Exists.intro (α := V)
    | apply Exists.intro (α := Addr)
    | apply Exists.intro (α := Int)
    | apply Exists.intro (α := Bool)
    | apply Exists.intro (α := List V)
    | apply Exists.intro (α := List Nat)
    | apply Exists.intro (α := List (Str × V))
    | apply Exists.intro (α := List _)
    | apply Exists.intro (α := Str)
    | apply Exists.intro (α := HO)
    | apply Exists.intro (α := Sp)
    | apply Exists.intro (α := VK)))
set_option hygiene false in
local macro_rules
  | `(tactic| kba_ints) => `(tactic| first
    | assumption
    | (apply frUp; (first | assumption | (apply Ne.symm; assumption)); kba_ints)
    | (apply noneOf; assumption; intro oF eF; apply Exists.intro; kp_flats)
    | (apply frUp; (next => kbo_bools); kba_ints))
set_option hygiene false in
local macro_rules
  | `(tactic| kxs_still) => `(tactic| first
    | assumption
    | exact kp_refl _ _
    | (apply kp_newF; assumption; kxs_still)
    | (apply kp_new; assumption; kxs_still)
    | (apply kp_up; (next => o_fieldsN); kxs_still)
    | (apply kp_new; (next => kba_ints); kxs_still)
    | (apply kp_sameR; assumption; kxs_still)
    | (apply kp_transR; assumption; kxs_still)
    | (apply kp_freshR; assumption; (next => kaf_suf); kxs_still))
set_option hygiene false in
local macro_rules
  | `(tactic| kaf_suf) => `(tactic| first
    | assumption
    | exact subNil
    | (apply subCons; (first | (apply Or.inl; o_fieldsN) | (apply Or.inr; kba_ints)); kaf_suf)
    | (apply subApp; (next => kaf_suf); kaf_suf))
set_option hygiene false in
local macro_rules
  | `(tactic| o_fieldsN) => `(tactic| first
    | assumption
    | exact memA
    | (apply memB; o_fieldsN)
    | (apply memL; o_fieldsN)
    | (apply memR; o_fieldsN))
set_option hygiene false in
local macro_rules
  | `(tactic| kd_subs) => `(tactic| first
    | assumption
    | exact Same.refl _
    | (apply same_putF; assumption; kd_subs)
    | (apply same_putG; assumption; kd_subs)
    | (apply same_putF; (next => kba_ints); kd_subs)
    | (apply same_transR; assumption; kd_subs))

set_option pp.maxSteps 900
open NdefX (TabsN)
section
variable {P : Program} {w : World} {K : PySem.W.Frag} {mg : Str → Option Value} {base : Heap}
def spLaw (T : Txt K mg) : Sp := fun vs H Q _ => ∃ (a : Addr) (ns : List Int), vs = [.ref a] ∧ SqL K H a (ns.map V.int) ∧ ns.length ≤ 63 ∧ H T.p_l_right = some (.tbl #[]) ∧ ∀ H', Q (.bl true) H'
theorem ok_law (T : Txt K mg) (TB : LamX.TabB base mg T.c_l_right T.p_l_right) {f : Addr} {d : FuncData} (F : Fun K "law" "law" s_law f d) : FnOk P w K mg base CX0 40 f d ["_law_script"] (spLaw T) := by
  have G_l_bag := ok_bag (P := P) (w := w) (base := base) T
  have G_l_take := ok_takeK (P := P) (w := w) (base := base) T
  have G_l_right := ok_right (P := P) (w := w) (base := base) T TB
  refine F.ok sc_law (fun vs H Q E h => ?_) (fun cdv A outer s H vs Q E hr h => ?_)
  · obtain ⟨a, ns, rfl, _⟩ := h
    rfl
  · obtain ⟨a0, ns0, rfl, hS, hlen, hp1, q⟩ := h
    have t0 : TabsN (TT T) H := fun p hp => by
      rw [List.mem_singleton.mp hp]
      exact NdefX.TabN.nil hp1
    refine ⟨_, (pss_cons (ps_for PassesOwn.never rfl (pi_range1 (by rfl) T.z_range (pa_cons (pe_callB (call_max2 rfl) (by rfl) T.z_max (by decide +kernel) (pa_cons pe_int (pa_cons (pe_callB (call_min2 rfl) (by rfl) T.z_min (by decide +kernel) (pa_cons pe_int (pa_cons (pe_callB call_len_seq (by rfl) T.z_len (by decide +kernel) (pa_cons (pv 0) pa_nil)) pa_nil))) pa_nil))) pa_nil)) (pg_name (i := 1) sc_law.nd rfl (.inl rfl)) (pss_cons (ps_set (i := 2) sc_law.nd rfl (.inl rfl) (pe_call G_l_bag (hr.mono (by omega)) rfl T.g_l_bag T.F_l_bag.kp T.b_l_bag .nil pass0 (pa_cons (pv 0) (pa_cons (pv 1) pa_nil))))
        (pss_one (ps_if (pt_not (pt_val (pe_call G_l_right (hr.mono (by omega)) rfl T.g_l_right T.F_l_right.kp T.b_l_right .nil pass0 (pa_cons (pv 2) (pa_cons (pe_call G_l_take (hr.mono (by omega)) rfl T.g_l_take T.F_l_take.kp T.b_l_take .nil pass0 (pa_cons (pv 2) (pa_cons pe_int pa_nil))) pa_nil))))) (pss_one (ps_ret pe_bl)) pss_nil))))
      (pss_one (ps_ret pe_bl))), ?_⟩
    refine ⟨_, rfl, a0, _, rfl, .inl hS, 4, _, rfl, 1, _, rfl, _, rfl, ?_, ?_, ?_⟩
    · split <;> split <;> omega
    · split <;> split <;> omega
    generalize hN : ((if (if (((ns0.map V.int).length : Nat) : Int) < 4 then (((ns0.map V.int).length : Nat) : Int) else 4) > 1 then (if (((ns0.map V.int).length : Nat) : Int) < 4 then (((ns0.map V.int).length : Nat) : Int) else 4) else 1) : Int).toNat = N
    have hN2 : N ≤ 5 := by
      rw [← hN]
      split <;> split <;> omega
    refine for_range (n := N) (fun i σ H' => ∃ y1 y2, σ = [some (.ref a0), y1, y2] ∧ TabsN (TT T) H' ∧ SqL K H' a0 (ns0.map V.int)) ⟨_, _, rfl, t0, hS⟩ ?_ ?_
    · rintro i σ H' hi ⟨y1, y2, rfl, t1, s1⟩
      refine ⟨_, rfl, _, rfl, a0, ns0, i, by rw [Int.zero_add]; rfl, s1, by omega, fun p H2 np s02 b2 => ?_⟩
      have fp := Fr.mk np
      have fps : ∀ y ∈ [p], Fr H' y := subCons fp subNil
      refine ⟨_, rfl, _, rfl, p, 2, rfl, b2, by decide, by decide, fun r H4 r0 r1 b4 k4 => ?_⟩
      have s04 : Same H' H4 := same_kp s02 k4 fps
      have t4 : TabsN (TT T) H4 := tabsN_kp t1 (kp_same (cs := []) s04) fun _ z => nomatch z
      obtain ⟨fm, rfl⟩ := Int.eq_ofNat_of_zero_le r0
      refine ⟨p, fm, rfl, by omega, b4, t4, fun H5 k5 t5 => ⟨true, rfl, ifF rfl ?_⟩⟩
      refine ⟨_, _, rfl, t5, ?_⟩
      have kk : ∀ {o : HO}, H' a0 = some o → (∀ ps, o ≠ .tbl ps) → H5 a0 = some o := fun {o} z n => k5.at_ _ _ (s04 _ _ z) (not_cons (tab_ne t4 (hm_l_right T) (s04 _ _ z) n) (not_cons (ne_of_none z fp.h) not_nil))
      rcases s1 with (z | ⟨o, z⟩) | z
      · exact .inl (.inl (kk z (fun _ y => nomatch y)))
      · exact .inl (.inr ⟨o, kk z (fun _ y => nomatch y)⟩)
      · exact .inr z
    · rintro σ H' ⟨y1, y2, rfl, t1, s1⟩
      exact q _
end
end Ob

set_option Elab.async false
set_option linter.all false
set_option maxRecDepth 100000
set_option maxHeartbeats 1000000
namespace Ob
open PySem PySem.Spec PyProof.Rows L2
open LamX (Tabs TabB TabS ExtN)

set_option hygiene false in
local macro_rules
  | `(tactic| kp_flats) => `(tactic| first
    | assumption
    | exact upd_same
    | (apply atNew; assumption; kp_flats)
    | (apply atNe; (next => kbo_bools); kp_flats)
    | (apply atSame; assumption; kp_flats)
    | (apply atKp; assumption; (next => kaf_pre); kp_flats))
set_option hygiene false in
local macro_rules
  | `(tactic| kaf_pre) => `(tactic| first
    | assumption
    | exact not_nil
    | (apply not_cons; (next => kbo_bools); kaf_pre)
    | (apply not_app; (next => kaf_pre); kaf_pre))
set_option hygiene false in
local macro_rules
  | `(tactic| kbo_bools) => `(tactic| first
    | assumption
    | (apply Ne.symm; assumption)
    | (apply neN; assumption; kp_flats)
    | (apply neN'; assumption; kp_flats))
set_option hygiene false in
local macro_rules
  | `(tactic| o_reads) => `(tactic| first
    | with_reducible rfl
    | assumption
    | rfl
    | kp_flats
    | (show SqL _ _ _ _; first | assumption | (apply sqlOf; kp_flats) | (apply sqlSame; assumption; o_reads))
    | (show SqT _ _ _ _; first | assumption | (apply sqtOf; kp_flats) | (apply sqtAll; assumption) | (apply sqtSame; assumption; o_reads))
    | (show Cls _ _; first | exact T.cl_Calls | exact T.cl_Joiner | exact T.cl_Planner | exact T.cl_EvenSums | exact T.cl_Shape | exact T.cl_TwoStacks)
    | (show NoAttr _ _ _; first | exact T.n_Calls_entries | exact T.n_Calls_running | exact T.n_Joiner_calls | exact T.n_Joiner_join_call | exact T.n_Planner_entries | exact T.n_EvenSums_calls | exact T.n_EvenSums_joiner | exact T.n_EvenSums_zero | exact T.n_EvenSums_given | exact T.n_EvenSums_held | exact T.n_EvenSums_shape | exact T.n_Shape_front | exact T.n_Shape_back | exact T.n_Shape_late | exact T.n_Shape_renewed | exact T.n_TwoStacks_calls | exact T.n_TwoStacks_joiner | exact T.n_TwoStacks_zero | exact T.n_TwoStacks_given | exact T.n_TwoStacks_held | exact T.n_TwoStacks_front | exact T.n_TwoStacks_back)
    | (apply Or.inl; o_reads)
    | (apply Or.inr; o_reads)
    | (apply And.intro; (next => o_reads); o_reads)
    | (apply Exists.intro; o_reads)
    | exact Nat.le_of_ble_eq_true rfl
    | exact Nat.succ_ne_zero _
    | (show Fr _ _; kba_ints)
    | (show Same _ _; kd_subs)
    | (show Kp _ _ _; kxs_still)
    | (show (_ : Nat) ≤ _; simp only [List.length_append, List.length_map, List.length_cons, List.length_nil, List.length_take, List.length_drop, List.length_replicate, List.length_range, sizeLine_eq]; omega)
    | (show _ = none; apply Fr.h; kba_ints)
    | (show Bag _ _; first | assumption | (apply bag_putF; assumption; o_reads) | (apply bag_neF; (next => kbo_bools); o_reads) | (apply bag_kpR; assumption; (next => kaf_pre); o_reads))
    | omega
    | decide)
local macro_rules
  | `(tactic| o_readsAll) => `(tactic| repeat (first
    | (refine fun (pNew : Addr) (nNew : _ = none) => ?_; replace nNew := Fr.mk nNew)
    | (refine fun (xNew dNew : Addr) (nNew : _ = none) (mNew : _ = none) (eNew : dNew ≠ xNew) => ?_; replace nNew := Fr.mk nNew; replace mNew := Fr.mk mNew)
    | (apply And.intro; next => o_reads)
    | apply Exists.intro (α := V)
    | apply Exists.intro (α := Addr)
    | apply Exists.intro (α := Int)
    | apply Exists.intro (α := Bool)
    | apply Exists.intro (α := List V)
    | apply Exists.intro (α := List Nat)
    | apply Exists.intro (α := List (Str × V))
    | apply Exists.intro (α := List _)
    | apply Exists.intro (α := Str)
    | apply Exists.intro (α := HO)
    | apply Exists.intro (α := Sp)
    | apply Exists.intro (α := VK)))
set_option hygiene false in
local macro_rules
  | `(tactic| kba_ints) => `(tactic| first
    | assumption
    | (apply frUp; (first | assumption | (apply Ne.symm; assumption)); kba_ints)
    | (apply noneOf; assumption; intro oF eF; apply Exists.intro; kp_flats)
    | (apply frUp; (next => kbo_bools); kba_ints))
set_option hygiene false in
local macro_rules
  | `(tactic| kxs_still) => `(tactic| first
    | assumption
    | exact kp_refl _ _
    | (apply kp_newF; assumption; kxs_still)
    | (apply kp_new; assumption; kxs_still)
    | (apply kp_up; (next => o_fieldsN); kxs_still)
    | (apply kp_new; (next => kba_ints); kxs_still)
    | (apply kp_sameR; assumption; kxs_still)
    | (apply kp_transR; assumption; kxs_still)
    | (apply kp_freshR; assumption; (next => kaf_suf); kxs_still))
set_option hygiene false in
local macro_rules
  | `(tactic| kaf_suf) => `(tactic| first
    | assumption
    | exact subNil
    | (apply subCons; (first | (apply Or.inl; o_fieldsN) | (apply Or.inr; kba_ints)); kaf_suf)
    | (apply subApp; (next => kaf_suf); kaf_suf))
set_option hygiene false in
local macro_rules
  | `(tactic| o_fieldsN) => `(tactic| first
    | assumption
    | exact memA
    | (apply memB; o_fieldsN)
    | (apply memL; o_fieldsN)
    | (apply memR; o_fieldsN))
set_option hygiene false in
local macro_rules
  | `(tactic| kd_subs) => `(tactic| first
    | assumption
    | exact Same.refl _
    | (apply same_putF; assumption; kd_subs)
    | (apply same_putG; assumption; kd_subs)
    | (apply same_putF; (next => kba_ints); kd_subs)
    | (apply same_transR; assumption; kd_subs))

open NdefX (TabsN)
set_option pp.maxSteps 700
theorem all_mk {QQ : Program} {l : PySem.W.OpenLaw} {w : World} {K : PySem.W.Frag} {h : Heap} {mg : Str → Option Value} {fa : Addr} (X : K.In h) (G : h.Ns mainGlobals mg) (hfa : mg "law" = some (.ref fa)) (tt : Inf.TopTabs QQ K mg h)
    {C_Calls : Addr} {C_Joiner : Addr} {C_Planner : Addr} {C_EvenSums : Addr} {C_Shape : Addr} {C_TwoStacks : Addr} {a0 : Addr} {oc0 kV0 dc0 pm0 ct0 : Value} {od0 an0 : Option Addr} {sl0 : Array (Option Value)} {cd0 : Value} {a1 : Addr} {oc1 kV1 dc1 pm1 ct1 : Value} {od1 an1 : Option Addr} {sl1 : Array (Option Value)} {cd1 : Value} {a2 : Addr} {oc2 kV2 dc2 pm2 ct2 : Value} {od2 an2 : Option Addr} {sl2 : Array (Option Value)} {cd2 : Value} {a3 : Addr} {oc3 kV3 dc3 pm3 ct3 : Value} {od3 an3 : Option Addr} {sl3 : Array (Option Value)} {cd3 : Value} {a4 : Addr} {oc4 kV4 dc4 pm4 ct4 : Value} {od4 an4 : Option Addr} {sl4 : Array (Option Value)} {cd4 : Value} {a5 : Addr} {oc5 kV5 dc5 pm5 ct5 : Value} {od5 an5 : Option Addr} {sl5 : Array (Option Value)} {cd5 : Value} {a6 : Addr} {oc6 kV6 dc6 pm6 ct6 : Value} {od6 an6 : Option Addr} {sl6 : Array (Option Value)} {cd6 : Value} {a7 : Addr} {kd7 : Addr} {oc7 dc7 pm7 ct7 : Value} {od7 an7 : Option Addr} {sl7 : Array (Option Value)} {cd7 : Value} {a8 : Addr} {oc8 kV8 dc8 pm8 ct8 : Value} {od8 an8 : Option Addr} {sl8 : Array (Option Value)} {cd8 : Value} {a9 : Addr} {oc9 kV9 dc9 pm9 ct9 : Value} {od9 an9 : Option Addr} {sl9 : Array (Option Value)} {cd9 : Value} {a10 : Addr} {oc10 kV10 dc10 pm10 ct10 : Value} {od10 an10 : Option Addr} {sl10 : Array (Option Value)} {cd10 : Value} {a11 : Addr} {oc11 kV11 dc11 pm11 ct11 : Value} {od11 an11 : Option Addr} {sl11 : Array (Option Value)} {cd11 : Value} {a12 : Addr} {oc12 kV12 dc12 pm12 ct12 : Value} {od12 an12 : Option Addr} {sl12 : Array (Option Value)} {cd12 : Value} {a13 : Addr} {oc13 kV13 dc13 pm13 ct13 : Value} {od13 an13 : Option Addr} {sl13 : Array (Option Value)} {cd13 : Value} {a14 : Addr} {oc14 kV14 dc14 pm14 ct14 : Value} {od14 an14 : Option Addr} {sl14 : Array (Option Value)} {cd14 : Value} {a15 : Addr} {kd15 : Addr} {oc15 dc15 pm15 ct15 : Value} {od15 an15 : Option Addr} {sl15 : Array (Option Value)} {cd15 : Value} {a16 : Addr} {oc16 kV16 dc16 pm16 ct16 : Value} {od16 an16 : Option Addr} {sl16 : Array (Option Value)} {cd16 : Value} {a17 : Addr} {oc17 kV17 dc17 pm17 ct17 : Value} {od17 an17 : Option Addr} {sl17 : Array (Option Value)} {cd17 : Value} {a18 : Addr} {oc18 kV18 dc18 pm18 ct18 : Value} {od18 an18 : Option Addr} {sl18 : Array (Option Value)} {cd18 : Value} {a19 : Addr} {oc19 kV19 dc19 pm19 ct19 : Value} {od19 an19 : Option Addr} {sl19 : Array (Option Value)} {cd19 : Value} {a20 : Addr} {oc20 kV20 dc20 pm20 ct20 : Value} {od20 an20 : Option Addr} {sl20 : Array (Option Value)} {cd20 : Value} {a21 : Addr} {oc21 kV21 dc21 pm21 ct21 : Value} {od21 an21 : Option Addr} {sl21 : Array (Option Value)} {cd21 : Value} {a22 : Addr} {oc22 kV22 dc22 pm22 ct22 : Value} {od22 an22 : Option Addr} {sl22 : Array (Option Value)} {cd22 : Value} {a23 : Addr} {oc23 kV23 dc23 pm23 ct23 : Value} {od23 an23 : Option Addr} {sl23 : Array (Option Value)} {cd23 : Value} {a24 : Addr} {oc24 kV24 dc24 pm24 ct24 : Value} {od24 an24 : Option Addr} {sl24 : Array (Option Value)} {cd24 : Value} {a25 : Addr} {oc25 kV25 dc25 pm25 ct25 : Value} {od25 an25 : Option Addr} {sl25 : Array (Option Value)} {cd25 : Value} {a26 : Addr} {oc26 kV26 dc26 pm26 ct26 : Value} {od26 an26 : Option Addr} {sl26 : Array (Option Value)} {cd26 : Value} {a27 : Addr} {oc27 kV27 dc27 pm27 ct27 : Value} {od27 an27 : Option Addr} {sl27 : Array (Option Value)} {cd27 : Value} {a28 : Addr} {oc28 kV28 dc28 pm28 ct28 : Value} {od28 an28 : Option Addr} {sl28 : Array (Option Value)} {cd28 : Value} {a29 : Addr} {oc29 kV29 dc29 pm29 ct29 : Value} {od29 an29 : Option Addr} {sl29 : Array (Option Value)} {cd29 : Value} {a30 : Addr} {oc30 kV30 dc30 pm30 ct30 : Value} {od30 an30 : Option Addr} {sl30 : Array (Option Value)} {cd30 : Value} {a31 : Addr} {oc31 kV31 dc31 pm31 ct31 : Value} {od31 an31 : Option Addr} {sl31 : Array (Option Value)} {cd31 : Value} {a32 : Addr} {oc32 kV32 dc32 pm32 ct32 : Value} {od32 an32 : Option Addr} {sl32 : Array (Option Value)} {cd32 : Value} {a33 : Addr} {oc33 kV33 dc33 pm33 ct33 : Value} {od33 an33 : Option Addr} {sl33 : Array (Option Value)} {cd33 : Value} {a34 : Addr} {oc34 kV34 dc34 pm34 ct34 : Value} {od34 an34 : Option Addr} {sl34 : Array (Option Value)} {cd34 : Value} {a35 : Addr} {oc35 kV35 dc35 pm35 ct35 : Value} {od35 an35 : Option Addr} {sl35 : Array (Option Value)} {cd35 : Value} {a36 : Addr} {oc36 kV36 dc36 pm36 ct36 : Value} {od36 an36 : Option Addr} {sl36 : Array (Option Value)} {cd36 : Value} {a37 : Addr} {oc37 kV37 dc37 pm37 ct37 : Value} {od37 an37 : Option Addr} {sl37 : Array (Option Value)} {cd37 : Value} {a38 : Addr} {oc38 kV38 dc38 pm38 ct38 : Value} {od38 an38 : Option Addr} {sl38 : Array (Option Value)} {cd38 : Value} {a39 : Addr} {oc39 kV39 dc39 pm39 ct39 : Value} {od39 an39 : Option Addr} {sl39 : Array (Option Value)} {cd39 : Value} {a40 : Addr} {oc40 kV40 dc40 pm40 ct40 : Value} {od40 an40 : Option Addr} {sl40 : Array (Option Value)} {cd40 : Value} {a41 : Addr} {oc41 kV41 dc41 pm41 ct41 : Value} {od41 an41 : Option Addr} {sl41 : Array (Option Value)} {cd41 : Value} {a42 : Addr} {oc42 kV42 dc42 pm42 ct42 : Value} {od42 an42 : Option Addr} {sl42 : Array (Option Value)} {cd42 : Value} {a43 : Addr} {oc43 kV43 dc43 pm43 ct43 : Value} {od43 an43 : Option Addr} {sl43 : Array (Option Value)} {cd43 : Value} {a44 : Addr} {oc44 kV44 dc44 pm44 ct44 : Value} {od44 an44 : Option Addr} {sl44 : Array (Option Value)} {cd44 : Value} {a45 : Addr} {oc45 kV45 dc45 pm45 ct45 : Value} {od45 an45 : Option Addr} {sl45 : Array (Option Value)} {cd45 : Value} {a46 : Addr} {oc46 kV46 dc46 pm46 ct46 : Value} {od46 an46 : Option Addr} {sl46 : Array (Option Value)} {cd46 : Value} {a47 : Addr} {oc47 kV47 dc47 pm47 ct47 : Value} {od47 an47 : Option Addr} {sl47 : Array (Option Value)} {cd47 : Value} {a48 : Addr} {oc48 kV48 dc48 pm48 ct48 : Value} {od48 an48 : Option Addr} {sl48 : Array (Option Value)} {cd48 : Value} {a49 : Addr} {oc49 kV49 dc49 pm49 ct49 : Value} {od49 an49 : Option Addr} {sl49 : Array (Option Value)} {cd49 : Value} {a50 : Addr} {oc50 kV50 dc50 pm50 ct50 : Value} {od50 an50 : Option Addr} {sl50 : Array (Option Value)} {cd50 : Value} {a51 : Addr} {oc51 kV51 dc51 pm51 ct51 : Value} {od51 an51 : Option Addr} {sl51 : Array (Option Value)} {cc51 pp51 : Addr} {lv51 : Array Value} {lo51 : Value} {ld51 : Option Addr} {ls51 : Array (Option Value)} {a52 : Addr} {oc52 kV52 dc52 pm52 ct52 : Value} {od52 an52 : Option Addr} {sl52 : Array (Option Value)} {cd52 : Value}
    (gc_Calls : PySem.W.nsIn K mainGlobals "Calls" = some (some (.ref C_Calls)))
    (gc_Joiner : PySem.W.nsIn K mainGlobals "Joiner" = some (some (.ref C_Joiner)))
    (gc_Planner : PySem.W.nsIn K mainGlobals "Planner" = some (some (.ref C_Planner)))
    (gc_EvenSums : PySem.W.nsIn K mainGlobals "EvenSums" = some (some (.ref C_EvenSums)))
    (gc_Shape : PySem.W.nsIn K mainGlobals "Shape" = some (some (.ref C_Shape)))
    (gc_TwoStacks : PySem.W.nsIn K mainGlobals "TwoStacks" = some (some (.ref C_TwoStacks)))
    (ma0 : PySem.W.findIn K (.ref C_Calls) "__init__" = some (some (.ref a0)))
    (l0 : K.lookup a0 = some ⟨oc0, od0, .func (PySem.W.fnOf "__init__" "Calls.__init__" (defArgs s_Calls_init) (defBody s_Calls_init) (defScope s_Calls_init) .none kV0 dc0 pm0 an0 cd0 ct0), sl0⟩) (c0 : PySem.W.codeIn K cd0 "Calls.__init__" = true) (k0 : PySem.W.keepIn K (.ref a0) = true)
    (mt0 : PySem.W.isFn K (.ref a0) = true) (my0 : PySem.W.typeIn K (.ref a0) = some (.type "function"))
    (ma1 : PySem.W.findIn K (.ref C_Calls) "check" = some (some (.ref a1)))
    (l1 : K.lookup a1 = some ⟨oc1, od1, .func (PySem.W.fnOf "check" "Calls.check" (defArgs s_Calls_check) (defBody s_Calls_check) (defScope s_Calls_check) .none kV1 dc1 pm1 an1 cd1 ct1), sl1⟩) (c1 : PySem.W.codeIn K cd1 "Calls.check" = true) (k1 : PySem.W.keepIn K (.ref a1) = true)
    (mt1 : PySem.W.isFn K (.ref a1) = true) (my1 : PySem.W.typeIn K (.ref a1) = some (.type "function"))
    (ma2 : PySem.W.findIn K (.ref C_Calls) "run" = some (some (.ref a2)))
    (l2 : K.lookup a2 = some ⟨oc2, od2, .func (PySem.W.fnOf "run" "Calls.run" (defArgs s_Calls_run) (defBody s_Calls_run) (defScope s_Calls_run) .none kV2 dc2 pm2 an2 cd2 ct2), sl2⟩) (c2 : PySem.W.codeIn K cd2 "Calls.run" = true) (k2 : PySem.W.keepIn K (.ref a2) = true)
    (mt2 : PySem.W.isFn K (.ref a2) = true) (my2 : PySem.W.typeIn K (.ref a2) = some (.type "function"))
    (ma3 : PySem.W.findIn K (.ref C_Joiner) "__init__" = some (some (.ref a3)))
    (l3 : K.lookup a3 = some ⟨oc3, od3, .func (PySem.W.fnOf "__init__" "Joiner.__init__" (defArgs s_Joiner_init) (defBody s_Joiner_init) (defScope s_Joiner_init) .none kV3 dc3 pm3 an3 cd3 ct3), sl3⟩) (c3 : PySem.W.codeIn K cd3 "Joiner.__init__" = true) (k3 : PySem.W.keepIn K (.ref a3) = true)
    (mt3 : PySem.W.isFn K (.ref a3) = true) (my3 : PySem.W.typeIn K (.ref a3) = some (.type "function"))
    (ma4 : PySem.W.findIn K (.ref C_Joiner) "joined" = some (some (.ref a4)))
    (l4 : K.lookup a4 = some ⟨oc4, od4, .func (PySem.W.fnOf "joined" "Joiner.joined" (defArgs s_Joiner_joined) (defBody s_Joiner_joined) (defScope s_Joiner_joined) .none kV4 dc4 pm4 an4 cd4 ct4), sl4⟩) (c4 : PySem.W.codeIn K cd4 "Joiner.joined" = true) (k4 : PySem.W.keepIn K (.ref a4) = true)
    (mt4 : PySem.W.isFn K (.ref a4) = true) (my4 : PySem.W.typeIn K (.ref a4) = some (.type "function"))
    (ma5 : PySem.W.findIn K (.ref C_Planner) "__init__" = some (some (.ref a5)))
    (l5 : K.lookup a5 = some ⟨oc5, od5, .func (PySem.W.fnOf "__init__" "Planner.__init__" (defArgs s_Planner_init) (defBody s_Planner_init) (defScope s_Planner_init) .none kV5 dc5 pm5 an5 cd5 ct5), sl5⟩) (c5 : PySem.W.codeIn K cd5 "Planner.__init__" = true) (k5 : PySem.W.keepIn K (.ref a5) = true)
    (mt5 : PySem.W.isFn K (.ref a5) = true) (my5 : PySem.W.typeIn K (.ref a5) = some (.type "function"))
    (ma6 : PySem.W.findIn K (.ref C_Planner) "joined" = some (some (.ref a6)))
    (l6 : K.lookup a6 = some ⟨oc6, od6, .func (PySem.W.fnOf "joined" "Planner.joined" (defArgs s_Planner_joined) (defBody s_Planner_joined) (defScope s_Planner_joined) .none kV6 dc6 pm6 an6 cd6 ct6), sl6⟩) (c6 : PySem.W.codeIn K cd6 "Planner.joined" = true) (k6 : PySem.W.keepIn K (.ref a6) = true)
    (mt6 : PySem.W.isFn K (.ref a6) = true) (my6 : PySem.W.typeIn K (.ref a6) = some (.type "function"))
    (ma7 : PySem.W.findIn K (.ref C_TwoStacks) "__init__" = some (some (.ref a7)))
    (l7 : K.lookup a7 = some ⟨oc7, od7, .func (PySem.W.fnOf "__init__" "TwoStacks.__init__" (defArgs s_TwoStacks_init) (defBody s_TwoStacks_init) (defScope s_TwoStacks_init) .none (.ref kd7) dc7 pm7 an7 cd7 ct7), sl7⟩) (c7 : PySem.W.codeIn K cd7 "TwoStacks.__init__" = true) (k7 : PySem.W.keepIn K (.ref a7) = true)
    (kw7_0 : PySem.W.nsIn K kd7 "zero" = some (some .none))
    (mt7 : PySem.W.isFn K (.ref a7) = true) (my7 : PySem.W.typeIn K (.ref a7) = some (.type "function"))
    (ma8 : PySem.W.findIn K (.ref C_TwoStacks) "add" = some (some (.ref a8)))
    (l8 : K.lookup a8 = some ⟨oc8, od8, .func (PySem.W.fnOf "add" "TwoStacks.add" (defArgs s_TwoStacks_add) (defBody s_TwoStacks_add) (defScope s_TwoStacks_add) .none kV8 dc8 pm8 an8 cd8 ct8), sl8⟩) (c8 : PySem.W.codeIn K cd8 "TwoStacks.add" = true) (k8 : PySem.W.keepIn K (.ref a8) = true)
    (mt8 : PySem.W.isFn K (.ref a8) = true) (my8 : PySem.W.typeIn K (.ref a8) = some (.type "function"))
    (ma9 : PySem.W.findIn K (.ref C_TwoStacks) "remove_oldest" = some (some (.ref a9)))
    (l9 : K.lookup a9 = some ⟨oc9, od9, .func (PySem.W.fnOf "remove_oldest" "TwoStacks.remove_oldest" (defArgs s_TwoStacks_remove_oldest) (defBody s_TwoStacks_remove_oldest) (defScope s_TwoStacks_remove_oldest) .none kV9 dc9 pm9 an9 cd9 ct9), sl9⟩) (c9 : PySem.W.codeIn K cd9 "TwoStacks.remove_oldest" = true) (k9 : PySem.W.keepIn K (.ref a9) = true)
    (mt9 : PySem.W.isFn K (.ref a9) = true) (my9 : PySem.W.typeIn K (.ref a9) = some (.type "function"))
    (ma10 : PySem.W.findIn K (.ref C_TwoStacks) "total" = some (some (.ref a10)))
    (l10 : K.lookup a10 = some ⟨oc10, od10, .func (PySem.W.fnOf "total" "TwoStacks.total" (defArgs s_TwoStacks_total) (defBody s_TwoStacks_total) (defScope s_TwoStacks_total) .none kV10 dc10 pm10 an10 cd10 ct10), sl10⟩) (c10 : PySem.W.codeIn K cd10 "TwoStacks.total" = true) (k10 : PySem.W.keepIn K (.ref a10) = true)
    (mt10 : PySem.W.isFn K (.ref a10) = true) (my10 : PySem.W.typeIn K (.ref a10) = some (.type "function"))
    (ma11 : PySem.W.findIn K (.ref C_TwoStacks) "plan_add" = some (some (.ref a11)))
    (l11 : K.lookup a11 = some ⟨oc11, od11, .func (PySem.W.fnOf "plan_add" "TwoStacks.plan_add" (defArgs s_TwoStacks_plan_add) (defBody s_TwoStacks_plan_add) (defScope s_TwoStacks_plan_add) .none kV11 dc11 pm11 an11 cd11 ct11), sl11⟩) (c11 : PySem.W.codeIn K cd11 "TwoStacks.plan_add" = true) (k11 : PySem.W.keepIn K (.ref a11) = true)
    (mt11 : PySem.W.isFn K (.ref a11) = true) (my11 : PySem.W.typeIn K (.ref a11) = some (.type "function"))
    (ma12 : PySem.W.findIn K (.ref C_TwoStacks) "plan_remove" = some (some (.ref a12)))
    (l12 : K.lookup a12 = some ⟨oc12, od12, .func (PySem.W.fnOf "plan_remove" "TwoStacks.plan_remove" (defArgs s_TwoStacks_plan_remove) (defBody s_TwoStacks_plan_remove) (defScope s_TwoStacks_plan_remove) .none kV12 dc12 pm12 an12 cd12 ct12), sl12⟩) (c12 : PySem.W.codeIn K cd12 "TwoStacks.plan_remove" = true) (k12 : PySem.W.keepIn K (.ref a12) = true)
    (mt12 : PySem.W.isFn K (.ref a12) = true) (my12 : PySem.W.typeIn K (.ref a12) = some (.type "function"))
    (ma13 : PySem.W.findIn K (.ref C_TwoStacks) "plan_total" = some (some (.ref a13)))
    (l13 : K.lookup a13 = some ⟨oc13, od13, .func (PySem.W.fnOf "plan_total" "TwoStacks.plan_total" (defArgs s_TwoStacks_plan_total) (defBody s_TwoStacks_plan_total) (defScope s_TwoStacks_plan_total) .none kV13 dc13 pm13 an13 cd13 ct13), sl13⟩) (c13 : PySem.W.codeIn K cd13 "TwoStacks.plan_total" = true) (k13 : PySem.W.keepIn K (.ref a13) = true)
    (mt13 : PySem.W.isFn K (.ref a13) = true) (my13 : PySem.W.typeIn K (.ref a13) = some (.type "function"))
    (ma14 : PySem.W.findIn K (.ref C_TwoStacks) "log" = some (some (.ref a14)))
    (l14 : K.lookup a14 = some ⟨oc14, od14, .func (PySem.W.fnOf "log" "TwoStacks.log" (defArgs s_TwoStacks_log) (defBody s_TwoStacks_log) (defScope s_TwoStacks_log) .none kV14 dc14 pm14 an14 cd14 ct14), sl14⟩) (c14 : PySem.W.codeIn K cd14 "TwoStacks.log" = true) (k14 : PySem.W.keepIn K (.ref a14) = true)
    (mt14 : PySem.W.isFn K (.ref a14) = true) (my14 : PySem.W.typeIn K (.ref a14) = some (.type "function"))
    (ma15 : PySem.W.findIn K (.ref C_EvenSums) "__init__" = some (some (.ref a15)))
    (l15 : K.lookup a15 = some ⟨oc15, od15, .func (PySem.W.fnOf "__init__" "EvenSums.__init__" (defArgs s_EvenSums_init) (defBody s_EvenSums_init) (defScope s_EvenSums_init) .none (.ref kd15) dc15 pm15 an15 cd15 ct15), sl15⟩) (c15 : PySem.W.codeIn K cd15 "EvenSums.__init__" = true) (k15 : PySem.W.keepIn K (.ref a15) = true)
    (kw15_0 : PySem.W.nsIn K kd15 "zero" = some (some .none))
    (mt15 : PySem.W.isFn K (.ref a15) = true) (my15 : PySem.W.typeIn K (.ref a15) = some (.type "function"))
    (ma16 : PySem.W.findIn K (.ref C_EvenSums) "add" = some (some (.ref a16)))
    (l16 : K.lookup a16 = some ⟨oc16, od16, .func (PySem.W.fnOf "add" "EvenSums.add" (defArgs s_EvenSums_add) (defBody s_EvenSums_add) (defScope s_EvenSums_add) .none kV16 dc16 pm16 an16 cd16 ct16), sl16⟩) (c16 : PySem.W.codeIn K cd16 "EvenSums.add" = true) (k16 : PySem.W.keepIn K (.ref a16) = true)
    (mt16 : PySem.W.isFn K (.ref a16) = true) (my16 : PySem.W.typeIn K (.ref a16) = some (.type "function"))
    (ma17 : PySem.W.findIn K (.ref C_EvenSums) "remove_oldest" = some (some (.ref a17)))
    (l17 : K.lookup a17 = some ⟨oc17, od17, .func (PySem.W.fnOf "remove_oldest" "EvenSums.remove_oldest" (defArgs s_EvenSums_remove_oldest) (defBody s_EvenSums_remove_oldest) (defScope s_EvenSums_remove_oldest) .none kV17 dc17 pm17 an17 cd17 ct17), sl17⟩) (c17 : PySem.W.codeIn K cd17 "EvenSums.remove_oldest" = true) (k17 : PySem.W.keepIn K (.ref a17) = true)
    (mt17 : PySem.W.isFn K (.ref a17) = true) (my17 : PySem.W.typeIn K (.ref a17) = some (.type "function"))
    (ma18 : PySem.W.findIn K (.ref C_EvenSums) "total" = some (some (.ref a18)))
    (l18 : K.lookup a18 = some ⟨oc18, od18, .func (PySem.W.fnOf "total" "EvenSums.total" (defArgs s_EvenSums_total) (defBody s_EvenSums_total) (defScope s_EvenSums_total) .none kV18 dc18 pm18 an18 cd18 ct18), sl18⟩) (c18 : PySem.W.codeIn K cd18 "EvenSums.total" = true) (k18 : PySem.W.keepIn K (.ref a18) = true)
    (mt18 : PySem.W.isFn K (.ref a18) = true) (my18 : PySem.W.typeIn K (.ref a18) = some (.type "function"))
    (ma19 : PySem.W.findIn K (.ref C_EvenSums) "plan_add" = some (some (.ref a19)))
    (l19 : K.lookup a19 = some ⟨oc19, od19, .func (PySem.W.fnOf "plan_add" "EvenSums.plan_add" (defArgs s_EvenSums_plan_add) (defBody s_EvenSums_plan_add) (defScope s_EvenSums_plan_add) .none kV19 dc19 pm19 an19 cd19 ct19), sl19⟩) (c19 : PySem.W.codeIn K cd19 "EvenSums.plan_add" = true) (k19 : PySem.W.keepIn K (.ref a19) = true)
    (mt19 : PySem.W.isFn K (.ref a19) = true) (my19 : PySem.W.typeIn K (.ref a19) = some (.type "function"))
    (ma20 : PySem.W.findIn K (.ref C_EvenSums) "plan_remove" = some (some (.ref a20)))
    (l20 : K.lookup a20 = some ⟨oc20, od20, .func (PySem.W.fnOf "plan_remove" "EvenSums.plan_remove" (defArgs s_EvenSums_plan_remove) (defBody s_EvenSums_plan_remove) (defScope s_EvenSums_plan_remove) .none kV20 dc20 pm20 an20 cd20 ct20), sl20⟩) (c20 : PySem.W.codeIn K cd20 "EvenSums.plan_remove" = true) (k20 : PySem.W.keepIn K (.ref a20) = true)
    (mt20 : PySem.W.isFn K (.ref a20) = true) (my20 : PySem.W.typeIn K (.ref a20) = some (.type "function"))
    (ma21 : PySem.W.findIn K (.ref C_EvenSums) "plan_total" = some (some (.ref a21)))
    (l21 : K.lookup a21 = some ⟨oc21, od21, .func (PySem.W.fnOf "plan_total" "EvenSums.plan_total" (defArgs s_EvenSums_plan_total) (defBody s_EvenSums_plan_total) (defScope s_EvenSums_plan_total) .none kV21 dc21 pm21 an21 cd21 ct21), sl21⟩) (c21 : PySem.W.codeIn K cd21 "EvenSums.plan_total" = true) (k21 : PySem.W.keepIn K (.ref a21) = true)
    (mt21 : PySem.W.isFn K (.ref a21) = true) (my21 : PySem.W.typeIn K (.ref a21) = some (.type "function"))
    (ma22 : PySem.W.findIn K (.ref C_EvenSums) "log" = some (some (.ref a22)))
    (l22 : K.lookup a22 = some ⟨oc22, od22, .func (PySem.W.fnOf "log" "EvenSums.log" (defArgs s_EvenSums_log) (defBody s_EvenSums_log) (defScope s_EvenSums_log) .none kV22 dc22 pm22 an22 cd22 ct22), sl22⟩) (c22 : PySem.W.codeIn K cd22 "EvenSums.log" = true) (k22 : PySem.W.keepIn K (.ref a22) = true)
    (mt22 : PySem.W.isFn K (.ref a22) = true) (my22 : PySem.W.typeIn K (.ref a22) = some (.type "function"))
    (ma23 : PySem.W.findIn K (.ref C_Shape) "__init__" = some (some (.ref a23)))
    (l23 : K.lookup a23 = some ⟨oc23, od23, .func (PySem.W.fnOf "__init__" "Shape.__init__" (defArgs s_Shape_init) (defBody s_Shape_init) (defScope s_Shape_init) .none kV23 dc23 pm23 an23 cd23 ct23), sl23⟩) (c23 : PySem.W.codeIn K cd23 "Shape.__init__" = true) (k23 : PySem.W.keepIn K (.ref a23) = true)
    (mt23 : PySem.W.isFn K (.ref a23) = true) (my23 : PySem.W.typeIn K (.ref a23) = some (.type "function"))
    (ga24 : PySem.W.nsIn K mainGlobals "check_filled" = some (some (.ref a24)))
    (l24 : K.lookup a24 = some ⟨oc24, od24, .func (PySem.W.fnOf "check_filled" "check_filled" (defArgs s_check_filled) (defBody s_check_filled) (defScope s_check_filled) .none kV24 dc24 pm24 an24 cd24 ct24), sl24⟩) (c24 : PySem.W.codeIn K cd24 "check_filled" = true) (k24 : PySem.W.keepIn K (.ref a24) = true)
    (ga25 : PySem.W.nsIn K mainGlobals "oldest" = some (some (.ref a25)))
    (l25 : K.lookup a25 = some ⟨oc25, od25, .func (PySem.W.fnOf "oldest" "oldest" (defArgs s_oldest) (defBody s_oldest) (defScope s_oldest) .none kV25 dc25 pm25 an25 cd25 ct25), sl25⟩) (c25 : PySem.W.codeIn K cd25 "oldest" = true) (k25 : PySem.W.keepIn K (.ref a25) = true)
    (ga26 : PySem.W.nsIn K mainGlobals "without" = some (some (.ref a26)))
    (l26 : K.lookup a26 = some ⟨oc26, od26, .func (PySem.W.fnOf "without" "without" (defArgs s_without) (defBody s_without) (defScope s_without) .none kV26 dc26 pm26 an26 cd26 ct26), sl26⟩) (c26 : PySem.W.codeIn K cd26 "without" = true) (k26 : PySem.W.keepIn K (.ref a26) = true)
    (ga27 : PySem.W.nsIn K mainGlobals "join_entry" = some (some (.ref a27)))
    (l27 : K.lookup a27 = some ⟨oc27, od27, .func (PySem.W.fnOf "join_entry" "join_entry" (defArgs s_join_entry) (defBody s_join_entry) (defScope s_join_entry) .none kV27 dc27 pm27 an27 cd27 ct27), sl27⟩) (c27 : PySem.W.codeIn K cd27 "join_entry" = true) (k27 : PySem.W.keepIn K (.ref a27) = true)
    (ga28 : PySem.W.nsIn K mainGlobals "single" = some (some (.ref a28)))
    (l28 : K.lookup a28 = some ⟨oc28, od28, .func (PySem.W.fnOf "single" "single" (defArgs s_single) (defBody s_single) (defScope s_single) .none kV28 dc28 pm28 an28 cd28 ct28), sl28⟩) (c28 : PySem.W.codeIn K cd28 "single" = true) (k28 : PySem.W.keepIn K (.ref a28) = true)
    (ga29 : PySem.W.nsIn K mainGlobals "span_length" = some (some (.ref a29)))
    (l29 : K.lookup a29 = some ⟨oc29, od29, .func (PySem.W.fnOf "span_length" "span_length" (defArgs s_span_length) (defBody s_span_length) (defScope s_span_length) .none kV29 dc29 pm29 an29 cd29 ct29), sl29⟩) (c29 : PySem.W.codeIn K cd29 "span_length" = true) (k29 : PySem.W.keepIn K (.ref a29) = true)
    (ga30 : PySem.W.nsIn K mainGlobals "extended" = some (some (.ref a30)))
    (l30 : K.lookup a30 = some ⟨oc30, od30, .func (PySem.W.fnOf "extended" "extended" (defArgs s_extended) (defBody s_extended) (defScope s_extended) .none kV30 dc30 pm30 an30 cd30 ct30), sl30⟩) (c30 : PySem.W.codeIn K cd30 "extended" = true) (k30 : PySem.W.keepIn K (.ref a30) = true)
    (ga31 : PySem.W.nsIn K mainGlobals "deepened" = some (some (.ref a31)))
    (l31 : K.lookup a31 = some ⟨oc31, od31, .func (PySem.W.fnOf "deepened" "deepened" (defArgs s_deepened) (defBody s_deepened) (defScope s_deepened) .none kV31 dc31 pm31 an31 cd31 ct31), sl31⟩) (c31 : PySem.W.codeIn K cd31 "deepened" = true) (k31 : PySem.W.keepIn K (.ref a31) = true)
    (ga32 : PySem.W.nsIn K mainGlobals "all_spans" = some (some (.ref a32)))
    (l32 : K.lookup a32 = some ⟨oc32, od32, .func (PySem.W.fnOf "all_spans" "all_spans" (defArgs s_all_spans) (defBody s_all_spans) (defScope s_all_spans) .none kV32 dc32 pm32 an32 cd32 ct32), sl32⟩) (c32 : PySem.W.codeIn K cd32 "all_spans" = true) (k32 : PySem.W.keepIn K (.ref a32) = true)
    (ga33 : PySem.W.nsIn K mainGlobals "whole_span" = some (some (.ref a33)))
    (l33 : K.lookup a33 = some ⟨oc33, od33, .func (PySem.W.fnOf "whole_span" "whole_span" (defArgs s_whole_span) (defBody s_whole_span) (defScope s_whole_span) .none kV33 dc33 pm33 an33 cd33 ct33), sl33⟩) (c33 : PySem.W.codeIn K cd33 "whole_span" = true) (k33 : PySem.W.keepIn K (.ref a33) = true)
    (ga34 : PySem.W.nsIn K mainGlobals "shape_after_addition" = some (some (.ref a34)))
    (l34 : K.lookup a34 = some ⟨oc34, od34, .func (PySem.W.fnOf "shape_after_addition" "shape_after_addition" (defArgs s_shape_after_addition) (defBody s_shape_after_addition) (defScope s_shape_after_addition) .none kV34 dc34 pm34 an34 cd34 ct34), sl34⟩) (c34 : PySem.W.codeIn K cd34 "shape_after_addition" = true) (k34 : PySem.W.keepIn K (.ref a34) = true)
    (ga35 : PySem.W.nsIn K mainGlobals "shape_after_removal" = some (some (.ref a35)))
    (l35 : K.lookup a35 = some ⟨oc35, od35, .func (PySem.W.fnOf "shape_after_removal" "shape_after_removal" (defArgs s_shape_after_removal) (defBody s_shape_after_removal) (defScope s_shape_after_removal) .none kV35 dc35 pm35 an35 cd35 ct35), sl35⟩) (c35 : PySem.W.codeIn K cd35 "shape_after_removal" = true) (k35 : PySem.W.keepIn K (.ref a35) = true)
    (ga36 : PySem.W.nsIn K mainGlobals "worked_shape" = some (some (.ref a36)))
    (l36 : K.lookup a36 = some ⟨oc36, od36, .func (PySem.W.fnOf "worked_shape" "worked_shape" (defArgs s_worked_shape) (defBody s_worked_shape) (defScope s_worked_shape) .none kV36 dc36 pm36 an36 cd36 ct36), sl36⟩) (c36 : PySem.W.codeIn K cd36 "worked_shape" = true) (k36 : PySem.W.keepIn K (.ref a36) = true)
    (ga37 : PySem.W.nsIn K mainGlobals "reaches" = some (some (.ref a37)))
    (l37 : K.lookup a37 = some ⟨oc37, od37, .func (PySem.W.fnOf "reaches" "reaches" (defArgs s_reaches) (defBody s_reaches) (defScope s_reaches) .none kV37 dc37 pm37 an37 cd37 ct37), sl37⟩) (c37 : PySem.W.codeIn K cd37 "reaches" = true) (k37 : PySem.W.keepIn K (.ref a37) = true)
    (ga38 : PySem.W.nsIn K mainGlobals "shape_spans" = some (some (.ref a38)))
    (l38 : K.lookup a38 = some ⟨oc38, od38, .func (PySem.W.fnOf "shape_spans" "shape_spans" (defArgs s_shape_spans) (defBody s_shape_spans) (defScope s_shape_spans) .none kV38 dc38 pm38 an38 cd38 ct38), sl38⟩) (c38 : PySem.W.codeIn K cd38 "shape_spans" = true) (k38 : PySem.W.keepIn K (.ref a38) = true)
    (ga39 : PySem.W.nsIn K mainGlobals "filled_spans" = some (some (.ref a39)))
    (l39 : K.lookup a39 = some ⟨oc39, od39, .func (PySem.W.fnOf "filled_spans" "filled_spans" (defArgs s_filled_spans) (defBody s_filled_spans) (defScope s_filled_spans) .none kV39 dc39 pm39 an39 cd39 ct39), sl39⟩) (c39 : PySem.W.codeIn K cd39 "filled_spans" = true) (k39 : PySem.W.keepIn K (.ref a39) = true)
    (ga40 : PySem.W.nsIn K mainGlobals "_law_bag" = some (some (.ref a40)))
    (l40 : K.lookup a40 = some ⟨oc40, od40, .func (PySem.W.fnOf "_law_bag" "_law_bag" (defArgs s_l_bag) (defBody s_l_bag) (defScope s_l_bag) .none kV40 dc40 pm40 an40 cd40 ct40), sl40⟩) (c40 : PySem.W.codeIn K cd40 "_law_bag" = true) (k40 : PySem.W.keepIn K (.ref a40) = true)
    (ga41 : PySem.W.nsIn K mainGlobals "_law_take" = some (some (.ref a41)))
    (l41 : K.lookup a41 = some ⟨oc41, od41, .func (PySem.W.fnOf "_law_take" "_law_take" (defArgs s_l_take) (defBody s_l_take) (defScope s_l_take) .none kV41 dc41 pm41 an41 cd41 ct41), sl41⟩) (c41 : PySem.W.codeIn K cd41 "_law_take" = true) (k41 : PySem.W.keepIn K (.ref a41) = true)
    (ga42 : PySem.W.nsIn K mainGlobals "_law_queue" = some (some (.ref a42)))
    (l42 : K.lookup a42 = some ⟨oc42, od42, .func (PySem.W.fnOf "_law_queue" "_law_queue" (defArgs s_l_queue) (defBody s_l_queue) (defScope s_l_queue) .none kV42 dc42 pm42 an42 cd42 ct42), sl42⟩) (c42 : PySem.W.codeIn K cd42 "_law_queue" = true) (k42 : PySem.W.keepIn K (.ref a42) = true)
    (ga43 : PySem.W.nsIn K mainGlobals "_law_new_model" = some (some (.ref a43)))
    (l43 : K.lookup a43 = some ⟨oc43, od43, .func (PySem.W.fnOf "_law_new_model" "_law_new_model" (defArgs s_l_new_model) (defBody s_l_new_model) (defScope s_l_new_model) .none kV43 dc43 pm43 an43 cd43 ct43), sl43⟩) (c43 : PySem.W.codeIn K cd43 "_law_new_model" = true) (k43 : PySem.W.keepIn K (.ref a43) = true)
    (ga44 : PySem.W.nsIn K mainGlobals "_law_added" = some (some (.ref a44)))
    (l44 : K.lookup a44 = some ⟨oc44, od44, .func (PySem.W.fnOf "_law_added" "_law_added" (defArgs s_l_added) (defBody s_l_added) (defScope s_l_added) .none kV44 dc44 pm44 an44 cd44 ct44), sl44⟩) (c44 : PySem.W.codeIn K cd44 "_law_added" = true) (k44 : PySem.W.keepIn K (.ref a44) = true)
    (ga45 : PySem.W.nsIn K mainGlobals "_law_removed" = some (some (.ref a45)))
    (l45 : K.lookup a45 = some ⟨oc45, od45, .func (PySem.W.fnOf "_law_removed" "_law_removed" (defArgs s_l_removed) (defBody s_l_removed) (defScope s_l_removed) .none kV45 dc45 pm45 an45 cd45 ct45), sl45⟩) (c45 : PySem.W.codeIn K cd45 "_law_removed" = true) (k45 : PySem.W.keepIn K (.ref a45) = true)
    (ga46 : PySem.W.nsIn K mainGlobals "_law_stepped" = some (some (.ref a46)))
    (l46 : K.lookup a46 = some ⟨oc46, od46, .func (PySem.W.fnOf "_law_stepped" "_law_stepped" (defArgs s_l_stepped) (defBody s_l_stepped) (defScope s_l_stepped) .none kV46 dc46 pm46 an46 cd46 ct46), sl46⟩) (c46 : PySem.W.codeIn K cd46 "_law_stepped" = true) (k46 : PySem.W.keepIn K (.ref a46) = true)
    (ga47 : PySem.W.nsIn K mainGlobals "_law_summed" = some (some (.ref a47)))
    (l47 : K.lookup a47 = some ⟨oc47, od47, .func (PySem.W.fnOf "_law_summed" "_law_summed" (defArgs s_l_summed) (defBody s_l_summed) (defScope s_l_summed) .none kV47 dc47 pm47 an47 cd47 ct47), sl47⟩) (c47 : PySem.W.codeIn K cd47 "_law_summed" = true) (k47 : PySem.W.keepIn K (.ref a47) = true)
    (ga48 : PySem.W.nsIn K mainGlobals "_law_noting" = some (some (.ref a48)))
    (l48 : K.lookup a48 = some ⟨oc48, od48, .func (PySem.W.fnOf "_law_noting" "_law_noting" (defArgs s_l_noting) (defBody s_l_noting) (defScope s_l_noting) .none kV48 dc48 pm48 an48 cd48 ct48), sl48⟩) (c48 : PySem.W.codeIn K cd48 "_law_noting" = true) (k48 : PySem.W.keepIn K (.ref a48) = true)
    (ga49 : PySem.W.nsIn K mainGlobals "_law_range" = some (some (.ref a49)))
    (l49 : K.lookup a49 = some ⟨oc49, od49, .func (PySem.W.fnOf "_law_range" "_law_range" (defArgs s_l_range) (defBody s_l_range) (defScope s_l_range) .none kV49 dc49 pm49 an49 cd49 ct49), sl49⟩) (c49 : PySem.W.codeIn K cd49 "_law_range" = true) (k49 : PySem.W.keepIn K (.ref a49) = true)
    (ga50 : PySem.W.nsIn K mainGlobals "_law_call" = some (some (.ref a50)))
    (l50 : K.lookup a50 = some ⟨oc50, od50, .func (PySem.W.fnOf "_law_call" "_law_call" (defArgs s_l_call) (defBody s_l_call) (defScope s_l_call) .none kV50 dc50 pm50 an50 cd50 ct50), sl50⟩) (c50 : PySem.W.codeIn K cd50 "_law_call" = true) (k50 : PySem.W.keepIn K (.ref a50) = true)
    (ga51 : PySem.W.nsIn K mainGlobals "_law_right" = some (some (.ref a51)))
    (l51 : K.lookup a51 = some ⟨oc51, od51, .func (PySem.W.fnOf "_law_right" "_law_right" (defArgs s_l_right) (defBody s_l_right) (defScope s_l_right) .none kV51 dc51 pm51 an51 (.ref cc51) ct51), sl51⟩) (c51 : PySem.W.codeIn K (.ref cc51) "_law_right" = true) (k51 : PySem.W.keepIn K (.ref a51) = true)
    (tl51 : K.lookup cc51 = some ⟨lo51, ld51, .fields lv51, ls51⟩) (tp51 : lv51[11]? = some (.ref pp51)) (tn51 : K.lookup pp51 = none) (tr51 : (PyProof.Rows.recsOf QQ).any (fun d => d.name == "_law_right") = true)
    (ga52 : PySem.W.nsIn K mainGlobals "law" = some (some (.ref a52)))
    (l52 : K.lookup a52 = some ⟨oc52, od52, .func (PySem.W.fnOf "law" "law" (defArgs s_law) (defBody s_law) (defScope s_law) .none kV52 dc52 pm52 an52 cd52 ct52), sl52⟩) (c52 : PySem.W.codeIn K cd52 "law" = true) (k52 : PySem.W.keepIn K (.ref a52) = true)
    (z_abs : PySem.W.nsIn K mainGlobals "abs" = some none)
    (z_enumerate : PySem.W.nsIn K mainGlobals "enumerate" = some none)
    (z_int : PySem.W.nsIn K mainGlobals "int" = some none)
    (z_iter : PySem.W.nsIn K mainGlobals "iter" = some none)
    (z_len : PySem.W.nsIn K mainGlobals "len" = some none)
    (z_list : PySem.W.nsIn K mainGlobals "list" = some none)
    (z_max : PySem.W.nsIn K mainGlobals "max" = some none)
    (z_min : PySem.W.nsIn K mainGlobals "min" = some none)
    (z_next : PySem.W.nsIn K mainGlobals "next" = some none)
    (z_range : PySem.W.nsIn K mainGlobals "range" = some none)
    (z_reversed : PySem.W.nsIn K mainGlobals "reversed" = some none)
    (z_sum : PySem.W.nsIn K mainGlobals "sum" = some none)
    (z_tuple : PySem.W.nsIn K mainGlobals "tuple" = some none)
    (z_zip : PySem.W.nsIn K mainGlobals "zip" = some none)
    (pg_Calls : PySem.W.plainGet K C_Calls Str.empty = true)
    (hd_Calls : PySem.W.hasDictIn K C_Calls = true)
    (po_Calls : PySem.W.plainOver K C_Calls = true)
    (sa_Calls : PySem.W.findIn K (.ref C_Calls) "__setattr__" = some (some (.builtin "object.__setattr__")))
    (mk_Calls : PySem.W.makesIn K C_Calls = true)
    (kp_Calls : PySem.W.keepIn K (.ref C_Calls) = true)
    (n_Calls_entries : PySem.W.findIn K (.ref C_Calls) "entries" = some none)
    (n_Calls_running : PySem.W.findIn K (.ref C_Calls) "running" = some none)
    (pg_Joiner : PySem.W.plainGet K C_Joiner Str.empty = true)
    (hd_Joiner : PySem.W.hasDictIn K C_Joiner = true)
    (po_Joiner : PySem.W.plainOver K C_Joiner = true)
    (sa_Joiner : PySem.W.findIn K (.ref C_Joiner) "__setattr__" = some (some (.builtin "object.__setattr__")))
    (mk_Joiner : PySem.W.makesIn K C_Joiner = true)
    (kp_Joiner : PySem.W.keepIn K (.ref C_Joiner) = true)
    (n_Joiner_calls : PySem.W.findIn K (.ref C_Joiner) "calls" = some none)
    (n_Joiner_join_call : PySem.W.findIn K (.ref C_Joiner) "join_call" = some none)
    (pg_Planner : PySem.W.plainGet K C_Planner Str.empty = true)
    (hd_Planner : PySem.W.hasDictIn K C_Planner = true)
    (po_Planner : PySem.W.plainOver K C_Planner = true)
    (sa_Planner : PySem.W.findIn K (.ref C_Planner) "__setattr__" = some (some (.builtin "object.__setattr__")))
    (mk_Planner : PySem.W.makesIn K C_Planner = true)
    (kp_Planner : PySem.W.keepIn K (.ref C_Planner) = true)
    (n_Planner_entries : PySem.W.findIn K (.ref C_Planner) "entries" = some none)
    (pg_EvenSums : PySem.W.plainGet K C_EvenSums Str.empty = true)
    (hd_EvenSums : PySem.W.hasDictIn K C_EvenSums = true)
    (po_EvenSums : PySem.W.plainOver K C_EvenSums = true)
    (sa_EvenSums : PySem.W.findIn K (.ref C_EvenSums) "__setattr__" = some (some (.builtin "object.__setattr__")))
    (mk_EvenSums : PySem.W.makesIn K C_EvenSums = true)
    (kp_EvenSums : PySem.W.keepIn K (.ref C_EvenSums) = true)
    (n_EvenSums_calls : PySem.W.findIn K (.ref C_EvenSums) "calls" = some none)
    (n_EvenSums_joiner : PySem.W.findIn K (.ref C_EvenSums) "joiner" = some none)
    (n_EvenSums_zero : PySem.W.findIn K (.ref C_EvenSums) "zero" = some none)
    (n_EvenSums_given : PySem.W.findIn K (.ref C_EvenSums) "given" = some none)
    (n_EvenSums_held : PySem.W.findIn K (.ref C_EvenSums) "held" = some none)
    (n_EvenSums_shape : PySem.W.findIn K (.ref C_EvenSums) "shape" = some none)
    (pg_Shape : PySem.W.plainGet K C_Shape Str.empty = true)
    (hd_Shape : PySem.W.hasDictIn K C_Shape = true)
    (po_Shape : PySem.W.plainOver K C_Shape = true)
    (sa_Shape : PySem.W.findIn K (.ref C_Shape) "__setattr__" = some (some (.builtin "object.__setattr__")))
    (mk_Shape : PySem.W.makesIn K C_Shape = true)
    (kp_Shape : PySem.W.keepIn K (.ref C_Shape) = true)
    (n_Shape_front : PySem.W.findIn K (.ref C_Shape) "front" = some none)
    (n_Shape_back : PySem.W.findIn K (.ref C_Shape) "back" = some none)
    (n_Shape_late : PySem.W.findIn K (.ref C_Shape) "late" = some none)
    (n_Shape_renewed : PySem.W.findIn K (.ref C_Shape) "renewed" = some none)
    (pg_TwoStacks : PySem.W.plainGet K C_TwoStacks Str.empty = true)
    (hd_TwoStacks : PySem.W.hasDictIn K C_TwoStacks = true)
    (po_TwoStacks : PySem.W.plainOver K C_TwoStacks = true)
    (sa_TwoStacks : PySem.W.findIn K (.ref C_TwoStacks) "__setattr__" = some (some (.builtin "object.__setattr__")))
    (mk_TwoStacks : PySem.W.makesIn K C_TwoStacks = true)
    (kp_TwoStacks : PySem.W.keepIn K (.ref C_TwoStacks) = true)
    (n_TwoStacks_calls : PySem.W.findIn K (.ref C_TwoStacks) "calls" = some none)
    (n_TwoStacks_joiner : PySem.W.findIn K (.ref C_TwoStacks) "joiner" = some none)
    (n_TwoStacks_zero : PySem.W.findIn K (.ref C_TwoStacks) "zero" = some none)
    (n_TwoStacks_given : PySem.W.findIn K (.ref C_TwoStacks) "given" = some none)
    (n_TwoStacks_held : PySem.W.findIn K (.ref C_TwoStacks) "held" = some none)
    (n_TwoStacks_front : PySem.W.findIn K (.ref C_TwoStacks) "front" = some none)
    (n_TwoStacks_back : PySem.W.findIn K (.ref C_TwoStacks) "back" = some none) : Inf.LawAtG l w K CX0 40 63 "_law_script" mg fa h := by
  have e := hfa.symm.trans (PySem.W.mg_of X G ga52)
  cases e
  have F0 := fun_mk (st := s_Calls_init) l0 c0 k0
  have F1 := fun_mk (st := s_Calls_check) l1 c1 k1
  have F2 := fun_mk (st := s_Calls_run) l2 c2 k2
  have F3 := fun_mk (st := s_Joiner_init) l3 c3 k3
  have F4 := fun_mk (st := s_Joiner_joined) l4 c4 k4
  have F5 := fun_mk (st := s_Planner_init) l5 c5 k5
  have F6 := fun_mk (st := s_Planner_joined) l6 c6 k6
  have F7 : FunD K "__init__" "TwoStacks.__init__" (defArgs s_TwoStacks_init) (defBody s_TwoStacks_init) (defScope s_TwoStacks_init) [] [("zero", V.non)] a7 _ := ⟨⟨_, _, _, _, _, _, _, _, _, _, rfl, l7, c7, .inl ⟨rfl, rfl⟩, .inr ⟨kd7, rfl, fun q hq => by
      rcases List.mem_singleton.mp hq with rfl
      exact ⟨_, kw7_0, rfl⟩⟩⟩, k7⟩
  have F8 := fun_mk (st := s_TwoStacks_add) l8 c8 k8
  have F9 := fun_mk (st := s_TwoStacks_remove_oldest) l9 c9 k9
  have F10 := fun_mk (st := s_TwoStacks_total) l10 c10 k10
  have F11 := fun_mk (st := s_TwoStacks_plan_add) l11 c11 k11
  have F12 := fun_mk (st := s_TwoStacks_plan_remove) l12 c12 k12
  have F13 := fun_mk (st := s_TwoStacks_plan_total) l13 c13 k13
  have F14 := fun_mk (st := s_TwoStacks_log) l14 c14 k14
  have F15 : FunD K "__init__" "EvenSums.__init__" (defArgs s_EvenSums_init) (defBody s_EvenSums_init) (defScope s_EvenSums_init) [] [("zero", V.non)] a15 _ := ⟨⟨_, _, _, _, _, _, _, _, _, _, rfl, l15, c15, .inl ⟨rfl, rfl⟩, .inr ⟨kd15, rfl, fun q hq => by
      rcases List.mem_singleton.mp hq with rfl
      exact ⟨_, kw15_0, rfl⟩⟩⟩, k15⟩
  have F16 := fun_mk (st := s_EvenSums_add) l16 c16 k16
  have F17 := fun_mk (st := s_EvenSums_remove_oldest) l17 c17 k17
  have F18 := fun_mk (st := s_EvenSums_total) l18 c18 k18
  have F19 := fun_mk (st := s_EvenSums_plan_add) l19 c19 k19
  have F20 := fun_mk (st := s_EvenSums_plan_remove) l20 c20 k20
  have F21 := fun_mk (st := s_EvenSums_plan_total) l21 c21 k21
  have F22 := fun_mk (st := s_EvenSums_log) l22 c22 k22
  have F23 := fun_mk (st := s_Shape_init) l23 c23 k23
  have F24 := fun_mk (st := s_check_filled) l24 c24 k24
  have F25 := fun_mk (st := s_oldest) l25 c25 k25
  have F26 := fun_mk (st := s_without) l26 c26 k26
  have F27 := fun_mk (st := s_join_entry) l27 c27 k27
  have F28 := fun_mk (st := s_single) l28 c28 k28
  have F29 := fun_mk (st := s_span_length) l29 c29 k29
  have F30 := fun_mk (st := s_extended) l30 c30 k30
  have F31 := fun_mk (st := s_deepened) l31 c31 k31
  have F32 := fun_mk (st := s_all_spans) l32 c32 k32
  have F33 := fun_mk (st := s_whole_span) l33 c33 k33
  have F34 := fun_mk (st := s_shape_after_addition) l34 c34 k34
  have F35 := fun_mk (st := s_shape_after_removal) l35 c35 k35
  have F36 := fun_mk (st := s_worked_shape) l36 c36 k36
  have F37 := fun_mk (st := s_reaches) l37 c37 k37
  have F38 := fun_mk (st := s_shape_spans) l38 c38 k38
  have F39 := fun_mk (st := s_filled_spans) l39 c39 k39
  have F40 := fun_mk (st := s_l_bag) l40 c40 k40
  have F41 := fun_mk (st := s_l_take) l41 c41 k41
  have F42 := fun_mk (st := s_l_queue) l42 c42 k42
  have F43 := fun_mk (st := s_l_new_model) l43 c43 k43
  have F44 := fun_mk (st := s_l_added) l44 c44 k44
  have F45 := fun_mk (st := s_l_removed) l45 c45 k45
  have F46 := fun_mk (st := s_l_stepped) l46 c46 k46
  have F47 := fun_mk (st := s_l_summed) l47 c47 k47
  have F48 := fun_mk (st := s_l_noting) l48 c48 k48
  have F49 := fun_mk (st := s_l_range) l49 c49 k49
  have F50 := fun_mk (st := s_l_call) l50 c50 k50
  have F51 : FunT K "_law_right" "_law_right" s_l_right a51 _ cc51 := ⟨⟨_, _, _, _, _, _, _, _, rfl, l51, c51⟩, k51⟩
  have B51 : Binds K _ ["_law_bag_here", "_law_form"] [] := .all (fd := PySem.W.fnOf "_law_right" "_law_right" (defArgs s_l_right) (defBody s_l_right) (defScope s_l_right) .none kV51 dc51 pm51 an51 (.ref cc51) ct51) fun us hl => match us, hl with | [_, _], _ => rfl
  have F52 := fun_mk (st := s_law) l52 c52 k52
  have T51 := tt "_law_right" a51 cc51 pp51 _ _ _ _ _ _ tr51 (PySem.W.mg_of X G ga51) l51 rfl rfl tl51 tp51
  let T : Txt K mg := {
    C_Calls := C_Calls,
    gc_Calls := PySem.W.mg_of X G gc_Calls,
    C_Joiner := C_Joiner,
    gc_Joiner := PySem.W.mg_of X G gc_Joiner,
    C_Planner := C_Planner,
    gc_Planner := PySem.W.mg_of X G gc_Planner,
    C_EvenSums := C_EvenSums,
    gc_EvenSums := PySem.W.mg_of X G gc_EvenSums,
    C_Shape := C_Shape,
    gc_Shape := PySem.W.mg_of X G gc_Shape,
    C_TwoStacks := C_TwoStacks,
    gc_TwoStacks := PySem.W.mg_of X G gc_TwoStacks,
    f_Calls_init := a0,
    d_Calls_init := _,
    F_Calls_init := F0,
    b_Calls_init := (F0.binds (ps := ["self"]) fun _ _ _ _ _ _ us hl => match us, hl with | [_], _ => rfl),
    m_Calls_init := ma0,
    t_Calls_init := mt0,
    y_Calls_init := my0,
    k_Calls_init := k0,
    f_Calls_check := a1,
    d_Calls_check := _,
    F_Calls_check := F1,
    b_Calls_check := (F1.binds (ps := ["self"]) fun _ _ _ _ _ _ us hl => match us, hl with | [_], _ => rfl),
    m_Calls_check := ma1,
    t_Calls_check := mt1,
    y_Calls_check := my1,
    k_Calls_check := k1,
    f_Calls_run := a2,
    d_Calls_run := _,
    F_Calls_run := F2,
    m_Calls_run := ma2,
    t_Calls_run := mt2,
    y_Calls_run := my2,
    k_Calls_run := k2,
    f_Joiner_init := a3,
    d_Joiner_init := _,
    F_Joiner_init := F3,
    b_Joiner_init := (F3.binds (ps := ["self", "calls", "join"]) fun _ _ _ _ _ _ us hl => match us, hl with | [_, _, _], _ => rfl),
    m_Joiner_init := ma3,
    t_Joiner_init := mt3,
    y_Joiner_init := my3,
    k_Joiner_init := k3,
    f_Joiner_joined := a4,
    d_Joiner_joined := _,
    F_Joiner_joined := F4,
    b_Joiner_joined := (F4.binds (ps := ["self", "one", "other"]) fun _ _ _ _ _ _ us hl => match us, hl with | [_, _, _], _ => rfl),
    m_Joiner_joined := ma4,
    t_Joiner_joined := mt4,
    y_Joiner_joined := my4,
    k_Joiner_joined := k4,
    f_Planner_init := a5,
    d_Planner_init := _,
    F_Planner_init := F5,
    b_Planner_init := (F5.binds (ps := ["self"]) fun _ _ _ _ _ _ us hl => match us, hl with | [_], _ => rfl),
    m_Planner_init := ma5,
    t_Planner_init := mt5,
    y_Planner_init := my5,
    k_Planner_init := k5,
    f_Planner_joined := a6,
    d_Planner_joined := _,
    F_Planner_joined := F6,
    b_Planner_joined := (F6.binds (ps := ["self", "one", "other"]) fun _ _ _ _ _ _ us hl => match us, hl with | [_, _, _], _ => rfl),
    m_Planner_joined := ma6,
    t_Planner_joined := mt6,
    y_Planner_joined := my6,
    k_Planner_joined := k6,
    f_TwoStacks_init := a7,
    d_TwoStacks_init := _,
    F_TwoStacks_init := F7,
    m_TwoStacks_init := ma7,
    t_TwoStacks_init := mt7,
    y_TwoStacks_init := my7,
    k_TwoStacks_init := k7,
    f_TwoStacks_add := a8,
    d_TwoStacks_add := _,
    F_TwoStacks_add := F8,
    b_TwoStacks_add := (F8.binds (ps := ["self", "member"]) fun _ _ _ _ _ _ us hl => match us, hl with | [_, _], _ => rfl),
    m_TwoStacks_add := ma8,
    t_TwoStacks_add := mt8,
    y_TwoStacks_add := my8,
    k_TwoStacks_add := k8,
    f_TwoStacks_remove_oldest := a9,
    d_TwoStacks_remove_oldest := _,
    F_TwoStacks_remove_oldest := F9,
    b_TwoStacks_remove_oldest := (F9.binds (ps := ["self"]) fun _ _ _ _ _ _ us hl => match us, hl with | [_], _ => rfl),
    m_TwoStacks_remove_oldest := ma9,
    t_TwoStacks_remove_oldest := mt9,
    y_TwoStacks_remove_oldest := my9,
    k_TwoStacks_remove_oldest := k9,
    f_TwoStacks_total := a10,
    d_TwoStacks_total := _,
    F_TwoStacks_total := F10,
    b_TwoStacks_total := (F10.binds (ps := ["self"]) fun _ _ _ _ _ _ us hl => match us, hl with | [_], _ => rfl),
    m_TwoStacks_total := ma10,
    t_TwoStacks_total := mt10,
    y_TwoStacks_total := my10,
    k_TwoStacks_total := k10,
    f_TwoStacks_plan_add := a11,
    d_TwoStacks_plan_add := _,
    F_TwoStacks_plan_add := F11,
    b_TwoStacks_plan_add := (F11.binds (ps := ["self"]) fun _ _ _ _ _ _ us hl => match us, hl with | [_], _ => rfl),
    m_TwoStacks_plan_add := ma11,
    t_TwoStacks_plan_add := mt11,
    y_TwoStacks_plan_add := my11,
    k_TwoStacks_plan_add := k11,
    f_TwoStacks_plan_remove := a12,
    d_TwoStacks_plan_remove := _,
    F_TwoStacks_plan_remove := F12,
    b_TwoStacks_plan_remove := (F12.binds (ps := ["self"]) fun _ _ _ _ _ _ us hl => match us, hl with | [_], _ => rfl),
    m_TwoStacks_plan_remove := ma12,
    t_TwoStacks_plan_remove := mt12,
    y_TwoStacks_plan_remove := my12,
    k_TwoStacks_plan_remove := k12,
    f_TwoStacks_plan_total := a13,
    d_TwoStacks_plan_total := _,
    F_TwoStacks_plan_total := F13,
    b_TwoStacks_plan_total := (F13.binds (ps := ["self"]) fun _ _ _ _ _ _ us hl => match us, hl with | [_], _ => rfl),
    m_TwoStacks_plan_total := ma13,
    t_TwoStacks_plan_total := mt13,
    y_TwoStacks_plan_total := my13,
    k_TwoStacks_plan_total := k13,
    f_TwoStacks_log := a14,
    d_TwoStacks_log := _,
    F_TwoStacks_log := F14,
    b_TwoStacks_log := (F14.binds (ps := ["self"]) fun _ _ _ _ _ _ us hl => match us, hl with | [_], _ => rfl),
    m_TwoStacks_log := ma14,
    t_TwoStacks_log := mt14,
    y_TwoStacks_log := my14,
    k_TwoStacks_log := k14,
    f_EvenSums_init := a15,
    d_EvenSums_init := _,
    F_EvenSums_init := F15,
    m_EvenSums_init := ma15,
    t_EvenSums_init := mt15,
    y_EvenSums_init := my15,
    k_EvenSums_init := k15,
    f_EvenSums_add := a16,
    d_EvenSums_add := _,
    F_EvenSums_add := F16,
    b_EvenSums_add := (F16.binds (ps := ["self", "member"]) fun _ _ _ _ _ _ us hl => match us, hl with | [_, _], _ => rfl),
    m_EvenSums_add := ma16,
    t_EvenSums_add := mt16,
    y_EvenSums_add := my16,
    k_EvenSums_add := k16,
    f_EvenSums_remove_oldest := a17,
    d_EvenSums_remove_oldest := _,
    F_EvenSums_remove_oldest := F17,
    b_EvenSums_remove_oldest := (F17.binds (ps := ["self"]) fun _ _ _ _ _ _ us hl => match us, hl with | [_], _ => rfl),
    m_EvenSums_remove_oldest := ma17,
    t_EvenSums_remove_oldest := mt17,
    y_EvenSums_remove_oldest := my17,
    k_EvenSums_remove_oldest := k17,
    f_EvenSums_total := a18,
    d_EvenSums_total := _,
    F_EvenSums_total := F18,
    b_EvenSums_total := (F18.binds (ps := ["self"]) fun _ _ _ _ _ _ us hl => match us, hl with | [_], _ => rfl),
    m_EvenSums_total := ma18,
    t_EvenSums_total := mt18,
    y_EvenSums_total := my18,
    k_EvenSums_total := k18,
    f_EvenSums_plan_add := a19,
    d_EvenSums_plan_add := _,
    F_EvenSums_plan_add := F19,
    b_EvenSums_plan_add := (F19.binds (ps := ["self"]) fun _ _ _ _ _ _ us hl => match us, hl with | [_], _ => rfl),
    m_EvenSums_plan_add := ma19,
    t_EvenSums_plan_add := mt19,
    y_EvenSums_plan_add := my19,
    k_EvenSums_plan_add := k19,
    f_EvenSums_plan_remove := a20,
    d_EvenSums_plan_remove := _,
    F_EvenSums_plan_remove := F20,
    b_EvenSums_plan_remove := (F20.binds (ps := ["self"]) fun _ _ _ _ _ _ us hl => match us, hl with | [_], _ => rfl),
    m_EvenSums_plan_remove := ma20,
    t_EvenSums_plan_remove := mt20,
    y_EvenSums_plan_remove := my20,
    k_EvenSums_plan_remove := k20,
    f_EvenSums_plan_total := a21,
    d_EvenSums_plan_total := _,
    F_EvenSums_plan_total := F21,
    b_EvenSums_plan_total := (F21.binds (ps := ["self"]) fun _ _ _ _ _ _ us hl => match us, hl with | [_], _ => rfl),
    m_EvenSums_plan_total := ma21,
    t_EvenSums_plan_total := mt21,
    y_EvenSums_plan_total := my21,
    k_EvenSums_plan_total := k21,
    f_EvenSums_log := a22,
    d_EvenSums_log := _,
    F_EvenSums_log := F22,
    b_EvenSums_log := (F22.binds (ps := ["self"]) fun _ _ _ _ _ _ us hl => match us, hl with | [_], _ => rfl),
    m_EvenSums_log := ma22,
    t_EvenSums_log := mt22,
    y_EvenSums_log := my22,
    k_EvenSums_log := k22,
    f_Shape_init := a23,
    d_Shape_init := _,
    F_Shape_init := F23,
    b_Shape_init := (F23.binds (ps := ["self", "front", "back", "late", "renewed"]) fun _ _ _ _ _ _ us hl => match us, hl with | [_, _, _, _, _], _ => rfl),
    m_Shape_init := ma23,
    t_Shape_init := mt23,
    y_Shape_init := my23,
    k_Shape_init := k23,
    f_check_filled := a24,
    d_check_filled := _,
    F_check_filled := F24,
    b_check_filled := (F24.binds (ps := ["held"]) fun _ _ _ _ _ _ us hl => match us, hl with | [_], _ => rfl),
    g_check_filled := PySem.W.mg_of X G ga24,
    f_oldest := a25,
    d_oldest := _,
    F_oldest := F25,
    b_oldest := (F25.binds (ps := ["held"]) fun _ _ _ _ _ _ us hl => match us, hl with | [_], _ => rfl),
    g_oldest := PySem.W.mg_of X G ga25,
    f_without := a26,
    d_without := _,
    F_without := F26,
    b_without := (F26.binds (ps := ["held", "numbers"]) fun _ _ _ _ _ _ us hl => match us, hl with | [_, _], _ => rfl),
    g_without := PySem.W.mg_of X G ga26,
    f_join_entry := a27,
    d_join_entry := _,
    F_join_entry := F27,
    b_join_entry := (F27.binds (ps := ["one", "other"]) fun _ _ _ _ _ _ us hl => match us, hl with | [_, _], _ => rfl),
    g_join_entry := PySem.W.mg_of X G ga27,
    f_single := a28,
    d_single := _,
    F_single := F28,
    b_single := (F28.binds (ps := ["number", "member"]) fun _ _ _ _ _ _ us hl => match us, hl with | [_, _], _ => rfl),
    g_single := PySem.W.mg_of X G ga28,
    f_span_length := a29,
    d_span_length := _,
    F_span_length := F29,
    b_span_length := (F29.binds (ps := ["span"]) fun _ _ _ _ _ _ us hl => match us, hl with | [_], _ => rfl),
    g_span_length := PySem.W.mg_of X G ga29,
    f_extended := a30,
    d_extended := _,
    F_extended := F30,
    b_extended := (F30.binds (ps := ["joiner", "span", "number", "member"]) fun _ _ _ _ _ _ us hl => match us, hl with | [_, _, _, _], _ => rfl),
    g_extended := PySem.W.mg_of X G ga30,
    f_deepened := a31,
    d_deepened := _,
    F_deepened := F31,
    b_deepened := (F31.binds (ps := ["joiner", "spans", "number", "member"]) fun _ _ _ _ _ _ us hl => match us, hl with | [_, _, _, _], _ => rfl),
    g_deepened := PySem.W.mg_of X G ga31,
    f_all_spans := a32,
    d_all_spans := _,
    F_all_spans := F32,
    b_all_spans := (F32.binds (ps := ["joiner", "held"]) fun _ _ _ _ _ _ us hl => match us, hl with | [_, _], _ => rfl),
    g_all_spans := PySem.W.mg_of X G ga32,
    f_whole_span := a33,
    d_whole_span := _,
    F_whole_span := F33,
    b_whole_span := (F33.binds (ps := ["joiner", "spans"]) fun _ _ _ _ _ _ us hl => match us, hl with | [_, _], _ => rfl),
    g_whole_span := PySem.W.mg_of X G ga33,
    f_shape_after_addition := a34,
    d_shape_after_addition := _,
    F_shape_after_addition := F34,
    b_shape_after_addition := (F34.binds (ps := ["joiner", "shape", "held", "number"]) fun _ _ _ _ _ _ us hl => match us, hl with | [_, _, _, _], _ => rfl),
    g_shape_after_addition := PySem.W.mg_of X G ga34,
    f_shape_after_removal := a35,
    d_shape_after_removal := _,
    F_shape_after_removal := F35,
    b_shape_after_removal := (F35.binds (ps := ["joiner", "shape", "held"]) fun _ _ _ _ _ _ us hl => match us, hl with | [_, _, _], _ => rfl),
    g_shape_after_removal := PySem.W.mg_of X G ga35,
    f_worked_shape := a36,
    d_worked_shape := _,
    F_worked_shape := F36,
    b_worked_shape := (F36.binds (ps := ["joiner", "shape", "held"]) fun _ _ _ _ _ _ us hl => match us, hl with | [_, _, _], _ => rfl),
    g_worked_shape := PySem.W.mg_of X G ga36,
    f_reaches := a37,
    d_reaches := _,
    F_reaches := F37,
    b_reaches := (F37.binds (ps := ["renewed", "number"]) fun _ _ _ _ _ _ us hl => match us, hl with | [_, _], _ => rfl),
    g_reaches := PySem.W.mg_of X G ga37,
    f_shape_spans := a38,
    d_shape_spans := _,
    F_shape_spans := F38,
    b_shape_spans := (F38.binds (ps := ["shape"]) fun _ _ _ _ _ _ us hl => match us, hl with | [_], _ => rfl),
    g_shape_spans := PySem.W.mg_of X G ga38,
    f_filled_spans := a39,
    d_filled_spans := _,
    F_filled_spans := F39,
    b_filled_spans := (F39.binds (ps := ["front", "backs"]) fun _ _ _ _ _ _ us hl => match us, hl with | [_, _], _ => rfl),
    g_filled_spans := PySem.W.mg_of X G ga39,
    f_l_bag := a40,
    d_l_bag := _,
    F_l_bag := F40,
    b_l_bag := (F40.binds (ps := ["_law_script", "_law_at"]) fun _ _ _ _ _ _ us hl => match us, hl with | [_, _], _ => rfl),
    g_l_bag := PySem.W.mg_of X G ga40,
    f_l_take := a41,
    d_l_take := _,
    F_l_take := F41,
    b_l_take := (F41.binds (ps := ["_law_bag_here", "_law_many"]) fun _ _ _ _ _ _ us hl => match us, hl with | [_, _], _ => rfl),
    g_l_take := PySem.W.mg_of X G ga41,
    f_l_queue := a42,
    d_l_queue := _,
    F_l_queue := F42,
    b_l_queue := (F42.binds (ps := ["_law_form", "_law_call_here", "_law_empty"]) fun _ _ _ _ _ _ us hl => match us, hl with | [_, _, _], _ => rfl),
    g_l_queue := PySem.W.mg_of X G ga42,
    f_l_new_model := a43,
    d_l_new_model := _,
    F_l_new_model := F43,
    b_l_new_model := (F43.binds (ps := []) fun _ _ _ _ _ _ us hl => match us, hl with | [], _ => rfl),
    g_l_new_model := PySem.W.mg_of X G ga43,
    f_l_added := a44,
    d_l_added := _,
    F_l_added := F44,
    b_l_added := (F44.binds (ps := ["_law_form", "_law_model", "_law_number"]) fun _ _ _ _ _ _ us hl => match us, hl with | [_, _, _], _ => rfl),
    g_l_added := PySem.W.mg_of X G ga44,
    f_l_removed := a45,
    d_l_removed := _,
    F_l_removed := F45,
    b_l_removed := (F45.binds (ps := ["_law_form", "_law_model"]) fun _ _ _ _ _ _ us hl => match us, hl with | [_, _], _ => rfl),
    g_l_removed := PySem.W.mg_of X G ga45,
    f_l_stepped := a46,
    d_l_stepped := _,
    F_l_stepped := F46,
    b_l_stepped := (F46.binds (ps := ["_law_form", "_law_model"]) fun _ _ _ _ _ _ us hl => match us, hl with | [_, _], _ => rfl),
    g_l_stepped := PySem.W.mg_of X G ga46,
    f_l_summed := a47,
    d_l_summed := _,
    F_l_summed := F47,
    b_l_summed := (F47.binds (ps := ["_law_model"]) fun _ _ _ _ _ _ us hl => match us, hl with | [_], _ => rfl),
    g_l_summed := PySem.W.mg_of X G ga47,
    f_l_noting := a48,
    d_l_noting := _,
    F_l_noting := F48,
    b_l_noting := (F48.binds (ps := ["_law_notes", "_law_one", "_law_other", "_law_odd"]) fun _ _ _ _ _ _ us hl => match us, hl with | [_, _, _, _], _ => rfl),
    g_l_noting := PySem.W.mg_of X G ga48,
    f_l_range := a49,
    d_l_range := _,
    F_l_range := F49,
    b_l_range := (F49.binds (ps := ["_law_first", "_law_end"]) fun _ _ _ _ _ _ us hl => match us, hl with | [_, _], _ => rfl),
    g_l_range := PySem.W.mg_of X G ga49,
    f_l_call := a50,
    d_l_call := _,
    F_l_call := F50,
    b_l_call := (F50.binds (ps := ["_law_queue_here", "_law_model", "_law_form", "_law_kind", "_law_number", "_law_thing"]) fun _ _ _ _ _ _ us hl => match us, hl with | [_, _, _, _, _, _], _ => rfl),
    g_l_call := PySem.W.mg_of X G ga50,
    f_l_right := a51,
    d_l_right := _,
    c_l_right := cc51,
    p_l_right := pp51,
    F_l_right := F51,
    b_l_right := B51,
    g_l_right := PySem.W.mg_of X G ga51,
    z_abs := PySem.W.mg_none_of X G z_abs,
    z_enumerate := PySem.W.mg_none_of X G z_enumerate,
    z_int := PySem.W.mg_none_of X G z_int,
    z_iter := PySem.W.mg_none_of X G z_iter,
    z_len := PySem.W.mg_none_of X G z_len,
    z_list := PySem.W.mg_none_of X G z_list,
    z_max := PySem.W.mg_none_of X G z_max,
    z_min := PySem.W.mg_none_of X G z_min,
    z_next := PySem.W.mg_none_of X G z_next,
    z_range := PySem.W.mg_none_of X G z_range,
    z_reversed := PySem.W.mg_none_of X G z_reversed,
    z_sum := PySem.W.mg_none_of X G z_sum,
    z_tuple := PySem.W.mg_none_of X G z_tuple,
    z_zip := PySem.W.mg_none_of X G z_zip,
    cl_Calls := ⟨pg_Calls, hd_Calls, po_Calls, sa_Calls⟩,
    mk_Calls := mk_Calls,
    kp_Calls := kp_Calls,
    n_Calls_entries := n_Calls_entries,
    n_Calls_running := n_Calls_running,
    cl_Joiner := ⟨pg_Joiner, hd_Joiner, po_Joiner, sa_Joiner⟩,
    mk_Joiner := mk_Joiner,
    kp_Joiner := kp_Joiner,
    n_Joiner_calls := n_Joiner_calls,
    n_Joiner_join_call := n_Joiner_join_call,
    cl_Planner := ⟨pg_Planner, hd_Planner, po_Planner, sa_Planner⟩,
    mk_Planner := mk_Planner,
    kp_Planner := kp_Planner,
    n_Planner_entries := n_Planner_entries,
    cl_EvenSums := ⟨pg_EvenSums, hd_EvenSums, po_EvenSums, sa_EvenSums⟩,
    mk_EvenSums := mk_EvenSums,
    kp_EvenSums := kp_EvenSums,
    n_EvenSums_calls := n_EvenSums_calls,
    n_EvenSums_joiner := n_EvenSums_joiner,
    n_EvenSums_zero := n_EvenSums_zero,
    n_EvenSums_given := n_EvenSums_given,
    n_EvenSums_held := n_EvenSums_held,
    n_EvenSums_shape := n_EvenSums_shape,
    cl_Shape := ⟨pg_Shape, hd_Shape, po_Shape, sa_Shape⟩,
    mk_Shape := mk_Shape,
    kp_Shape := kp_Shape,
    n_Shape_front := n_Shape_front,
    n_Shape_back := n_Shape_back,
    n_Shape_late := n_Shape_late,
    n_Shape_renewed := n_Shape_renewed,
    cl_TwoStacks := ⟨pg_TwoStacks, hd_TwoStacks, po_TwoStacks, sa_TwoStacks⟩,
    mk_TwoStacks := mk_TwoStacks,
    kp_TwoStacks := kp_TwoStacks,
    n_TwoStacks_calls := n_TwoStacks_calls,
    n_TwoStacks_joiner := n_TwoStacks_joiner,
    n_TwoStacks_zero := n_TwoStacks_zero,
    n_TwoStacks_given := n_TwoStacks_given,
    n_TwoStacks_held := n_TwoStacks_held,
    n_TwoStacks_front := n_TwoStacks_front,
    n_TwoStacks_back := n_TwoStacks_back }
  refine ⟨PySem.W.fnOf "law" "law" (defArgs s_law) (defBody s_law) (defScope s_law) .none kV52 dc52 pm52 an52 cd52 ct52, [(cc51, pp51)], spLaw T, (all_cons T51.2 (fun _ z => nomatch z)), (all_cons tn51 (fun _ z => nomatch z)), (all_cons T51.1 (fun _ z => nomatch z)), fun s v => .of_eq rfl, fun H a ns hl ht hS => ⟨a, ns, rfl, hS, hl, ht _ (List.mem_cons_self ..), fun _ => rfl⟩, fun base _ _ tb => Inf.FnOkG.of (ok_law T (tb _ (List.mem_cons_self ..)) F52)⟩
end Ob
open PySem PySem.W PyProof.Rows
set_option maxHeartbeats 0 in
theorem PySem.Challenge.cw_oncebuilt_k61_calls_of_join_holds : PySem.Challenge.rw_oncebuilt_k61_calls_of_join.Holds := by
  w_on; o_law; k_head; (case hw => w_witness2)
  k_fill
  refine Inf.walk_topG (l := PySem.Challenge.rw_oncebuilt_k61_calls_of_join) (n := 63) (k := 40) (x := "_law_script") (YP := _) (CX := fun _ => L2.CX0) rfl (by decide) rfl ⟨rfl, by decide, by decide⟩ (fun w h Y => by first | exact PySem.W.kIn_of Y | exact PySem.W.km_in_of Y) ?F (fun _ _ _ _ _ h => h)
  case F =>
    intro w mg fa h Y KX G hmg tt
    refine' Ob.all_mk KX G hmg tt ?gc_Calls ?gc_Joiner ?gc_Planner ?gc_EvenSums ?gc_Shape ?gc_TwoStacks ?ma0 ?l0 ?c0 ?k0 ?mt0 ?my0 ?ma1 ?l1 ?c1 ?k1 ?mt1 ?my1 ?ma2 ?l2 ?c2 ?k2 ?mt2 ?my2 ?ma3 ?l3 ?c3 ?k3 ?mt3 ?my3 ?ma4 ?l4 ?c4 ?k4 ?mt4 ?my4 ?ma5 ?l5 ?c5 ?k5 ?mt5 ?my5 ?ma6 ?l6 ?c6 ?k6 ?mt6 ?my6 ?ma7 ?l7 ?c7 ?k7 ?kw7_0 ?mt7 ?my7 ?ma8 ?l8 ?c8 ?k8 ?mt8 ?my8 ?ma9 ?l9 ?c9 ?k9 ?mt9 ?my9 ?ma10 ?l10 ?c10 ?k10 ?mt10 ?my10 ?ma11 ?l11 ?c11 ?k11 ?mt11 ?my11 ?ma12 ?l12 ?c12 ?k12 ?mt12 ?my12 ?ma13 ?l13 ?c13 ?k13 ?mt13 ?my13 ?ma14 ?l14 ?c14 ?k14 ?mt14 ?my14 ?ma15 ?l15 ?c15 ?k15 ?kw15_0 ?mt15 ?my15 ?ma16 ?l16 ?c16 ?k16 ?mt16 ?my16 ?ma17 ?l17 ?c17 ?k17 ?mt17 ?my17 ?ma18 ?l18 ?c18 ?k18 ?mt18 ?my18 ?ma19 ?l19 ?c19 ?k19 ?mt19 ?my19 ?ma20 ?l20 ?c20 ?k20 ?mt20 ?my20 ?ma21 ?l21 ?c21 ?k21 ?mt21 ?my21 ?ma22 ?l22 ?c22 ?k22 ?mt22 ?my22 ?ma23 ?l23 ?c23 ?k23 ?mt23 ?my23 ?ga24 ?l24 ?c24 ?k24 ?ga25 ?l25 ?c25 ?k25 ?ga26 ?l26 ?c26 ?k26 ?ga27 ?l27 ?c27 ?k27 ?ga28 ?l28 ?c28 ?k28 ?ga29 ?l29 ?c29 ?k29 ?ga30 ?l30 ?c30 ?k30 ?ga31 ?l31 ?c31 ?k31 ?ga32 ?l32 ?c32 ?k32 ?ga33 ?l33 ?c33 ?k33 ?ga34 ?l34 ?c34 ?k34 ?ga35 ?l35 ?c35 ?k35 ?ga36 ?l36 ?c36 ?k36 ?ga37 ?l37 ?c37 ?k37 ?ga38 ?l38 ?c38 ?k38 ?ga39 ?l39 ?c39 ?k39 ?ga40 ?l40 ?c40 ?k40 ?ga41 ?l41 ?c41 ?k41 ?ga42 ?l42 ?c42 ?k42 ?ga43 ?l43 ?c43 ?k43 ?ga44 ?l44 ?c44 ?k44 ?ga45 ?l45 ?c45 ?k45 ?ga46 ?l46 ?c46 ?k46 ?ga47 ?l47 ?c47 ?k47 ?ga48 ?l48 ?c48 ?k48 ?ga49 ?l49 ?c49 ?k49 ?ga50 ?l50 ?c50 ?k50 ?ga51 ?l51 ?c51 ?k51 ?tl51 ?tp51 ?tn51 ?tr51 ?ga52 ?l52 ?c52 ?k52 ?z_abs ?z_enumerate ?z_int ?z_iter ?z_len ?z_list ?z_max ?z_min ?z_next ?z_range ?z_reversed ?z_sum ?z_tuple ?z_zip ?pg_Calls ?hd_Calls ?po_Calls ?sa_Calls ?mk_Calls ?kp_Calls ?n_Calls_entries ?n_Calls_running ?pg_Joiner ?hd_Joiner ?po_Joiner ?sa_Joiner ?mk_Joiner ?kp_Joiner ?n_Joiner_calls ?n_Joiner_join_call ?pg_Planner ?hd_Planner ?po_Planner ?sa_Planner ?mk_Planner ?kp_Planner ?n_Planner_entries ?pg_EvenSums ?hd_EvenSums ?po_EvenSums ?sa_EvenSums ?mk_EvenSums ?kp_EvenSums ?n_EvenSums_calls ?n_EvenSums_joiner ?n_EvenSums_zero ?n_EvenSums_given ?n_EvenSums_held ?n_EvenSums_shape ?pg_Shape ?hd_Shape ?po_Shape ?sa_Shape ?mk_Shape ?kp_Shape ?n_Shape_front ?n_Shape_back ?n_Shape_late ?n_Shape_renewed ?pg_TwoStacks ?hd_TwoStacks ?po_TwoStacks ?sa_TwoStacks ?mk_TwoStacks ?kp_TwoStacks ?n_TwoStacks_calls ?n_TwoStacks_joiner ?n_TwoStacks_zero ?n_TwoStacks_given ?n_TwoStacks_held ?n_TwoStacks_front ?n_TwoStacks_back
    (case gc_Calls => k_is); (case gc_Joiner => k_is); (case gc_Planner => k_is); (case gc_EvenSums => k_is); (case gc_Shape => k_is); (case gc_TwoStacks => k_is); (case ma0 => k_is); (case l0 => k_is); (case c0 => k_is); (case k0 => k_is); (case mt0 => k_is); (case my0 => k_is); (case ma1 => k_is); (case l1 => k_is); (case c1 => k_is); (case k1 => k_is); (case mt1 => k_is); (case my1 => k_is); (case ma2 => k_is); (case l2 => k_is); (case c2 => k_is); (case k2 => k_is); (case mt2 => k_is); (case my2 => k_is); (case ma3 => k_is); (case l3 => k_is); (case c3 => k_is); (case k3 => k_is); (case mt3 => k_is); (case my3 => k_is); (case ma4 => k_is); (case l4 => k_is); (case c4 => k_is); (case k4 => k_is); (case mt4 => k_is); (case my4 => k_is); (case ma5 => k_is); (case l5 => k_is); (case c5 => k_is); (case k5 => k_is); (case mt5 => k_is); (case my5 => k_is); (case ma6 => k_is); (case l6 => k_is); (case c6 => k_is); (case k6 => k_is); (case mt6 => k_is); (case my6 => k_is); (case ma7 => k_is); (case l7 => k_is); (case c7 => k_is); (case k7 => k_is); (case kw7_0 => k_is); (case mt7 => k_is); (case my7 => k_is); (case ma8 => k_is); (case l8 => k_is); (case c8 => k_is); (case k8 => k_is); (case mt8 => k_is); (case my8 => k_is); (case ma9 => k_is); (case l9 => k_is); (case c9 => k_is); (case k9 => k_is); (case mt9 => k_is); (case my9 => k_is); (case ma10 => k_is); (case l10 => k_is); (case c10 => k_is); (case k10 => k_is); (case mt10 => k_is); (case my10 => k_is); (case ma11 => k_is); (case l11 => k_is); (case c11 => k_is); (case k11 => k_is); (case mt11 => k_is); (case my11 => k_is); (case ma12 => k_is); (case l12 => k_is); (case c12 => k_is); (case k12 => k_is); (case mt12 => k_is); (case my12 => k_is); (case ma13 => k_is); (case l13 => k_is); (case c13 => k_is); (case k13 => k_is); (case mt13 => k_is); (case my13 => k_is); (case ma14 => k_is); (case l14 => k_is); (case c14 => k_is); (case k14 => k_is); (case mt14 => k_is); (case my14 => k_is); (case ma15 => k_is); (case l15 => k_is); (case c15 => k_is); (case k15 => k_is); (case kw15_0 => k_is); (case mt15 => k_is); (case my15 => k_is); (case ma16 => k_is); (case l16 => k_is); (case c16 => k_is); (case k16 => k_is); (case mt16 => k_is); (case my16 => k_is); (case ma17 => k_is); (case l17 => k_is); (case c17 => k_is); (case k17 => k_is); (case mt17 => k_is); (case my17 => k_is); (case ma18 => k_is); (case l18 => k_is); (case c18 => k_is); (case k18 => k_is); (case mt18 => k_is); (case my18 => k_is); (case ma19 => k_is); (case l19 => k_is); (case c19 => k_is); (case k19 => k_is); (case mt19 => k_is); (case my19 => k_is); (case ma20 => k_is); (case l20 => k_is); (case c20 => k_is); (case k20 => k_is); (case mt20 => k_is); (case my20 => k_is); (case ma21 => k_is); (case l21 => k_is); (case c21 => k_is); (case k21 => k_is); (case mt21 => k_is); (case my21 => k_is); (case ma22 => k_is); (case l22 => k_is); (case c22 => k_is); (case k22 => k_is); (case mt22 => k_is); (case my22 => k_is); (case ma23 => k_is); (case l23 => k_is); (case c23 => k_is); (case k23 => k_is); (case mt23 => k_is); (case my23 => k_is); (case ga24 => k_is); (case l24 => k_is); (case c24 => k_is); (case k24 => k_is); (case ga25 => k_is); (case l25 => k_is); (case c25 => k_is); (case k25 => k_is); (case ga26 => k_is); (case l26 => k_is); (case c26 => k_is); (case k26 => k_is); (case ga27 => k_is); (case l27 => k_is); (case c27 => k_is); (case k27 => k_is); (case ga28 => k_is); (case l28 => k_is); (case c28 => k_is); (case k28 => k_is); (case ga29 => k_is); (case l29 => k_is); (case c29 => k_is); (case k29 => k_is); (case ga30 => k_is); (case l30 => k_is); (case c30 => k_is); (case k30 => k_is); (case ga31 => k_is); (case l31 => k_is); (case c31 => k_is); (case k31 => k_is); (case ga32 => k_is); (case l32 => k_is); (case c32 => k_is); (case k32 => k_is); (case ga33 => k_is); (case l33 => k_is); (case c33 => k_is); (case k33 => k_is); (case ga34 => k_is); (case l34 => k_is); (case c34 => k_is); (case k34 => k_is); (case ga35 => k_is); (case l35 => k_is); (case c35 => k_is); (case k35 => k_is); (case ga36 => k_is); (case l36 => k_is); (case c36 => k_is); (case k36 => k_is); (case ga37 => k_is); (case l37 => k_is); (case c37 => k_is); (case k37 => k_is); (case ga38 => k_is); (case l38 => k_is); (case c38 => k_is); (case k38 => k_is); (case ga39 => k_is); (case l39 => k_is); (case c39 => k_is); (case k39 => k_is); (case ga40 => k_is); (case l40 => k_is); (case c40 => k_is); (case k40 => k_is); (case ga41 => k_is); (case l41 => k_is); (case c41 => k_is); (case k41 => k_is); (case ga42 => k_is); (case l42 => k_is); (case c42 => k_is); (case k42 => k_is); (case ga43 => k_is); (case l43 => k_is); (case c43 => k_is); (case k43 => k_is); (case ga44 => k_is); (case l44 => k_is); (case c44 => k_is); (case k44 => k_is); (case ga45 => k_is); (case l45 => k_is); (case c45 => k_is); (case k45 => k_is); (case ga46 => k_is); (case l46 => k_is); (case c46 => k_is); (case k46 => k_is); (case ga47 => k_is); (case l47 => k_is); (case c47 => k_is); (case k47 => k_is); (case ga48 => k_is); (case l48 => k_is); (case c48 => k_is); (case k48 => k_is); (case ga49 => k_is); (case l49 => k_is); (case c49 => k_is); (case k49 => k_is); (case ga50 => k_is); (case l50 => k_is); (case c50 => k_is); (case k50 => k_is); (case ga51 => k_is); (case l51 => k_is); (case c51 => k_is); (case k51 => k_is); (case tl51 => k_is); (case tp51 => rfl); (case tn51 => kernel_rfl); (case tr51 => rfl); (case ga52 => k_is); (case l52 => k_is); (case c52 => k_is); (case k52 => k_is); (case z_abs => k_is); (case z_enumerate => k_is); (case z_int => k_is); (case z_iter => k_is); (case z_len => k_is); (case z_list => k_is); (case z_max => k_is); (case z_min => k_is); (case z_next => k_is); (case z_range => k_is); (case z_reversed => k_is); (case z_sum => k_is); (case z_tuple => k_is); (case z_zip => k_is); (case pg_Calls => k_is); (case hd_Calls => k_is); (case po_Calls => k_is); (case sa_Calls => k_is); (case mk_Calls => k_is); (case kp_Calls => k_is); (case n_Calls_entries => k_is); (case n_Calls_running => k_is); (case pg_Joiner => k_is); (case hd_Joiner => k_is); (case po_Joiner => k_is); (case sa_Joiner => k_is); (case mk_Joiner => k_is); (case kp_Joiner => k_is); (case n_Joiner_calls => k_is); (case n_Joiner_join_call => k_is); (case pg_Planner => k_is); (case hd_Planner => k_is); (case po_Planner => k_is); (case sa_Planner => k_is); (case mk_Planner => k_is); (case kp_Planner => k_is); (case n_Planner_entries => k_is); (case pg_EvenSums => k_is); (case hd_EvenSums => k_is); (case po_EvenSums => k_is); (case sa_EvenSums => k_is); (case mk_EvenSums => k_is); (case kp_EvenSums => k_is); (case n_EvenSums_calls => k_is); (case n_EvenSums_joiner => k_is); (case n_EvenSums_zero => k_is); (case n_EvenSums_given => k_is); (case n_EvenSums_held => k_is); (case n_EvenSums_shape => k_is); (case pg_Shape => k_is); (case hd_Shape => k_is); (case po_Shape => k_is); (case sa_Shape => k_is); (case mk_Shape => k_is); (case kp_Shape => k_is); (case n_Shape_front => k_is); (case n_Shape_back => k_is); (case n_Shape_late => k_is); (case n_Shape_renewed => k_is); (case pg_TwoStacks => k_is); (case hd_TwoStacks => k_is); (case po_TwoStacks => k_is); (case sa_TwoStacks => k_is); (case mk_TwoStacks => k_is); (case kp_TwoStacks => k_is); (case n_TwoStacks_calls => k_is); (case n_TwoStacks_joiner => k_is); (case n_TwoStacks_zero => k_is); (case n_TwoStacks_given => k_is); (case n_TwoStacks_held => k_is); (case n_TwoStacks_front => k_is); (case n_TwoStacks_back => k_is)


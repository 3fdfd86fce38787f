import PyProof.Rows.All
import Wide.All
import OpenK.AllK
import Wide.FinOn
import HandS.ForMost
import HandS.ForExc
import HandS.Nested
import HandS.Star
import HandS.Finally
import HandS.EndTab
import HandS.Wide
import HandS.WideBits
import HandS.IsInst
import HandS.Codes
import HandS.Defaults
import HandS.Comp
import HandS.Conv
import HandS.MakeKwOnly
import HandS.MethStar
import PySem.Challenge.RW_oncebuilt_k08_members_are_any_objects
set_option Elab.async false
set_option linter.all false
set_option maxRecDepth 100000
set_option maxHeartbeats 4000000
namespace Inf
open PySem PySem.Spec PyProof.Rows L2 NdefX LamX
/-! ### a cell that is told -/
def CellO (c : Addr) (v : V) : HO := .ext fun h => ∃ u, L2.RelV v u ∧ h.IsCell c (some u)
theorem cellO_at {P : Program} {w : World} {H : Hp} {h : Heap} {c : Addr} {v : V} (hok : HOk P w H h) (e : H c = some (CellO c v)) : ∃ u, L2.RelV v u ∧ h.IsCell c (some u) := by
  obtain ⟨z, _, _⟩ := hok c _ e
  exact z
theorem cellO_ok {P : Program} {w : World} {H : Hp} {h : Heap} {c : Addr} {v : V} (x : ∃ u, L2.RelV v u ∧ h.IsCell c (some u)) : ObjOk P w H h c (CellO c v) := by
  refine ⟨x, ?_, fun h1 h2 ⟨u, r, o, e, d⟩ k => ⟨u, r, o, k o e, d⟩⟩
  obtain ⟨u, _, o, e, _⟩ := x
  exact ⟨o, e⟩
/-! ### cells left out, and put back -/
def cut (cs : List Addr) (H : Hp) : Hp := fun b => if b ∈ cs then Option.none else H b
def mend (cs : List Addr) (H H1 : Hp) : Hp := fun b => if b ∈ cs then H b else H1 b
theorem cut_in {cs : List Addr} {H : Hp} {b : Addr} (h : b ∈ cs) : cut cs H b = Option.none := if_pos h
theorem cut_out {cs : List Addr} {H : Hp} {b : Addr} (h : b ∉ cs) : cut cs H b = H b := if_neg h
theorem mend_in {cs : List Addr} {H H1 : Hp} {b : Addr} (h : b ∈ cs) : mend cs H H1 b = H b := if_pos h
theorem mend_out {cs : List Addr} {H H1 : Hp} {b : Addr} (h : b ∉ cs) : mend cs H H1 b = H1 b := if_neg h
def cellsOf (F : NF) (fr : List Str) : List Addr := fr.filterMap fun y => F.cl.lookup y
theorem mem_cells {F : NF} {fr : List Str} {c : Addr} : c ∈ cellsOf F fr ↔ ∃ y ∈ fr, F.cl.lookup y = some c := List.mem_filterMap
/-- the function F stands at f, and its captured cells hold ws -/
structure Clo (H : Hp) (f : Addr) (F : NF) (fr : List Str) (ws : List V) : Prop where
  fn : H f = some (FnO f F)
  code : H F.c = some (CodeO F.c F.qual)
  len : ws.length = fr.length
  dom : ∀ y c, F.cl.lookup y = some c → y ∈ fr
  inj : ∀ x y c, F.cl.lookup x = some c → F.cl.lookup y = some c → x = y
  at_ : ∀ (i : Nat) (y : Str), fr[i]? = some y → ∃ c v, F.cl.lookup y = some c ∧ ws[i]? = some v ∧ H c = some (CellO c v)
theorem Clo.same {H H1 : Hp} {f : Addr} {F : NF} {fr : List Str} {ws : List V} (h : Clo H f F fr ws) (s : Same H H1) : Clo H1 f F fr ws :=
  ⟨s _ _ h.fn, s _ _ h.code, h.len, h.dom, h.inj, fun i y e => by
    obtain ⟨c, v, a, b, d⟩ := h.at_ i y e
    exact ⟨c, v, a, b, s _ _ d⟩⟩
theorem Clo.cell {H : Hp} {f : Addr} {F : NF} {fr : List Str} {ws : List V} (h : Clo H f F fr ws) {b : Addr} (hb : b ∈ cellsOf F fr) : ∃ v, H b = some (CellO b v) := by
  obtain ⟨y, hy, e⟩ := mem_cells.mp hb
  obtain ⟨i, hi⟩ := List.mem_iff_getElem?.mp hy
  obtain ⟨c, v, a, _, d⟩ := h.at_ i y hi
  rw [e] at a
  cases a
  exact ⟨v, d⟩
/-- what is no thing by a word of its own is no cell -/
theorem Clo.out {H : Hp} {f : Addr} {F : NF} {fr : List Str} {ws : List V} (h : Clo H f F fr ws) {b : Addr} {o : HO} (e : H b = some o) (n : ∀ φ, o ≠ .ext φ) : b ∉ cellsOf F fr := fun hb => by
  obtain ⟨v, d⟩ := h.cell hb
  rw [e] at d
  exact n _ (Option.some.inj d)
section
variable {P : Program} {w : World} {K : PySem.W.Frag} {mg : Str → Option Value} {base : Heap} {k : Nat} {f : Addr} {F : NF} {ps fr : List Str} {sp : List (Option V) → Sp}
/-- A FUNCTION THAT WAS MADE IN A DEF, called from anywhere: its cells are told; while it runs they are left out, behind it they are put back -/
theorem clo_fnR (N : NOk P w K mg base CX0 k f F ps fr sp) :
    FnR P w K mg base CX0 k f (fun vs H Q E => ∃ ws, Clo H f F fr ws ∧ sp (ws.map some) vs (cut (cellsOf F fr) H) (fun v H1 => Q v (mend (cellsOf F fr) H H1)) E) := by
  intro A outer s H us vs Q E hr e0 r hsp
  obtain ⟨ws, hc, hsp⟩ := hsp
  have cellAt : ∀ b, b ∈ cellsOf F fr → ∃ v, H b = some (CellO b v) := fun b hb => hc.cell hb
  have fnout : f ∉ cellsOf F fr := fun hb => by
    obtain ⟨v, e⟩ := cellAt f hb
    obtain ⟨u, _, o, e1, e2⟩ := cellO_at e0.hok e
    obtain ⟨od, sl, doc, pm, ctv, e3⟩ := fnO_at e0.hok hc.fn
    rw [e1] at e3
    cases e3
    cases e2
  have cout : F.c ∉ cellsOf F fr := fun hb => by
    obtain ⟨v, e⟩ := cellAt F.c hb
    obtain ⟨u, _, o, e1, e2⟩ := cellO_at e0.hok e
    obtain ⟨⟨oc, vs', t, h1, h2, h3⟩, _, _⟩ := e0.hok F.c _ hc.code
    rw [e1] at h1
    cases h1
    rw [e2] at h2
    cases h2
  have hokc : HOk P w (cut (cellsOf F fr) H) s.heap := fun b o e => by
    by_cases hb : b ∈ cellsOf F fr
    · rw [cut_in hb] at e
      cases e
    · rw [cut_out hb] at e
      refine (e0.hok b o e).stay (fun c u _ q => q) (fun c q => ?_) fun c xs q => ?_
      · rw [cut_out (hc.out q (fun φ z => nomatch z))]
        exact q
      · rw [cut_out (hc.out q (fun φ z => nomatch z))]
        exact q
  have noneC : ∀ b, H b = Option.none → cut (cellsOf F fr) H b = Option.none := fun b e => by
    by_cases hb : b ∈ cellsOf F fr
    · exact cut_in hb
    · rw [cut_out hb]
      exact e
  have e1 : Env0 P w K mg base A outer s (cut (cellsOf F fr) H) := ⟨e0.frames, e0.mod, fun b o q => ⟨(e0.bs b o q).1, noneC b (e0.bs b o q).2⟩, e0.bsz, e0.funs, fun b hb => noneC b (e0.frf b hb), hokc, e0.bare⟩
  have C : CellsAt F.cl fr (ws.map some) s.heap (cut (cellsOf F fr) H) := by
    refine ⟨by rw [List.length_map]; exact hc.len, fun y c e => ?_, hc.inj, fun i y e => ?_⟩
    · have hb : c ∈ cellsOf F fr := mem_cells.mpr ⟨y, hc.dom y c e, e⟩
      obtain ⟨v, d⟩ := cellAt c hb
      obtain ⟨u, _, z⟩ := cellO_at e0.hok d
      exact ⟨cut_in hb, _, z⟩
    · obtain ⟨c, v, a, b, d⟩ := hc.at_ i y e
      refine ⟨c, a, fun v' e' => ?_⟩
      rw [List.getElem?_map, b] at e'
      cases e'
      obtain ⟨u, r', z⟩ := cellO_at e0.hok d
      exact ⟨u, r', z⟩
  refine codeAny_mono (N.run A outer s (cut (cellsOf F fr) H) us vs (ws.map some) _ E hr e1 (by rw [cut_out fnout]; exact hc.fn) (by rw [cut_out cout]; exact hc.code) C r hsp) fun res s' hq => ?_
  cases res with
  | error e => exact hq
  | ok fl =>
    cases fl with
    | next => exact hq
    | brk => exact hq
    | cont => exact hq
    | ret u =>
      obtain ⟨v, H1, os, bare, un, hok1, rv, q⟩ := hq
      have gone : ∀ b, b ∈ cellsOf F fr → H1 b = Option.none := fun b hb => by
        obtain ⟨v, d⟩ := cellAt b hb
        obtain ⟨u, _, o, z1, z2⟩ := cellO_at e0.hok d
        exact un.free b o z1 (cut_in hb) (by simp)
      have notfr : ∀ b, b ∈ cellsOf F fr → b ∉ frs outer := fun b hb z => by
        obtain ⟨v, d⟩ := cellAt b hb
        rw [e0.frf b z] at d
        cases d
      refine ⟨v, mend (cellsOf F fr) H H1, os, bare, ⟨fun b o a n h1 h2 => un.keep b o a (noneC b n) h1 h2, fun b o a n h1 h2 => un.slot b o a (noneC b n) h1 h2, fun b o a n h2 => ?_, un.there, fun b xs e => ?_, fun b o u e => ?_, fun b ps e => ?_⟩, fun b o e => ?_, rv, q⟩
      · by_cases hb : b ∈ cellsOf F fr
        · rw [mend_in hb]
          exact n
        · rw [mend_out hb]
          exact un.free b o a (noneC b n) h2
      · have hb := hc.out e (fun φ z => nomatch z)
        rw [mend_out hb]
        exact un.tups b xs (by rw [cut_out hb]; exact e)
      · have hb := hc.out e (fun φ z => nomatch z)
        rw [mend_out hb]
        exact un.frzs b o u (by rw [cut_out hb]; exact e)
      · have hb := hc.out e (fun φ z => nomatch z)
        rw [mend_out hb]
        exact un.tbls b ps (by rw [cut_out hb]; exact e)
      · by_cases hb : b ∈ cellsOf F fr
        · rw [mend_in hb] at e
          obtain ⟨v', d⟩ := cellAt b hb
          rw [d] at e
          cases e
          obtain ⟨u', r', o', z1, z2⟩ := cellO_at e0.hok d
          exact cellO_ok ⟨u', r', o', un.keep b o' z1 (cut_in hb) (notfr b hb) (by simp), z2⟩
        · rw [mend_out hb] at e
          refine (hok1 b o e).stay (fun c u _ q => q) (fun c q => ?_) fun c xs q => ?_
          · have hb' : c ∉ cellsOf F fr := fun z => by
              rw [gone c z] at q
              cases q
            rw [mend_out hb']
            exact q
          · have hb' : c ∉ cellsOf F fr := fun z => by
              rw [gone c z] at q
              cases q
            rw [mend_out hb']
            exact q
end
end Inf

set_option Elab.async false
set_option linter.all false
set_option maxRecDepth 100000
set_option maxHeartbeats 4000000
namespace Inf
open PySem PySem.Spec PyProof.Rows L2 NdefX LamX
/-! ### a body that ends in a return: what its names hold there is told -/
abbrev TSR := (L2.St → V → Hp → Prop) → L2.St → Hp → Prop
structure PSsR (X : Cx) (ss : List Stmt) (t : TSR) : Prop where
  run : ∀ (pins : List (Addr × Obj)) (s : Shared) (σ : L2.St) (H : Hp) (R : L2.St → V → Hp → Prop), Inv X pins σ H s → t R σ H →
    wpAny (model X.prog X.w) X.A (execs ss X.env) (fun fl s' => ∃ u v σ' H', fl = .ret u ∧ Inv X pins σ' H' s' ∧ L2.RelV v u ∧ R σ' v H') X.xe s
theorem psr_cons {X : Cx} {st : Stmt} {rest : List Stmt} {t : TS} {u : TSR} (h1 : PS X st t) (h2 : PSsR X rest u) : PSsR X (st :: rest) (fun R σ H => t { nx := fun σ' H' => u R σ' H', rt := fun _ _ => False } σ H) := by
  refine ⟨fun pins s σ H R I h => ?_⟩
  refine wpAny_execs_cons (thn (h1.run pins s σ H { nx := fun σ' H' => u R σ' H', rt := fun _ _ => False } I h) fun fl s1 q => ?_)
  cases fl with
  | next =>
    obtain ⟨σ1, H1, I1, q1⟩ := q
    exact h2.run pins s1 σ1 H1 R I1 q1
  | brk =>
    obtain ⟨_, _, _, q1⟩ := q
    exact False.elim q1
  | cont =>
    obtain ⟨_, _, _, q1⟩ := q
    exact False.elim q1
  | ret v =>
    obtain ⟨_, _, _, _, _, q1⟩ := q
    exact False.elim q1
theorem psr_ret {X : Cx} {e : Expr} {pos : Pos} {te : TE} (he : PE X e te) : PSsR X [.Return (some e) pos] (fun R σ H => te σ H (R σ)) := by
  refine ⟨fun pins s σ H R I h => ?_⟩
  refine wpAny_execs_cons (wpAny_Return_some (thn (he.run pins s σ H _ I h) fun v s1 ⟨x, H1, I1, r1, q1⟩ => ?_))
  exact ⟨v, x, σ, H1, rfl, I1, r1, q1⟩
/-! ### a def that returns things that hold its names -/
/-- the heap behind the return: the def's cells are told -/
structure Fin (cells : List (Str × Addr)) (names : List (Str × NameKind)) (N : List Str) (σ : L2.St) (H H' : Hp) : Prop where
  same : Same H H'
  gone : ∀ b, H' b = Option.none → H b = Option.none
  inj : ∀ x y c, cells.lookup x = some c → cells.lookup y = some c → x = y
  at_ : ∀ (i : Nat) (y : Str) (c : Addr) (v : V), N[i]? = some y → names.lookup y = some .cell → cells.lookup y = some c → σ[i]? = some (some v) → H' c = some (CellO c v)
theorem cells_big : ∀ (names : List (Str × NameKind)) (n lo : Nat) (acc : List (Str × Addr)), (∀ p ∈ acc, lo ≤ p.2) → lo ≤ n → ∀ p ∈ cellsFrom n names acc, lo ≤ p.2
  | [], n, lo, acc, h, _ => h
  | (x, kd) :: r, n, lo, acc, h, hn => by
    unfold cellsFrom
    split
    · exact cells_big r (n + 1) lo _ (fun p hp => by
        rcases List.mem_cons.mp hp with rfl | hp
        · exact hn
        · exact h p hp) (by omega)
    · exact cells_big r n lo acc h hn
section
variable {CX : CXT} {P : Program} {w : World} {K : PySem.W.Frag} {mg : Str → Option Value} {base : Heap} {N ps : List Str} {qual : Str} {scope : Scope} {f : Addr} {cdv : Value} {A : Around} {outer : List Env} {s s' : Shared} {H H' : Hp} {E : XK} {σ : L2.St} {Q : VK}
open Classical in
theorem fin_make (nd : N.Nodup) (J : Inv (cxOf CX P w K mg base N qual scope f cdv A outer s H E) [] σ H' s') :
    ∃ H'', Fin (envOfC qual scope s.heap.objs.size f cdv).cells scope.names N σ H' H'' ∧ Un (frs outer) [] H H'' s.heap s'.heap ∧ HOk P w H'' s'.heap := by
  have ge : ∀ (y : Str) (c : Addr), (envOfC qual scope s.heap.objs.size f cdv).cells.lookup y = some c → s.heap.objs.size ≤ c := fun y c e =>
    cells_big scope.names (s.heap.objs.size + 1) s.heap.objs.size [] (fun p hp => by cases hp) (Nat.le_succ _) (y, c) (PySem.mem_of_lookup e)
  have J0 : Un (frs outer) [] H H' s.heap s'.heap := J.base
  have inj := J.ok.inj
  let Pr : Addr → V → Prop := fun b v => ∃ (i : Nat) (y : Str), N[i]? = some y ∧ scope.names.lookup y = some .cell ∧ (envOfC qual scope s.heap.objs.size f cdv).cells.lookup y = some b ∧ σ[i]? = some (some v)
  have gone : ∀ b v, Pr b v → H' b = Option.none := fun b v ⟨i, y, _, _, e, _⟩ => J.freeC y b e
  have uniq : ∀ b v u, Pr b v → Pr b u → v = u := fun b v u ⟨i, y, a1, a2, a3, a4⟩ ⟨j, z, b1, b2, b3, b4⟩ => by
    have e1 : y = z := inj y z b a3 b3
    subst e1
    have e2 : i = j := by
      obtain ⟨h1, g1⟩ := List.getElem?_eq_some_iff.mp a1
      obtain ⟨h2, g2⟩ := List.getElem?_eq_some_iff.mp b1
      exact (List.getElem_inj nd).mp (g1.trans g2.symm)
    subst e2
    rw [a4] at b4
    exact Option.some.inj (Option.some.inj b4)
  let H'' : Hp := fun b => if h : ∃ v, Pr b v then some (CellO b (Classical.choose h)) else H' b
  have inC : ∀ b v, Pr b v → H'' b = some (CellO b v) := fun b v h => by
    have hx : ∃ v, Pr b v := ⟨v, h⟩
    show (if h : ∃ v, Pr b v then some (CellO b (Classical.choose h)) else H' b) = _
    rw [dif_pos hx, uniq b _ v (Classical.choose_spec hx) h]
  have outC : ∀ b, (¬ ∃ v, Pr b v) → H'' b = H' b := fun b h => dif_neg h
  have known : ∀ b o, H' b = some o → H'' b = some o := fun b o e => by
    rw [outC b fun ⟨v, h⟩ => by rw [gone b v h] at e; cases e]
    exact e
  refine ⟨H'', ⟨known, fun b e => ?_, inj, fun i y c v h1 h2 h3 h4 => inC c v ⟨i, y, h1, h2, h3, h4⟩⟩, ⟨J0.keep, J0.slot, fun b o a n h2 => ?_, J0.there, fun b xs e => known _ _ (J0.tups b xs e), fun b o u e => known _ _ (J0.frzs b o u e), fun b ps' e => ?_⟩, fun b o e => ?_⟩
  · by_cases hb : ∃ v, Pr b v
    · obtain ⟨v, h⟩ := hb
      rw [inC b v h] at e
      cases e
    · rw [outC b hb] at e
      exact e
  · rw [outC b fun ⟨v, i, y, _, _, e, _⟩ => by
      exact absurd (Heap.lt_size a) (Nat.not_lt.mpr (ge y b e))]
    exact J0.free b o a n h2
  · obtain ⟨more, e2⟩ := J0.tbls b ps' e
    exact ⟨more, known _ _ e2⟩
  · by_cases hb : ∃ v, Pr b v
    · obtain ⟨v, h⟩ := hb
      rw [inC b v h] at e
      cases e
      obtain ⟨i, y, a1, a2, a3, a4⟩ := h
      obtain ⟨m, hn, hl⟩ := J.loc
      obtain ⟨u, ru, lk⟩ := hl i y v a1 a4 (.inr (.inl a2))
      refine cellO_ok ⟨u, ru, ?_⟩
      rcases lk with ⟨z, _⟩ | ⟨_, c', hc', hcell⟩
      · have z' : scope.names.lookup y = some .local := z
        rw [a2] at z'
        cases z'
      · have hc2 : (envOfC qual scope s.heap.objs.size f cdv).cells.lookup y = some c' := hc'
        rw [a3] at hc2
        cases hc2
        exact hcell
    · rw [outC b hb] at e
      exact (J.hok b o e).stay (fun c u _ q => q) (fun c q => known _ _ q) fun c xs q => known _ _ q
end
/-- THE RULE for such a def -/
theorem Fun.okC {P : Program} {w : World} {K : PySem.W.Frag} {mg : Str → Option Value} {base : Heap} {x qual : Str} {st : Stmt} {f : Addr} {fd : FuncData} {N ps : List Str} {k : Nat} {sp : Sp} (F : L2.Fun K x qual st f fd) (S : FnScope N ps (defScope st)) (len : ∀ vs H Q E, sp vs H Q E → vs.length = ps.length)
    (hbody : ∀ (cdv : Value) (A : Around) (outer : List Env) (s : Shared) (H : Hp) (vs : List V) (Q : VK) (E : XK), Room k (A.deeper (envOfC qual (defScope st) s.heap.objs.size f cdv)) → PySem.W.codeIn K cdv qual = true → sp vs H Q E →
      ∃ t, PSsR (cxOf CX0 P w K mg base N qual (defScope st) f cdv A outer s H E).nox (defBody st) t ∧
        t (fun σ v H' => ∀ H'', Fin (envOfC qual (defScope st) s.heap.objs.size f cdv).cells (defScope st).names N σ H' H'' → Q v H'') (start N vs) H) : FnOk P w K mg base CX0 (k + 1) f fd ps sp := by
  obtain ⟨oc, od, kV, doc, pm, an, cdv, ct, osl, rfl, lk, hcd⟩ := F.ex
  refine ⟨len, fun A outer s H args us vs Q E hr e0 hb r hsp => ?_⟩
  have hl := len _ _ _ _ hsp
  have KX : K.In s.heap := e0.mod.kin.keeps fun b o e => (e0.bs b o e).1
  have lim : s.heap.NoLimit := e0.mod.nolimit.keeps fun b o e => (e0.bs b o e).1
  have hkind : ∀ y ∈ ps.zip us, (defScope st).names.lookup y.1 = some .local ∨ ((defScope st).names.lookup y.1 = some .cell ∧ ((cellsFrom (s.heap.objs.size + 1) (defScope st).names []).lookup y.1).isSome = true) := fun ⟨n, v⟩ hy => by
    rcases S.par n (List.of_mem_zip hy).1 with q | q
    · exact .inl q
    · exact .inr ⟨q, PySem.W.cellsFrom_some _ _ _ (.inl q)⟩
  refine codeAny_call_function hr.depth (KX _ _ lk) rfl S.co S.gen rfl (PySem.W.codeRec_of KX hcd) (hb _ _ _ _ ?_)
  refine wpAny_newFunctionEnv_cells S.kind hkind fun env he s1 xx => ?_
  subst he
  refine ⟨lim.keeps xx.toInCall.keep, codeAny_func ?_⟩
  obtain ⟨t, ht, hq⟩ := hbody cdv A outer s H vs Q E (hr.deeper _) hcd hsp
  have I : Inv (cxOf CX0 P w K mg base N qual (defScope st) f cdv A outer s H E) [] (start N vs) H s1 := inv_start S hr.hd e0 hl r xx
  refine wpAny_mono (ht.run [] s1 (start N vs) H _ (I.wish _) hq) (fun fl s' hs => ?_) fun e s' hs => False.elim hs
  obtain ⟨u, v, σ', H', rfl, J', rv, q⟩ := hs
  have J : Inv (cxOf CX0 P w K mg base N qual (defScope st) f cdv A outer s H E) [] σ' H' s' := J'.unwish
  obtain ⟨H'', hF, hU, hO⟩ := fin_make S.nd J
  exact ⟨v, H'', J.os, J.bare, hU, hO, rv, q H'' hF⟩
end Inf

set_option Elab.async false
set_option linter.all false
set_option maxRecDepth 100000
set_option maxHeartbeats 4000000
namespace Inf
open PySem PySem.Spec PyProof.Rows L2 NdefX LamX
/-! ### f( *values), f a name that holds a function that was made in a def -/
/-- such a thing is a function object -/
def FnHO (f : Addr) (o : HO) : Prop := ∀ (P : Program) (w : World) (H : Hp) (h : Heap), HOk P w H h → H f = some o → PySem.W.FnAt f h
theorem fnHO_of {f : Addr} {F : NF} : FnHO f (FnO f F) := fun P w H h hok e => by
  obtain ⟨od, sl, doc, pm, ctv, z⟩ := fnO_at hok e
  exact ⟨_, od, _, sl, z⟩
def tAct (P : Program) (w : World) (K : PySem.W.Frag) (mg : Str → Option Value) (base : Heap) (CX : CXT) (k i : Nat) (E : L2.St → XK) (te : TE) : TE := fun σ H Q => ∃ f, σ[i]? = some (some (.ref f)) ∧ te σ H fun y H1 => ∃ a xs o sp, y = V.ref a ∧ (SqT K H1 a xs ∨ SqL K H1 a xs) ∧ H1 f = some o ∧ FnHO f o ∧
  FnR P w K mg base CX k f sp ∧ sp xs H1 Q (E σ)
section
variable {X : Cx} {CX : CXT} {k i : Nat} {E : L2.St → XK} {x : Str} {e : Expr} {te : TE} {p sp_ pos : Pos}
theorem run_fnE {pins : List (Addr × Obj)} {σ : L2.St} {H : Hp} {s : Shared} {f : Addr} {sp : Sp} {Q : VK} {us : List Value} {vs : List V} (F : FnR X.prog X.w X.K X.mg X.base CX k f sp) (hr : Room k X.A) (hx : PassesAt CX X σ (E σ)) (I : Inv X pins σ H s) (r : Vals vs us) (h : sp vs H Q (E σ)) :
    wpAny (model X.prog X.w) X.A (call (.ref f) us) (EP X pins σ Q) X.xe s := by
  refine wpAny_call (codeAny_mono (F X.A X.stack s H us vs Q (E σ) hr I.env0 r h) fun r s' hq => ?_)
  match r, hq with
  | .error e, hq => exact hx pins H s e s' I hq
  | .ok (.ret u), hq => exact I.after hq
  | .ok .next, hq => exact False.elim hq
  | .ok .brk, hq => exact False.elim hq
  | .ok .cont, hq => exact False.elim hq
theorem pe_act (hN : X.N[i]? = some x) (hv : Vis X.env.scope x) (hr : Room k X.A) (hx : ∀ σ, PassesAt CX X σ (E σ)) (he : PE X e te) (hd : (x == ("__debug__" : Str)) = false := by decide) (hcd : (x == ("__classdict__" : Str)) = false := by decide)
    (hst : starEach [.Starred e sp_] X.env = [(true, eval e X.env)] := by rfl) : PE X (.Call (.Name x p) [.Starred e sp_] [] pos) (tAct X.prog X.w X.K X.mg X.base CX k i E te) := by
  refine ⟨fun pins s σ H Q I h => ?_⟩
  obtain ⟨f, hs, h⟩ := h
  refine wpAny_Call_Name_kw (thn ((pe_var (pos := p) hN hv hd hcd).run pins s σ H (fun v H1 => v = .ref f ∧ H1 = H) I ⟨.ref f, hs, rfl, rfl⟩) fun u s1 ⟨v, H1, I1, r1, ev, eH⟩ => ?_)
  subst ev
  rw [eH] at I1
  obtain rfl : u = Value.ref f := r1
  rw [show backTo pos (starEach [.Starred e sp_] X.env) = [(true, (do let v ← eval e X.env; standAt pos; pure v))] by rw [hst]; rfl]
  refine PySem.W.ks_call (P := PySem.W.FnAt f) rfl PySem.W.keeps_F (PySem.W.ks_lone ?_)
  refine thn (he.run pins s1 σ H _ I1 h) fun v s2 ⟨y, H2, I2, ry, a, xs, o, sp, ey, hxs, hf, ho, hF, q⟩ => ?_
  subst ey
  obtain rfl : v = Value.ref a := ry
  exact StX.star_any I2 hxs fun us s3 I3 rv => ⟨ho _ _ _ _ I3.hok hf, run_fnE hF hr (hx σ) I3 rv q⟩
end
/-! ### try: body finally: suite, where nothing is raised -/
section
variable {X : Cx} {body : List Stmt} {f₀ : Stmt} {fs : List Stmt} {pos : Pos} {tb tf : TS}
def tFin0 (tb tf : TS) : TS := fun D σ H => tb { nx := fun σ1 H1 => tf D σ1 H1, rt := fun _ _ => False } σ H
theorem ps_fin0 (hb : PSs X.nox body tb) (hf : PSs X.nox (f₀ :: fs) tf) : PS X (.Try body [] [] (f₀ :: fs) pos) (tFin0 tb tf) := by
  refine ⟨fun pins s σ H D I h => wpAny_Try_finally (wpAny_mono (hb.run pins s σ H _ (I.wish _) h) (fun g s1 z => ?_) fun _ _ z => False.elim z)⟩
  match g, z with
  | .ret u, z => exact (z.elim fun _ z => z.elim fun _ z => z.elim fun _ z => z.2.2).elim
  | .brk, z => exact (z.elim fun _ z => z.elim fun _ z => z.2).elim
  | .cont, z => exact (z.elim fun _ z => z.elim fun _ z => z.2).elim
  | .next, z =>
    obtain ⟨σ1, H1, J1, q1⟩ := z
    refine wpAny_execs_nil (wpAny_mono (hf.run pins s1 σ1 H1 D (J1.unwish.wish _) q1) (fun g2 s2 q2 => ?_) fun _ _ e => False.elim e)
    have q3 : SP X pins D g2 s2 := q2.unwish
    cases g2 <;> exact q3
end
end Inf

set_option Elab.async false
set_option linter.all false
set_option maxRecDepth 100000
set_option maxHeartbeats 4000000
namespace Inf
open PySem PySem.Spec PyProof.Rows L2 NdefX LamX
/-- the tables of the code objects of the top's defs, as the written part and the head tell them -/
def TopTabs (q : Program) (K : PySem.W.Frag) (mg : Str → Option Value) (h : Heap) : Prop := ∀ (x : Str) (f c P : Addr) (o1 : Obj) (fd1 : FuncData) (e : Value) (dd : Option Addr) (vs1 : Array Value) (sl : Array (Option Value)),
  (recsOf q).any (fun d => d.name == x) = true → mg x = some (.ref f) → K.lookup f = some o1 → o1.data = .func fd1 → fd1.code = .ref c → K.lookup c = some ⟨e, dd, .fields vs1, sl⟩ → vs1[11]? = some (.ref P) →
    PySem.W.CodeHd h c P ∧ h.get? P = some { cls := .none, data := .fields #[] }
theorem walk_top {l : PySem.W.OpenLaw} {n k : Nat} {q : Program} {loose : List Str} {XP : (Str → Option Value) → Heap → Prop} {YP : World → Heap → Prop} {d : DefRec} {K : Params → PySem.W.Frag} {CX : World → CXT} {x : Str}
    (hn : l.most = some n) (hn2 : n ≤ sizeLine) (hdf : d.params.defaults = []) (hr : Room k callerA) (hY : ∀ (w : World) (h : Heap), YP w h → (K w.params).In h)
    (F : ∀ (w : World) (mg : Str → Option Value) (fa : Addr) (h : Heap), YP w h → (K w.params).In h → h.Ns mainGlobals mg → mg d.name = some (.ref fa) → TopTabs q (K w.params) mg h → LawAtS l w (K w.params) (CX w) k n x mg fa h)
    (hCX : ∀ (w : World) (H : Hp) (s : Shared) (e : Value) (s' : Shared), CX w [] H s (fun _ _ _ => False) e s' → False) :
    PySem.W.WalkO q loose XP YP l.row.toRowW d [] (fun f vs => PySem.call f vs) :=
  Att.attach_callB hn hdf fun w s₀ s₁ mg mb fa o pm cd doc a vs ns G Y ho hd hcd hmg hobj hints hlen hbits hg => by
    have KX := hY w _ Y
    have tabs : TopTabs q (K w.params) mg s₁.heap := fun x f c P o1 fd1 e dd vs1 sl hrec hx k1 k2 k3 k4 k5 => by
      obtain ⟨dL, hm, hn1⟩ := List.any_eq_true.mp hrec
      have hn2 : dL.name = x := beq_iff_eq.mp hn1
      obtain ⟨a', o', fd', c', P', h1, h2, h3, h4, h5, h6⟩ := G.T.tab dL hm
      rw [hn2, hx] at h1
      cases h1
      have g1 := KX _ _ k1
      rw [g1] at h2
      cases h2
      rw [k2] at h3
      cases h3
      rw [k3] at h4
      cases h4
      have hC := PySem.W.CodeHd.of h5 h6
      obtain ⟨⟨oc, vc, e1, _, e3, e4⟩, hP⟩ := h6
      have g2 := KX _ _ k4
      rw [g2] at e1
      cases e1
      cases e3
      rw [k5] at e4
      cases e4
      exact ⟨hC, hP⟩
    obtain ⟨fd, cs, sp, hT, nT, C, hb, hsp, hF⟩ := F w mg fa _ Y KX G.T.g hmg tabs
    exact law_callTs KX G.T.g G.T.b G.T.builtins G.T.nolimit hg hT nT C G.T.bmain hobj hints (Nat.le_trans hlen hn2) hr hF hb (fun H hH hS => hsp H a ns hlen hbits hH hS) fun H e s' => hCX w H s₁ e s'
end Inf

set_option Elab.async false
set_option linter.all false
set_option maxRecDepth 100000
set_option maxHeartbeats 4000000
namespace Inf
open PySem PySem.Spec PyProof.Rows L2 NdefX LamX
/-! ### promises of defs that are called where no repr is under way -/
structure FnOkG (P : Program) (w : World) (K : PySem.W.Frag) (mg : Str → Option Value) (base : Heap) (CX : CXT) (k : Nat) (f : Addr) (fd : FuncData) (ps : List Str) (sp : Sp) : Prop where
  len : ∀ vs H Q E, sp vs H Q E → vs.length = ps.length
  run : ∀ (A : Around) (outer : List Env) (s : Shared) (H : Hp) (args : Args) (us : List Value) (vs : List V) (Q : VK) (E : XK), A.guards = some [] → Room k A → Env0 P w K mg base A outer s H → BindsTo s fd args (ps.zip us) → Vals vs us → sp vs H Q E →
    codeAny (model P w) A (.call (.ref f) args) (CR CX outer P w H s Q E) s
theorem FnOkG.of {P : Program} {w : World} {K : PySem.W.Frag} {mg : Str → Option Value} {base : Heap} {CX : CXT} {k : Nat} {f : Addr} {fd : FuncData} {ps : List Str} {sp : Sp} (F : FnOk P w K mg base CX k f fd ps sp) : FnOkG P w K mg base CX k f fd ps sp :=
  ⟨F.len, fun A outer s H args us vs Q E _ => F.run A outer s H args us vs Q E⟩
section
variable {P : Program} {w : World} {K : PySem.W.Frag} {mg mb : Str → Option Value} {CX : CXT} {k : Nat} {fa a : Addr} {cs : List (Addr × Addr)} {fd : FuncData} {x : Str} {sp : Sp} {s₁ : Shared} {vs : List Value} {ns : List Int}
/-- the law's call, from such a promise -/
theorem call_lawG (KX : K.In s₁.heap) (hns : s₁.heap.Ns mainGlobals mg) (hb : s₁.heap.Ns builtinsNs mb) (hbb : ∀ x : Str, x ≠ "__name__" → mb x = bootBuiltins x) (hlim : s₁.heap.NoLimit) (hg : s₁.gens = #[])
    (hT : ∀ p ∈ cs, s₁.heap.get? p.2 = some { cls := .none, data := .fields #[] }) (nT : ∀ p ∈ cs, K.lookup p.2 = none) (C : ∀ p ∈ cs, PySem.W.CodeHd s₁.heap p.1 p.2)
    (hbm : ∃ (bm : Addr) (ob : Obj), mg "__builtins__" = some (.ref bm) ∧ bm ≠ builtinsNs ∧ s₁.heap.get? bm = some ob ∧ ob.cls = .type "module" ∧ ob.dict = some builtinsNs ∧ ob.data = .plain)
    (ha : s₁.heap.get? a = some { cls := .type "list", data := .seq vs.toArray }) (hi : IntsAre vs ns) (hl : ns.length ≤ sizeLine) (hr : Room k callerA)
    (F : ∀ base : Heap, K.In base → base.Ns mainGlobals mg → (∀ p ∈ cs, TabB base mg p.1 p.2) → FnOkG P w K mg base CX k fa fd [x] sp) (hbind : ∀ (s : Shared) (u : Value), BindsTo s fd ⟨[u], []⟩ [(x, u)])
    (hsp : ∀ H : Hp, (∀ p ∈ cs, H p.2 = some (.tbl #[])) → SqL K H a (ns.map V.int) → sp [.ref a] H (fun v _ => v = .bl true) fun _ _ _ => False)
    (hCX : ∀ H e s', CX [] H s₁ (fun _ _ _ => False) e s' → False) :
    codeAny (model P w) callerA (.call (.ref fa) ⟨[.ref a], []⟩) (fun r s' => r = .ok (.ret (.bool true)) ∧ OldK s₁.heap s'.heap ∧ s'.os = s₁.os ∧ AllBare s'.gens) s₁ := by
  have tabAt : ∀ b, b ∈ cs.map (·.2) → s₁.heap.get? b = some { cls := .none, data := .fields #[] } := fun b hb => (List.mem_map.mp hb).elim fun p hp => hp.2 ▸ hT p hp.1
  have tabK : ∀ b, b ∈ cs.map (·.2) → K.lookup b = none := fun b hb => (List.mem_map.mp hb).elim fun p hp => hp.2 ▸ nT p hp.1
  -- the abstract heap: the tables, and the script where the written part doesn't hold it
  let H : Hp := fun b => if b ∈ cs.map (·.2) then some (.tbl #[]) else if b = a ∧ K.lookup a = none then some (.frz { cls := .type "list", data := .seq vs.toArray } (.lst (ns.map V.int))) else none
  have aNot : a ∉ cs.map (·.2) := fun z => by
    have := tabAt a z
    rw [ha] at this
    cases this
  have Htab : ∀ b, b ∈ cs.map (·.2) → H b = some (.tbl #[]) := fun b hb => if_pos hb
  have Hcase : ∀ b u, H b = some u → (b ∈ cs.map (·.2) ∧ u = .tbl #[]) ∨ (b = a ∧ K.lookup a = none ∧ u = .frz { cls := .type "list", data := .seq vs.toArray } (.lst (ns.map V.int))) := fun b u e => by
    by_cases h1 : b ∈ cs.map (·.2)
    · exact .inl ⟨h1, Option.some.inj (e.symm.trans (Htab b h1))⟩
    · by_cases h2 : b = a ∧ K.lookup a = none
      · exact .inr ⟨h2.1, h2.2, Option.some.inj (e.symm.trans ((if_neg h1).trans (if_pos h2)))⟩
      · exact absurd (e.symm.trans ((if_neg h1).trans (if_neg h2))) (fun z => nomatch z)
  have other : ∀ b o, s₁.heap.get? b = some o → (∀ its n, o.data ≠ .seq its n) → o.data ≠ .fields #[] → H b = none := fun b o e n1 n2 => by
    match q : H b with
    | none => rfl
    | some u =>
      rcases Hcase b u q with ⟨z, _⟩ | ⟨z, _, _⟩
      · rw [tabAt b z] at e
        exact absurd (by cases e; rfl) n2
      · rw [z, ha] at e
        exact absurd (by cases e; rfl) (n1 vs.toArray 0)
  have hok : HOk P w H s₁.heap := fun b u e => by
    rcases Hcase b u e with ⟨z, rfl⟩ | ⟨rfl, _, rfl⟩
    · exact tabAt b z
    · exact ⟨ha, by rw [List.length_map]; exact hl, vs, _, vals_ints hi, ha⟩
  have hS : SqL K H a (ns.map V.int) := by
    match hk : K.lookup a with
    | none => exact .inl (.inr ⟨_, (if_neg aNot).trans (if_pos ⟨rfl, hk⟩)⟩)
    | some o =>
      have e := KX a o hk
      rw [ha] at e
      cases e
      have lenV := hi.length
      exact .inr ⟨_, vs.toArray, _, hk, rfl, rfl, rfl, by rw [List.size_toArray, lenV]; exact hl, by simpa using vals_ints hi⟩
  have low : ∀ b o, s₁.heap.get? b = some o → H b = none → (hidT s₁.heap H).get? b = some o := fun b o e n => hidT_get e n
  have lowNs : ∀ {b : Addr} {m : Str → Option Value}, s₁.heap.Ns b m → (hidT s₁.heap H).Ns b m := fun {b m} h => by
    obtain ⟨o, es, ep, e, d, r⟩ := h
    exact ⟨o, es, ep, low b o e (other b o e (fun its n z => by rw [d] at z; cases z) fun z => by rw [d] at z; cases z), d, r⟩
  have lowK : K.In (hidT s₁.heap H) := fun b o e => low b o (KX b o e) (by
    match q : H b with
    | none => rfl
    | some u =>
      rcases Hcase b u q with ⟨z, _⟩ | ⟨rfl, z, _⟩
      · rw [tabK b z] at e
        cases e
      · rw [z] at e
        cases e)
  have notG : ∀ b o, s₁.heap.get? b = some o → (∀ es ep, o.data ≠ .dict es ep) → b ≠ mainGlobals := fun b o e n z => by
    obtain ⟨o', es, ep, e', d, _⟩ := hns
    rw [z, e'] at e
    cases e
    exact n es ep d
  have lowT : ∀ p ∈ cs, TabB (hidT s₁.heap H) mg p.1 p.2 := fun p hp => by
    refine ⟨?_, ?_, Ne.symm (notG p.2 _ (hT p hp) (fun es ep z => nomatch z))⟩
    · obtain ⟨o, us, file, tf, flags, tg, inF, text, tt, e1, r1, r2, r3, rest⟩ := C p hp
      refine ⟨o, us, file, tf, flags, tg, inF, text, tt, low _ o e1 (other _ o e1 (fun its n z => by rw [r2] at z; cases z) fun z => ?_), r1, r2, r3, rest⟩
      rw [r2] at z
      cases z
      simp at r3
    · obtain ⟨bm, ob, b1, b2, b3, b4, b5, b6⟩ := hbm
      refine ⟨bm, ob, b1, b2, notG bm ob b3 (fun es ep z => by rw [b6] at z; cases z), fun z => ?_, low bm ob b3 (other bm ob b3 (fun its n z => by rw [b6] at z; cases z) fun z => by rw [b6] at z; cases z), b4, b5, b6⟩
      rw [z, hT p hp] at b3
      cases b3
      cases b6
  have lowM : L2.Mod K mg (hidT s₁.heap H) := ⟨lowK, lowNs hns, ⟨mb, lowNs hb, hbb⟩, hlim.elim fun mc h => ⟨mc, lowNs h.1, h.2⟩⟩
  have e0 : Env0 P w K mg (hidT s₁.heap H) callerA [] s₁ H := ⟨rfl, lowM, fun b o e => of_hidT e, Nat.le_of_eq (hidT_size _ _), trivial, fun b hb => absurd (show b ∈ ([] : List Addr) from hb) (List.not_mem_nil), hok, .of_eq hg⟩
  refine codeAny_mono ((F _ lowK (lowNs hns) lowT).run callerA [] s₁ H ⟨[.ref a], []⟩ [.ref a] [.ref a] _ _ rfl hr e0 (hbind s₁ (.ref a)) (.cons rfl .nil) (hsp H (fun p hp => Htab _ (List.mem_map.mpr ⟨p, hp, rfl⟩)) hS)) fun r s' h => ?_
  match r, h with
  | .error e, h => exact (hCX H e s' h).elim
  | .ok .next, h => exact False.elim h
  | .ok .brk, h => exact False.elim h
  | .ok .cont, h => exact False.elim h
  | .ok (.ret u), h =>
    obtain ⟨v, H', os, bare, un, hok', r', q⟩ := h
    have q2 : v = .bl true := q
    subst q2
    obtain rfl : u = Value.bool true := r'
    have stays : ∀ b o, b ∉ cs.map (·.2) → s₁.heap.get? b = some o → s'.heap.get? b = some o := fun b o nb e => by
      match z : H b with
      | none => exact un.keep b o e z (fun z => nomatch z) (fun z => nomatch z)
      | some u =>
        rcases Hcase b u z with ⟨y, _⟩ | ⟨rfl, _, rfl⟩
        · exact absurd y nb
        · obtain ⟨e1, _⟩ := hok' b _ (un.frzs b _ _ z)
          rw [ha] at e
          cases e
          exact e1
    have tabs : ∀ p ∈ cs, ∃ more : Array Value, s'.heap.get? p.2 = some { cls := .none, data := .fields more } := fun p hp =>
      (un.tbls p.2 #[] (Htab _ (List.mem_map.mpr ⟨p, hp, rfl⟩))).elim fun more z => ⟨_, hok' p.2 _ z⟩
    refine ⟨rfl, ⟨fun b o e => ?_, fun b o e => ?_⟩, os, bare⟩
    · by_cases nb : b ∈ cs.map (·.2)
      · obtain ⟨p, hp, rfl⟩ := List.mem_map.mp nb
        rw [hT p hp] at e
        cases e
        exact (tabs p hp).elim fun more hm => .inr (.inl ⟨((C p hp).tab (hT p hp)).isCodeTable, rfl, #[], more, rfl, hm.trans (by rw [Array.empty_append])⟩)
      · exact .inl (stays b o nb e)
    · by_cases nb : b ∈ cs.map (·.2)
      · obtain ⟨p, hp, rfl⟩ := List.mem_map.mp nb
        exact (tabs p hp).elim fun more hm => ⟨_, hm⟩
      · exact ⟨o, stays b o nb e⟩
end
/-- what is known of the law's promise at the head's heap, where no repr is under way -/
def LawAtG (l : PySem.W.OpenLaw) (w : World) (K : PySem.W.Frag) (CX : CXT) (k n : Nat) (x : Str) (mg : Str → Option Value) (fa : Addr) (h : Heap) : Prop :=
  ∃ (fd : FuncData) (cs : List (Addr × Addr)) (sp : Sp), (∀ p ∈ cs, h.get? p.2 = some { cls := .none, data := .fields #[] }) ∧ (∀ p ∈ cs, K.lookup p.2 = none) ∧ (∀ p ∈ cs, PySem.W.CodeHd h p.1 p.2) ∧ (∀ (s : Shared) (u : Value), BindsTo s fd ⟨[u], []⟩ [(x, u)]) ∧
    (∀ (H : Hp) (a : Addr) (ns : List Int), ns.length ≤ n → (∀ p ∈ cs, H p.2 = some (.tbl #[])) → SqL K H a (ns.map V.int) → sp [.ref a] H (fun v _ => v = .bl true) fun _ _ _ => False) ∧
    ∀ base : Heap, K.In base → base.Ns mainGlobals mg → (∀ p ∈ cs, TabB base mg p.1 p.2) → FnOkG l.prog w K mg base CX k fa fd [x] sp
theorem walk_topG {l : PySem.W.OpenLaw} {n k : Nat} {q : Program} {loose : List Str} {XP : (Str → Option Value) → Heap → Prop} {YP : World → Heap → Prop} {d : DefRec} {K : Params → PySem.W.Frag} {CX : World → CXT} {x : Str}
    (hn : l.most = some n) (hn2 : n ≤ sizeLine) (hdf : d.params.defaults = []) (hr : Room k callerA) (hY : ∀ (w : World) (h : Heap), YP w h → (K w.params).In h)
    (F : ∀ (w : World) (mg : Str → Option Value) (fa : Addr) (h : Heap), YP w h → (K w.params).In h → h.Ns mainGlobals mg → mg d.name = some (.ref fa) → TopTabs q (K w.params) mg h → LawAtG l w (K w.params) (CX w) k n x mg fa h)
    (hCX : ∀ (w : World) (H : Hp) (s : Shared) (e : Value) (s' : Shared), CX w [] H s (fun _ _ _ => False) e s' → False) :
    PySem.W.WalkO q loose XP YP l.row.toRowW d [] (fun f vs => PySem.call f vs) :=
  Att.attach_callB hn hdf fun w s₀ s₁ mg mb fa o pm cd doc a vs ns G Y ho hd hcd hmg hobj hints hlen hbits hg => by
    have KX := hY w _ Y
    have tabs : TopTabs q (K w.params) mg s₁.heap := fun x f c P o1 fd1 e dd vs1 sl hrec hx k1 k2 k3 k4 k5 => by
      obtain ⟨dL, hm, hn1⟩ := List.any_eq_true.mp hrec
      have hn2 : dL.name = x := beq_iff_eq.mp hn1
      obtain ⟨a', o', fd', c', P', h1, h2, h3, h4, h5, h6⟩ := G.T.tab dL hm
      rw [hn2, hx] at h1
      cases h1
      have g1 := KX _ _ k1
      rw [g1] at h2
      cases h2
      rw [k2] at h3
      cases h3
      rw [k3] at h4
      cases h4
      have hC := PySem.W.CodeHd.of h5 h6
      obtain ⟨⟨oc, vc, e1, _, e3, e4⟩, hP⟩ := h6
      have g2 := KX _ _ k4
      rw [g2] at e1
      cases e1
      cases e3
      rw [k5] at e4
      cases e4
      exact ⟨hC, hP⟩
    obtain ⟨fd, cs, sp, hT, nT, C, hb, hsp, hF⟩ := F w mg fa _ Y KX G.T.g hmg tabs
    exact call_lawG KX G.T.g G.T.b G.T.builtins G.T.nolimit hg hT nT C G.T.bmain hobj hints (Nat.le_trans hlen hn2) hr hF hb (fun H hH hS => hsp H a ns hlen hH hS) fun H e s' => hCX w H s₁ e s'
/-! ### bodies and calls of such defs -/
theorem okG {P : Program} {w : World} {K : PySem.W.Frag} {mg : Str → Option Value} {base : Heap} {x qual : Str} {st : Stmt} {f : Addr} {fd : FuncData} {N ps : List Str} {k : Nat} {sp : Sp} (F : L2.Fun K x qual st f fd) (S : FnScope N ps (defScope st)) (len : ∀ vs H Q E, sp vs H Q E → vs.length = ps.length)
    (hbody : ∀ (cdv : Value) (A : Around) (outer : List Env) (s : Shared) (H : Hp) (vs : List V) (Q : VK) (E : XK), (A.deeper (envOfC qual (defScope st) s.heap.objs.size f cdv)).guards = some [] → Room k (A.deeper (envOfC qual (defScope st) s.heap.objs.size f cdv)) → sp vs H Q E →
      ∃ t, PSs (cxOf CX0 P w K mg base N qual (defScope st) f cdv A outer s H E).nox (defBody st) t ∧ t { nx := fun _ H' => Q .non H', rt := Q } (start N vs) H) : FnOkG P w K mg base CX0 (k + 1) f fd ps sp := by
  obtain ⟨oc, od, kV, doc, pm, an, cdv, ct, osl, rfl, lk, hcd⟩ := F.ex
  refine ⟨len, fun A outer s H args us vs Q E hga hr e0 hb r hsp => ?_⟩
  have KX : K.In s.heap := e0.mod.kin.keeps fun b o e => (e0.bs b o e).1
  have lim : s.heap.NoLimit := e0.mod.nolimit.keeps fun b o e => (e0.bs b o e).1
  have hl := len _ _ _ _ hsp
  have hkind : ∀ y ∈ ps.zip us, (defScope st).names.lookup y.1 = some .local ∨ ((defScope st).names.lookup y.1 = some .cell ∧ ((cellsFrom (s.heap.objs.size + 1) (defScope st).names []).lookup y.1).isSome = true) := fun ⟨n, v⟩ hy =>
    (S.par n (List.of_mem_zip hy).1).elim .inl fun q => .inr ⟨q, PySem.W.cellsFrom_some _ _ _ (.inl q)⟩
  refine codeAny_call_function hr.depth (KX _ _ lk) rfl S.co S.gen rfl (PySem.W.codeRec_of KX hcd) (hb _ _ _ _ (wpAny_newFunctionEnv_cells S.kind hkind fun env he s1 xx => ?_))
  subst he
  obtain ⟨t, ht, hq⟩ := hbody cdv A outer s H vs Q E hga (hr.deeper _) hsp
  have I : Inv (cxOf CX0 P w K mg base N qual (defScope st) f cdv A outer s H E) [] (start N vs) H s1 := inv_start S hr.hd e0 hl r xx
  refine ⟨lim.keeps xx.toInCall.keep, codeAny_func (wpAny_mono (ht.run [] s1 (start N vs) H _ (I.wish _) hq) (fun fl s' hs => ?_) fun e s' hs => False.elim hs)⟩
  have fin : ∀ {σ' : L2.St} {H' : Hp} {v : V} {u : Value}, Inv (cxOf CX0 P w K mg base N qual (defScope st) f cdv A outer s H E).nox [] σ' H' s' → L2.RelV v u → Q v H' → CE outer P w H s Q u s' :=
    fun {σ' H' v u} J rv q => ⟨v, H', J.os, J.bare, J.base, J.hok, rv, q⟩
  match fl, hs with
  | .ret u, hs => exact hs.elim fun v z => z.elim fun σ' z => z.elim fun H' z => fin z.1 z.2.1 z.2.2
  | .next, hs => exact hs.elim fun σ' z => z.elim fun H' z => fin (v := V.non) (u := Value.none) z.1 rfl z.2
  | .brk, hs => exact hs.elim fun _ z => z.elim fun _ z => False.elim z.2
  | .cont, hs => exact hs.elim fun _ z => z.elim fun _ z => False.elim z.2
section
variable {X : Cx} {CX : CXT} {k : Nat} {f : Addr} {fd : FuncData} {ps : List Str} {sp : Sp} {E : XK} {x : Str} {p pos : Pos} {e : Expr} {es : List Expr} {t : TA}
/-- f(e, ..), f such a def -/
theorem pe_callG (F : FnOkG X.prog X.w X.K X.mg X.base CX k f fd ps sp) (hG : X.A.guards = some []) (hr : Room k X.A) (hg : Gl X x) (hm : X.mg x = some (.ref f)) (hk : PySem.W.keepIn X.K (.ref f) = true) (hb : L2.Binds X.K fd ps []) (hx : Passes CX X E)
    (ha : PA X (e :: es) t) (hdb : (x == ("__debug__" : Str)) = false := by decide) (he : starEach (e :: es) X.env = (false, eval e X.env) :: starEach es X.env := by rfl) (hpl : (backTo pos (starEach es X.env)).any (·.1) = false := by rfl) :
    PE X (.Call (.Name x p) (e :: es) [] pos) (fun σ H Q => t σ H fun vs H1 => sp vs H1 Q E) := by
  refine ⟨fun pins s σ H Q I h => wpAny_Call_Name_kw (ld_glob I hg hm (PySem.W.callWith_K (h₀ := X.base) I.ok.mod.kin hk (thn (ha.run pos pins s σ H _ I h) fun us s1 ⟨vs, H1, I1, r, q⟩ => ⟨I1.kIn, ?_⟩) he hpl) hdb)⟩
  have hl : us.length = ps.length := r.length.symm.trans (F.len _ _ _ _ q)
  have hb2 : BindsTo s1 fd ⟨us, []⟩ (ps.zip us) := by
    have := hb s1 us I1.kIn (by rw [List.append_nil]; exact hl)
    rwa [List.append_nil] at this
  refine wpAny_call (codeAny_mono (F.run X.A X.stack s1 H1 ⟨us, []⟩ us vs Q E hG hr I1.env0 hb2 r q) fun res s' hq => ?_)
  match res, hq with
  | .error er, hq => exact hx pins σ H1 s1 er s' I1 hq
  | .ok (.ret u), hq => exact I1.after hq
  | .ok .next, hq => exact False.elim hq
  | .ok .brk, hq => exact False.elim hq
  | .ok .cont, hq => exact False.elim hq
/-- repr of data: what PyData.shown says -/
theorem call_reprD (hG : X.A.guards = some []) (hu : X.A.units + 64 + 16 < cLine) : CallR X (.builtin "repr") (fun xs H Q => ∃ (v : V) (d : PyData), xs = [v] ∧ Dp X.K H v d ∧ d.showable = true ∧ d.hasDict = false ∧ d.depth ≤ 64 ∧ d.shown.length ≤ sizeLine ∧ (∀ i, v = .int i → i.natAbs.log2 < 1920) ∧ Q (.str d.shown) H) := by
  intro pins s σ H xs us Q I r h
  obtain ⟨v, d, rfl, hd, hs, hnd, hdp, hsz, hi, q⟩ := h
  obtain ⟨u, rfl, ru⟩ := vals1 r
  have txt : ∀ tk, ∃ (y : V) (H1 : Hp), Inv X pins σ H1 { s with toks := tk } ∧ L2.RelV y (.str d.shown s.toks) ∧ Q y H1 := fun tk => ⟨.str d.shown, H, I.kept (t' := tk) fun _ _ z => z, ⟨_, rfl⟩, q⟩
  have obj : ∀ (a : Addr), u = .ref a → wpAny (model X.prog X.w) X.A (call (.builtin "repr") [u]) (EP X pins σ Q) X.xe s := fun a e => by
    subst e
    obtain ⟨as, rd⟩ := Dp.reads I _ _ _ hd ru
    exact repr_of_reads' rd hs (fun z => by rw [hnd] at z; cases z) hG (by omega) (fun _ _ z => z) (fun h' u tk hk => ⟨.str d.shown, H, I.kept (h' := h') (t' := tk) hk, ⟨_, rfl⟩, q⟩) hsz
  cases hd with
  | non =>
    obtain rfl : u = Value.none := ru
    exact P.repr_of_none (txt _)
  | bl b =>
    obtain rfl : u = Value.bool b := ru
    exact P.repr_of_bool (by cases b <;> exact txt _)
  | int i =>
    obtain ⟨t, rfl⟩ := ru
    exact P.repr_of_int (hi i rfl) (txt _)
  | str y =>
    obtain ⟨t, rfl⟩ := ru
    exact P.repr_of_str (txt _) hsz
  | lst h1 h2 => exact obj _ ru
  | tup h1 h2 => exact obj _ ru
end
end Inf

set_option Elab.async false
set_option linter.all false
set_option maxRecDepth 100000
set_option maxHeartbeats 4000000
namespace Inf
open PySem PySem.Spec PyProof.Rows L2 NdefX LamX
/-! ### a lambda as a value: a function that stands where it was made -/
/-- its words, the cells that it captured, its code object -/
structure LF where
  qual : Str
  params : Arguments
  body : Expr
  scope : Scope
  cl : List (Str × Addr)
  c : Addr
def LamO (f : Addr) (F : LF) : HO := .ext fun h => ∃ (pm ctv : Value), h.get? f = some (PySem.W.kla_obj "<lambda>" F.qual F.params F.body F.scope F.cl pm F.c ctv)
theorem lamO_at {P : Program} {w : World} {H : Hp} {h : Heap} {f : Addr} {F : LF} (hok : HOk P w H h) (e : H f = some (LamO f F)) : ∃ (pm ctv : Value), h.get? f = some (PySem.W.kla_obj "<lambda>" F.qual F.params F.body F.scope F.cl pm F.c ctv) := by
  obtain ⟨z, _, _⟩ := hok f _ e
  exact z
theorem lamO_ok {P : Program} {w : World} {H : Hp} {h : Heap} {f : Addr} {F : LF} (e : ∃ (pm ctv : Value), h.get? f = some (PySem.W.kla_obj "<lambda>" F.qual F.params F.body F.scope F.cl pm F.c ctv)) : ObjOk P w H h f (LamO f F) := by
  refine ⟨e, ?_, fun h1 h2 ⟨pm, ctv, z⟩ k => ⟨pm, ctv, k _ z⟩⟩
  obtain ⟨pm, ctv, z⟩ := e
  exact ⟨_, z⟩
theorem lamHO {f : Addr} {F : LF} : FnHO f (LamO f F) := fun P w H h hok e => by
  obtain ⟨pm, ctv, z⟩ := lamO_at hok e
  exact ⟨_, _, _, _, z⟩
section
variable {X : Cx} {pins : List (Addr × Obj)} {σ : L2.St} {H : Hp} {s : Shared}
/-- the lambda is made and told where it stands; its code object is new, or found in the table -/
theorem lam_told {T : List (Addr × Str)} {c P : Addr} {params : Arguments} {body : Expr} {scope : Scope} {pos : Pos} {E : Value → Shared → Prop} {Q : Value → Shared → Prop} (I : Inv X pins σ H s) (TB : TabB X.base X.mg c P) (hcode : X.env.code = .ref c)
    (hm : (P, X.env.qual ++ "<lambda>") ∈ T) (hu : ∀ p ∈ T, p.1 = P → p.2 = X.env.qual ++ "<lambda>") (hT : Tabs T H) (hdef : defaultsOf params X.env = ([], [])) (hfree : ∀ y ∈ scope.names, y.2 = .free → ∃ c, X.env.cells.lookup y.1 = some c)
    (h : ∀ (f c' : Addr) (H1 : Hp) (s' : Shared), Inv X pins σ (upd H1 f (LamO f ⟨X.env.qual ++ "<lambda>", params, body, scope, cloFrom X.env.cells scope.names [], c'⟩)) s' → (∀ b o, H b = some o → b ≠ P → H1 b = some o) → (∀ b, H1 b = none → H b = none) → Tabs T H1 → H1 f = none → H1 c' = some (CodeO c' (X.env.qual ++ "<lambda>")) → Q (.ref f) s') :
    wpAny (model X.prog X.w) X.A (eval (.Lambda params body scope pos) X.env) Q E s := by
  obtain ⟨ps, tP, tO, tA⟩ := hT _ hm
  have bP := TB.bm.keeps (h' := s.heap) I.bk
  have gP : s.heap.get? P = some { cls := .none, data := .fields ps } := I.hok P _ tP
  refine PySem.W.kla_eval hdef ?_
  cases cd : codeAmong pos ps.toList with
  | none =>
    refine PySem.W.kla_makeFunction (mg := X.mg) (c := c) (P := P) (ps := ps) (closure_ok hfree) I.ok.glob (I.mod.glob.keeps I.bk) hcode (TB.code.keeps I.bk) gP tO cd TB.gP bP fun c' ctv h' tk hx hge hlt hrec htb => ?_
    obtain ⟨c2, oc, vs, t, e2, hoc, hd, hv⟩ := hrec
    cases e2
    have nC : H c' = none := I.hok.fresh hge
    have I0 := inv_table (q := X.env.qual ++ "<lambda>") (t' := tk) (more := #[rawInt pos.line, rawInt pos.col, .ref c']) (h' := h') I tP hx htb hge ⟨oc, vs, t, hoc, hd, hv⟩
    have I1 := I0.laid (a := h'.objs.size) (o := LamO h'.objs.size ⟨X.env.qual ++ "<lambda>", params, body, scope, cloFrom X.env.cells scope.names [], c'⟩) (h' := h'.push (PySem.W.kla_obj "<lambda>" (X.env.qual ++ "<lambda>") params body scope (cloFrom X.env.cells scope.names []) ((X.mg "__name__").getD .none) c' ctv)) (t' := tk)
      (fun b u z => Heap.get?_push_of_some _ z) (Nat.le_refl _) (lamO_ok ⟨_, _, Heap.get?_push_size _ rfl⟩)
    have stays : ∀ b o, H b = some o → b ≠ P → (upd (upd H P (.tbl (ps ++ #[rawInt pos.line, rawInt pos.col, .ref c']))) c' (CodeO c' (X.env.qual ++ "<lambda>"))) b = some o := fun b o e n => by
      rw [upd_ne (ne_of_none e nC), upd_ne n]
      exact e
    have neP : ∀ {b : Addr} {c2 : Addr} {q : Str}, H b = some (CodeO c2 q) → b ≠ P := fun e z => by
      rw [z, tP] at e
      exact codeO_ne _ (Option.some.inj e).symm
    refine h _ c' _ _ I1 stays (fun b z => ?_) (fun p hp => ?_) (I0.hok.fresh (Nat.le_refl _)) upd_same
    · by_cases b1 : b = c'
      · rw [b1]
        exact nC
      · rw [upd_ne b1] at z
        by_cases b2 : b = P
        · rw [b2, upd_same] at z
          cases z
        · rw [upd_ne b2] at z
          exact z
    · obtain ⟨qs, a1, a2, a3⟩ := hT p hp
      by_cases hb : p.1 = P
      · have eL : (ps ++ #[rawInt pos.line, rawInt pos.col, .ref c']).toList = ps.toList ++ [rawInt pos.line, rawInt pos.col, .ref c'] := by simp
        refine ⟨_, by rw [hb, upd_ne (ne_of_none tP nC), upd_same], ?_, fun p' cv y => ?_⟩
        · rw [eL]
          exact PySem.TriplesOk_snoc _ _ _ _ tO
        · rw [eL] at y
          rw [hu p hp hb]
          rcases among_app _ tO y with z | z
          · obtain ⟨c0, k1, k2⟩ := tA p' cv z
            exact ⟨c0, k1, stays _ _ k2 (neP k2)⟩
          · exact ⟨c', z, upd_same⟩
      · refine ⟨qs, ?_, a2, fun p' cv y => ?_⟩
        · rw [upd_ne (ne_of_none a1 nC), upd_ne hb]
          exact a1
        · obtain ⟨c0, k1, k2⟩ := a3 p' cv y
          exact ⟨c0, k1, stays _ _ k2 (neP k2)⟩
  | some cv =>
    obtain ⟨c', e, hco⟩ := tA pos cv cd
    subst e
    refine PySem.W.kla_makeFunctionHit (mg := X.mg) (c := c) (P := P) (ps := ps) (closure_ok hfree) I.ok.glob (I.mod.glob.keeps I.bk) hcode (TB.code.keeps I.bk) gP tO cd bP fun ctv h' tk hx hsz => ?_
    have I0 : Inv X pins σ H { s with heap := h', toks := tk } := I.kept hx
    have I1 := I0.laid (a := h'.objs.size) (o := LamO h'.objs.size ⟨X.env.qual ++ "<lambda>", params, body, scope, cloFrom X.env.cells scope.names [], c'⟩) (h' := h'.push (PySem.W.kla_obj "<lambda>" (X.env.qual ++ "<lambda>") params body scope (cloFrom X.env.cells scope.names []) ((X.mg "__name__").getD .none) c' ctv)) (t' := tk)
      (fun b u z => Heap.get?_push_of_some _ z) (Nat.le_refl _) (lamO_ok ⟨_, _, Heap.get?_push_size _ rfl⟩)
    exact h _ c' H _ I1 (fun _ _ e _ => e) (fun _ z => z) hT (I0.hok.fresh (Nat.le_refl _)) hco
end
def tLamO (T : List (Addr × Str)) (P : Addr) (F : Addr → LF) : TE := fun σ H Q => Tabs T H ∧ ∀ (f c' : Addr) (H1 : Hp), (∀ b o, H b = some o → b ≠ P → H1 b = some o) → (∀ b, H1 b = none → H b = none) → Tabs T H1 → H1 f = none → H1 c' = some (CodeO c' (F c').qual) → Q (.ref f) (upd H1 f (LamO f (F c')))
theorem pe_lamO {X : Cx} {T : List (Addr × Str)} {c P : Addr} {params : Arguments} {body : Expr} {scope : Scope} {pos : Pos} (TB : TabB X.base X.mg c P) (hcode : X.env.code = .ref c) (hm : (P, X.env.qual ++ "<lambda>") ∈ T) (hu : ∀ p ∈ T, p.1 = P → p.2 = X.env.qual ++ "<lambda>")
    (hdef : defaultsOf params X.env = ([], [])) (hfree : ∀ y ∈ scope.names, y.2 = .free → X.env.scope.names.lookup y.1 = some .cell ∨ X.env.scope.names.lookup y.1 = some .free) :
    PE X (.Lambda params body scope pos) (tLamO T P fun c' => ⟨X.env.qual ++ "<lambda>", params, body, scope, cloFrom X.env.cells scope.names [], c'⟩) := by
  refine ⟨fun pins s σ H Q I h => ?_⟩
  obtain ⟨hT, q⟩ := h
  exact lam_told I TB hcode hm hu hT hdef (fun y hy e => (hfree y hy e).elim (fun z => I.ok.has _ (.inl z)) fun z => I.ok.has _ (.inr z)) fun f c' H1 s' I1 e1 n1 t1 nf hc => ⟨.ref f, _, I1, rfl, q f c' H1 e1 n1 t1 nf hc⟩
end Inf

set_option Elab.async false
set_option linter.all false
set_option maxRecDepth 100000
set_option maxHeartbeats 4000000
namespace Inf
open PySem PySem.Spec PyProof.Rows L2 NdefX LamX
/-- its words as those of a function: for the frame alone -/
def LF.nf (F : LF) : NF := ⟨"<lambda>", F.qual, F.params, [], F.scope, F.cl, F.c⟩
section
variable {P : Program} {w : World} {K : PySem.W.Frag} {mg : Str → Option Value} {base : Heap} {k : Nat} {f : Addr} {F : LF} {N ps : List Str} {sp : Sp}
/-- a lambda that captures nothing, called from anywhere -/
theorem lam_fnR (S : NScope N ps [] F.scope) (hcl : F.cl = []) (hb : ∀ (pm ctv : Value) (us : List Value), us.length = ps.length → bindArgs (PySem.W.kla_fn "<lambda>" F.qual F.params F.body F.scope F.cl pm (.ref F.c) ctv) ⟨us, []⟩ = pure (ps.zip us))
    (len : ∀ vs H Q E, sp vs H Q E → vs.length = ps.length)
    (hbody : ∀ (A : Around) (outer : List Env) (s : Shared) (H : Hp) (vs : List V) (Q : VK) (E : XK), Room k (A.deeper (envF F.nf f s.heap.objs.size)) → sp vs H Q E → ∃ te, PE (ncx CX0 P w K mg base N F.nf f A outer s H E) F.body te ∧ te (startF N vs []) H Q) :
    FnR P w K mg base CX0 (k + 1) f (fun vs H Q E => H f = some (LamO f F) ∧ H F.c = some (CodeO F.c F.qual) ∧ sp vs H Q E) := by
  intro A outer s H us vs Q E hr e0 r hsp
  obtain ⟨hf, hc, hsp⟩ := hsp
  have hl := len _ _ _ _ hsp
  have lim : s.heap.NoLimit := e0.mod.nolimit.keeps fun b o e => (e0.bs b o e).1
  obtain ⟨pm, ctv, ho⟩ := lamO_at e0.hok hf
  have C : CellsAt F.nf.cl [] [] s.heap H := by
    show CellsAt F.cl [] [] s.heap H
    rw [hcl]
    exact ⟨rfl, (fun y c e => nomatch e), (fun x y c e => nomatch e), (fun i y e => nomatch e)⟩
  refine PySem.W.kla_callFunE hr.depth ho rfl S.co S.gen rfl (codeO_at e0.hok hc) ?_
  rw [hb pm ctv us (by rw [← r.length]; exact hl)]
  refine wpAny_pure (wpAny_newFunctionEnv S.nocell (fun ⟨n, _⟩ hy => S.par n (List.of_mem_zip hy).1) (fun h₁ hns hsb => ⟨lim.fresh _ hsb, ?_⟩) S.kind)
  obtain ⟨te, ht, hq⟩ := hbody A outer s H vs Q E (hr.deeper _) hsp
  have kp : ∀ b o, s.heap.get? b = some o → h₁.get? b = some o := fun b o e => hsb.extBut b o (Nat.ne_of_lt (Heap.lt_size e)) (Heap.get?_push_of_some _ e)
  have I := inv_startN (CX := CX0) (P := P) (w := w) (K := K) (mg := mg) (base := base) (F := F.nf) (f := f) (A := A) (outer := outer) (E := E) (tk := s.toks + (ps.zip us).length) S hr.hd e0 hl r C hns kp
  refine PySem.W.kla_codeExpr (wpAny_mono (ht.run [] _ (startF N vs []) H Q I hq) (fun u s' hs => ?_) fun e s' hs => hs)
  obtain ⟨v, H', J, rv, q⟩ := hs
  exact ⟨v, H', J.os, J.bare, J.base, J.hok, rv, q⟩
end
end Inf

set_option Elab.async false
set_option linter.all false
set_option maxRecDepth 100000
set_option maxHeartbeats 4000000
namespace Ob
open PySem PySem.Spec PyProof.Rows L2
/-! ### a def whose code object is named: it makes functions -/
structure FunT (K : PySem.W.Frag) (x qual : Str) (st : Stmt) (f : Addr) (fd : FuncData) (c : Addr) : Prop where
  ex : ∃ (oc : Value) (od : Option Addr) (kV doc pm : Value) (an : Option Addr) (ct : Value) (osl : Array (Option Value)),
    fd = PySem.W.fnOf x qual (defArgs st) (defBody st) (defScope st) .none kV doc pm an (.ref c) ct ∧ K.lookup f = some ⟨oc, od, .func fd, osl⟩ ∧ PySem.W.codeIn K (.ref c) qual = true
  kp : PySem.W.keepIn K (.ref f) = true
theorem FunT.ok {P : Program} {w : World} {K : PySem.W.Frag} {mg : Str → Option Value} {base : Heap} {x qual : Str} {st : Stmt} {f c : Addr} {fd : FuncData} {CX : CXT} {N ps : List Str} {k : Nat} {sp : Sp} (F : FunT K x qual st f fd c) (S : FnScope N ps (defScope st)) (len : ∀ vs H Q E, sp vs H Q E → vs.length = ps.length)
    (hbody : ∀ (A : Around) (outer : List Env) (s : Shared) (H : Hp) (vs : List V) (Q : VK) (E : XK), Room k (A.deeper (envOfC qual (defScope st) s.heap.objs.size f (.ref c))) → sp vs H Q E →
      ∃ t, PSs (cxOf CX P w K mg base N qual (defScope st) f (.ref c) A outer s H E) (defBody st) t ∧ t { nx := fun _ H' => Q .non H', rt := Q } (L2.start N vs) H) : FnOk P w K mg base CX (k + 1) f fd ps sp := by
  obtain ⟨oc, od, kV, doc, pm, an, ct, osl, rfl, lk, hcd⟩ := F.ex
  exact fn_of lk hcd S len fun A outer s H vs Q E hr hsp => hbody A outer s H vs Q E hr hsp
theorem all_cons {α : Type} {P : α → Prop} {a : α} {l : List α} (h : P a) (t : ∀ x ∈ l, P x) : ∀ x ∈ a :: l, P x := fun x m => (List.mem_cons.mp m).elim (fun e => by rw [e]; exact h) (t x)

/-! ### the text -/
def topS (i : Nat) : Stmt := PySem.Challenge.pw_oncebuilt_k08_members_are_any_objects.main.body.getD i (.Pass ⟨0, 0, 0, 0⟩)
abbrev s_Asker_init : Stmt := inClass (topS 2) 0
abbrev n_Asker_init : List Str := ["self", "calls", "ask", "join", "zero"]
theorem sc_Asker_init : FnScope n_Asker_init ["self", "calls", "ask", "join", "zero"] (defScope s_Asker_init) := ⟨rfl, rfl, rfl, by decide +kernel, rfl, by decide +kernel, by decide +kernel⟩
abbrev s_Asker_answer : Stmt := inClass (topS 2) 1
abbrev n_Asker_answer : List Str := ["self", "parts", "question", "mark", "so_far", "many", "numbers", "block", "more", "found"]
theorem sc_Asker_answer : FnScope n_Asker_answer ["self", "parts", "question", "mark"] (defScope s_Asker_answer) := ⟨rfl, rfl, rfl, by decide +kernel, rfl, by decide +kernel, by decide +kernel⟩
abbrev s_exponent : Stmt := topS 10
abbrev n_exponent : List Str := ["number"]
theorem sc_exponent : FnScope n_exponent ["number"] (defScope s_exponent) := ⟨rfl, rfl, rfl, by decide +kernel, rfl, by decide +kernel, by decide +kernel⟩
abbrev s_lowest_power : Stmt := topS 11
abbrev n_lowest_power : List Str := ["number"]
theorem sc_lowest_power : FnScope n_lowest_power ["number"] (defScope s_lowest_power) := ⟨rfl, rfl, rfl, by decide +kernel, rfl, by decide +kernel, by decide +kernel⟩
abbrev s_Builder_init : Stmt := inClass (topS 17) 0
abbrev n_Builder_init : List Str := ["self", "calls", "build"]
theorem sc_Builder_init : FnScope n_Builder_init ["self", "calls", "build"] (defScope s_Builder_init) := ⟨rfl, rfl, rfl, by decide +kernel, rfl, by decide +kernel, by decide +kernel⟩
abbrev s_Builder_part : Stmt := inClass (topS 17) 1
abbrev n_Builder_part : List Str := ["self", "numbers", "held", "mark", "entry", "block", "number"]
theorem sc_Builder_part : FnScope n_Builder_part ["self", "numbers", "held", "mark"] (defScope s_Builder_part) := ⟨rfl, rfl, rfl, by decide +kernel, rfl, by decide +kernel, by decide +kernel⟩
abbrev s_Builder_grown_row : Stmt := inClass (topS 17) 3
abbrev n_Builder_grown_row : List Str := ["self", "parts", "many", "number", "held", "mark", "kept", "numbers"]
theorem sc_Builder_grown_row : FnScope n_Builder_grown_row ["self", "parts", "many", "number", "held", "mark"] (defScope s_Builder_grown_row) := ⟨rfl, rfl, rfl, by decide +kernel, rfl, by decide +kernel, by decide +kernel⟩
abbrev s_growth : Stmt := topS 18
abbrev n_growth : List Str := ["parts", "many", "number", "kept", "numbers", "some", "block"]
theorem sc_growth : FnScope n_growth ["parts", "many", "number"] (defScope s_growth) := ⟨rfl, rfl, rfl, by decide +kernel, rfl, by decide +kernel, by decide +kernel⟩
abbrev s_build_entry : Stmt := topS 20
abbrev n_build_entry : List Str := ["numbers", "mark"]
theorem sc_build_entry : FnScope n_build_entry ["numbers", "mark"] (defScope s_build_entry) := ⟨rfl, rfl, rfl, by decide +kernel, rfl, by decide +kernel, by decide +kernel⟩
abbrev s_Calls_init : Stmt := inClass (topS 22) 0
abbrev n_Calls_init : List Str := ["self"]
theorem sc_Calls_init : FnScope n_Calls_init ["self"] (defScope s_Calls_init) := ⟨rfl, rfl, rfl, by decide +kernel, rfl, by decide +kernel, by decide +kernel⟩
abbrev s_Calls_check : Stmt := inClass (topS 22) 1
abbrev n_Calls_check : List Str := ["self"]
theorem sc_Calls_check : FnScope n_Calls_check ["self"] (defScope s_Calls_check) := ⟨rfl, rfl, rfl, by decide +kernel, rfl, by decide +kernel, by decide +kernel⟩
abbrev s_Calls_run : Stmt := inClass (topS 22) 2
abbrev n_Calls_run : List Str := ["self", "entry", "action", "values", "result"]
theorem sc_Calls_run : FnScope n_Calls_run ["self", "entry", "action", "values"] (defScope s_Calls_run) := ⟨rfl, rfl, rfl, by decide +kernel, rfl, by decide +kernel, by decide +kernel⟩
abbrev s_Blocks_init : Stmt := inClass (topS 24) 1
abbrev n_Blocks_init : List Str := ["self", "build", "ask", "join", "zero"]
theorem sc_Blocks_init : FnScope n_Blocks_init ["self", "build", "ask", "join", "zero"] (defScope s_Blocks_init) := ⟨rfl, rfl, rfl, by decide +kernel, rfl, by decide +kernel, by decide +kernel⟩
abbrev s_Blocks_add : Stmt := inClass (topS 24) 3
abbrev n_Blocks_add : List Str := ["self", "member", "number", "held"]
theorem sc_Blocks_add : FnScope n_Blocks_add ["self", "member"] (defScope s_Blocks_add) := ⟨rfl, rfl, rfl, by decide +kernel, rfl, by decide +kernel, by decide +kernel⟩
abbrev s_Blocks_query : Stmt := inClass (topS 24) 5
abbrev n_Blocks_query : List Str := ["self", "question"]
theorem sc_Blocks_query : FnScope n_Blocks_query ["self", "question"] (defScope s_Blocks_query) := ⟨rfl, rfl, rfl, by decide +kernel, rfl, by decide +kernel, by decide +kernel⟩
abbrev s_Blocks_members : Stmt := inClass (topS 24) 6
abbrev n_Blocks_members : List Str := ["self"]
theorem sc_Blocks_members : FnScope n_Blocks_members ["self"] (defScope s_Blocks_members) := ⟨rfl, rfl, rfl, by decide +kernel, rfl, by decide +kernel, by decide +kernel⟩
abbrev s_Blocks_len : Stmt := inClass (topS 24) 14
abbrev n_Blocks_len : List Str := ["self"]
theorem sc_Blocks_len : FnScope n_Blocks_len ["self"] (defScope s_Blocks_len) := ⟨rfl, rfl, rfl, by decide +kernel, rfl, by decide +kernel, by decide +kernel⟩
abbrev s_l_bag : Stmt := topS 26
abbrev n_l_bag : List Str := ["_law_script", "_law_at", "_law_cell", "_law_great", "_law_primes"]
theorem sc_l_bag : FnScope n_l_bag ["_law_script", "_law_at"] (defScope s_l_bag) := ⟨rfl, rfl, rfl, by decide +kernel, rfl, by decide +kernel, by decide +kernel⟩
abbrev s_l_take : Stmt := topS 27
abbrev n_l_take : List Str := ["_law_bag_here", "_law_many", "_law_digit"]
theorem sc_l_take : FnScope n_l_take ["_law_bag_here", "_law_many"] (defScope s_l_take) := ⟨rfl, rfl, rfl, by decide +kernel, rfl, by decide +kernel, by decide +kernel⟩
abbrev s_l_thing : Stmt := topS 28
abbrev n_l_thing : List Str := ["_law_bag_here", "_law_some"]
theorem sc_l_thing : FnScope n_l_thing ["_law_bag_here"] (defScope s_l_thing) := ⟨rfl, rfl, rfl, by decide +kernel, rfl, by decide +kernel, by decide +kernel⟩
abbrev s_l_right : Stmt := topS 29
abbrev n_l_right : List Str := ["_law_bag_here", "_law_zero_list", "_law_seen", "_law_blocks", "_law_turn", "_law_one", "_law_told"]
theorem sc_l_right : FnScope n_l_right ["_law_bag_here", "_law_zero_list"] (defScope s_l_right) := ⟨rfl, rfl, rfl, by decide +kernel, rfl, by decide +kernel, by decide +kernel⟩
abbrev s_law : Stmt := topS 30
abbrev n_law : List Str := ["_law_script", "_law_k", "_law_bag_here"]
theorem sc_law : FnScope n_law ["_law_script"] (defScope s_law) := ⟨rfl, rfl, rfl, by decide +kernel, rfl, by decide +kernel, by decide +kernel⟩
structure Txt (K : PySem.W.Frag) (mg : Str → Option Value) where
  C_Calls : Addr
  gc_Calls : mg "Calls" = some (.ref C_Calls)
  C_Asker : Addr
  gc_Asker : mg "Asker" = some (.ref C_Asker)
  C_Builder : Addr
  gc_Builder : mg "Builder" = some (.ref C_Builder)
  C_Blocks : Addr
  gc_Blocks : mg "Blocks" = some (.ref C_Blocks)
  f_Asker_init : Addr
  d_Asker_init : FuncData
  -- 
  F_Asker_init : Fun K "__init__" "Asker.__init__" s_Asker_init f_Asker_init d_Asker_init
  b_Asker_init : Binds K d_Asker_init ["self", "calls", "ask", "join", "zero"] []
  m_Asker_init : PySem.W.findIn K (.ref C_Asker) "__init__" = some (some (.ref f_Asker_init))
  t_Asker_init : PySem.W.isFn K (.ref f_Asker_init) = true
  y_Asker_init : PySem.W.typeIn K (.ref f_Asker_init) = some (.type "function")
  k_Asker_init : PySem.W.keepIn K (.ref f_Asker_init) = true
  f_Asker_answer : Addr
  d_Asker_answer : FuncData
  E_Asker_answer : Addr
  F_Asker_answer : FunD K "answer" "Asker.answer" (defArgs s_Asker_answer) (defBody s_Asker_answer) (defScope s_Asker_answer) [V.ref E_Asker_answer] [] f_Asker_answer d_Asker_answer
  S_Asker_answer : ∀ H, SqT K H E_Asker_answer []
  ds_Asker_answer : List Value
  vd_Asker_answer : Vals [V.ref E_Asker_answer] ds_Asker_answer
  bd_Asker_answer : Binds K d_Asker_answer ["self", "parts", "question", "mark"] ds_Asker_answer
  b_Asker_answer : Binds K d_Asker_answer ["self", "parts", "question", "mark"] []
  m_Asker_answer : PySem.W.findIn K (.ref C_Asker) "answer" = some (some (.ref f_Asker_answer))
  t_Asker_answer : PySem.W.isFn K (.ref f_Asker_answer) = true
  y_Asker_answer : PySem.W.typeIn K (.ref f_Asker_answer) = some (.type "function")
  k_Asker_answer : PySem.W.keepIn K (.ref f_Asker_answer) = true
  f_Builder_init : Addr
  d_Builder_init : FuncData
  -- 
  F_Builder_init : Fun K "__init__" "Builder.__init__" s_Builder_init f_Builder_init d_Builder_init
  b_Builder_init : Binds K d_Builder_init ["self", "calls", "build"] []
  m_Builder_init : PySem.W.findIn K (.ref C_Builder) "__init__" = some (some (.ref f_Builder_init))
  t_Builder_init : PySem.W.isFn K (.ref f_Builder_init) = true
  y_Builder_init : PySem.W.typeIn K (.ref f_Builder_init) = some (.type "function")
  k_Builder_init : PySem.W.keepIn K (.ref f_Builder_init) = true
  f_Builder_part : Addr
  d_Builder_part : FuncData
  E_Builder_part : Addr
  F_Builder_part : FunD K "part" "Builder.part" (defArgs s_Builder_part) (defBody s_Builder_part) (defScope s_Builder_part) [V.ref E_Builder_part] [] f_Builder_part d_Builder_part
  S_Builder_part : ∀ H, SqT K H E_Builder_part []
  ds_Builder_part : List Value
  vd_Builder_part : Vals [V.ref E_Builder_part] ds_Builder_part
  bd_Builder_part : Binds K d_Builder_part ["self", "numbers", "held", "mark"] ds_Builder_part
  b_Builder_part : Binds K d_Builder_part ["self", "numbers", "held", "mark"] []
  m_Builder_part : PySem.W.findIn K (.ref C_Builder) "part" = some (some (.ref f_Builder_part))
  t_Builder_part : PySem.W.isFn K (.ref f_Builder_part) = true
  y_Builder_part : PySem.W.typeIn K (.ref f_Builder_part) = some (.type "function")
  k_Builder_part : PySem.W.keepIn K (.ref f_Builder_part) = true
  f_Builder_grown_row : Addr
  d_Builder_grown_row : FuncData
  E_Builder_grown_row : Addr
  F_Builder_grown_row : FunD K "grown_row" "Builder.grown_row" (defArgs s_Builder_grown_row) (defBody s_Builder_grown_row) (defScope s_Builder_grown_row) [V.ref E_Builder_grown_row] [] f_Builder_grown_row d_Builder_grown_row
  S_Builder_grown_row : ∀ H, SqT K H E_Builder_grown_row []
  ds_Builder_grown_row : List Value
  vd_Builder_grown_row : Vals [V.ref E_Builder_grown_row] ds_Builder_grown_row
  bd_Builder_grown_row : Binds K d_Builder_grown_row ["self", "parts", "many", "number", "held", "mark"] ds_Builder_grown_row
  b_Builder_grown_row : Binds K d_Builder_grown_row ["self", "parts", "many", "number", "held", "mark"] []
  m_Builder_grown_row : PySem.W.findIn K (.ref C_Builder) "grown_row" = some (some (.ref f_Builder_grown_row))
  t_Builder_grown_row : PySem.W.isFn K (.ref f_Builder_grown_row) = true
  y_Builder_grown_row : PySem.W.typeIn K (.ref f_Builder_grown_row) = some (.type "function")
  k_Builder_grown_row : PySem.W.keepIn K (.ref f_Builder_grown_row) = true
  f_Calls_init : Addr
  d_Calls_init : FuncData
  -- 
  F_Calls_init : Fun K "__init__" "Calls.__init__" s_Calls_init f_Calls_init d_Calls_init
  b_Calls_init : Binds K d_Calls_init ["self"] []
  m_Calls_init : PySem.W.findIn K (.ref C_Calls) "__init__" = some (some (.ref f_Calls_init))
  t_Calls_init : PySem.W.isFn K (.ref f_Calls_init) = true
  y_Calls_init : PySem.W.typeIn K (.ref f_Calls_init) = some (.type "function")
  k_Calls_init : PySem.W.keepIn K (.ref f_Calls_init) = true
  f_Calls_check : Addr
  d_Calls_check : FuncData
  -- 
  F_Calls_check : Fun K "check" "Calls.check" s_Calls_check f_Calls_check d_Calls_check
  b_Calls_check : Binds K d_Calls_check ["self"] []
  m_Calls_check : PySem.W.findIn K (.ref C_Calls) "check" = some (some (.ref f_Calls_check))
  t_Calls_check : PySem.W.isFn K (.ref f_Calls_check) = true
  y_Calls_check : PySem.W.typeIn K (.ref f_Calls_check) = some (.type "function")
  k_Calls_check : PySem.W.keepIn K (.ref f_Calls_check) = true
  f_Calls_run : Addr
  d_Calls_run : FuncData
  -- 
  F_Calls_run : Fun K "run" "Calls.run" s_Calls_run f_Calls_run d_Calls_run
  m_Calls_run : PySem.W.findIn K (.ref C_Calls) "run" = some (some (.ref f_Calls_run))
  t_Calls_run : PySem.W.isFn K (.ref f_Calls_run) = true
  y_Calls_run : PySem.W.typeIn K (.ref f_Calls_run) = some (.type "function")
  k_Calls_run : PySem.W.keepIn K (.ref f_Calls_run) = true
  f_Blocks_init : Addr
  d_Blocks_init : FuncData
  -- 
  F_Blocks_init : FunD K "__init__" "Blocks.__init__" (defArgs s_Blocks_init) (defBody s_Blocks_init) (defScope s_Blocks_init) [] [("zero", V.non)] f_Blocks_init d_Blocks_init
  m_Blocks_init : PySem.W.findIn K (.ref C_Blocks) "__init__" = some (some (.ref f_Blocks_init))
  t_Blocks_init : PySem.W.isFn K (.ref f_Blocks_init) = true
  y_Blocks_init : PySem.W.typeIn K (.ref f_Blocks_init) = some (.type "function")
  k_Blocks_init : PySem.W.keepIn K (.ref f_Blocks_init) = true
  f_Blocks_add : Addr
  d_Blocks_add : FuncData
  -- 
  F_Blocks_add : Fun K "add" "Blocks.add" s_Blocks_add f_Blocks_add d_Blocks_add
  b_Blocks_add : Binds K d_Blocks_add ["self", "member"] []
  m_Blocks_add : PySem.W.findIn K (.ref C_Blocks) "add" = some (some (.ref f_Blocks_add))
  t_Blocks_add : PySem.W.isFn K (.ref f_Blocks_add) = true
  y_Blocks_add : PySem.W.typeIn K (.ref f_Blocks_add) = some (.type "function")
  k_Blocks_add : PySem.W.keepIn K (.ref f_Blocks_add) = true
  f_Blocks_query : Addr
  d_Blocks_query : FuncData
  -- 
  F_Blocks_query : Fun K "query" "Blocks.query" s_Blocks_query f_Blocks_query d_Blocks_query
  b_Blocks_query : Binds K d_Blocks_query ["self", "question"] []
  m_Blocks_query : PySem.W.findIn K (.ref C_Blocks) "query" = some (some (.ref f_Blocks_query))
  t_Blocks_query : PySem.W.isFn K (.ref f_Blocks_query) = true
  y_Blocks_query : PySem.W.typeIn K (.ref f_Blocks_query) = some (.type "function")
  k_Blocks_query : PySem.W.keepIn K (.ref f_Blocks_query) = true
  f_Blocks_members : Addr
  d_Blocks_members : FuncData
  -- 
  F_Blocks_members : Fun K "members" "Blocks.members" s_Blocks_members f_Blocks_members d_Blocks_members
  b_Blocks_members : Binds K d_Blocks_members ["self"] []
  m_Blocks_members : PySem.W.findIn K (.ref C_Blocks) "members" = some (some (.ref f_Blocks_members))
  t_Blocks_members : PySem.W.isFn K (.ref f_Blocks_members) = true
  y_Blocks_members : PySem.W.typeIn K (.ref f_Blocks_members) = some (.type "function")
  k_Blocks_members : PySem.W.keepIn K (.ref f_Blocks_members) = true
  f_Blocks_len : Addr
  d_Blocks_len : FuncData
  -- 
  F_Blocks_len : Fun K "__len__" "Blocks.__len__" s_Blocks_len f_Blocks_len d_Blocks_len
  b_Blocks_len : Binds K d_Blocks_len ["self"] []
  m_Blocks_len : PySem.W.findIn K (.ref C_Blocks) "__len__" = some (some (.ref f_Blocks_len))
  t_Blocks_len : PySem.W.isFn K (.ref f_Blocks_len) = true
  y_Blocks_len : PySem.W.typeIn K (.ref f_Blocks_len) = some (.type "function")
  k_Blocks_len : PySem.W.keepIn K (.ref f_Blocks_len) = true
  f_exponent : Addr
  d_exponent : FuncData
  F_exponent : Fun K "exponent" "exponent" s_exponent f_exponent d_exponent
  b_exponent : Binds K d_exponent ["number"] []
  g_exponent : mg "exponent" = some (.ref f_exponent)
  f_lowest_power : Addr
  d_lowest_power : FuncData
  F_lowest_power : Fun K "lowest_power" "lowest_power" s_lowest_power f_lowest_power d_lowest_power
  b_lowest_power : Binds K d_lowest_power ["number"] []
  g_lowest_power : mg "lowest_power" = some (.ref f_lowest_power)
  f_growth : Addr
  d_growth : FuncData
  F_growth : Fun K "growth" "growth" s_growth f_growth d_growth
  b_growth : Binds K d_growth ["parts", "many", "number"] []
  g_growth : mg "growth" = some (.ref f_growth)
  f_build_entry : Addr
  d_build_entry : FuncData
  E_build_entry : Addr
  F_build_entry : FunD K "build_entry" "build_entry" (defArgs s_build_entry) (defBody s_build_entry) (defScope s_build_entry) [V.ref E_build_entry] [] f_build_entry d_build_entry
  S_build_entry : ∀ H, SqT K H E_build_entry []
  ds_build_entry : List Value
  vd_build_entry : Vals [V.ref E_build_entry] ds_build_entry
  bd_build_entry : Binds K d_build_entry ["numbers", "mark"] ds_build_entry
  b_build_entry : Binds K d_build_entry ["numbers", "mark"] []
  g_build_entry : mg "build_entry" = some (.ref f_build_entry)
  f_l_bag : Addr
  d_l_bag : FuncData
  F_l_bag : Fun K "_law_bag" "_law_bag" s_l_bag f_l_bag d_l_bag
  b_l_bag : Binds K d_l_bag ["_law_script", "_law_at"] []
  g_l_bag : mg "_law_bag" = some (.ref f_l_bag)
  f_l_take : Addr
  d_l_take : FuncData
  F_l_take : Fun K "_law_take" "_law_take" s_l_take f_l_take d_l_take
  b_l_take : Binds K d_l_take ["_law_bag_here", "_law_many"] []
  g_l_take : mg "_law_take" = some (.ref f_l_take)
  f_l_thing : Addr
  d_l_thing : FuncData
  c_l_thing : Addr
  p_l_thing : Addr
  F_l_thing : FunT K "_law_thing" "_law_thing" s_l_thing f_l_thing d_l_thing c_l_thing
  b_l_thing : Binds K d_l_thing ["_law_bag_here"] []
  g_l_thing : mg "_law_thing" = some (.ref f_l_thing)
  f_l_right : Addr
  d_l_right : FuncData
  c_l_right : Addr
  p_l_right : Addr
  F_l_right : FunT K "_law_right" "_law_right" s_l_right f_l_right d_l_right c_l_right
  b_l_right : Binds K d_l_right ["_law_bag_here", "_law_zero_list"] []
  g_l_right : mg "_law_right" = some (.ref f_l_right)
  pne_l_thing_l_right : p_l_thing ≠ p_l_right
  z_abs : mg "abs" = none
  z_bool : mg "bool" = none
  z_classmethod : mg "classmethod" = none
  z_dict : mg "dict" = none
  z_int : mg "int" = none
  z_isinstance : mg "isinstance" = none
  z_len : mg "len" = none
  z_list : mg "list" = none
  z_min : mg "min" = none
  z_range : mg "range" = none
  z_tuple : mg "tuple" = none
  cl_Calls : Cls K C_Calls
  mk_Calls : PySem.W.makesIn K C_Calls = true
  kp_Calls : PySem.W.keepIn K (.ref C_Calls) = true
  n_Calls_entries : NoAttr K C_Calls "entries"
  n_Calls_running : NoAttr K C_Calls "running"
  cl_Asker : Cls K C_Asker
  mk_Asker : PySem.W.makesIn K C_Asker = true
  kp_Asker : PySem.W.keepIn K (.ref C_Asker) = true
  n_Asker_calls : NoAttr K C_Asker "calls"
  n_Asker_ask_call : NoAttr K C_Asker "ask_call"
  n_Asker_join_call : NoAttr K C_Asker "join_call"
  n_Asker_zero : NoAttr K C_Asker "zero"
  cl_Builder : Cls K C_Builder
  mk_Builder : PySem.W.makesIn K C_Builder = true
  kp_Builder : PySem.W.keepIn K (.ref C_Builder) = true
  n_Builder_calls : NoAttr K C_Builder "calls"
  n_Builder_build_call : NoAttr K C_Builder "build_call"
  cl_Blocks : Cls K C_Blocks
  mk_Blocks : PySem.W.makesIn K C_Blocks = true
  kp_Blocks : PySem.W.keepIn K (.ref C_Blocks) = true
  n_Blocks_calls : NoAttr K C_Blocks "calls"
  n_Blocks_builder : NoAttr K C_Blocks "builder"
  n_Blocks_asker : NoAttr K C_Blocks "asker"
  n_Blocks_held : NoAttr K C_Blocks "held"
  n_Blocks_parts : NoAttr K C_Blocks "parts"

theorem log_lo {n : Nat} (h : n ≠ 0) : 2 ^ n.log2 ≤ n := Nat.log2_self_le h
theorem log_hi {n : Nat} : n < 2 ^ (n.log2 + 1) := Nat.lt_log2_self
theorem log_lt {n f : Nat} (h : n ≠ 0) (hf : n < 2 ^ f) : n.log2 < f := (Nat.log2_lt h).mpr hf
theorem rest_lt {n : Nat} (h : n ≠ 0) : n - 2 ^ n.log2 < 2 ^ n.log2 := by
  have a := log_hi (n := n)
  have b := log_lo h
  rw [Nat.pow_succ] at a
  omega
theorem rest_lt' {n f : Nat} (h : n ≠ 0) (hf : n < 2 ^ (f + 1)) : n - 2 ^ n.log2 < 2 ^ f := by
  have a := rest_lt h
  have b := log_lt h hf
  have c : 2 ^ n.log2 ≤ 2 ^ f := Nat.pow_le_pow_right (by decide) (by omega)
  omega
/-- the lowest power -/
def low (n : Nat) : Nat := if h : n = 0 then 1 else if n % 2 = 0 then 2 * low (n / 2) else 1
termination_by n
decreasing_by omega
theorem low_even {n : Nat} (h : n ≠ 0) (e : n % 2 = 0) : low n = 2 * low (n / 2) := by
  rw [low, dif_neg h, if_pos e]
theorem low_odd {n : Nat} (e : n % 2 = 1) : low n = 1 := by
  rw [low, dif_neg (by omega), if_neg (by omega)]
theorem low_is : ∀ (j n : Nat), n ≠ 0 → n % 2 ^ j = 0 → ¬ n % 2 ^ (j + 1) = 0 → low n = 2 ^ j
  | 0, n, h, _, e => by
    rw [Nat.zero_add, Nat.pow_one] at e
    exact low_odd (by omega)
  | j + 1, n, h, a, b => by
    have e2 : n % 2 = 0 := by
      rw [Nat.pow_succ] at a
      have := Nat.mod_mod_of_dvd n (show 2 ∣ 2 ^ j * 2 from ⟨2 ^ j, Nat.mul_comm _ _⟩)
      rw [a] at this
      omega
    obtain ⟨m, rfl⟩ : ∃ m, n = 2 * m := ⟨n / 2, by omega⟩
    have hm : m ≠ 0 := by omega
    rw [low_even h e2, Nat.mul_div_cancel_left _ (by decide), Nat.pow_succ, Nat.mul_comm]
    have a' : m % 2 ^ j = 0 := by
      rw [Nat.pow_succ, Nat.mul_comm (2 ^ j) 2, Nat.mul_mod_mul_left] at a
      omega
    have b' : ¬ m % 2 ^ (j + 1) = 0 := fun z => by
      rw [Nat.pow_succ, Nat.mul_comm (2 ^ (j + 1)) 2, Nat.mul_mod_mul_left, z] at b
      exact b rfl
    rw [low_is j m hm a' b']
theorem low_pow (j : Nat) : low (2 ^ j) = 2 ^ j := by
  refine low_is j _ (Nat.pos_iff_ne_zero.mp (Nat.two_pow_pos j)) (Nat.mod_self _) fun z => ?_
  rw [Nat.mod_eq_of_lt (Nat.pow_lt_pow_right (by decide) (by omega))] at z
  have := Nat.two_pow_pos j
  omega

theorem ifT {c : Bool} {A B : Prop} (hc : c = true) (h : A) : if c = true then A else B := by
  rw [if_pos hc]
  exact h
theorem ifF {c : Bool} {A B : Prop} (hc : c = false) (h : B) : if c = true then A else B := by
  rw [hc, if_neg Bool.false_ne_true]
  exact h
theorem dF {p : Prop} [Decidable p] (h : ¬ p) : decide p = false := decide_eq_false h
theorem dT {p : Prop} [Decidable p] (h : p) : decide p = true := decide_eq_true h
theorem bits_nat {n : Nat} (h : n ≠ 0) : (Builtin.Int.intBits (n : Int) : Nat) = n.log2 + 1 := by
  unfold Builtin.Int.intBits
  rw [if_neg (show ¬ ((n : Int) == 0) = true by simpa using (show (n : Int) ≠ 0 by omega))]
  rfl
theorem gp_eq {n : Nat} (h : n ≠ 0) : (1 : Int) * 2 ^ (((Builtin.Int.intBits (n : Int) : Nat) : Int) - 1).toNat = ((2 ^ n.log2 : Nat) : Int) := by
  rw [bits_nat h, show (((n.log2 + 1 : Nat) : Int) - 1).toNat = n.log2 by omega, Int.one_mul]
  exact (PySem.W.kbt_cast _).symm
theorem gp_ok {n : Nat} (h : n ≠ 0) (hn : n < 2 ^ 200) : CShl 1 (((Builtin.Int.intBits (n : Int) : Nat) : Int) - 1) := by
  have a := log_lt h hn
  rw [bits_nat h, show (((n.log2 + 1 : Nat) : Int) - 1) = (n.log2 : Int) by omega]
  exact shl_ok (n := 1) (by decide) (by omega)
theorem nat_cast_lt {a : Nat} {n : Nat} (h : n < 2 ^ a) : (n : Int).natAbs < 2 ^ a := h
theorem pow_nat (k : Nat) : (2 : Int) ^ k = ((2 ^ k : Nat) : Int) := (PySem.W.kbt_cast k).symm
theorem p10 : (10 : Int) ^ Int.toNat 30 = ((10 ^ 30 : Nat) : Int) := by decide +kernel
theorem le6 : 6 ≤ sizeLine := by decide
theorem p100 : (10 ^ 30 : Nat) < 2 ^ 100 := by decide +kernel
def intAt (σ : L2.St) (i : Nat) : Nat := match σ[i]? with
  | some (some (V.int r)) => r.toNat
  | _ => 0
theorem le2 : 2 ≤ sizeLine := by decide
theorem cdiv_nat (a b : Nat) : ((a : Int) / (b : Int)) = ((a / b : Nat) : Int) := rfl

/-! ### heaps -/
theorem same_put {H H1 : Hp} {p : Addr} {o : HO} (h : Same H H1) (n : H p = none) : Same H (upd H1 p o) := fun b u e => by
  rw [upd_ne (ne_of_none e n)]
  exact h b u e
theorem same_new {H : Hp} {p : Addr} {o : HO} (n : H p = none) : Same H (upd H p o) := same_put (Same.refl H) n
theorem same_no {H H1 : Hp} {p : Addr} (h : Same H H1) (n : H1 p = none) : H p = none := h.free n
/-- all but p is as it was -/
def But (p : Addr) (H H' : Hp) : Prop := ∀ b o, H b = some o → b ≠ p → H' b = some o
theorem but_refl (p : Addr) (H : Hp) : But p H H := fun _ _ h _ => h
theorem but_trans {p : Addr} {H H1 H2 : Hp} (a : But p H H1) (b : But p H1 H2) : But p H H2 := fun c o h n => b c o (a c o h n) n
theorem but_of_same {p : Addr} {H H1 : Hp} (a : Same H H1) : But p H H1 := fun c o h _ => a c o h
theorem but_upd (p : Addr) (H : Hp) (o : HO) : But p H (upd H p o) := fun b u e n => by
  rw [upd_ne n]
  exact e
theorem but_fresh {p : Addr} {H0 H H1 : Hp} (s : Same H0 H) (n : H0 p = none) (b : But p H H1) : Same H0 H1 := fun c o e => b c o (s c o e) (ne_of_none e n)
/-! ### a bag of digits -/
def Bag (H : Hp) (p : Addr) : Prop := ∃ g m c : Int, H p = some (.lst [.int g, .int m, .int c]) ∧ 0 ≤ g ∧ 0 ≤ m ∧ m < 2147483648
theorem fm0 {a b : Int} (h : 0 < b) : 0 ≤ a.fmod b := by
  rw [Int.fmod_eq_emod_of_nonneg a (by omega)]
  exact Int.emod_nonneg a (by omega)
theorem fm1 {a b : Int} (h : 0 < b) : a.fmod b < b := by
  rw [Int.fmod_eq_emod_of_nonneg a (by omega)]
  exact Int.emod_lt_of_pos a h
theorem nz1 : (2147483647 : Int) ≠ 0 := by decide
theorem nz2 : (2147483629 : Int) ≠ 0 := by decide
section
variable {P : Program} {w : World} {K : PySem.W.Frag} {mg : Str → Option Value} {base : Heap}
def spTake : Sp := fun vs H Q _ => ∃ (p : Addr) (n : Int), vs = [.ref p, .int n] ∧ Bag H p ∧ 0 < n ∧ n.natAbs < 2 ^ 200 ∧
  ∀ r H', 0 ≤ r → r < n → Bag H' p → But p H H' → Q (.int r) H'
theorem ok_take (T : Txt K mg) : FnOk P w K mg base CX0 1 T.f_l_take T.d_l_take ["_law_bag_here", "_law_many"] spTake := by
  refine T.F_l_take.ok sc_l_take (fun vs H Q E h => ?_) (fun cdv A outer s H vs Q E hr h => ?_)
  · obtain ⟨p, n, rfl, _⟩ := h
    rfl
  · obtain ⟨p, n, rfl, ⟨g, m, c, hb, g0, m0, m1⟩, n0, n1, q⟩ := h
    refine ⟨_, (pss_cons (ps_if (pt_cmpR op_gt (pe_ix (r := rIxL K) ix_list (pv 0) pe_int (fun _ _ => rfl)) pe_int (nomark _)) (pss_cons (ps_set (i := 2) sc_l_take.nd rfl (.inl rfl) (pe_op op_modN (pe_ix (r := rIxL K) ix_list (pv 0) pe_int (fun _ _ => rfl)) (pv 1)))
        (pss_cons (ps_asg (pe_op op_fdivW (pe_ix (r := rIxL K) ix_list (pv 0) pe_int (fun _ _ => rfl)) (pv 1)) (pg_sub (pv 0) pe_int set_list))
        (pss_one (ps_ret (pv 2))))) pss_nil)
      (pss_cons (ps_asg (pe_op op_add (pe_ix (r := rIxL K) ix_list (pv 0) pe_int (fun _ _ => rfl)) pe_int) (pg_sub (pv 0) pe_int set_list))
      (pss_cons (ps_asg (pe_op op_modN (pe_op op_add (pe_op op_add (pe_op op_mul (pe_ix (r := rIxL K) ix_list (pv 0) pe_int (fun _ _ => rfl)) pe_int) (pe_op op_mul pe_int (pe_ix (r := rIxL K) ix_list (pv 0) pe_int (fun _ _ => rfl)))) pe_int) pe_int) (pg_sub (pv 0) pe_int set_list))
      (pss_one (ps_ret (pe_op op_modN (pe_op op_modN (pe_op op_pow (pe_op op_fdivW (pe_ix (r := rIxL K) ix_list (pv 0) pe_int (fun _ _ => rfl)) pe_int) pe_int) pe_int) (pv 1))))))), ?_⟩
    have hB : SqL K H p [.int g, .int m, .int c] := .inl (.inl hb)
    refine ⟨_, rfl, p, _, 0, .int g, rfl, rfl, hB, atI_nat (j := 0) rfl, _, _, rfl, rfl, _, rfl, ite2 (fun e => ?_) (fun e => ?_)⟩
    · refine ⟨_, rfl, p, _, 0, .int g, rfl, rfl, hB, atI_nat (j := 0) rfl, _, rfl, _, _, rfl, rfl, (by omega), ?_⟩
      refine ⟨_, rfl, p, _, 0, .int g, rfl, rfl, hB, atI_nat (j := 0) rfl, _, rfl, _, _, rfl, rfl, wide_div n0 n1 (by decide) (by decide), ?_⟩
      refine ⟨_, rfl, p, _, _, 0, rfl, rfl, hb, rfl, ?_⟩
      refine ⟨_, rfl, ?_⟩
      exact q _ _ (fm0 n0) (fm1 n0) ⟨g / n, m, c, upd_same, Int.ediv_nonneg g0 (by omega), m0, m1⟩ (but_upd _ _ _)
    · refine ⟨_, rfl, p, _, 2, .int c, rfl, rfl, hB, atI_nat (j := 2) rfl, _, _, rfl, rfl, ?_⟩
      refine ⟨_, rfl, p, _, _, 2, rfl, rfl, hb, rfl, ?_⟩
      have h2 : upd H p (.lst [.int g, .int m, .int (c + 1)]) p = some (.lst [.int g, .int m, .int (c + 1)]) := upd_same
      have hB2 : SqL K (upd H p (.lst [.int g, .int m, .int (c + 1)])) p [.int g, .int m, .int (c + 1)] := .inl (.inl h2)
      refine ⟨_, rfl, p, _, 1, .int m, rfl, rfl, hB2, atI_nat (j := 1) rfl, _, _, rfl, rfl, .inr ⟨by decide, by decide⟩, _, rfl, p, _, 2, .int (c + 1), rfl, rfl, hB2, atI_nat (j := 2) rfl, _, _, rfl, rfl, .inl ⟨by decide, by decide⟩, _, _, rfl, rfl, _, _, rfl, rfl, _, _, rfl, rfl, nz1, ?_⟩
      refine ⟨_, rfl, p, _, _, 1, rfl, rfl, h2, rfl, ?_⟩
      have m0' := fm0 (a := m * 69621 + 6007 * (c + 1) + 19) (show (0 : Int) < 2147483647 by decide)
      have m1' := fm1 (a := m * 69621 + 6007 * (c + 1) + 19) (show (0 : Int) < 2147483647 by decide)
      refine ⟨_, rfl, p, _, 1, _, rfl, rfl, .inl (.inl upd_same), atI_nat (j := 1) rfl, _, _, rfl, rfl, ⟨by decide, by decide⟩, _, _, rfl, rfl, ⟨by decide, by decide, ?_⟩, _, _, rfl, rfl, nz2, _, rfl, _, _, rfl, rfl, (by omega), ?_⟩
      · omega
      exact q _ _ (fm0 n0) (fm1 n0) ⟨g, _, c + 1, upd_same, g0, m0', by omega⟩ (but_trans (but_upd _ _ _) (but_upd _ _ _))
theorem le3 : 3 ≤ sizeLine := by decide
theorem nz3 : (8 : Int) ≠ 0 := by decide
theorem primes_at (k : Nat) : ∃ v : Int, 0 < v ∧ v < 2147483648 ∧ atI [V.int 2147483629, V.int 2147483587, V.int 2147483579, V.int 2147483563, V.int 2147483549, V.int 2147483543, V.int 2147483497, V.int 2147483489] ((k : Int).fmod 8) = some (.int v) := by
  have e : (k : Int).fmod 8 = ((k % 8 : Nat) : Int) := by
    rw [Int.fmod_eq_emod_of_nonneg _ (by decide)]
    rfl
  have h : k % 8 < 8 := Nat.mod_lt _ (by decide)
  rw [e]
  generalize k % 8 = j at h
  match j, h with
  | 0, _ => exact ⟨_, by decide, by decide, atI_nat (j := 0) rfl⟩
  | 1, _ => exact ⟨_, by decide, by decide, atI_nat (j := 1) rfl⟩
  | 2, _ => exact ⟨_, by decide, by decide, atI_nat (j := 2) rfl⟩
  | 3, _ => exact ⟨_, by decide, by decide, atI_nat (j := 3) rfl⟩
  | 4, _ => exact ⟨_, by decide, by decide, atI_nat (j := 4) rfl⟩
  | 5, _ => exact ⟨_, by decide, by decide, atI_nat (j := 5) rfl⟩
  | 6, _ => exact ⟨_, by decide, by decide, atI_nat (j := 6) rfl⟩
  | 7, _ => exact ⟨_, by decide, by decide, atI_nat (j := 7) rfl⟩
  | n + 8, h => exact absurd h (by omega)
def spBag (K : PySem.W.Frag) : Sp := fun vs H Q _ => ∃ (a : Addr) (ns : List Int) (k : Nat), vs = [.ref a, .int (k : Int)] ∧ SqL K H a (ns.map V.int) ∧ k ≤ 1000 ∧
  ∀ p H', H p = none → Same H H' → Bag H' p → Q (.ref p) H'
theorem ok_bag (T : Txt K mg) : FnOk P w K mg base CX0 1 T.f_l_bag T.d_l_bag ["_law_script", "_law_at"] (spBag K) := by
  refine T.F_l_bag.ok sc_l_bag (fun vs H Q E h => ?_) (fun cdv A outer s H vs Q E hr h => ?_)
  · obtain ⟨a, ns, k, rfl, _⟩ := h
    rfl
  · obtain ⟨a, ns, k, rfl, hS, hk, q⟩ := h
    refine ⟨_, (pss_cons (ps_set (i := 2) sc_l_bag.nd rfl (.inl rfl) pe_int)
      (C8.pss_cut (ps_if (pt_cmpR op_lt (pv 1) (pe_callB call_len_seq (by rfl) T.z_len (by decide +kernel) (pa_cons (pv 0) pa_nil)) (nomark _)) (pss_one (ps_set (i := 2) sc_l_bag.nd rfl (.inl rfl) (pe_ix (r := rIxL K) ix_list (pv 0) (pv 1) (fun _ _ => rfl)))) pss_nil)
      (pss_cons (ps_set (i := 3) sc_l_bag.nd rfl (.inl rfl) pe_int)
      (C8.pss_cut (ps_if (pt_cmpR op_ge (pe_callB call_abs (by rfl) T.z_abs (by decide +kernel) (pa_cons (pv 2) pa_nil)) (pe_op op_pow pe_int pe_int) (nomark _)) (pss_one (ps_set (i := 3) sc_l_bag.nd rfl (.inl rfl) (pe_callB call_abs (by rfl) T.z_abs (by decide +kernel) (pa_cons (pv 2) pa_nil)))) pss_nil)
      (pss_cons (ps_set (i := 4) sc_l_bag.nd rfl (.inl rfl) (pe_lst (pa_cons pe_int (pa_cons pe_int (pa_cons pe_int (pa_cons pe_int (pa_cons pe_int (pa_cons pe_int (pa_cons pe_int (pa_cons pe_int pa_nil))))))))))
      (pss_one (ps_ret (pe_lst (pa_cons (pv 3) (pa_cons (pe_op op_modN (pe_op op_pow (pe_op op_add (pe_op op_add (pe_op op_modN (pv 2) pe_int) (pe_op op_mul pe_int (pv 1))) pe_int) pe_int) (pe_ix (r := rIxL K) ix_list (pv 4) (pe_op op_modN (pv 1) pe_int) (fun _ _ => rfl))) (pa_cons pe_int pa_nil))))))))))), ?_⟩
    refine ⟨fun σ' H' => H' = H ∧ ∃ c : Int, σ' = [some (.ref a), some (.int (k : Int)), some (.int c), none, none], ?_, fun σ' H' hM => ?_⟩
    · refine ⟨_, rfl, _, rfl, a, _, rfl, .inl hS, _, _, rfl, rfl, _, rfl, ite2 (fun e => ?_) (fun e => ?_)⟩
      · have e2 := of_decide_eq_true e
        have e3 : k < ns.length := by
          rw [List.length_map] at e2
          omega
        have e4 : (ns.map V.int)[k]? = some (.int ns[k]) := by
          rw [List.getElem?_map, List.getElem?_eq_getElem e3]
          rfl
        exact ⟨_, rfl, _, rfl, a, _, _, _, rfl, rfl, hS, atI_nat e4, rfl, _, rfl⟩
      · exact ⟨rfl, _, rfl⟩
    · obtain ⟨rfl, c, rfl⟩ := hM
      refine ⟨fun σ'' H'' => H'' = H' ∧ ∃ g : Int, σ'' = [some (.ref a), some (.int (k : Int)), some (.int c), some (.int g), none] ∧ 0 ≤ g, ?_, fun σ'' H'' hM => ?_⟩
      · refine ⟨_, rfl, _, rfl, _, _, rfl, rfl, ⟨by decide, by decide, by decide⟩, _, _, rfl, rfl, _, rfl, ite2 (fun e => ?_) (fun e => ?_)⟩
        · refine ⟨_, rfl, _, rfl, rfl, _, rfl, ?_⟩
          split <;> omega
        · exact ⟨rfl, _, rfl, by decide⟩
      · obtain ⟨rfl, g, rfl, g0⟩ := hM
        refine ⟨by decide, fun o no => ?_⟩
        obtain ⟨v, v0, v1, hv⟩ := primes_at k
        have h0 := fm0 (a := c) (show (0 : Int) < 2147483647 by decide)
        have h1 := fm1 (a := c) (show (0 : Int) < 2147483647 by decide)
        refine ⟨_, rfl, _, rfl, _, _, rfl, rfl, nz1, _, rfl, _, _, rfl, rfl, .inl ⟨by decide, by decide⟩, _, _, rfl, rfl, _, _, rfl, rfl, _, _, rfl, rfl, ⟨by decide, by decide, by omega⟩, _, rfl, _, rfl, _, _, rfl, rfl, nz3, o, _, _, _, rfl, rfl, .inl (.inl upd_same), hv, _, _, rfl, rfl, by omega, ?_⟩
        refine ⟨le3, fun p np => ?_⟩
        have np' : H'' p = none := (same_new no).free np
        exact q _ _ np' (same_put (same_new no) np') ⟨g, _, 0, upd_same, g0, fm0 v0, by have := fm1 (a := (c.fmod 2147483647 + 104711 * (k : Int) + 23) ^ Int.toNat 5) v0; omega⟩
end
theorem but_put {p q : Addr} {H H1 : Hp} {o : HO} (b : But p H H1) (n : H1 q = none) : But p H (upd H1 q o) := fun c u e nc => by
  have e1 := b c u e nc
  rw [upd_ne (ne_of_none e1 n)]
  exact e1
theorem bag_put {p q : Addr} {H : Hp} {o : HO} (b : Bag H p) (n : H q = none) : Bag (upd H q o) p := by
  obtain ⟨g, m, c, e, r⟩ := b
  exact ⟨g, m, c, by rw [upd_ne (ne_of_none e n)]; exact e, r⟩
theorem bag_same {p : Addr} {H H1 : Hp} (b : Bag H p) (s : Same H H1) : Bag H1 p := by
  obtain ⟨g, m, c, e, r⟩ := b
  exact ⟨g, m, c, s _ _ e, r⟩
theorem bag_ne {p q : Addr} {H : Hp} (b : Bag H p) (n : H q = none) : q ≠ p := by
  obtain ⟨g, m, c, e, r⟩ := b
  exact (ne_of_none e n).symm

end Ob

set_option Elab.async false
set_option linter.all false
set_option maxRecDepth 100000
set_option maxHeartbeats 1000000
namespace Ob
open PySem PySem.Spec PyProof.Rows L2
open LamX (Tabs TabB TabS ExtN)

/-- nothing stands there -/
structure Fr (H : Hp) (p : Addr) : Prop where
  h : H p = none
theorem neN {H : Hp} {a b : Addr} {o : HO} (h' : Fr H b) (h : H a = some o) : a ≠ b := ne_of_none h h'.h
theorem neN' {H : Hp} {a b : Addr} {o : HO} (h' : Fr H a) (h : H b = some o) : a ≠ b := (ne_of_none h h'.h).symm
theorem atNew {H : Hp} {a p : Addr} {o u : HO} (n : Fr H p) (h : H a = some o) : upd H p u a = some o := (upd_ne (ne_of_none h n.h)).trans h
theorem atNe {H : Hp} {a p : Addr} {o u : HO} (n : a ≠ p) (h : H a = some o) : upd H p u a = some o := (upd_ne n).trans h
theorem atSame {H H1 : Hp} {a : Addr} {o : HO} (s : Same H H1) (h : H a = some o) : H1 a = some o := s _ _ h
/-- all is kept but what stands in cs -/
structure Kp (cs : List Addr) (H H' : Hp) : Prop where
  at_ : ∀ b o, H b = some o → b ∉ cs → H' b = some o
theorem kp_refl (cs : List Addr) (H : Hp) : Kp cs H H := ⟨fun _ _ e _ => e⟩
theorem kp_trans {cs : List Addr} {H H1 H2 : Hp} (a : Kp cs H H1) (b : Kp cs H1 H2) : Kp cs H H2 := ⟨fun c o e n => b.at_ c o (a.at_ c o e n) n⟩
theorem kp_up {cs : List Addr} {H H1 : Hp} {a : Addr} {o : HO} (m : a ∈ cs) (h : Kp cs H H1) : Kp cs H (upd H1 a o) := ⟨fun b u e n => by
  rw [upd_ne (show b ≠ a from fun z => n (by rw [z]; exact m))]
  exact h.at_ b u e n⟩
theorem kp_new {cs : List Addr} {H H1 : Hp} {a : Addr} {o : HO} (m : Fr H1 a) (h : Kp cs H H1) : Kp cs H (upd H1 a o) := ⟨fun b u e n => by
  rw [upd_ne (ne_of_none (h.at_ b u e n) m.h)]
  exact h.at_ b u e n⟩
theorem kp_newF {cs : List Addr} {H H1 : Hp} {a : Addr} {o : HO} (m : Fr H a) (h : Kp cs H H1) : Kp cs H (upd H1 a o) := ⟨fun b u e n => by
  rw [upd_ne (ne_of_none e m.h)]
  exact h.at_ b u e n⟩
theorem kp_same {cs : List Addr} {H H1 : Hp} (s : Same H H1) : Kp cs H H1 := ⟨fun b o e _ => s b o e⟩
theorem kp_more {cs ds : List Addr} {H H1 : Hp} (h : Kp cs H H1) (m : ∀ a ∈ cs, a ∈ ds) : Kp ds H H1 := ⟨fun b o e n => h.at_ b o e fun z => n (m b z)⟩
/-- what is changed is new, as H sees it -/
theorem kp_fresh {cs ds : List Addr} {H H1 H2 : Hp} (a : Kp cs H H1) (b : Kp ds H1 H2) (n : ∀ x ∈ ds, x ∈ cs ∨ Fr H x) : Kp cs H H2 := ⟨fun x o e m => b.at_ x o (a.at_ x o e m) fun z => (n x z).elim m fun f => ne_of_none e f.h rfl⟩
theorem atKp {cs : List Addr} {H H1 : Hp} {a : Addr} {o : HO} (s : Kp cs H H1) (n : a ∉ cs) (h : H a = some o) : H1 a = some o := s.at_ _ _ h n
theorem not_nil {a : Addr} : a ∉ ([] : List Addr) := fun z => nomatch z
theorem not_cons {a b : Addr} {l : List Addr} (h : a ≠ b) (t : a ∉ l) : a ∉ b :: l := fun z => (List.mem_cons.mp z).elim h t
theorem not_app {a : Addr} {l m : List Addr} (h : a ∉ l) (t : a ∉ m) : a ∉ l ++ m := fun z => (List.mem_append.mp z).elim h t
theorem sqlOf {K : PySem.W.Frag} {H : Hp} {a : Addr} {xs : List V} (h : H a = some (.lst xs)) : SqL K H a xs := .inl (.inl h)
theorem sqtOf {K : PySem.W.Frag} {H : Hp} {a : Addr} {xs : List V} (h : H a = some (.tup xs)) : SqT K H a xs := .inl (.inl h)
theorem sqlSame {K : PySem.W.Frag} {H H1 : Hp} {a : Addr} {xs : List V} (s : Same H H1) (h : SqL K H a xs) : SqL K H1 a xs := s.seq h
theorem neO {H : Hp} {a b : Addr} {x y : HO} (ha : H a = some x) (hb : H b = some y) (n : x ≠ y) : a ≠ b := fun z => by
  rw [z, hb] at ha
  exact n (Option.some.inj ha).symm
theorem noneOf {H H1 : Hp} {p : Addr} (h : Fr H1 p) (k : ∀ o, H p = some o → ∃ u, H1 p = some u) : Fr H p := ⟨by
  cases e : H p with
  | none => rfl
  | some o =>
    obtain ⟨u, z⟩ := k o e
    rw [h.h] at z
    cases z⟩
theorem same_newF {H : Hp} {p : Addr} {o : HO} (n : Fr H p) : Same H (upd H p o) := same_new n.h
theorem same_putF {H H1 : Hp} {p : Addr} {o : HO} (n : Fr H1 p) (h : Same H H1) : Same H (upd H1 p o) := h.trans (same_new n.h)
theorem same_putG {H H1 : Hp} {p : Addr} {o : HO} (n : Fr H p) (h : Same H H1) : Same H (upd H1 p o) := same_put h n.h
theorem memA {a : Addr} {l : List Addr} : a ∈ a :: l := List.mem_cons_self ..
theorem memB {a b : Addr} {l : List Addr} (h : a ∈ l) : a ∈ b :: l := List.mem_cons_of_mem _ h
theorem memL {a : Addr} {l m : List Addr} (h : a ∈ l) : a ∈ l ++ m := List.mem_append.mpr (.inl h)
theorem memR {a : Addr} {l m : List Addr} (h : a ∈ m) : a ∈ l ++ m := List.mem_append.mpr (.inr h)
theorem kp_transR {cs : List Addr} {H H1 H2 : Hp} (b : Kp cs H1 H2) (a : Kp cs H H1) : Kp cs H H2 := kp_trans a b
theorem kp_sameR {cs : List Addr} {H H1 H2 : Hp} (b : Same H1 H2) (a : Kp cs H H1) : Kp cs H H2 := kp_trans a (kp_same b)
theorem kp_freshR {cs ds : List Addr} {H H1 H2 : Hp} (b : Kp ds H1 H2) (n : ∀ x ∈ ds, x ∈ cs ∨ Fr H x) (a : Kp cs H H1) : Kp cs H H2 := kp_fresh a b n
theorem same_transR {H H1 H2 : Hp} (b : Same H1 H2) (a : Same H H1) : Same H H2 := a.trans b
theorem subNil {P : Addr → Prop} : ∀ x ∈ ([] : List Addr), P x := fun _ h => nomatch h
theorem subCons {P : Addr → Prop} {a : Addr} {l : List Addr} (h : P a) (t : ∀ x ∈ l, P x) : ∀ x ∈ a :: l, P x := fun x m => (List.mem_cons.mp m).elim (fun e => by rw [e]; exact h) (t x)
theorem subApp {P : Addr → Prop} {l m : List Addr} (h : ∀ x ∈ l, P x) (t : ∀ x ∈ m, P x) : ∀ x ∈ l ++ m, P x := fun x e => (List.mem_append.mp e).elim (h x) (t x)
theorem sqtAll {K : PySem.W.Frag} {H : Hp} {a : Addr} {xs : List V} (h : ∀ H, SqT K H a xs) : SqT K H a xs := h H
theorem sqtSame {K : PySem.W.Frag} {H H1 : Hp} {a : Addr} {xs : List V} (s : Same H H1) (h : SqT K H a xs) : SqT K H1 a xs := by
  rcases h with (h | ⟨o, h⟩) | h
  · exact .inl (.inl (s _ _ h))
  · exact .inl (.inr ⟨o, s _ _ h⟩)
  · exact .inr h
theorem frUp {H : Hp} {a p : Addr} {o : HO} (n : p ≠ a) (h : Fr H p) : Fr (upd H a o) p := ⟨by rw [upd_ne n]; exact h.h⟩
theorem bag_putF {p q : Addr} {H : Hp} {o : HO} (n : Fr H q) (b : Bag H p) : Bag (upd H q o) p := bag_put b n.h
theorem bag_kpR {p : Addr} {cs : List Addr} {H H1 : Hp} (k : Kp cs H H1) (n : p ∉ cs) (h : Bag H p) : Bag H1 p := by
  obtain ⟨g, m, c, e, z⟩ := h
  exact ⟨g, m, c, k.at_ _ _ e n, z⟩

set_option hygiene false in
local macro_rules
  | `(tactic| kp_flats) => `(tactic| first
    | assumption
    | exact upd_same
    | (apply atNew; assumption; kp_flats)
    | (apply atNe; (next => kbo_bools); kp_flats)
    | (apply atSame; assumption; kp_flats)
    | (apply atKp; assumption; (next => kaf_pre); kp_flats))
set_option hygiene false in
local macro_rules
  | `(tactic| kaf_pre) => `(tactic| first
    | assumption
    | exact not_nil
    | (apply not_cons; (next => kbo_bools); kaf_pre)
    | (apply not_app; (next => kaf_pre); kaf_pre))
set_option hygiene false in
local macro_rules
  | `(tactic| kbo_bools) => `(tactic| first
    | assumption
    | (apply Ne.symm; assumption)
    | (apply neN; assumption; kp_flats)
    | (apply neN'; assumption; kp_flats))
set_option hygiene false in
local macro_rules
  | `(tactic| o_reads) => `(tactic| first
    | with_reducible rfl
    | assumption
    | rfl
    | kp_flats
    | (show SqL _ _ _ _; first | assumption | (apply sqlOf; kp_flats) | (apply sqlSame; assumption; o_reads))
    | (show SqT _ _ _ _; first | assumption | (apply sqtOf; kp_flats) | (apply sqtAll; assumption) | (apply sqtSame; assumption; o_reads))
    | (show Cls _ _; first | exact T.cl_Calls | exact T.cl_Asker | exact T.cl_Builder | exact T.cl_Blocks)
    | (show NoAttr _ _ _; first | exact T.n_Calls_entries | exact T.n_Calls_running | exact T.n_Asker_calls | exact T.n_Asker_ask_call | exact T.n_Asker_join_call | exact T.n_Asker_zero | exact T.n_Builder_calls | exact T.n_Builder_build_call | exact T.n_Blocks_calls | exact T.n_Blocks_builder | exact T.n_Blocks_asker | exact T.n_Blocks_held | exact T.n_Blocks_parts)
    | (apply Or.inl; o_reads)
    | (apply Or.inr; o_reads)
    | (apply And.intro; (next => o_reads); o_reads)
    | (apply Exists.intro; o_reads)
    | exact Nat.le_of_ble_eq_true rfl
    | exact Nat.succ_ne_zero _
    | (show Fr _ _; kba_ints)
    | (show Same _ _; kd_subs)
    | (show Kp _ _ _; kxs_still)
    | (show (_ : Nat) ≤ _; simp only [List.length_append, List.length_map, List.length_cons, List.length_nil, List.length_take, List.length_drop, List.length_replicate, List.length_range, sizeLine_eq]; omega)
    | (show _ = none; apply Fr.h; kba_ints)
    | (show Bag _ _; first | assumption | (apply bag_putF; assumption; o_reads) | (apply bag_kpR; assumption; (next => kaf_pre); o_reads))
    | omega
    | decide)
local macro_rules
  | `(tactic| o_readsAll) => `(tactic| repeat (first
    | (refine fun (pNew : Addr) (nNew : _ = none) => ?_; replace nNew := Fr.mk nNew)
    | (refine fun (xNew dNew : Addr) (nNew : _ = none) (mNew : _ = none) (eNew : dNew ≠ xNew) => ?_; replace nNew := Fr.mk nNew; replace mNew := Fr.mk mNew)
    | (apply And.intro; next => o_reads)
    | apply Exists.intro (α := V)
    | apply Exists.intro (α := Addr)
    | apply Exists.intro (α := Int)
    | apply Exists.intro (α := Bool)
    | apply Exists.intro (α := List V)
    | apply Exists.intro (α := List Nat)
    | apply Exists.intro (α := List (Str × V))
    | apply Exists.intro (α := List _)
    | apply Exists.intro (α := Str)
    | apply Exists.intro (α := HO)
    | apply Exists.intro (α := Sp)
    | apply Exists.intro (α := VK)))
set_option hygiene false in
local macro_rules
  | `(tactic| kba_ints) => `(tactic| first
    | assumption
    | (apply frUp; (first | assumption | (apply Ne.symm; assumption)); kba_ints)
    | (apply noneOf; assumption; intro oF eF; apply Exists.intro; kp_flats)
    | (apply frUp; (next => kbo_bools); kba_ints))
set_option hygiene false in
local macro_rules
  | `(tactic| kxs_still) => `(tactic| first
    | assumption
    | exact kp_refl _ _
    | (apply kp_newF; assumption; kxs_still)
    | (apply kp_new; assumption; kxs_still)
    | (apply kp_up; (next => o_fieldsN); kxs_still)
    | (apply kp_new; (next => kba_ints); kxs_still)
    | (apply kp_sameR; assumption; kxs_still)
    | (apply kp_transR; assumption; kxs_still)
    | (apply kp_freshR; assumption; (next => kaf_suf); kxs_still))
set_option hygiene false in
local macro_rules
  | `(tactic| kaf_suf) => `(tactic| first
    | assumption
    | exact subNil
    | (apply subCons; (first | (apply Or.inl; o_fieldsN) | (apply Or.inr; kba_ints)); kaf_suf)
    | (apply subApp; (next => kaf_suf); kaf_suf))
set_option hygiene false in
local macro_rules
  | `(tactic| o_fieldsN) => `(tactic| first
    | assumption
    | exact memA
    | (apply memB; o_fieldsN)
    | (apply memL; o_fieldsN)
    | (apply memR; o_fieldsN))
set_option hygiene false in
local macro_rules
  | `(tactic| kd_subs) => `(tactic| first
    | assumption
    | exact Same.refl _
    | (apply same_putF; assumption; kd_subs)
    | (apply same_putG; assumption; kd_subs)
    | (apply same_putF; (next => kba_ints); kd_subs)
    | (apply same_transR; assumption; kd_subs))

/-! ### the calls of a collection -/
def CO (C dx l : Addr) (r : Bool) : HO := .ins C dx [("entries", .ref l), ("running", .bl r)]
section
variable {P : Program} {w : World} {K : PySem.W.Frag} {mg : Str → Option Value} {base : Heap} {n : Nat}
def spCI (C : Addr) : Sp := fun vs H Q _ => ∃ (a dx : Addr), vs = [.ref a] ∧ H a = some (.ins C dx []) ∧ ∀ l H', Fr H l → H' a = some (CO C dx l false) → H' l = some (.lst []) → Kp [a] H H' → Q .non H'
theorem ok_ci (T : Txt K mg) : FnOk P w K mg base CX0 1 T.f_Calls_init T.d_Calls_init ["self"] (spCI T.C_Calls) := by
  refine T.F_Calls_init.ok sc_Calls_init (fun vs H Q E h => ?_) (fun cdv A outer s H vs Q E hr h => ?_)
  · obtain ⟨a, dx, rfl, _⟩ := h
    rfl
  · obtain ⟨a, dx, rfl, ha, q⟩ := h
    refine ⟨_, (pss_cons (ps_fld (pv 0) (pe_lst pa_nil) rfl)
      (pss_one (ps_fld (pv 0) pe_bl rfl))), ?_⟩
    o_readsAll
    rename_i l nl
    exact q _ _ nl (by kp_flats) (by kp_flats) (by kxs_still)
def spChk (C : Addr) : Sp := fun vs H Q _ => ∃ (c dx l : Addr), vs = [.ref c] ∧ H c = some (CO C dx l false) ∧ Q .non H
theorem ok_chk (T : Txt K mg) : FnOk P w K mg base CX0 1 T.f_Calls_check T.d_Calls_check ["self"] (spChk T.C_Calls) := by
  refine T.F_Calls_check.ok sc_Calls_check (fun vs H Q E h => ?_) (fun cdv A outer s H vs Q E hr h => ?_)
  · obtain ⟨a, dx, l, rfl, _⟩ := h
    rfl
  · obtain ⟨c, dx, l, rfl, hc, q⟩ := h
    refine ⟨_, (pss_one (ps_if (pt_val (pe_fld (pv 0) rfl)) pss_never pss_nil)), ?_⟩
    o_readsAll
    exact iteF q
/-- the callable f, called with xs in H: what it does brings Q -/
def Act (P : Program) (w : World) (K : PySem.W.Frag) (mg : Str → Option Value) (base : Heap) (n : Nat) (f : V) (xs : List V) (H : Hp) (Q : VK) : Prop :=
  ∃ (a : Addr) (o : HO) (sp : Sp) (Q0 : VK), f = .ref a ∧ H a = some o ∧ Inf.FnHO a o ∧ FnR P w K mg base CX0 n a sp ∧ sp xs H Q0 E0 ∧ ∀ v H', Q0 v H' → Q v H'
theorem Act.imp {f : V} {xs : List V} {H : Hp} {Q Q' : VK} (h : Act P w K mg base n f xs H Q) (i : ∀ v H', Q v H' → Q' v H') : Act P w K mg base n f xs H Q' := by
  obtain ⟨a, o, sp, Q0, h1, h2, h3, h4, h5, h6⟩ := h
  exact ⟨a, o, sp, Q0, h1, h2, h3, h4, h5, fun v H' z => i _ _ (h6 _ _ z)⟩
theorem fnR_q {k : Nat} {f : Addr} {sp : Sp} (F : FnR P w K mg base CX0 k f sp) : FnR P w K mg base CX0 k f (fun vs H Q E => ∃ Q0 : VK, sp vs H Q0 E ∧ ∀ v H', Q0 v H' → Q v H') := fun A outer s H us vs Q E hr e0 r h => by
  obtain ⟨Q0, h0, hi⟩ := h
  refine codeAny_mono (F A outer s H us vs Q0 E hr e0 r h0) fun res s' hq => ?_
  match res, hq with
  | .error e, z => exact z
  | .ok .next, z => exact z
  | .ok .brk, z => exact z
  | .ok .cont, z => exact z
  | .ok (.ret u), z =>
    obtain ⟨v, H', h1, h2, h3, h4, h5, h6⟩ := z
    exact ⟨v, H', h1, h2, h3, h4, h5, hi _ _ h6⟩
/-- run(entry, action, *values) -/
def spRun (P : Program) (w : World) (K : PySem.W.Frag) (mg : Str → Option Value) (base : Heap) (C : Addr) (n : Nat) : Sp := fun vs H Q E => ∃ (c dx l : Addr) (en f : V) (xs : List V), vs = [.ref c, en, f] ++ xs ∧ xs.length ≤ sizeLine ∧ H c = some (CO C dx l false) ∧
  ∀ H1, Kp [c] H H1 → H1 c = some (CO C dx l true) → Act P w K mg base n f xs H1 (fun v H2 => H2 c = some (CO C dx l true) ∧ ∃ es, H2 l = some (.lst es) ∧ es.length < sizeLine ∧
    ∀ H3, Kp [c, l] H2 H3 → H3 c = some (CO C dx l false) → H3 l = some (.lst (es ++ [en])) → Q v H3)
theorem ok_run (T : Txt K mg) : FnR P w K mg base CX0 (n + 1) T.f_Calls_run (spRun P w K mg base T.C_Calls n) := by
  obtain ⟨oc, od, kV, doc, pm, an, cdv, ct, osl, hfd, lk, hcd⟩ := T.F_Calls_run.ex
  rw [hfd] at lk
  have key := StX.fn_star (P := P) (w := w) (mg := mg) (base := base) (CX := CX0) (k := n) (ps := ["self", "entry", "action"]) (pv := "values") (sp := fun us H Q E => ∃ ws rest p H0, us = ws ++ [.ref p] ∧ ws.length = 3 ∧ H0 p = none ∧ H = upd H0 p (.tup rest) ∧ spRun P w K mg base T.C_Calls n (ws ++ rest) H0 Q E) lk hcd sc_Calls_run StX.cxUp_none (fun us rest hl => ?_) (fun A outer s H vs Q E hr h => ?_)
  · refine key.imp fun vs H Q E h => ?_
    have h' := h
    obtain ⟨c, dx, l, en, f, xs, rfl, lx, _⟩ := h
    exact ⟨[.ref c, en, f], xs, rfl, rfl, lx, fun p np => ⟨[.ref c, en, f], xs, p, H, rfl, rfl, np, rfl, h'⟩⟩
  · match us, hl, rest with
    | [a, b, c], _, [] => rfl
    | [a, b, c], _, r :: rs => rfl
  · obtain ⟨ws, rest, p, H0, rfl, hw, np, rfl, c, dx, l, en, f, xs, e1, lx, hc, q⟩ := h
    obtain ⟨rfl, rfl⟩ := List.append_inj e1 hw
    replace np := Fr.mk np
    refine ⟨_, (pss_cons (ps_fld (pv 0) pe_bl rfl)
      (pss_cons (Inf.ps_fin0 (pss_one (ps_set (i := 4) sc_Calls_run.nd rfl (.inl rfl) (Inf.pe_act (i := 2) (CX := CX0) (k := n) (E := fun _ => E0) rfl (.inl rfl) hr (fun _ _ _ _ _ _ _ z => False.elim z) (pv 3)))) (pss_one (ps_fld (pv 0) pe_bl rfl)))
      (pss_cons (ps_expr (pe_bm PySem.F.plainAttrs_list PySem.F.slot_list_append PySem.F.type_list_append mt_append (pe_fld (pv 0) rfl) (pa_cons (pv 1) pa_nil)))
      (pss_one (ps_ret (pv 4)))))), ?_⟩
    obtain ⟨a, o, sp, Q0, rfl, h2, h3, h4, h5, h6⟩ := q (upd (upd H0 p (.tup rest)) c (CO T.C_Calls dx l true)) (by kxs_still) upd_same
    replace h4 := fnR_q h4
    o_readsAll
    intro v H2 hv
    obtain ⟨hc2, es, hl, hs, q2⟩ := h6 v H2 hv
    have hlc : l ≠ c := neO hl hc2 (fun z => nomatch z)
    o_readsAll
    exact q2 _ (by kxs_still) (by kp_flats) (by kp_flats)
end
end Ob

set_option Elab.async false
set_option linter.all false
set_option maxRecDepth 100000
set_option maxHeartbeats 1000000
namespace Ob
open PySem PySem.Spec PyProof.Rows L2
open LamX (Tabs TabB TabS ExtN)

/-! ### xs.extend(t), t a tuple -/
theorem ext_meets (l b : Addr) (xs ys : Array Value) (n m : Nat) (dd : Option Addr) (sl : Array (Option Value)) (h0 : ¬(!xs.isEmpty && Builtin.List.listTooLong (xs.size + ys.size)) = true) (h1 : xs.size ≤ sizeLine) (h2 : xs.size + ys.size ≤ sizeLine + 1) :
    PySem.Meets (Builtin.«list.extend» ⟨[.ref l, .ref b], []⟩) (fun _ R s => s.heap.get? l = some { cls := .type "list", dict := none, data := .seq xs n, slots := #[] } ∧ s.heap.get? b = some { cls := .type "tuple", dict := dd, data := .seq ys m, slots := sl } ∧
      R (.ok (.ret Value.none)) { s with heap := s.heap.update l (Obj.mapSeq fun x => x ++ ys), toks := s.toks }) :=
  .of_wp fun prog w A R s h => by
    obtain ⟨hp, g, d, tk, os⟩ := s
    obtain ⟨hl, hb, h⟩ := h
    have f1 := PySem.AutoSeq1.sub_tuple_tuple
    have f2 := PySem.AutoSeq1.sub_list_list
    have f3 := PySem.AutoSeq1.sub_tuple_list
    have f4 := PySem.AutoSeq1.sub_list_tuple
    have hz' : (xs ++ ys).size ≤ sizeLine + 1 := by rw [Array.size_append]; exact h2
    wp_walk using (wpAny_updateSeq hl rfl (hz := h1) (_hz' := hz')), PySem.AutoSeq1.wpAny_loadPart' hl, PySem.AutoSeq1.wpAny_loadPart' hb
    exact ⟨_, rfl, h⟩
def rExtendT : V → List V → Hp → VK → Prop := fun x vs H Q => ∃ l b xs zs, x = .ref l ∧ vs = [.ref b] ∧ H l = some (.lst xs) ∧ H b = some (.tup zs) ∧ xs.length + zs.length ≤ sizeLine ∧ Q .non (upd H l (.lst (xs ++ zs)))
theorem mt_extendT {X : Cx} : MtM X "list.extend" rExtendT := by
  intro pins s σ H x vs v us Q I rx rv h
  obtain ⟨l, b, xs, zs, rfl, rfl, hH, hB, hz, q⟩ := h
  cases rx
  obtain ⟨u, rfl, ru⟩ := rv.one
  cases ru
  obtain ⟨z, its, n, r, hl, e⟩ := I.lstM hH
  obtain ⟨_, its2, r2, o, e2, c2, n2, d2⟩ := I.hok b _ hB
  have hl2 := r2.length
  obtain ⟨oc, od, odt, osl⟩ := o
  cases c2
  cases d2
  have hsz : its.toArray.size + its2.toArray.size ≤ sizeLine := by rw [List.size_toArray, List.size_toArray]; omega
  have hlong : ¬ (!its.toArray.isEmpty && Builtin.List.listTooLong (its.toArray.size + its2.toArray.size)) = true := by
    rw [notLongL hsz, Bool.and_false]
    exact Bool.false_ne_true
  refine call_meets PySem.F.slot_list_extend ⟨_, e, rfl⟩ PySem.F.entry_list_extend (PySem.F.args_list_extend_2 _ _)
    (ext_meets l b its.toArray its2.toArray n n2 od osl hlong (by rw [List.size_toArray]; omega) (by omega)) ⟨e, e2, ?_⟩
  refine ⟨.non, _, I.lset (its' := its ++ its2) hH e (by simp) (r.append r2) ?_, rfl, q⟩
  rw [List.length_append]
  omega

end Ob

set_option Elab.async false
set_option linter.all false
set_option maxRecDepth 100000
set_option maxHeartbeats 1000000
namespace Ob
open PySem PySem.Spec PyProof.Rows L2
open LamX (Tabs TabB TabS ExtN)

set_option hygiene false in
local macro_rules
  | `(tactic| kp_flats) => `(tactic| first
    | assumption
    | exact upd_same
    | (apply atNew; assumption; kp_flats)
    | (apply atNe; (next => kbo_bools); kp_flats)
    | (apply atSame; assumption; kp_flats)
    | (apply atKp; assumption; (next => kaf_pre); kp_flats))
set_option hygiene false in
local macro_rules
  | `(tactic| kaf_pre) => `(tactic| first
    | assumption
    | exact not_nil
    | (apply not_cons; (next => kbo_bools); kaf_pre)
    | (apply not_app; (next => kaf_pre); kaf_pre))
set_option hygiene false in
local macro_rules
  | `(tactic| kbo_bools) => `(tactic| first
    | assumption
    | (apply Ne.symm; assumption)
    | (apply neN; assumption; kp_flats)
    | (apply neN'; assumption; kp_flats))
set_option hygiene false in
local macro_rules
  | `(tactic| o_reads) => `(tactic| first
    | with_reducible rfl
    | assumption
    | rfl
    | kp_flats
    | (show SqL _ _ _ _; first | assumption | (apply sqlOf; kp_flats) | (apply sqlSame; assumption; o_reads))
    | (show SqT _ _ _ _; first | assumption | (apply sqtOf; kp_flats) | (apply sqtAll; assumption) | (apply sqtSame; assumption; o_reads))
    | (show Cls _ _; first | exact T.cl_Calls | exact T.cl_Asker | exact T.cl_Builder | exact T.cl_Blocks)
    | (show NoAttr _ _ _; first | exact T.n_Calls_entries | exact T.n_Calls_running | exact T.n_Asker_calls | exact T.n_Asker_ask_call | exact T.n_Asker_join_call | exact T.n_Asker_zero | exact T.n_Builder_calls | exact T.n_Builder_build_call | exact T.n_Blocks_calls | exact T.n_Blocks_builder | exact T.n_Blocks_asker | exact T.n_Blocks_held | exact T.n_Blocks_parts)
    | (apply Or.inl; o_reads)
    | (apply Or.inr; o_reads)
    | (apply And.intro; (next => o_reads); o_reads)
    | (apply Exists.intro; o_reads)
    | exact Nat.le_of_ble_eq_true rfl
    | exact Nat.succ_ne_zero _
    | (show Fr _ _; kba_ints)
    | (show Same _ _; kd_subs)
    | (show Kp _ _ _; kxs_still)
    | (show (_ : Nat) ≤ _; simp only [List.length_append, List.length_map, List.length_cons, List.length_nil, List.length_take, List.length_drop, List.length_replicate, List.length_range, sizeLine_eq]; omega)
    | (show _ = none; apply Fr.h; kba_ints)
    | (show Bag _ _; first | assumption | (apply bag_putF; assumption; o_reads) | (apply bag_kpR; assumption; (next => kaf_pre); o_reads))
    | omega
    | decide)
local macro_rules
  | `(tactic| o_readsAll) => `(tactic| repeat (first
    | (refine fun (pNew : Addr) (nNew : _ = none) => ?_; replace nNew := Fr.mk nNew)
    | (refine fun (xNew dNew : Addr) (nNew : _ = none) (mNew : _ = none) (eNew : dNew ≠ xNew) => ?_; replace nNew := Fr.mk nNew; replace mNew := Fr.mk mNew)
    | (apply And.intro; next => o_reads)
    | apply Exists.intro (α := V)
    | apply Exists.intro (α := Addr)
    | apply Exists.intro (α := Int)
    | apply Exists.intro (α := Bool)
    | apply Exists.intro (α := List V)
    | apply Exists.intro (α := List Nat)
    | apply Exists.intro (α := List (Str × V))
    | apply Exists.intro (α := List _)
    | apply Exists.intro (α := Str)
    | apply Exists.intro (α := HO)
    | apply Exists.intro (α := Sp)
    | apply Exists.intro (α := VK)))
set_option hygiene false in
local macro_rules
  | `(tactic| kba_ints) => `(tactic| first
    | assumption
    | (apply frUp; (first | assumption | (apply Ne.symm; assumption)); kba_ints)
    | (apply noneOf; assumption; intro oF eF; apply Exists.intro; kp_flats)
    | (apply frUp; (next => kbo_bools); kba_ints))
set_option hygiene false in
local macro_rules
  | `(tactic| kxs_still) => `(tactic| first
    | assumption
    | exact kp_refl _ _
    | (apply kp_newF; assumption; kxs_still)
    | (apply kp_new; assumption; kxs_still)
    | (apply kp_up; (next => o_fieldsN); kxs_still)
    | (apply kp_new; (next => kba_ints); kxs_still)
    | (apply kp_sameR; assumption; kxs_still)
    | (apply kp_transR; assumption; kxs_still)
    | (apply kp_freshR; assumption; (next => kaf_suf); kxs_still))
set_option hygiene false in
local macro_rules
  | `(tactic| kaf_suf) => `(tactic| first
    | assumption
    | exact subNil
    | (apply subCons; (first | (apply Or.inl; o_fieldsN) | (apply Or.inr; kba_ints)); kaf_suf)
    | (apply subApp; (next => kaf_suf); kaf_suf))
set_option hygiene false in
local macro_rules
  | `(tactic| o_fieldsN) => `(tactic| first
    | assumption
    | exact memA
    | (apply memB; o_fieldsN)
    | (apply memL; o_fieldsN)
    | (apply memR; o_fieldsN))
set_option hygiene false in
local macro_rules
  | `(tactic| kd_subs) => `(tactic| first
    | assumption
    | exact Same.refl _
    | (apply same_putF; assumption; kd_subs)
    | (apply same_putG; assumption; kd_subs)
    | (apply same_putF; (next => kba_ints); kd_subs)
    | (apply same_transR; assumption; kd_subs))

/-! ### the lowest power by the and of both signs -/
theorem and_parts (a b : Nat) : a &&& b = 2 * (a / 2 &&& b / 2) + (a % 2 &&& b % 2) := by
  have h1 : (a &&& b) / 2 = a / 2 &&& b / 2 := Nat.and_div_two
  have h2 : (a &&& b) % 2 = a % 2 &&& b % 2 := by
    have := Nat.and_mod_two_pow (a := a) (b := b) (n := 1)
    simpa using this
  omega
theorem low_and : ∀ n : Nat, n ≠ 0 → n - (n &&& (n - 1)) = low n := by
  intro n
  induction n using Nat.strongRecOn with
  | ind n ih =>
    intro h
    by_cases e : n % 2 = 0
    · obtain ⟨m, rfl⟩ : ∃ m, n = 2 * m := ⟨n / 2, by omega⟩
      have hm : m ≠ 0 := by omega
      have i := ih m (by omega) hm
      rw [low_even h e, and_parts, show 2 * m / 2 = m by omega, show (2 * m - 1) / 2 = m - 1 by omega, show 2 * m % 2 = 0 by omega, Nat.zero_and, ← i]
      omega
    · rw [low_odd (by omega), and_parts, show (n - 1) / 2 = n / 2 by omega, show (n - 1) % 2 = 0 by omega, Nat.and_zero, Nat.and_self]
      omega
theorem low_bits {n : Nat} (h : n ≠ 0) : Builtin.bitAnd (n : Int) (-(n : Int)) = (low n : Int) := by
  have e1 : (Builtin.bitNot (-(n : Int))).toNat = n - 1 := by
    show (-(-(n : Int)) - 1).toNat = n - 1
    omega
  have e2 : n &&& (n - 1) ≤ n := Nat.and_le_left
  rw [bitAnd_pn (by omega) (by omega), e1, Int.toNat_natCast, ← low_and n h]
  omega
theorem low_spec : ∀ n : Nat, n ≠ 0 → ∃ e, low n = 2 ^ e ∧ n % 2 ^ e = 0 ∧ n % 2 ^ (e + 1) ≠ 0 := by
  intro n
  induction n using Nat.strongRecOn with
  | ind n ih =>
    intro h
    by_cases e : n % 2 = 0
    · obtain ⟨m, rfl⟩ : ∃ m, n = 2 * m := ⟨n / 2, by omega⟩
      have hm : m ≠ 0 := by omega
      obtain ⟨k, e1, e2, e3⟩ := ih m (by omega) hm
      refine ⟨k + 1, ?_, ?_, ?_⟩
      · rw [low_even h e, show 2 * m / 2 = m by omega, e1, Nat.pow_succ, Nat.mul_comm]
      · rw [Nat.pow_succ, Nat.mul_comm (2 ^ k) 2, Nat.mul_mod_mul_left, e2]
      · rw [Nat.pow_succ, Nat.mul_comm (2 ^ (k + 1)) 2, Nat.mul_mod_mul_left]
        omega
    · exact ⟨0, low_odd (by omega), Nat.mod_one _, by rw [Nat.zero_add, Nat.pow_one]; omega⟩
/-! ### pieces -/
def szP (a r : Nat) : Nat := if a = 0 then 2 ^ r.log2 else min (2 ^ r.log2) (low a)
def pcF : Nat → Nat → Nat → List (Nat × Nat)
  | 0, _, _ => []
  | f + 1, a, r => if r = 0 then [] else (a, szP a r) :: pcF f (a + szP a r) (r - szP a r)
def enough (k a r : Nat) : Prop := ∃ m, r < 2 ^ m ∧ (((a = 0 ∨ a % 2 ^ m = 0) ∧ m ≤ k) ∨ ∃ j, a ≠ 0 ∧ a % 2 ^ j = 0 ∧ j ≤ 100 ∧ (100 - j) + m + 1 ≤ k)
theorem mod_le {a i j : Nat} (h : a % 2 ^ j = 0) (l : i ≤ j) : a % 2 ^ i = 0 := by
  have d : 2 ^ i ∣ 2 ^ j := Nat.pow_dvd_pow 2 l
  exact Nat.mod_eq_zero_of_dvd (Nat.dvd_trans d (Nat.dvd_of_mod_eq_zero h))
theorem mod_add {a b i : Nat} (h : a % 2 ^ i = 0) (h2 : b % 2 ^ i = 0) : (a + b) % 2 ^ i = 0 := by
  rw [Nat.add_mod, h, h2]
  simp
theorem odd_up {a e : Nat} (h : a % 2 ^ e = 0) (h2 : a % 2 ^ (e + 1) ≠ 0) : (a + 2 ^ e) % 2 ^ (e + 1) = 0 := by
  obtain ⟨q, rfl⟩ := Nat.dvd_of_mod_eq_zero h
  have hp := Nat.two_pow_pos e
  rw [Nat.pow_succ, Nat.mul_mod_mul_left] at h2
  have h3 : q % 2 = 1 := by
    rcases Nat.mod_two_eq_zero_or_one q with z | z
    · rw [z] at h2
      exact absurd rfl h2
    · exact z
  rw [show 2 ^ e * q + 2 ^ e = 2 ^ e * (q + 1) by rw [Nat.mul_add, Nat.mul_one], Nat.pow_succ, Nat.mul_mod_mul_left, show (q + 1) % 2 = 0 by omega, Nat.mul_zero]
theorem szP_le {a r : Nat} (h : r ≠ 0) : szP a r ≤ r := by
  have l2 := log_lo h
  unfold szP
  split
  · exact l2
  · exact Nat.le_trans (Nat.min_le_left _ _) l2
theorem enough_step {k a r : Nat} (h : enough k a r) (hr : r ≠ 0) (hb : a + r ≤ 2 ^ 100) :
    ∃ k', k = k' + 1 ∧ enough k' (a + szP a r) (r - szP a r) ∧ szP a r ≤ r ∧ 0 < szP a r ∧ ∃ j, szP a r = 2 ^ j ∧ a % 2 ^ j = 0 := by
  obtain ⟨m, hm, hc⟩ := h
  have lo := log_lo hr
  have rl := rest_lt hr
  have ll := log_lt hr hm
  have hp := Nat.two_pow_pos r.log2
  rcases hc with ⟨hz, hk⟩ | ⟨j, ha, hj, hj1, hk⟩
  · have es : szP a r = 2 ^ r.log2 := by
      unfold szP
      by_cases z : a = 0
      · rw [if_pos z]
      · rw [if_neg z]
        obtain ⟨e, e1, e2, e3⟩ := low_spec a z
        rw [e1]
        rcases hz with hz | hz
        · exact absurd hz z
        · have : m ≤ e := by
            refine Nat.le_of_not_lt fun q => e3 (mod_le hz (by omega))
          exact Nat.min_eq_left (Nat.pow_le_pow_right (by decide) (by omega))
    have ad : a % 2 ^ r.log2 = 0 := by
      rcases hz with hz | hz
      · rw [hz]
        exact Nat.zero_mod _
      · exact mod_le hz (by omega)
    rw [es]
    exact ⟨k - 1, by omega, ⟨r.log2, rl, .inl ⟨.inr (mod_add ad (Nat.mod_self _)), by omega⟩⟩, lo, hp, _, rfl, ad⟩
  · obtain ⟨e, e1, e2, e3⟩ := low_spec a ha
    have hje : j ≤ e := Nat.le_of_not_lt fun q => e3 (mod_le hj (by omega))
    by_cases c : 2 ^ e ≤ 2 ^ r.log2
    · have es : szP a r = 2 ^ e := by
        unfold szP
        rw [if_neg ha, e1]
        exact Nat.min_eq_right c
      rw [es]
      have he : e < 100 := by
        have h1 : 2 ^ e < 2 ^ 100 := by omega
        exact (Nat.pow_lt_pow_iff_right (by decide)).mp h1
      have hpe := Nat.two_pow_pos e
      exact ⟨k - 1, by omega, ⟨m, by omega, .inr ⟨e + 1, by omega, odd_up e2 e3, by omega, by omega⟩⟩, by omega, hpe, _, rfl, e2⟩
    · have es : szP a r = 2 ^ r.log2 := by
        unfold szP
        rw [if_neg ha, e1]
        exact Nat.min_eq_left (by omega)
      have hle : r.log2 ≤ e := by
        refine Nat.le_of_not_lt fun q => c (Nat.pow_le_pow_right (by decide) (by omega))
      rw [es]
      exact ⟨k - 1, by omega, ⟨r.log2, rl, .inl ⟨.inr (mod_add (mod_le e2 hle) (Nat.mod_self _)), by omega⟩⟩, lo, hp, _, rfl, mod_le e2 hle⟩
theorem enough_all {a r : Nat} (h : a + r ≤ 10 ^ 30) : enough 201 a r := by
  have h1 : (10 ^ 30 : Nat) < 2 ^ 100 := by decide +kernel
  by_cases z : a = 0
  · exact ⟨100, by omega, .inl ⟨.inl z, by decide⟩⟩
  · exact ⟨100, by omega, .inr ⟨0, z, Nat.mod_one _, by decide, by decide⟩⟩
theorem pcF_zero (f a : Nat) : pcF f a 0 = [] := by
  cases f with
  | zero => rfl
  | succ f => exact if_pos rfl
theorem pcF_pos {f a r : Nat} (h : r ≠ 0) : pcF (f + 1) a r = (a, szP a r) :: pcF f (a + szP a r) (r - szP a r) := if_neg h
theorem pcF_len : ∀ (f a r : Nat), (pcF f a r).length ≤ f
  | 0, _, _ => Nat.le_refl _
  | f + 1, a, r => by
    by_cases h : r = 0
    · subst h
      rw [pcF_zero]
      exact Nat.zero_le _
    · rw [pcF_pos h, List.length_cons]
      have := pcF_len f (a + szP a r) (r - szP a r)
      omega

theorem low_ne (n : Nat) (h : n ≠ 0) : low n ≠ 0 := by
  obtain ⟨e, e1, _⟩ := low_spec n h
  have := Nat.two_pow_pos e
  omega
theorem low_le (n : Nat) (h : n ≠ 0) : low n ≤ n := by
  obtain ⟨e, e1, e2, _⟩ := low_spec n h
  rw [e1]
  exact Nat.le_of_dvd (by omega) (Nat.dvd_of_mod_eq_zero e2)
def expo (n : Nat) : Nat := (low n).log2
def nV (k : Nat) : V := .int (k : Int)
/-- a part: its tuple, the tuple of its numbers, those, and its block -/
structure Part where
  tp : Addr
  tn : Addr
  ns : List Nat
  blk : V
structure PartAt (H : Hp) (x : Part) : Prop where
  t : H x.tp = some (.tup [.ref x.tn, x.blk])
  n : H x.tn = some (.tup (x.ns.map nV))
def tps (ps : List Part) : List V := ps.map fun x => V.ref x.tp
def nums (ps : List Part) : List Nat := ps.flatMap Part.ns
theorem PartAt.same {H H1 : Hp} {x : Part} (h : PartAt H x) (s : Same H H1) : PartAt H1 x := ⟨s _ _ h.t, s _ _ h.n⟩
def NoTup (H : Hp) (a : Addr) : Prop := ∀ xs, H a ≠ some (.tup xs)
section
variable {P : Program} {w : World} {K : PySem.W.Frag} {mg : Str → Option Value} {base : Heap} {n : Nat}
def spLp : Sp := fun vs H Q _ => ∃ n : Nat, vs = [.int (n : Int)] ∧ n ≠ 0 ∧ Q (.int (low n : Int)) H
theorem ok_lp (T : Txt K mg) : FnOk P w K mg base CX0 1 T.f_lowest_power T.d_lowest_power ["number"] spLp := by
  refine T.F_lowest_power.ok sc_lowest_power (fun vs H Q E h => ?_) (fun cdv A outer s H vs Q E hr h => ?_)
  · obtain ⟨n, rfl, _⟩ := h
    rfl
  · obtain ⟨n, rfl, h0, q⟩ := h
    refine ⟨_, (pss_one (ps_ret (pe_op op_and (pv 0) (pe_un un_neg (pv 0))))), ?_⟩
    rw [← low_bits h0] at q
    o_readsAll
    exact q
def spEx : Sp := fun vs H Q _ => ∃ n : Nat, vs = [.int (n : Int)] ∧ n ≠ 0 ∧ Q (.int (expo n : Nat)) H
theorem ok_ex (T : Txt K mg) : FnOk P w K mg base CX0 2 T.f_exponent T.d_exponent ["number"] spEx := by
  have G_lowest_power := ok_lp (P := P) (w := w) (base := base) T
  refine T.F_exponent.ok sc_exponent (fun vs H Q E h => ?_) (fun cdv A outer s H vs Q E hr h => ?_)
  · obtain ⟨n, rfl, _⟩ := h
    rfl
  · obtain ⟨n, rfl, h0, q⟩ := h
    refine ⟨_, (pss_one (ps_ret (pe_op op_sub (pe_bits (pe_call G_lowest_power (hr.mono (by omega)) rfl T.g_lowest_power T.F_lowest_power.kp T.b_lowest_power .nil pass0 (pa_cons (pv 0) pa_nil))) pe_int))), ?_⟩
    have e : ((Builtin.Int.intBits (low n : Int) : Nat) : Int) - 1 = (expo n : Nat) := by
      rw [bits_nat (low_ne n h0)]
      show ((low n).log2 + 1 : Nat) - (1 : Int) = ((low n).log2 : Nat)
      omega
    rw [← e] at q
    o_readsAll
    exact q
def spGr : Sp := fun vs H Q _ => ∃ (p : Addr) (many num : Nat) (ps : List Part), vs = [.ref p, .int (many : Int), .int (num : Int)] ∧ H p = some (.lst (tps ps)) ∧ (∀ x ∈ ps, PartAt H x) ∧ ps.length ≤ 1000 ∧ (nums ps).length ≤ 10000 ∧ expo (many + 1) ≤ ps.length ∧
  ∀ t tn H', Fr H t → Fr H tn → Same H H' → H' t = some (.tup [.int ((ps.length - expo (many + 1) : Nat) : Int), .ref tn]) → H' tn = some (.tup ((nums (ps.drop (ps.length - expo (many + 1))) ++ [num]).map nV)) → Q (.ref t) H'
theorem nums_take {ps : List Part} {i : Nat} {x : Part} (e : ps[i]? = some x) : nums (ps.take (i + 1)) = nums (ps.take i) ++ x.ns := by
  unfold nums
  rw [List.take_succ, e, List.flatMap_append]
  exact congrArg _ (List.append_nil _)
theorem nums_le (ps : List Part) (i : Nat) : (nums (ps.take i)).length ≤ (nums ps).length := by
  have := congrArg (fun z => (nums z).length) (List.take_append_drop i ps)
  simp only [nums, List.flatMap_append, List.length_append] at this
  unfold nums
  omega
theorem nums_drop (ps : List Part) (i : Nat) : (nums (ps.drop i)).length ≤ (nums ps).length := by
  have := congrArg (fun z => (nums z).length) (List.take_append_drop i ps)
  simp only [nums, List.flatMap_append, List.length_append] at this
  unfold nums
  omega
theorem ok_gr (T : Txt K mg) : FnOk P w K mg base CX0 3 T.f_growth T.d_growth ["parts", "many", "number"] spGr := by
  have G_exponent := ok_ex (P := P) (w := w) (base := base) T
  refine T.F_growth.ok sc_growth (fun vs H Q E h => ?_) (fun cdv A outer s H vs Q E hr h => ?_)
  · obtain ⟨p, many, num, ps, rfl, _⟩ := h
    rfl
  · obtain ⟨p, many, num, ps, rfl, hp, hx, l1, l2, l3, q⟩ := h
    refine ⟨_, (pss_cons (ps_set (i := 3) sc_growth.nd rfl (.inl rfl) (pe_op op_sub (pe_callB call_len_seq (by rfl) T.z_len (by decide +kernel) (pa_cons (pv 0) pa_nil)) (pe_call G_exponent (hr.mono (by omega)) rfl T.g_exponent T.F_exponent.kp T.b_exponent .nil pass0 (pa_cons (pe_op op_add (pv 1) pe_int) pa_nil))))
      (pss_cons (ps_set (i := 4) sc_growth.nd rfl (.inl rfl) (pe_lst pa_nil))
      (pss_cons (ps_for PassesOwn.never rfl (pi_list (pe_slice sl_list (pv 0) (po_some (pv 3)) po_none)) (pg_tup (by rfl) (pgs_cons (pg_name (i := 5) sc_growth.nd rfl (.inl rfl)) (pgs_cons (pg_name (i := 6) sc_growth.nd rfl (.inl rfl)) pgs_nil))) (pss_one (ps_expr (pe_bm PySem.F.plainAttrs_list PySem.F.slot_list_extend PySem.F.type_list_extend mt_extendT (pv 4) (pa_cons (pv 5) pa_nil)))))
      (pss_one (ps_ret (pe_tup (pa_cons (pv 3) (pa_cons (pe_tup (StX.pa_star (pv 4) (pa_cons (pv 2) pa_nil))) pa_nil)))))))), ?_⟩
    o_readsAll
    have hc : cutV (tps ps) (some (((tps ps).length : Int) - (expo (many + 1) : Nat))) none = tps (ps.drop (ps.length - expo (many + 1))) := by
      unfold cutV tps
      rw [List.length_map, HT.sIx_none, show ((ps.length : Int) - (expo (many + 1) : Nat)) = ((ps.length - expo (many + 1) : Nat) : Int) by omega, HT.sIx_nat, Nat.min_eq_left (Nat.sub_le _ _), List.map_drop]
      exact List.take_of_length_le (by rw [List.length_drop, List.length_map]; exact Nat.le_refl _)
    rw [hc]
    rename_i o1 n1 o2 n2
    have no : o2 ≠ o1 := by kbo_bools
    have hk : ((tps ps).length : Int) - (expo (many + 1) : Nat) = ((ps.length - expo (many + 1) : Nat) : Int) := by
      rw [show (tps ps).length = ps.length from List.length_map ..]
      omega
    refine for_list (xs := tps (ps.drop (ps.length - expo (many + 1)))) (fun i σ H' => ∃ y5 y6, σ = [some (.ref p), some (.int many), some (.int num), some (.int (((tps ps).length : Int) - (expo (many + 1) : Nat))), some (.ref o1), y5, y6] ∧ Same H H' ∧ Fr H o1 ∧
      H' o1 = some (.lst ((nums ((ps.drop (ps.length - expo (many + 1))).take i)).map nV)) ∧ H' o2 = some (.lst (tps (ps.drop (ps.length - expo (many + 1)))))) ⟨_, _, rfl, ?_, n1, ?_, upd_same⟩ ?_ ?_ ?_
    · kd_subs
    · kp_flats
    · rintro i σ H' hi ⟨y5, y6, rfl, s1, n3, e1, e2⟩
      exact sqlOf e2
    · rintro i y σ H' hy ⟨y5, y6, rfl, s1, n3, e1, e2⟩
      unfold tps at hy
      rw [List.getElem?_map] at hy
      obtain ⟨x, hx1, rfl⟩ := Option.map_eq_some_iff.mp hy
      have hx2 := hx x (List.mem_of_mem_drop (List.mem_of_getElem? hx1))
      have ht := s1 _ _ hx2.t
      have hn := s1 _ _ hx2.n
      have b1 := nums_le (ps.drop (ps.length - expo (many + 1))) (i + 1)
      rw [nums_take hx1, List.length_append] at b1
      have b2 := nums_drop ps (ps.length - expo (many + 1))
      o_readsAll
      refine ⟨_, _, rfl, same_putG n3 s1, n3, ?_, ?_⟩
      · rw [nums_take hx1, List.map_append]
        exact upd_same
      · kp_flats
    · rintro σ H' ⟨y5, y6, rfl, s1, n3, e1, e2⟩
      rw [show (tps (ps.drop (ps.length - expo (many + 1)))).length = (ps.drop (ps.length - expo (many + 1))).length from List.length_map .., List.take_length] at e1
      have b2 := nums_drop ps (ps.length - expo (many + 1))
      o_readsAll
      rename_i t nt tt nn
      refine q tt t _ (by kba_ints) (by kba_ints) (by kd_subs) (by rw [← hk]; kp_flats) ?_
      rw [List.map_append]
      kp_flats
end
end Ob

set_option Elab.async false
set_option linter.all false
set_option maxRecDepth 100000
set_option maxHeartbeats 1000000
namespace Ob
open PySem PySem.Spec PyProof.Rows L2
open LamX (Tabs TabB TabS ExtN)

set_option hygiene false in
local macro_rules
  | `(tactic| kp_flats) => `(tactic| first
    | assumption
    | exact upd_same
    | (apply atNew; assumption; kp_flats)
    | (apply atNe; (next => kbo_bools); kp_flats)
    | (apply atSame; assumption; kp_flats)
    | (apply atKp; assumption; (next => kaf_pre); kp_flats))
set_option hygiene false in
local macro_rules
  | `(tactic| kaf_pre) => `(tactic| first
    | assumption
    | exact not_nil
    | (apply not_cons; (next => kbo_bools); kaf_pre)
    | (apply not_app; (next => kaf_pre); kaf_pre))
set_option hygiene false in
local macro_rules
  | `(tactic| kbo_bools) => `(tactic| first
    | assumption
    | (apply Ne.symm; assumption)
    | (apply neN; assumption; kp_flats)
    | (apply neN'; assumption; kp_flats))
set_option hygiene false in
local macro_rules
  | `(tactic| o_reads) => `(tactic| first
    | with_reducible rfl
    | assumption
    | rfl
    | kp_flats
    | (show SqL _ _ _ _; first | assumption | (apply sqlOf; kp_flats) | (apply sqlSame; assumption; o_reads))
    | (show SqT _ _ _ _; first | assumption | (apply sqtOf; kp_flats) | (apply sqtAll; assumption) | (apply sqtSame; assumption; o_reads))
    | (show Cls _ _; first | exact T.cl_Calls | exact T.cl_Asker | exact T.cl_Builder | exact T.cl_Blocks)
    | (show NoAttr _ _ _; first | exact T.n_Calls_entries | exact T.n_Calls_running | exact T.n_Asker_calls | exact T.n_Asker_ask_call | exact T.n_Asker_join_call | exact T.n_Asker_zero | exact T.n_Builder_calls | exact T.n_Builder_build_call | exact T.n_Blocks_calls | exact T.n_Blocks_builder | exact T.n_Blocks_asker | exact T.n_Blocks_held | exact T.n_Blocks_parts)
    | (apply Or.inl; o_reads)
    | (apply Or.inr; o_reads)
    | (apply And.intro; (next => o_reads); o_reads)
    | (apply Exists.intro; o_reads)
    | exact Nat.le_of_ble_eq_true rfl
    | exact Nat.succ_ne_zero _
    | (show Fr _ _; kba_ints)
    | (show Same _ _; kd_subs)
    | (show Kp _ _ _; kxs_still)
    | (show (_ : Nat) ≤ _; simp only [List.length_append, List.length_map, List.length_cons, List.length_nil, List.length_take, List.length_drop, List.length_replicate, List.length_range, sizeLine_eq]; omega)
    | (show _ = none; apply Fr.h; kba_ints)
    | (show Bag _ _; first | assumption | (apply bag_putF; assumption; o_reads) | (apply bag_kpR; assumption; (next => kaf_pre); o_reads))
    | omega
    | decide)
local macro_rules
  | `(tactic| o_readsAll) => `(tactic| repeat (first
    | (refine fun (pNew : Addr) (nNew : _ = none) => ?_; replace nNew := Fr.mk nNew)
    | (refine fun (xNew dNew : Addr) (nNew : _ = none) (mNew : _ = none) (eNew : dNew ≠ xNew) => ?_; replace nNew := Fr.mk nNew; replace mNew := Fr.mk mNew)
    | (apply And.intro; next => o_reads)
    | apply Exists.intro (α := V)
    | apply Exists.intro (α := Addr)
    | apply Exists.intro (α := Int)
    | apply Exists.intro (α := Bool)
    | apply Exists.intro (α := List V)
    | apply Exists.intro (α := List Nat)
    | apply Exists.intro (α := List (Str × V))
    | apply Exists.intro (α := List _)
    | apply Exists.intro (α := Str)
    | apply Exists.intro (α := HO)
    | apply Exists.intro (α := Sp)
    | apply Exists.intro (α := VK)))
set_option hygiene false in
local macro_rules
  | `(tactic| kba_ints) => `(tactic| first
    | assumption
    | (apply frUp; (first | assumption | (apply Ne.symm; assumption)); kba_ints)
    | (apply noneOf; assumption; intro oF eF; apply Exists.intro; kp_flats)
    | (apply frUp; (next => kbo_bools); kba_ints))
set_option hygiene false in
local macro_rules
  | `(tactic| kxs_still) => `(tactic| first
    | assumption
    | exact kp_refl _ _
    | (apply kp_newF; assumption; kxs_still)
    | (apply kp_new; assumption; kxs_still)
    | (apply kp_up; (next => o_fieldsN); kxs_still)
    | (apply kp_new; (next => kba_ints); kxs_still)
    | (apply kp_sameR; assumption; kxs_still)
    | (apply kp_transR; assumption; kxs_still)
    | (apply kp_freshR; assumption; (next => kaf_suf); kxs_still))
set_option hygiene false in
local macro_rules
  | `(tactic| kaf_suf) => `(tactic| first
    | assumption
    | exact subNil
    | (apply subCons; (first | (apply Or.inl; o_fieldsN) | (apply Or.inr; kba_ints)); kaf_suf)
    | (apply subApp; (next => kaf_suf); kaf_suf))
set_option hygiene false in
local macro_rules
  | `(tactic| o_fieldsN) => `(tactic| first
    | assumption
    | exact memA
    | (apply memB; o_fieldsN)
    | (apply memL; o_fieldsN)
    | (apply memR; o_fieldsN))
set_option hygiene false in
local macro_rules
  | `(tactic| kd_subs) => `(tactic| first
    | assumption
    | exact Same.refl _
    | (apply same_putF; assumption; kd_subs)
    | (apply same_putG; assumption; kd_subs)
    | (apply same_putF; (next => kba_ints); kd_subs)
    | (apply same_transR; assumption; kd_subs))

section
variable {P : Program} {w : World} {K : PySem.W.Frag} {mg : Str → Option Value} {base : Heap} {n : Nat}
def spBE (K : PySem.W.Frag) : Sp := fun vs H Q _ => ∃ (x : V) (e : Addr) (ms : List V), vs = [x, .ref e] ∧ (∀ H, SqT K H e ms) ∧ ms.length ≤ 10 ∧ ∀ te H', Fr H te → Same H H' → H' te = some (.tup (.str "build" :: (ms ++ [x]))) → Q (.ref te) H'
theorem ok_be (T : Txt K mg) : FnOk P w K mg base CX0 1 T.f_build_entry T.d_build_entry ["numbers", "mark"] (spBE K) := by
  refine T.F_build_entry.ok sc_build_entry (fun vs H Q E h => ?_) (fun cdv A outer s H vs Q E hr h => ?_)
  · obtain ⟨x, e, ms, rfl, _⟩ := h
    rfl
  · obtain ⟨x, e, ms, rfl, h1, h2, q⟩ := h
    refine ⟨_, (pss_one (ps_ret (pe_tup (pa_cons pe_str (StX.pa_star (pv 1) (pa_cons (pv 0) pa_nil)))))), ?_⟩
    o_readsAll
    rename_i te nt
    exact q te _ (by kba_ints) (by kd_subs) (by kp_flats)
def BuO (C dx c : Addr) (fb : V) : HO := .ins C dx [("calls", .ref c), ("build_call", fb)]
def pick (ms : List V) (ns : List Nat) : List V := ns.map fun i => ms.getD i .non
theorem pick_at {ms : List V} {i : Nat} (h : i < ms.length) : ms[i]? = some (ms.getD i .non) := by
  rw [List.getD_eq_getElem?_getD, List.getElem?_eq_getElem h]
  rfl
def spPart (P : Program) (w : World) (K : PySem.W.Frag) (mg : Str → Option Value) (base : Heap) (CB CC : Addr) (n : Nat) : Sp := fun vs H Q _ => ∃ (b dx c cdx l tn h e : Addr) (fb : V) (ns : List Nat) (ms mk : List V), vs = [.ref b, .ref tn, .ref h, .ref e] ∧
  H b = some (BuO CB dx c fb) ∧ H c = some (CO CC cdx l false) ∧ H tn = some (.tup (ns.map nV)) ∧ H h = some (.lst ms) ∧ (∀ H, SqT K H e mk) ∧ mk.length ≤ 10 ∧ (∀ i ∈ ns, i < ms.length) ∧ ns.length ≤ 10000 ∧
  ∀ te sl H1, Fr H te → Fr H sl → Kp [c] H H1 → H1 c = some (CO CC cdx l true) → H1 te = some (.tup (.str "build" :: (mk ++ [.ref tn]))) → H1 sl = some (.lst (pick ms ns)) →
    Act P w K mg base n fb [.ref sl] H1 (fun v H2 => H2 c = some (CO CC cdx l true) ∧ ∃ es, H2 l = some (.lst es) ∧ es.length < sizeLine ∧
      ∀ q H3, Kp [c, l] H2 H3 → Fr H2 q → H3 c = some (CO CC cdx l false) → H3 l = some (.lst (es ++ [.ref te])) → H3 q = some (.tup [.ref tn, v]) → Q (.ref q) H3)
theorem ok_part (T : Txt K mg) : FnOk P w K mg base CX0 (n + 2) T.f_Builder_part T.d_Builder_part ["self", "numbers", "held", "mark"] (spPart P w K mg base T.C_Builder T.C_Calls n) := by
  have G_build_entry := ok_be (P := P) (w := w) (base := base) T
  have G_Calls_run := ok_run (P := P) (w := w) (base := base) (n := n) T
  refine T.F_Builder_part.ok sc_Builder_part (fun vs H Q E h => ?_) (fun cdv A outer s H vs Q E hr h => ?_)
  · obtain ⟨b, dx, c, cdx, l, tn, hh, e, fb, ns, ms, mk, rfl, _⟩ := h
    rfl
  · obtain ⟨b, dx, c, cdx, l, tn, hh, e, fb, ns, ms, mk, rfl, hb, hc, ht, hm, he, l1, l2, l3, q⟩ := h
    refine ⟨_, (pss_cons (ps_set (i := 4) sc_Builder_part.nd rfl (.inl rfl) (pe_call G_build_entry (hr.mono (by omega)) rfl T.g_build_entry T.F_build_entry.kp T.b_build_entry .nil pass0 (pa_cons (pv 1) (pa_cons (pv 3) pa_nil))))
      (pss_cons (ps_set (i := 5) sc_Builder_part.nd rfl (.inl rfl) (pe_methR (pe_fld (pv 0) rfl) T.cl_Calls ⟨T.m_Calls_run, T.t_Calls_run, T.k_Calls_run⟩ G_Calls_run (hr.mono (by omega)) pass0 (pa_cons (pv 4) (pa_cons (pe_fld (pv 0) rfl) (pa_cons (pe_lc (own := [("number", 6)]) (g := gName 6) (tt := tYes) rfl sc_Builder_part.nd (pi_tup (pv 1)) (blkOk_by (N := n_Builder_part) (sc := defScope s_Builder_part) (by decide +kernel)) (fun _ _ _ _ _ => (pg_name (i := 6) sc_Builder_part.nd rfl (.inl rfl))) (fun _ _ _ _ _ => pts_nil) (fun _ _ _ _ _ => (pe_ix (r := rIxL K) ix_list (pv 2) (pv 6) (fun _ _ => rfl)))) pa_nil)))))
      (pss_one (ps_ret (pe_tup (pa_cons (pv 1) (pa_cons (pv 5) pa_nil))))))), ?_⟩
    o_readsAll
    intro te H1 nte s1 e1
    o_readsAll
    rename_i sl nsl
    refine lc_tup (K := K) (a := tn) (xs := ns.map nV) (fun i H' => Same H1 H' ∧ H' sl = some (.lst (pick ms (ns.take i)))) ⟨by kd_subs, upd_same⟩ ?_ ?_ ?_
    · rintro i H' _ ⟨s2, _⟩
      exact sqtOf (s2 _ _ (s1 _ _ ht))
    · rintro i y H' hy ⟨s2, e2⟩
      rw [List.getElem?_map] at hy
      obtain ⟨k, hk, rfl⟩ := Option.map_eq_some_iff.mp hy
      have hl := l2 k (List.mem_of_getElem? hk)
      have hh' := s2 _ _ (s1 _ _ hm)
      have ha : atI ms (k : Int) = some (ms.getD k .non) := atI_nat (pick_at hl)
      have hi : i < ns.length := (List.getElem?_eq_some_iff.mp hk).1
      o_readsAll
      refine ⟨by rw [sizeLine_eq]; unfold pick; rw [List.length_map, List.length_take]; omega, by kd_subs, ?_⟩
      rw [show pick ms (ns.take (i + 1)) = pick ms (ns.take i) ++ [ms.getD k .non] by unfold pick; rw [List.take_succ, hk, List.map_append]; rfl]
      kp_flats
    · rintro H' ⟨s2, e2⟩
      rw [List.length_map, List.take_length] at e2
      o_readsAll
      intro H3 k3 c3
      refine (q te sl H3 (by kba_ints) (by kba_ints) (by kxs_still) c3 (by kp_flats) (by kp_flats)).imp fun v H4 ⟨a1, es, a2, a3, a4⟩ => ⟨a1, es, a2, a3, fun H5 k5 c5 l5 => ?_⟩
      o_readsAll
      rename_i qq nq
      exact a4 qq _ (by kxs_still) (by kba_ints) (by kp_flats) (by kp_flats) (by kp_flats)
theorem cut_tps (ps : List Part) (k : Nat) (h : k ≤ ps.length) : cutV (tps ps) none (some (k : Int)) = tps (ps.take k) := by
  unfold cutV tps
  rw [List.length_map, HT.sIx_none, HT.sIx_nat, Nat.min_eq_left h, List.drop_zero, Nat.sub_zero, List.map_take]
def spGrow (P : Program) (w : World) (K : PySem.W.Frag) (mg : Str → Option Value) (base : Heap) (CB CC : Addr) (n : Nat) : Sp := fun vs H Q _ => ∃ (b dx c cdx l p h e : Addr) (fb : V) (many num : Nat) (ps : List Part) (ms mk es0 : List V), vs = [.ref b, .ref p, .int (many : Int), .int (num : Int), .ref h, .ref e] ∧
  H b = some (BuO CB dx c fb) ∧ H c = some (CO CC cdx l false) ∧ H l = some (.lst es0) ∧ H p = some (.lst (tps ps)) ∧ (∀ x ∈ ps, PartAt H x) ∧ H h = some (.lst ms) ∧ (∀ H, SqT K H e mk) ∧ mk.length ≤ 10 ∧ ps.length ≤ 1000 ∧ (nums ps).length ≤ 1000 ∧ expo (many + 1) ≤ ps.length ∧
  (∀ i ∈ nums (ps.drop (ps.length - expo (many + 1))) ++ [num], i < ms.length) ∧
  ∀ tn te sl g H1, Fr H tn → Fr H te → Fr H sl → Fr H g → sl ≠ g → Kp [c] H H1 → H1 c = some (CO CC cdx l true) → H1 tn = some (.tup ((nums (ps.drop (ps.length - expo (many + 1))) ++ [num]).map nV)) → H1 te = some (.tup (.str "build" :: (mk ++ [.ref tn]))) →
    H1 sl = some (.lst (pick ms (nums (ps.drop (ps.length - expo (many + 1))) ++ [num]))) → H1 g = some (.lst (tps (ps.take (ps.length - expo (many + 1))))) →
    Act P w K mg base n fb [.ref sl] H1 (fun v H2 => H2 c = some (CO CC cdx l true) ∧ H2 g = some (.lst (tps (ps.take (ps.length - expo (many + 1))))) ∧ ∃ es, H2 l = some (.lst es) ∧ es.length < sizeLine ∧
      ∀ q p2 H3, Kp [c, l] H2 H3 → Fr H2 q → Fr H2 p2 → H3 c = some (CO CC cdx l false) → H3 l = some (.lst (es ++ [.ref te])) → H3 q = some (.tup [.ref tn, v]) →
        H3 p2 = some (.lst (tps (ps.take (ps.length - expo (many + 1))) ++ [.ref q])) → Q (.ref p2) H3)
theorem ok_grow (T : Txt K mg) : FnOk P w K mg base CX0 (n + 4) T.f_Builder_grown_row T.d_Builder_grown_row ["self", "parts", "many", "number", "held", "mark"] (spGrow P w K mg base T.C_Builder T.C_Calls n) := by
  have G_growth := ok_gr (P := P) (w := w) (base := base) T
  have G_Builder_part := ok_part (P := P) (w := w) (base := base) (n := n) T
  refine T.F_Builder_grown_row.ok sc_Builder_grown_row (fun vs H Q E h => ?_) (fun cdv A outer s H vs Q E hr h => ?_)
  · obtain ⟨b, dx, c, cdx, l, p, hh, e, fb, many, num, ps, ms, mk, es0, rfl, _⟩ := h
    rfl
  · obtain ⟨b, dx, c, cdx, l, p, hh, e, fb, many, num, ps, ms, mk, es0, rfl, hb, hc, hl, hp, hx, hm, he, l1, l2, l3, l4, l5, q⟩ := h
    refine ⟨_, (pss_cons (ps_asg (pe_call G_growth (hr.mono (by omega)) rfl T.g_growth T.F_growth.kp T.b_growth .nil pass0 (pa_cons (pv 1) (pa_cons (pv 2) (pa_cons (pv 3) pa_nil)))) (pg_tup (by rfl) (pgs_cons (pg_name (i := 6) sc_Builder_grown_row.nd rfl (.inl rfl)) (pgs_cons (pg_name (i := 7) sc_Builder_grown_row.nd rfl (.inl rfl)) pgs_nil))))
      (pss_one (ps_ret (pe_op op_cat (pe_slice sl_list (pv 1) po_none (po_some (pv 6))) (pe_lst (pa_cons (pe_meth (pv 0) T.cl_Builder ⟨T.m_Builder_part, T.t_Builder_part, T.k_Builder_part⟩ G_Builder_part (hr.mono (by omega)) T.b_Builder_part .nil pass0 (pa_cons (pv 7) (pa_cons (pv 4) (pa_cons (pv 5) pa_nil)))) pa_nil)))))), ?_⟩
    o_readsAll
    intro t tn H1 nt ntn s1 e1 e2
    have b2 := nums_drop ps (ps.length - expo (many + 1))
    o_readsAll
    rename_i g ng
    rw [cut_tps ps _ (Nat.sub_le _ _)]
    intro te sl H2 nte nsl k2 c2 e3 e4
    refine (q tn te sl g H2 ntn (by kba_ints) (by kba_ints) (by kba_ints) (by kbo_bools) (by kxs_still) c2 (by kp_flats) e3 e4 (by kp_flats)).imp fun v H3 ⟨a1, a2, es, a3, a4, a5⟩ => ⟨a1, es, a3, a4, fun qq H4 k4 nq c4 l4' t4 => ?_⟩
    o_readsAll
    refine ⟨by rw [sizeLine_eq]; unfold tps; rw [List.length_map, List.length_take]; show _ + 1 ≤ _; omega, ?_⟩
    o_readsAll
    rename_i g2 n2 p2 np2
    exact a5 qq p2 _ (by kxs_still) nq (by kba_ints) (by kp_flats) (by kp_flats) (by kp_flats) (by kp_flats)
end
end Ob

set_option Elab.async false
set_option linter.all false
set_option maxRecDepth 100000
set_option maxHeartbeats 1000000
namespace Ob
open PySem PySem.Spec PyProof.Rows L2
open LamX (Tabs TabB TabS ExtN)

set_option hygiene false in
local macro_rules
  | `(tactic| kp_flats) => `(tactic| first
    | assumption
    | exact upd_same
    | (apply atNew; assumption; kp_flats)
    | (apply atNe; (next => kbo_bools); kp_flats)
    | (apply atSame; assumption; kp_flats)
    | (apply atKp; assumption; (next => kaf_pre); kp_flats))
set_option hygiene false in
local macro_rules
  | `(tactic| kaf_pre) => `(tactic| first
    | assumption
    | exact not_nil
    | (apply not_cons; (next => kbo_bools); kaf_pre)
    | (apply not_app; (next => kaf_pre); kaf_pre))
set_option hygiene false in
local macro_rules
  | `(tactic| kbo_bools) => `(tactic| first
    | assumption
    | (apply Ne.symm; assumption)
    | (apply neN; assumption; kp_flats)
    | (apply neN'; assumption; kp_flats))
set_option hygiene false in
local macro_rules
  | `(tactic| o_reads) => `(tactic| first
    | with_reducible rfl
    | assumption
    | rfl
    | kp_flats
    | (show SqL _ _ _ _; first | assumption | (apply sqlOf; kp_flats) | (apply sqlSame; assumption; o_reads))
    | (show SqT _ _ _ _; first | assumption | (apply sqtOf; kp_flats) | (apply sqtAll; assumption) | (apply sqtSame; assumption; o_reads))
    | (show Cls _ _; first | exact T.cl_Calls | exact T.cl_Asker | exact T.cl_Builder | exact T.cl_Blocks)
    | (show NoAttr _ _ _; first | exact T.n_Calls_entries | exact T.n_Calls_running | exact T.n_Asker_calls | exact T.n_Asker_ask_call | exact T.n_Asker_join_call | exact T.n_Asker_zero | exact T.n_Builder_calls | exact T.n_Builder_build_call | exact T.n_Blocks_calls | exact T.n_Blocks_builder | exact T.n_Blocks_asker | exact T.n_Blocks_held | exact T.n_Blocks_parts)
    | (apply Or.inl; o_reads)
    | (apply Or.inr; o_reads)
    | (apply And.intro; (next => o_reads); o_reads)
    | (apply Exists.intro; o_reads)
    | exact Nat.le_of_ble_eq_true rfl
    | exact Nat.succ_ne_zero _
    | (show Fr _ _; kba_ints)
    | (show Same _ _; kd_subs)
    | (show Kp _ _ _; kxs_still)
    | (show (_ : Nat) ≤ _; simp only [List.length_append, List.length_map, List.length_cons, List.length_nil, List.length_take, List.length_drop, List.length_replicate, List.length_range, sizeLine_eq]; omega)
    | (show _ = none; apply Fr.h; kba_ints)
    | (show Bag _ _; first | assumption | (apply bag_putF; assumption; o_reads) | (apply bag_kpR; assumption; (next => kaf_pre); o_reads))
    | omega
    | decide)
local macro_rules
  | `(tactic| o_readsAll) => `(tactic| repeat (first
    | (refine fun (pNew : Addr) (nNew : _ = none) => ?_; replace nNew := Fr.mk nNew)
    | (refine fun (xNew dNew : Addr) (nNew : _ = none) (mNew : _ = none) (eNew : dNew ≠ xNew) => ?_; replace nNew := Fr.mk nNew; replace mNew := Fr.mk mNew)
    | (apply And.intro; next => o_reads)
    | apply Exists.intro (α := V)
    | apply Exists.intro (α := Addr)
    | apply Exists.intro (α := Int)
    | apply Exists.intro (α := Bool)
    | apply Exists.intro (α := List V)
    | apply Exists.intro (α := List Nat)
    | apply Exists.intro (α := List (Str × V))
    | apply Exists.intro (α := List _)
    | apply Exists.intro (α := Str)
    | apply Exists.intro (α := HO)
    | apply Exists.intro (α := Sp)
    | apply Exists.intro (α := VK)))
set_option hygiene false in
local macro_rules
  | `(tactic| kba_ints) => `(tactic| first
    | assumption
    | (apply frUp; (first | assumption | (apply Ne.symm; assumption)); kba_ints)
    | (apply noneOf; assumption; intro oF eF; apply Exists.intro; kp_flats)
    | (apply frUp; (next => kbo_bools); kba_ints))
set_option hygiene false in
local macro_rules
  | `(tactic| kxs_still) => `(tactic| first
    | assumption
    | exact kp_refl _ _
    | (apply kp_newF; assumption; kxs_still)
    | (apply kp_new; assumption; kxs_still)
    | (apply kp_up; (next => o_fieldsN); kxs_still)
    | (apply kp_new; (next => kba_ints); kxs_still)
    | (apply kp_sameR; assumption; kxs_still)
    | (apply kp_transR; assumption; kxs_still)
    | (apply kp_freshR; assumption; (next => kaf_suf); kxs_still))
set_option hygiene false in
local macro_rules
  | `(tactic| kaf_suf) => `(tactic| first
    | assumption
    | exact subNil
    | (apply subCons; (first | (apply Or.inl; o_fieldsN) | (apply Or.inr; kba_ints)); kaf_suf)
    | (apply subApp; (next => kaf_suf); kaf_suf))
set_option hygiene false in
local macro_rules
  | `(tactic| o_fieldsN) => `(tactic| first
    | assumption
    | exact memA
    | (apply memB; o_fieldsN)
    | (apply memL; o_fieldsN)
    | (apply memR; o_fieldsN))
set_option hygiene false in
local macro_rules
  | `(tactic| kd_subs) => `(tactic| first
    | assumption
    | exact Same.refl _
    | (apply same_putF; assumption; kd_subs)
    | (apply same_putG; assumption; kd_subs)
    | (apply same_putF; (next => kba_ints); kd_subs)
    | (apply same_transR; assumption; kd_subs))

section
variable {P : Program} {w : World} {K : PySem.W.Frag} {mg : Str → Option Value} {base : Heap} {n : Nat}
def AO (C dx : Addr) (c : Addr) (fa fj z : V) : HO := .ins C dx [("calls", .ref c), ("ask_call", fa), ("join_call", fj), ("zero", z)]
def manyOf (ps : List Part) : Nat := (nums ps).length
theorem many_take {ps : List Part} {i : Nat} {x : Part} (e : ps[i]? = some x) : manyOf (ps.take (i + 1)) = manyOf (ps.take i) + x.ns.length := by
  unfold manyOf
  rw [nums_take e, List.length_append]
def spAns (P : Program) (w : World) (K : PySem.W.Frag) (mg : Str → Option Value) (base : Heap) (CC CA : Addr) (n : Nat) : Sp := fun vs H Q _ => ∃ (k dx c cdx l p e : Addr) (fa fj z qn : V) (ps : List Part) (mk : List V) (J : Nat → V → Hp → Prop), vs = [.ref k, .ref p, qn, .ref e] ∧ (∀ H, SqT K H e mk) ∧ mk.length ≤ 10 ∧ H k = some (AO CA dx c fa fj z) ∧ J 0 z H ∧
  (∀ i v H', i ≤ ps.length → J i v H' → H' k = some (AO CA dx c fa fj z) ∧ H' c = some (CO CC cdx l false) ∧ H' p = some (.lst (tps ps))) ∧
  (∀ i v H' x, ps[i]? = some x → J i v H' → PartAt H' x ∧ 0 < x.ns.length ∧
    ∀ te H1, Fr H' te → Kp [c] H' H1 → H1 c = some (CO CC cdx l true) → H1 te = some (.tup (.str "ask" :: (mk ++ [.ref x.tn]))) →
      Act P w K mg base n fa [x.blk, qn] H1 (fun v1 H2 => H2 c = some (CO CC cdx l true) ∧ ∃ es, H2 l = some (.lst es) ∧ es.length < sizeLine ∧
        ∀ H3, Kp [c, l] H2 H3 → H3 c = some (CO CC cdx l false) → H3 l = some (.lst (es ++ [.ref te])) → (i = 0 → J 1 v1 H3) ∧ (i ≠ 0 → H3 k = some (AO CA dx c fa fj z) ∧
          ∀ t2 H4, Fr H3 t2 → Kp [c] H3 H4 → H4 c = some (CO CC cdx l true) → H4 t2 = some (.tup (.str "join" :: (mk ++ [.int (manyOf (ps.take i) : Nat), .int (x.ns.length : Nat)]))) →
            Act P w K mg base n fj [v, v1] H4 (fun v2 H5 => H5 c = some (CO CC cdx l true) ∧ ∃ es, H5 l = some (.lst es) ∧ es.length < sizeLine ∧
              ∀ H6, Kp [c, l] H5 H6 → H6 c = some (CO CC cdx l false) → H6 l = some (.lst (es ++ [.ref t2])) → J (i + 1) v2 H6)))) ∧
  ∀ v H', J ps.length v H' → Q v H'
theorem ok_ans (T : Txt K mg) : FnOk P w K mg base CX0 (n + 2) T.f_Asker_answer T.d_Asker_answer ["self", "parts", "question", "mark"] (spAns P w K mg base T.C_Calls T.C_Asker n) := by
  have G_Calls_run := ok_run (P := P) (w := w) (base := base) (n := n) T
  refine T.F_Asker_answer.ok sc_Asker_answer (fun vs H Q E h => ?_) (fun cdv A outer s H vs Q E hr h => ?_)
  · obtain ⟨k, dx, c, cdx, l, p, e, fa, fj, z, qn, ps, mk, J, rfl, _⟩ := h
    rfl
  · obtain ⟨k, dx, c, cdx, l, p, e, fa, fj, z, qn, ps, mk, J, rfl, he, lm, hk, j0, hJ, hS, hQ⟩ := h
    refine ⟨_, (pss_cons (ps_set (i := 4) sc_Asker_answer.nd rfl (.inl rfl) (pe_fld (pv 0) rfl))
      (pss_cons (ps_set (i := 5) sc_Asker_answer.nd rfl (.inl rfl) pe_int)
      (pss_cons (ps_for (passes_of rfl) rfl (pi_list (pv 1)) (pg_tup (by rfl) (pgs_cons (pg_name (i := 6) sc_Asker_answer.nd rfl (.inl rfl)) (pgs_cons (pg_name (i := 7) sc_Asker_answer.nd rfl (.inl rfl)) pgs_nil))) (pss_cons (ps_set (i := 8) sc_Asker_answer.nd rfl (.inl rfl) (pe_callB call_len_seq (by rfl) T.z_len (by decide +kernel) (pa_cons (pv 6) pa_nil)))
        (pss_cons (ps_set (i := 9) sc_Asker_answer.nd rfl (.inl rfl) (pe_methR (pe_fld (pv 0) rfl) T.cl_Calls ⟨T.m_Calls_run, T.t_Calls_run, T.k_Calls_run⟩ G_Calls_run (hr.mono (by omega)) pass0 (pa_cons (pe_tup (pa_cons pe_str (StX.pa_star (pv 3) (pa_cons (pv 6) pa_nil)))) (pa_cons (pe_fld (pv 0) rfl) (pa_cons (pv 7) (pa_cons (pv 2) pa_nil))))))
        (pss_cons (ps_if (pt_cmpR op_gt (pv 5) pe_int (nomark _)) (pss_one (ps_set (i := 9) sc_Asker_answer.nd rfl (.inl rfl) (pe_methR (pe_fld (pv 0) rfl) T.cl_Calls ⟨T.m_Calls_run, T.t_Calls_run, T.k_Calls_run⟩ G_Calls_run (hr.mono (by omega)) pass0 (pa_cons (pe_tup (pa_cons pe_str (StX.pa_star (pv 3) (pa_cons (pv 5) (pa_cons (pv 8) pa_nil))))) (pa_cons (pe_fld (pv 0) rfl) (pa_cons (pv 4) (pa_cons (pv 9) pa_nil))))))) pss_nil)
        (pss_cons (ps_set (i := 4) sc_Asker_answer.nd rfl (.inl rfl) (pv 9))
        (pss_one (ps_aug (i := 5) sc_Asker_answer.nd rfl (.inl rfl) (pv 8) ip_add)))))))
      (pss_one (ps_ret (pv 4)))))), ?_⟩
    obtain ⟨hk0, hc0, hp0⟩ := hJ 0 z H (Nat.zero_le _) j0
    o_readsAll
    refine for_list (xs := tps ps) (fun i σ H' => ∃ v y5 y6 y7 y8, σ = [some (.ref k), some (.ref p), some qn, some (.ref e), some v, some (.int (manyOf (ps.take i) : Nat)), y5, y6, y7, y8] ∧ (i ≠ 0 → 0 < manyOf (ps.take i)) ∧ J i v H')
      ⟨z, _, _, _, _, rfl, fun n => absurd rfl n, j0⟩ ?_ ?_ ?_
    · rintro i σ H' hi ⟨v, y5, y6, y7, y8, _, _, j⟩
      unfold tps at hi
      rw [List.length_map] at hi
      exact sqlOf (hJ i v H' hi j).2.2
    · rintro i y σ H' hy ⟨v, y5, y6, y7, y8, rfl, hpos, j⟩
      unfold tps at hy
      rw [List.getElem?_map] at hy
      obtain ⟨x, hx, rfl⟩ := Option.map_eq_some_iff.mp hy
      have hi : i < ps.length := (List.getElem?_eq_some_iff.mp hx).1
      obtain ⟨hk', hc', _⟩ := hJ i v H' (Nat.le_of_lt hi) j
      obtain ⟨⟨h1, h2⟩, h3, hst⟩ := hS i v H' x hx j
      have mt := many_take hx
      have l4 : (x.ns.map nV).length = x.ns.length := List.length_map ..
      o_readsAll
      rename_i te nte
      intro H1 k1 c1
      refine (hst te H1 nte (by kxs_still) c1 (by kp_flats)).imp fun v1 H2 ⟨a1, es, a2, a3, a4⟩ => ⟨a1, es, a2, a3, fun H3 k3 c3 l3 => ?_⟩
      obtain ⟨a5, a6⟩ := a4 H3 k3 c3 l3
      o_readsAll
      by_cases h0 : i = 0
      · subst h0
        refine ifF (dF (by show ¬ (0 : Int) < ((0 : Nat) : Int); omega)) ?_
        o_readsAll
        exact ⟨_, _, _, _, by rw [mt, ← l4]; rfl, fun _ => by rw [mt]; omega, a5 rfl⟩
      · have hp := hpos h0
        obtain ⟨hk3, hj⟩ := a6 h0
        refine ifT (dT (by omega)) ?_
        o_readsAll
        rename_i t2 nt2
        intro H4 k4 c4
        refine (hj t2 H4 nt2 (by kxs_still) c4 (by rw [← l4]; kp_flats)).imp fun v2 H5 ⟨b1, es2, b2, b3, b4⟩ => ⟨b1, es2, b2, b3, fun H6 k6 c6 l6 => ?_⟩
        have b5 := b4 H6 k6 c6 l6
        o_readsAll
        exact ⟨_, _, _, _, by rw [mt, ← l4]; rfl, fun _ => by rw [mt]; omega, b5⟩
    · rintro σ H' ⟨v, y5, y6, y7, y8, rfl, _, j⟩
      rw [show (tps ps).length = ps.length from List.length_map ..] at j
      o_readsAll
      exact hQ v H' j
end
end Ob

set_option Elab.async false
set_option linter.all false
set_option maxRecDepth 100000
set_option maxHeartbeats 1000000
namespace Ob
open PySem PySem.Spec PyProof.Rows L2
open LamX (Tabs TabB TabS ExtN)

set_option hygiene false in
local macro_rules
  | `(tactic| kp_flats) => `(tactic| first
    | assumption
    | exact upd_same
    | (apply atNew; assumption; kp_flats)
    | (apply atNe; (next => kbo_bools); kp_flats)
    | (apply atSame; assumption; kp_flats)
    | (apply atKp; assumption; (next => kaf_pre); kp_flats))
set_option hygiene false in
local macro_rules
  | `(tactic| kaf_pre) => `(tactic| first
    | assumption
    | exact not_nil
    | (apply not_cons; (next => kbo_bools); kaf_pre)
    | (apply not_app; (next => kaf_pre); kaf_pre))
set_option hygiene false in
local macro_rules
  | `(tactic| kbo_bools) => `(tactic| first
    | assumption
    | (apply Ne.symm; assumption)
    | (apply neN; assumption; kp_flats)
    | (apply neN'; assumption; kp_flats))
set_option hygiene false in
local macro_rules
  | `(tactic| o_reads) => `(tactic| first
    | with_reducible rfl
    | assumption
    | rfl
    | kp_flats
    | (show SqL _ _ _ _; first | assumption | (apply sqlOf; kp_flats) | (apply sqlSame; assumption; o_reads))
    | (show SqT _ _ _ _; first | assumption | (apply sqtOf; kp_flats) | (apply sqtAll; assumption) | (apply sqtSame; assumption; o_reads))
    | (show Cls _ _; first | exact T.cl_Calls | exact T.cl_Asker | exact T.cl_Builder | exact T.cl_Blocks)
    | (show NoAttr _ _ _; first | exact T.n_Calls_entries | exact T.n_Calls_running | exact T.n_Asker_calls | exact T.n_Asker_ask_call | exact T.n_Asker_join_call | exact T.n_Asker_zero | exact T.n_Builder_calls | exact T.n_Builder_build_call | exact T.n_Blocks_calls | exact T.n_Blocks_builder | exact T.n_Blocks_asker | exact T.n_Blocks_held | exact T.n_Blocks_parts)
    | (apply Or.inl; o_reads)
    | (apply Or.inr; o_reads)
    | (apply And.intro; (next => o_reads); o_reads)
    | (apply Exists.intro; o_reads)
    | exact Nat.le_of_ble_eq_true rfl
    | exact Nat.succ_ne_zero _
    | (show Fr _ _; kba_ints)
    | (show Same _ _; kd_subs)
    | (show Kp _ _ _; kxs_still)
    | (show (_ : Nat) ≤ _; simp only [List.length_append, List.length_map, List.length_cons, List.length_nil, List.length_take, List.length_drop, List.length_replicate, List.length_range, sizeLine_eq]; omega)
    | (show _ = none; apply Fr.h; kba_ints)
    | (show Bag _ _; first | assumption | (apply bag_putF; assumption; o_reads) | (apply bag_neF; (next => kbo_bools); o_reads) | (apply bag_kpR; assumption; (next => kaf_pre); o_reads))
    | omega
    | decide)
local macro_rules
  | `(tactic| o_readsAll) => `(tactic| repeat (first
    | (refine fun (pNew : Addr) (nNew : _ = none) => ?_; replace nNew := Fr.mk nNew)
    | (refine fun (xNew dNew : Addr) (nNew : _ = none) (mNew : _ = none) (eNew : dNew ≠ xNew) => ?_; replace nNew := Fr.mk nNew; replace mNew := Fr.mk mNew)
    | (apply And.intro; next => o_reads)
    | apply Exists.intro (α := V)
    | apply Exists.intro (α := Addr)
    | apply Exists.intro (α := Int)
    | apply Exists.intro (α := Bool)
    | apply Exists.intro (α := List V)
    | apply Exists.intro (α := List Nat)
    | apply Exists.intro (α := List (Str × V))
    | apply Exists.intro (α := List _)
    | apply Exists.intro (α := Str)
    | apply Exists.intro (α := HO)
    | apply Exists.intro (α := Sp)
    | apply Exists.intro (α := VK)))
set_option hygiene false in
local macro_rules
  | `(tactic| kba_ints) => `(tactic| first
    | assumption
    | (apply frUp; (first | assumption | (apply Ne.symm; assumption)); kba_ints)
    | (apply noneOf; assumption; intro oF eF; apply Exists.intro; kp_flats)
    | (apply frUp; (next => kbo_bools); kba_ints))
set_option hygiene false in
local macro_rules
  | `(tactic| kxs_still) => `(tactic| first
    | assumption
    | exact kp_refl _ _
    | (apply kp_newF; assumption; kxs_still)
    | (apply kp_new; assumption; kxs_still)
    | (apply kp_up; (next => o_fieldsN); kxs_still)
    | (apply kp_new; (next => kba_ints); kxs_still)
    | (apply kp_sameR; assumption; kxs_still)
    | (apply kp_transR; assumption; kxs_still)
    | (apply kp_freshR; assumption; (next => kaf_suf); kxs_still))
set_option hygiene false in
local macro_rules
  | `(tactic| kaf_suf) => `(tactic| first
    | assumption
    | exact subNil
    | (apply subCons; (first | (apply Or.inl; o_fieldsN) | (apply Or.inr; kba_ints)); kaf_suf)
    | (apply subApp; (next => kaf_suf); kaf_suf))
set_option hygiene false in
local macro_rules
  | `(tactic| o_fieldsN) => `(tactic| first
    | assumption
    | exact memA
    | (apply memB; o_fieldsN)
    | (apply memL; o_fieldsN)
    | (apply memR; o_fieldsN))
set_option hygiene false in
local macro_rules
  | `(tactic| kd_subs) => `(tactic| first
    | assumption
    | exact Same.refl _
    | (apply same_putF; assumption; kd_subs)
    | (apply same_putG; assumption; kd_subs)
    | (apply same_putF; (next => kba_ints); kd_subs)
    | (apply same_transR; assumption; kd_subs))

section
variable {P : Program} {w : World} {K : PySem.W.Frag} {mg : Str → Option Value} {base : Heap} {n : Nat}
def spAI (C : Addr) : Sp := fun vs H Q _ => ∃ (a dx c : Addr) (x2 x3 x4 : V), vs = [.ref a, .ref c, x2, x3, x4] ∧ H a = some (.ins C dx []) ∧ ∀ H', H' a = some (AO C dx c x2 x3 x4) → Kp [a] H H' → (∀ b, Fr H' b → Fr H b) → Q .non H'
theorem ok_ai (T : Txt K mg) : FnOk P w K mg base CX0 1 T.f_Asker_init T.d_Asker_init ["self", "calls", "ask", "join", "zero"] (spAI T.C_Asker) := by
  refine T.F_Asker_init.ok sc_Asker_init (fun vs H Q E h => ?_) (fun cdv A outer s H vs Q E hr h => ?_)
  · obtain ⟨a, dx, c, x2, x3, x4, rfl, _⟩ := h
    rfl
  · obtain ⟨a, dx, c, x2, x3, x4, rfl, ha, q⟩ := h
    refine ⟨_, (pss_cons (ps_fld (pv 0) (pv 1) rfl)
      (pss_cons (ps_fld (pv 0) (pv 2) rfl)
      (pss_cons (ps_fld (pv 0) (pv 3) rfl)
      (pss_one (ps_fld (pv 0) (pv 4) rfl))))), ?_⟩
    o_readsAll
    exact q _ (by kp_flats) (by kxs_still) fun b fb => by kba_ints
def spBuI (C : Addr) : Sp := fun vs H Q _ => ∃ (a dx c : Addr) (x2 : V), vs = [.ref a, .ref c, x2] ∧ H a = some (.ins C dx []) ∧ ∀ H', H' a = some (BuO C dx c x2) → Kp [a] H H' → (∀ b, Fr H' b → Fr H b) → Q .non H'
theorem ok_bui (T : Txt K mg) : FnOk P w K mg base CX0 1 T.f_Builder_init T.d_Builder_init ["self", "calls", "build"] (spBuI T.C_Builder) := by
  refine T.F_Builder_init.ok sc_Builder_init (fun vs H Q E h => ?_) (fun cdv A outer s H vs Q E hr h => ?_)
  · obtain ⟨a, dx, c, x2, rfl, _⟩ := h
    rfl
  · obtain ⟨a, dx, c, x2, rfl, ha, q⟩ := h
    refine ⟨_, (pss_cons (ps_fld (pv 0) (pv 1) rfl)
      (pss_one (ps_fld (pv 0) (pv 2) rfl))), ?_⟩
    o_readsAll
    exact q _ (by kp_flats) (by kxs_still) fun b fb => by kba_ints
def BlO (C dx c bu k h p : Addr) : HO := .ins C dx [("calls", .ref c), ("builder", .ref bu), ("asker", .ref k), ("held", .ref h), ("parts", .ref p)]
def spBI (CB CC CU CA : Addr) : Sp := fun vs H Q _ => ∃ (b dx : Addr) (fb fa fj z : V), vs = [.ref b, fb, fa, fj, z] ∧ H b = some (.ins CB dx []) ∧ ∀ (c cdx l bu bdx k kdx h p : Addr) H', Fr H c → Fr H l → Fr H bu → Fr H k → Fr H h → Fr H p →
  H' b = some (BlO CB dx c bu k h p) → H' c = some (CO CC cdx l false) → H' l = some (.lst []) → H' bu = some (BuO CU bdx c fb) → H' k = some (AO CA kdx c fa fj z) → H' h = some (.lst []) → H' p = some (.lst []) → l ≠ h → l ≠ p → h ≠ p → bu ≠ b → bu ≠ c → k ≠ b → k ≠ c → b ≠ c → Kp [b] H H' → Q .non H'
theorem ok_bi (T : Txt K mg) : FnOk P w K mg base CX0 4 T.f_Blocks_init T.d_Blocks_init ["self", "build", "ask", "join", "zero"] (spBI T.C_Blocks T.C_Calls T.C_Builder T.C_Asker) := by
  have G_Calls_init := ok_ci (P := P) (w := w) (base := base) T
  have G_Asker_init := ok_ai (P := P) (w := w) (base := base) T
  have G_Builder_init := ok_bui (P := P) (w := w) (base := base) T
  refine T.F_Blocks_init.ok sc_Blocks_init (fun vs H Q E h => ?_) (fun cdv A outer s H vs Q E hr h => ?_)
  · obtain ⟨b, dx, fb, fa, fj, z, rfl, _⟩ := h
    rfl
  · obtain ⟨b, dx, fb, fa, fj, z, rfl, hb, q⟩ := h
    refine ⟨_, (pss_cons (ps_fld (pv 0) (pe_make0 ⟨T.mk_Calls, T.m_Calls_init, T.t_Calls_init, T.kp_Calls⟩ G_Calls_init (hr.mono (by omega)) rfl T.gc_Calls T.b_Calls_init .nil pass0) rfl)
      (pss_cons (ps_fld (pv 0) (pe_make ⟨T.mk_Builder, T.m_Builder_init, T.t_Builder_init, T.kp_Builder⟩ G_Builder_init (hr.mono (by omega)) rfl T.gc_Builder T.b_Builder_init .nil pass0 (pa_cons (pe_fld (pv 0) rfl) (pa_cons (pv 1) pa_nil))) rfl)
      (pss_cons (ps_fld (pv 0) (pe_make ⟨T.mk_Asker, T.m_Asker_init, T.t_Asker_init, T.kp_Asker⟩ G_Asker_init (hr.mono (by omega)) rfl T.gc_Asker T.b_Asker_init .nil pass0 (pa_cons (pe_fld (pv 0) rfl) (pa_cons (pv 2) (pa_cons (pv 3) (pa_cons (pv 4) pa_nil))))) rfl)
      (pss_cons (ps_fld (pv 0) (pe_lst pa_nil) rfl)
      (pss_one (ps_fld (pv 0) (pe_lst pa_nil) rfl)))))), ?_⟩
    o_readsAll
    rename_i c cdx nec nc ncd
    intro l H1 nl e1 e2 k1
    o_readsAll
    rename_i bu bdx neb nb nbd
    intro H2 e3 k2 f2
    o_readsAll
    rename_i k kdx nek nk nkd
    intro H3 e4 k3 f3
    o_readsAll
    rename_i h nh p np
    exact q c cdx l bu bdx k kdx h p _ (by kba_ints) (by kba_ints) (by kba_ints) (by kba_ints) (by kba_ints) (by kba_ints) (by kp_flats) (by kp_flats) (by kp_flats) (by kp_flats) (by kp_flats) (by kp_flats) (by kp_flats) (by kbo_bools) (by kbo_bools) (by kbo_bools) (by kbo_bools) (by kbo_bools) (by kbo_bools) (by kbo_bools) (by kbo_bools) (by kxs_still)
end
end Ob

set_option Elab.async false
set_option linter.all false
set_option maxRecDepth 100000
set_option maxHeartbeats 1000000
namespace Ob
open PySem PySem.Spec PyProof.Rows L2
open LamX (Tabs TabB TabS ExtN)

/-! ### the blocks of n members -/
def bl (n : Nat) : List (Nat × Nat) := if h : n = 0 then [] else bl (n - low n) ++ [(n - low n, low n)]
termination_by n
decreasing_by
  have := Nat.pos_of_ne_zero (low_ne n h)
  omega
theorem bl_zero : bl 0 = [] := by
  rw [bl, dif_pos rfl]
theorem bl_pos {n : Nat} (h : n ≠ 0) : bl n = bl (n - low n) ++ [(n - low n, low n)] := by
  rw [bl, dif_neg h]
theorem low_up {m e : Nat} (h : m % 2 ^ (e + 1) = 0) : low (m + 2 ^ e) = 2 ^ e := by
  have hp := Nat.two_pow_pos e
  obtain ⟨q, rfl⟩ := Nat.dvd_of_mod_eq_zero h
  refine low_is e _ (by omega) ?_ fun z => ?_
  · rw [Nat.pow_succ, Nat.mul_assoc, show 2 ^ e * (2 * q) + 2 ^ e = 2 ^ e * (2 * q + 1) by rw [Nat.mul_add, Nat.mul_one]]
    exact Nat.mul_mod_right _ _
  · rw [Nat.add_comm, Nat.add_mul_mod_self_left, Nat.mod_eq_of_lt (Nat.pow_lt_pow_right (by decide) (by omega))] at z
    omega
theorem bl_up {m e : Nat} (h : m % 2 ^ (e + 1) = 0) : bl (m + 2 ^ e) = bl m ++ [(m, 2 ^ e)] := by
  have hp := Nat.two_pow_pos e
  rw [bl_pos (by omega), low_up h, Nat.add_sub_cancel]
theorem bl_run : ∀ (e m : Nat), m % 2 ^ e = 0 → ∃ t, bl (m + (2 ^ e - 1)) = bl m ++ t ∧ t.length = e
  | 0, m, _ => ⟨[], by rw [Nat.pow_zero, Nat.sub_self, Nat.add_zero, List.append_nil], rfl⟩
  | e + 1, m, h => by
    have hp := Nat.two_pow_pos e
    have hm : (m + 2 ^ e) % 2 ^ e = 0 := by
      obtain ⟨q, rfl⟩ := Nat.dvd_of_mod_eq_zero h
      rw [Nat.pow_succ, Nat.mul_assoc, Nat.add_mod_right]
      exact Nat.mul_mod_right _ _
    obtain ⟨t, e1, e2⟩ := bl_run e (m + 2 ^ e) hm
    refine ⟨(m, 2 ^ e) :: t, ?_, ?_⟩
    · rw [show m + (2 ^ (e + 1) - 1) = m + 2 ^ e + (2 ^ e - 1) by rw [Nat.pow_succ]; omega, e1, bl_up h, List.append_assoc]
      rfl
    · rw [List.length_cons, e2]
theorem bl_step (n : Nat) : expo (n + 1) ≤ (bl n).length ∧ bl (n + 1) = (bl n).take ((bl n).length - expo (n + 1)) ++ [(n + 1 - low (n + 1), low (n + 1))] := by
  obtain ⟨e, e1, e2, e3⟩ := low_spec (n + 1) (Nat.succ_ne_zero _)
  have hx : expo (n + 1) = e := by
    unfold expo
    rw [e1]
    exact Nat.log2_two_pow
  have le := low_le (n + 1) (Nat.succ_ne_zero _)
  have hp := Nat.two_pow_pos e
  have hm : (n + 1 - low (n + 1)) % 2 ^ e = 0 := by
    rw [e1]
    rw [← Nat.mod_eq_sub_mod (by omega)]
    exact e2
  obtain ⟨t, h1, h2⟩ := bl_run e _ hm
  have hn : n + 1 - low (n + 1) + (2 ^ e - 1) = n := by omega
  rw [hn] at h1
  refine ⟨by rw [hx, h1, List.length_append]; omega, ?_⟩
  rw [bl_pos (Nat.succ_ne_zero n), hx, h1, List.length_append, h2, Nat.add_sub_cancel, List.take_left']
  rfl
/-- what stands one behind the other, from a to b -/
def Tiles : Nat → List (Nat × Nat) → Nat → Prop
  | a, [], b => a = b
  | a, (f, s) :: r, b => f = a ∧ 0 < s ∧ Tiles (a + s) r b
theorem tiles_add : ∀ {a b c : Nat} {x y : List (Nat × Nat)}, Tiles a x b → Tiles b y c → Tiles a (x ++ y) c
  | _, _, _, [], _, h, k => by
    cases h
    exact k
  | _, _, _, (f, s) :: x, _, ⟨h1, h2, h3⟩, k => ⟨h1, h2, tiles_add h3 k⟩
theorem bl_tiles (n : Nat) : Tiles 0 (bl n) n := by
  induction n using Nat.strongRecOn with
  | ind n ih =>
    by_cases h : n = 0
    · subst h
      rw [bl_zero]
      exact rfl
    · have l := low_le n h
      have p := Nat.pos_of_ne_zero (low_ne n h)
      rw [bl_pos h]
      exact tiles_add (ih _ (by omega)) ⟨rfl, p, by show n - low n + low n = n; omega⟩
theorem bl_len (n : Nat) : (bl n).length ≤ n := by
  have key : ∀ (x : List (Nat × Nat)) (a b : Nat), Tiles a x b → a + x.length ≤ b := by
    intro x
    induction x with
    | nil => intro a b h; exact Nat.le_of_eq h
    | cons y x ih =>
      intro a b h
      obtain ⟨f, s⟩ := y
      obtain ⟨h1, h2, h3⟩ := h
      have := ih _ _ h3
      rw [List.length_cons]
      omega
  have := key _ _ _ (bl_tiles n)
  omega
theorem tiles_split : ∀ {a b : Nat} {x y : List (Nat × Nat)}, Tiles a (x ++ y) b → ∃ c, Tiles a x c ∧ Tiles c y b
  | a, _, [], _, h => ⟨a, rfl, h⟩
  | _, _, (f, s) :: x, _, ⟨h1, h2, h3⟩ => by
    obtain ⟨c, k1, k2⟩ := tiles_split h3
    exact ⟨c, ⟨h1, h2, k1⟩, k2⟩
theorem tiles_end : ∀ {a b c : Nat} {x : List (Nat × Nat)}, Tiles a x b → Tiles a x c → b = c
  | _, _, _, [], h, k => h.symm.trans k
  | _, _, _, (f, s) :: x, ⟨_, _, h⟩, ⟨_, _, k⟩ => tiles_end h k
def rg (x : Nat × Nat) : List Nat := List.range' x.1 x.2
theorem tiles_le : ∀ {a b : Nat} {x : List (Nat × Nat)}, Tiles a x b → a ≤ b
  | _, _, [], h => Nat.le_of_eq h
  | a, _, (f, s) :: x, ⟨_, _, h⟩ => Nat.le_trans (Nat.le_add_right a s) (tiles_le h)
theorem tiles_rg : ∀ {a b : Nat} {x : List (Nat × Nat)}, Tiles a x b → x.flatMap rg = List.range' a (b - a)
  | _, _, [], h => by
    cases h
    rw [Nat.sub_self]
    rfl
  | a, b, (f, s) :: x, ⟨h1, h2, h3⟩ => by
    subst h1
    have le := tiles_le h3
    rw [List.flatMap_cons, tiles_rg h3, show b - f = s + (b - (f + s)) by omega, ← List.range'_append_1]
    rfl
def bns (n : Nat) : List (List Nat) := (bl n).map rg
theorem bns_flat (n : Nat) : (bns n).flatten = List.range' 0 n := by
  have := tiles_rg (bl_tiles n)
  rw [Nat.sub_zero] at this
  rw [← this, List.flatMap_def]
  rfl
theorem bns_len (n : Nat) : (bns n).length = (bl n).length := List.length_map ..
theorem bns_step (n : Nat) : expo (n + 1) ≤ (bns n).length ∧ ((bns n).drop ((bns n).length - expo (n + 1))).flatten ++ [n] = List.range' (n + 1 - low (n + 1)) (low (n + 1)) ∧
    bns (n + 1) = (bns n).take ((bns n).length - expo (n + 1)) ++ [List.range' (n + 1 - low (n + 1)) (low (n + 1))] := by
  obtain ⟨h1, h2⟩ := bl_step n
  have le := low_le (n + 1) (Nat.succ_ne_zero _)
  have ps := Nat.pos_of_ne_zero (low_ne (n + 1) (Nat.succ_ne_zero _))
  rw [bns_len]
  refine ⟨h1, ?_, ?_⟩
  · have t1 := bl_tiles (n + 1)
    rw [h2] at t1
    obtain ⟨c, c1, c2, _, c3⟩ := tiles_split t1
    have t2 := bl_tiles n
    rw [← List.take_append_drop ((bl n).length - expo (n + 1)) (bl n)] at t2
    obtain ⟨d, d1, d2⟩ := tiles_split t2
    have e1 := tiles_end d1 c1
    have e2 : n + 1 - low (n + 1) = c := c2
    have e3 := tiles_rg d2
    have e4 : ((bns n).drop ((bl n).length - expo (n + 1))).flatten = ((bl n).drop ((bl n).length - expo (n + 1))).flatMap rg := by
      rw [List.flatMap_def, bns, ← List.map_drop]
    rw [e4, e3, e1, ← e2, show low (n + 1) = (n - (n + 1 - low (n + 1))) + 1 by omega, List.range'_concat, Nat.one_mul, show n + 1 - (n - (n + 1 - low (n + 1)) + 1) = n + 1 - low (n + 1) by omega]
    congr 2
    omega
  · unfold bns
    rw [h2, List.map_append, List.map_take]
    rfl
theorem bns_mem {n : Nat} {x : List Nat} (h : x ∈ bns n) : (∀ i ∈ x, i < n) ∧ x ≠ [] := by
  obtain ⟨⟨f, s⟩, h1, rfl⟩ := List.mem_map.mp h
  obtain ⟨l, r, e⟩ := List.append_of_mem h1
  have t := bl_tiles n
  rw [e] at t
  obtain ⟨c, c1, c2, c3, c4⟩ := tiles_split t
  have le := tiles_le c4
  refine ⟨fun i hi => ?_, fun z => ?_⟩
  · have := List.mem_range'_1.mp hi
    omega
  · have := congrArg List.length z
    rw [rg, List.length_range'] at this
    show False
    simp at this
    omega

end Ob

set_option Elab.async false
set_option linter.all false
set_option maxRecDepth 100000
set_option maxHeartbeats 1000000
namespace Ob
open PySem PySem.Spec PyProof.Rows L2
open LamX (Tabs TabB TabS ExtN)

set_option hygiene false in
local macro_rules
  | `(tactic| kp_flats) => `(tactic| first
    | assumption
    | exact upd_same
    | (apply atNew; assumption; kp_flats)
    | (apply atNe; (next => kbo_bools); kp_flats)
    | (apply atSame; assumption; kp_flats)
    | (apply atKp; assumption; (next => kaf_pre); kp_flats))
set_option hygiene false in
local macro_rules
  | `(tactic| kaf_pre) => `(tactic| first
    | assumption
    | exact not_nil
    | (apply not_cons; (next => kbo_bools); kaf_pre)
    | (apply not_app; (next => kaf_pre); kaf_pre))
set_option hygiene false in
local macro_rules
  | `(tactic| kbo_bools) => `(tactic| first
    | assumption
    | (apply Ne.symm; assumption)
    | (apply neN; assumption; kp_flats)
    | (apply neN'; assumption; kp_flats))
set_option hygiene false in
local macro_rules
  | `(tactic| o_reads) => `(tactic| first
    | with_reducible rfl
    | assumption
    | rfl
    | kp_flats
    | (show SqL _ _ _ _; first | assumption | (apply sqlOf; kp_flats) | (apply sqlSame; assumption; o_reads))
    | (show SqT _ _ _ _; first | assumption | (apply sqtOf; kp_flats) | (apply sqtAll; assumption) | (apply sqtSame; assumption; o_reads))
    | (show Cls _ _; first | exact T.cl_Calls | exact T.cl_Asker | exact T.cl_Builder | exact T.cl_Blocks)
    | (show NoAttr _ _ _; first | exact T.n_Calls_entries | exact T.n_Calls_running | exact T.n_Asker_calls | exact T.n_Asker_ask_call | exact T.n_Asker_join_call | exact T.n_Asker_zero | exact T.n_Builder_calls | exact T.n_Builder_build_call | exact T.n_Blocks_calls | exact T.n_Blocks_builder | exact T.n_Blocks_asker | exact T.n_Blocks_held | exact T.n_Blocks_parts)
    | (apply Or.inl; o_reads)
    | (apply Or.inr; o_reads)
    | (apply And.intro; (next => o_reads); o_reads)
    | (apply Exists.intro; o_reads)
    | exact Nat.le_of_ble_eq_true rfl
    | exact Nat.succ_ne_zero _
    | (show Fr _ _; kba_ints)
    | (show Same _ _; kd_subs)
    | (show Kp _ _ _; kxs_still)
    | (show (_ : Nat) ≤ _; simp only [List.length_append, List.length_map, List.length_cons, List.length_nil, List.length_take, List.length_drop, List.length_replicate, List.length_range, sizeLine_eq]; omega)
    | (show _ = none; apply Fr.h; kba_ints)
    | (show Bag _ _; first | assumption | (apply bag_putF; assumption; o_reads) | (apply bag_neF; (next => kbo_bools); o_reads) | (apply bag_kpR; assumption; (next => kaf_pre); o_reads))
    | omega
    | decide)
local macro_rules
  | `(tactic| o_readsAll) => `(tactic| repeat (first
    | (refine fun (pNew : Addr) (nNew : _ = none) => ?_; replace nNew := Fr.mk nNew)
    | (refine fun (xNew dNew : Addr) (nNew : _ = none) (mNew : _ = none) (eNew : dNew ≠ xNew) => ?_; replace nNew := Fr.mk nNew; replace mNew := Fr.mk mNew)
    | (apply And.intro; next => o_reads)
    | apply Exists.intro (α := V)
    | apply Exists.intro (α := Addr)
    | apply Exists.intro (α := Int)
    | apply Exists.intro (α := Bool)
    | apply Exists.intro (α := List V)
    | apply Exists.intro (α := List Nat)
    | apply Exists.intro (α := List (Str × V))
    | apply Exists.intro (α := List _)
    | apply Exists.intro (α := Str)
    | apply Exists.intro (α := HO)
    | apply Exists.intro (α := Sp)
    | apply Exists.intro (α := VK)))
set_option hygiene false in
local macro_rules
  | `(tactic| kba_ints) => `(tactic| first
    | assumption
    | (apply frUp; (first | assumption | (apply Ne.symm; assumption)); kba_ints)
    | (apply noneOf; assumption; intro oF eF; apply Exists.intro; kp_flats)
    | (apply frUp; (next => kbo_bools); kba_ints))
set_option hygiene false in
local macro_rules
  | `(tactic| kxs_still) => `(tactic| first
    | assumption
    | exact kp_refl _ _
    | (apply kp_newF; assumption; kxs_still)
    | (apply kp_new; assumption; kxs_still)
    | (apply kp_up; (next => o_fieldsN); kxs_still)
    | (apply kp_new; (next => kba_ints); kxs_still)
    | (apply kp_sameR; assumption; kxs_still)
    | (apply kp_transR; assumption; kxs_still)
    | (apply kp_freshR; assumption; (next => kaf_suf); kxs_still))
set_option hygiene false in
local macro_rules
  | `(tactic| kaf_suf) => `(tactic| first
    | assumption
    | exact subNil
    | (apply subCons; (first | (apply Or.inl; o_fieldsN) | (apply Or.inr; kba_ints)); kaf_suf)
    | (apply subApp; (next => kaf_suf); kaf_suf))
set_option hygiene false in
local macro_rules
  | `(tactic| o_fieldsN) => `(tactic| first
    | assumption
    | exact memA
    | (apply memB; o_fieldsN)
    | (apply memL; o_fieldsN)
    | (apply memR; o_fieldsN))
set_option hygiene false in
local macro_rules
  | `(tactic| kd_subs) => `(tactic| first
    | assumption
    | exact Same.refl _
    | (apply same_putF; assumption; kd_subs)
    | (apply same_putG; assumption; kd_subs)
    | (apply same_putF; (next => kba_ints); kd_subs)
    | (apply same_transR; assumption; kd_subs))

/-! ### a collection of blocks, its callables described by what they do -/
inductive Ent where
  | build (ns : List Nat) | ask (ns : List Nat) | join (m k : Nat)
inductive Ev where
  | build (ns : List Nat) (xs : List V) (v : V) | ask (ns : List Nat) (xs : List V) (blk qn v : V) | join (m k : Nat) (a b v : V)
def Ev.ent : Ev → Ent
  | .build ns _ _ => .build ns
  | .ask ns _ _ _ _ => .ask ns
  | .join m k _ _ _ => .join m k
/-- an entry of the log, as a value, in a row of the mark mk -/
def EntAt (mk : List V) (H : Hp) : V → Ent → Prop
  | v, .build ns => ∃ t tn, v = .ref t ∧ H t = some (.tup (.str "build" :: (mk ++ [.ref tn]))) ∧ H tn = some (.tup (ns.map nV))
  | v, .ask ns => ∃ t tn, v = .ref t ∧ H t = some (.tup (.str "ask" :: (mk ++ [.ref tn]))) ∧ H tn = some (.tup (ns.map nV))
  | v, .join m k => ∃ t, v = .ref t ∧ H t = some (.tup (.str "join" :: (mk ++ [.int (m : Nat), .int (k : Nat)])))
def NTup (H : Hp) (cs : List Addr) : Prop := ∀ a ∈ cs, ∃ o, H a = some o ∧ ∀ xs, o ≠ .tup xs
theorem ntup_not {H : Hp} {cs : List Addr} {t : Addr} {xs : List V} (n : NTup H cs) (h : H t = some (.tup xs)) : t ∉ cs := fun m => by
  obtain ⟨o, e, k⟩ := n t m
  rw [h] at e
  exact k xs (Option.some.inj e).symm
theorem kp_tup {cs : List Addr} {H H1 : Hp} (k : Kp cs H H1) (n : NTup H cs) {t : Addr} {xs : List V} (h : H t = some (.tup xs)) : H1 t = some (.tup xs) := k.at_ _ _ h (ntup_not n h)
theorem EntAt.kp {mk : List V} {cs : List Addr} {H H1 : Hp} (k : Kp cs H H1) (n : NTup H cs) : ∀ {v : V} {e : Ent}, EntAt mk H v e → EntAt mk H1 v e
  | _, .build _, ⟨t, tn, e, h1, h2⟩ => ⟨t, tn, e, kp_tup k n h1, kp_tup k n h2⟩
  | _, .ask _, ⟨t, tn, e, h1, h2⟩ => ⟨t, tn, e, kp_tup k n h1, kp_tup k n h2⟩
  | _, .join _ _, ⟨t, e, h1⟩ => ⟨t, e, kp_tup k n h1⟩
theorem PartAt.kp {cs : List Addr} {H H1 : Hp} (k : Kp cs H H1) (n : NTup H cs) {x : Part} (h : PartAt H x) : PartAt H1 x := ⟨kp_tup k n h.t, kp_tup k n h.n⟩
theorem ntup_kp {cs ds : List Addr} {H H1 : Hp} (k : Kp cs H H1) (d : ∀ a ∈ ds, a ∉ cs) (n : NTup H ds) : NTup H1 ds := fun a m => by
  obtain ⟨o, e, t⟩ := n a m
  exact ⟨o, k.at_ _ _ e (d a m), t⟩
theorem ntup_nil {H : Hp} : NTup H [] := fun _ m => nomatch m
theorem ntup_cons {H : Hp} {a : Addr} {o : HO} {l : List Addr} (e : H a = some o) (k : ∀ xs, o ≠ .tup xs) (t : NTup H l) : NTup H (a :: l) := fun x m => (List.mem_cons.mp m).elim (fun z => by rw [z]; exact ⟨o, e, k⟩) (t x)
theorem ntup_app {H : Hp} {l m : List Addr} (a : NTup H l) (b : NTup H m) : NTup H (l ++ m) := fun x h => (List.mem_append.mp h).elim (a x) (b x)
inductive LogAt (mk : List V) (H : Hp) : List V → List Ent → Prop where
  | nil : LogAt mk H [] []
  | cons {v : V} {e : Ent} {vs : List V} {es : List Ent} (h : EntAt mk H v e) (t : LogAt mk H vs es) : LogAt mk H (v :: vs) (e :: es)
theorem LogAt.kp {mk : List V} {cs : List Addr} {H H1 : Hp} (k : Kp cs H H1) (n : NTup H cs) : ∀ {vs : List V} {es : List Ent}, LogAt mk H vs es → LogAt mk H1 vs es
  | _, _, .nil => .nil
  | _, _, .cons h t => .cons (h.kp k n) (t.kp k n)
theorem LogAt.add {mk : List V} {H : Hp} {v : V} {e : Ent} : ∀ {vs : List V} {es : List Ent}, LogAt mk H vs es → EntAt mk H v e → LogAt mk H (vs ++ [v]) (es ++ [e])
  | _, _, .nil, h => .cons h .nil
  | _, _, .cons h t, q => .cons h (t.add q)
theorem LogAt.len {mk : List V} {H : Hp} : ∀ {vs : List V} {es : List Ent}, LogAt mk H vs es → vs.length = es.length
  | _, _, .nil => rfl
  | _, _, .cons _ t => congrArg Nat.succ t.len
/-- all of them are tracked -/
def Trk (H : Hp) (cs : List Addr) : Prop := ∀ a ∈ cs, ∃ o, H a = some o
theorem trk_fr {H : Hp} {cs : List Addr} {a : Addr} (t : Trk H cs) (f : Fr H a) : a ∉ cs := fun m => by
  obtain ⟨o, e⟩ := t a m
  rw [f.h] at e
  cases e
/-- what the callables of a collection do: own, what is the collection's own; mv, what else changes -/
structure US (P : Program) (w : World) (K : PySem.W.Frag) (mg : Str → Option Value) (base : Heap) (n : Nat) (own mv : List Addr) (fb fa fj : V) (UR : List Ev → Hp → Prop) (Mem : V → Hp → Prop) (Blk : List V → V → Hp → Prop) (Qst : V → Hp → Prop) (Ans : V → List V → V → Hp → Prop) : Prop where
  uk : ∀ {u H H'}, UR u H → Kp own H H' → UR u H'
  mk' : ∀ {x H H'}, Mem x H → Kp (own ++ mv) H H' → Mem x H'
  bk : ∀ {xs v H H'}, Blk xs v H → Kp (own ++ mv) H H' → Blk xs v H'
  qk : ∀ {q H H'}, Qst q H → Kp (own ++ mv) H H' → Qst q H'
  ak : ∀ {q xs v H H'}, Ans q xs v H → Kp (own ++ mv) H H' → Ans q xs v H'
  hb : ∀ {u H sl xs ns}, UR u H → u.length < 100000 → Trk H (own ++ mv) → xs ≠ [] → xs.length ≤ 1000 → (∀ x ∈ xs, Mem x H) → H sl = some (.lst xs) → sl ∉ own ++ mv →
    Act P w K mg base n fb [.ref sl] H (fun v H' => Kp (sl :: mv) H H' ∧ NTup H' mv ∧ Blk xs v H' ∧ UR (u ++ [.build ns xs v]) H')
  ha : ∀ {u H xs blk qn ns}, UR u H → u.length < 100000 → Trk H (own ++ mv) → Qst qn H → Blk xs blk H →
    Act P w K mg base n fa [blk, qn] H (fun v H' => Kp mv H H' ∧ NTup H' mv ∧ Ans qn xs v H' ∧ UR (u ++ [.ask ns xs blk qn v]) H')
  hj : ∀ {u H xs ys a b qn m k}, UR u H → u.length < 100000 → Trk H (own ++ mv) → Qst qn H → Ans qn xs a H → Ans qn ys b H → xs ≠ [] → ys ≠ [] → xs.length = m → ys.length = k → m + k ≤ 1000 →
    Act P w K mg base n fj [a, b] H (fun v H' => Kp mv H H' ∧ NTup H' mv ∧ Ans qn (xs ++ ys) v H' ∧ UR (u ++ [.join m k a b v]) H')
/-- the collection at b: its members, its log -/
structure Coll (CB CC CU CA : Addr) (b c l : Addr) (mv : List Addr) (fb fa fj z : V) (Mem : V → Hp → Prop) (Blk : List V → V → Hp → Prop) (ms : List V) (es : List Ent) (H : Hp) : Prop where
  at_ : ∃ (dx cdx bu bdx k kdx h p : Addr) (ps : List Part) (vs : List V), H b = some (BlO CB dx c bu k h p) ∧ H c = some (CO CC cdx l false) ∧ H l = some (.lst vs) ∧ LogAt [] H vs es ∧ H bu = some (BuO CU bdx c fb) ∧ H k = some (AO CA kdx c fa fj z) ∧
    H h = some (.lst ms) ∧ H p = some (.lst (tps ps)) ∧ (∀ x ∈ ps, PartAt H x ∧ Blk (pick ms x.ns) x.blk H) ∧ ps.map Part.ns = bns ms.length ∧ bu ∉ mv ∧ k ∉ mv ∧ h ∉ mv ∧ p ∉ mv ∧ h ≠ l ∧ p ≠ l ∧ bu ≠ b ∧ bu ≠ c ∧ k ≠ b ∧ k ≠ c
  mem : ∀ x ∈ ms, Mem x H
  nt : NTup H ([b, c, l] ++ mv)
  own : b ∉ mv ∧ c ∉ mv ∧ l ∉ mv ∧ b ≠ c
theorem pick_app (ms : List V) (a b : List Nat) : pick ms (a ++ b) = pick ms a ++ pick ms b := List.map_append ..
theorem pick_more {ms : List V} {m : V} {ns : List Nat} (h : ∀ i ∈ ns, i < ms.length) : pick (ms ++ [m]) ns = pick ms ns := by
  unfold pick
  refine List.map_congr_left fun i hi => ?_
  rw [List.getD_eq_getElem?_getD, List.getD_eq_getElem?_getD, List.getElem?_append_left (h i hi)]
theorem pick_all (ms : List V) : pick ms (List.range' 0 ms.length) = ms := by
  unfold pick
  refine List.ext_getElem? fun i => ?_
  by_cases h : i < ms.length
  · rw [List.getElem?_map, List.getElem?_range' h]
    show some (ms.getD (0 + 1 * i) .non) = _
    rw [Nat.one_mul, Nat.zero_add, List.getD_eq_getElem?_getD, List.getElem?_eq_getElem h]
    rfl
  · rw [List.getElem?_eq_none (by rw [List.length_map, List.length_range']; exact Nat.le_of_not_lt h), List.getElem?_eq_none (Nat.le_of_not_lt h)]
theorem pick_mem {ms : List V} {ns : List Nat} (h : ∀ i ∈ ns, i < ms.length) {x : V} (hx : x ∈ pick ms ns) : x ∈ ms := by
  obtain ⟨i, hi, rfl⟩ := List.mem_map.mp hx
  exact List.mem_of_getElem? (pick_at (h i hi))

end Ob

set_option Elab.async false
set_option linter.all false
set_option maxRecDepth 100000
set_option maxHeartbeats 1000000
namespace Ob
open PySem PySem.Spec PyProof.Rows L2
open LamX (Tabs TabB TabS ExtN)

set_option hygiene false in
local macro_rules
  | `(tactic| kp_flats) => `(tactic| first
    | assumption
    | exact upd_same
    | (apply atNew; assumption; kp_flats)
    | (apply atNe; (next => kbo_bools); kp_flats)
    | (apply atSame; assumption; kp_flats)
    | (apply atKp; assumption; (next => kaf_pre); kp_flats))
set_option hygiene false in
local macro_rules
  | `(tactic| kaf_pre) => `(tactic| first
    | assumption
    | exact not_nil
    | (apply not_cons; (next => kbo_bools); kaf_pre)
    | (apply not_app; (next => kaf_pre); kaf_pre))
set_option hygiene false in
local macro_rules
  | `(tactic| kbo_bools) => `(tactic| first
    | assumption
    | (apply Ne.symm; assumption)
    | (apply neN; assumption; kp_flats)
    | (apply neN'; assumption; kp_flats))
set_option hygiene false in
local macro_rules
  | `(tactic| o_reads) => `(tactic| first
    | with_reducible rfl
    | assumption
    | rfl
    | kp_flats
    | (show SqL _ _ _ _; first | assumption | (apply sqlOf; kp_flats) | (apply sqlSame; assumption; o_reads))
    | (show SqT _ _ _ _; first | assumption | (apply sqtOf; kp_flats) | (apply sqtAll; assumption) | (apply sqtSame; assumption; o_reads))
    | (show Cls _ _; first | exact T.cl_Calls | exact T.cl_Asker | exact T.cl_Builder | exact T.cl_Blocks)
    | (show NoAttr _ _ _; first | exact T.n_Calls_entries | exact T.n_Calls_running | exact T.n_Asker_calls | exact T.n_Asker_ask_call | exact T.n_Asker_join_call | exact T.n_Asker_zero | exact T.n_Builder_calls | exact T.n_Builder_build_call | exact T.n_Blocks_calls | exact T.n_Blocks_builder | exact T.n_Blocks_asker | exact T.n_Blocks_held | exact T.n_Blocks_parts)
    | (apply Or.inl; o_reads)
    | (apply Or.inr; o_reads)
    | (apply And.intro; (next => o_reads); o_reads)
    | (apply Exists.intro; o_reads)
    | exact Nat.le_of_ble_eq_true rfl
    | exact Nat.succ_ne_zero _
    | (show Fr _ _; kba_ints)
    | (show Same _ _; kd_subs)
    | (show Kp _ _ _; kxs_still)
    | (show (_ : Nat) ≤ _; simp only [List.length_append, List.length_map, List.length_cons, List.length_nil, List.length_take, List.length_drop, List.length_replicate, List.length_range, sizeLine_eq]; omega)
    | (show _ = none; apply Fr.h; kba_ints)
    | (show Bag _ _; first | assumption | (apply bag_putF; assumption; o_reads) | (apply bag_neF; (next => kbo_bools); o_reads) | (apply bag_kpR; assumption; (next => kaf_pre); o_reads))
    | omega
    | decide)
local macro_rules
  | `(tactic| o_readsAll) => `(tactic| repeat (first
    | (refine fun (pNew : Addr) (nNew : _ = none) => ?_; replace nNew := Fr.mk nNew)
    | (refine fun (xNew dNew : Addr) (nNew : _ = none) (mNew : _ = none) (eNew : dNew ≠ xNew) => ?_; replace nNew := Fr.mk nNew; replace mNew := Fr.mk mNew)
    | (apply And.intro; next => o_reads)
    | apply Exists.intro (α := V)
    | apply Exists.intro (α := Addr)
    | apply Exists.intro (α := Int)
    | apply Exists.intro (α := Bool)
    | apply Exists.intro (α := List V)
    | apply Exists.intro (α := List Nat)
    | apply Exists.intro (α := List (Str × V))
    | apply Exists.intro (α := List _)
    | apply Exists.intro (α := Str)
    | apply Exists.intro (α := HO)
    | apply Exists.intro (α := Sp)
    | apply Exists.intro (α := VK)))
set_option hygiene false in
local macro_rules
  | `(tactic| kba_ints) => `(tactic| first
    | assumption
    | (apply frUp; (first | assumption | (apply Ne.symm; assumption)); kba_ints)
    | (apply noneOf; assumption; intro oF eF; apply Exists.intro; kp_flats)
    | (apply frUp; (next => kbo_bools); kba_ints))
set_option hygiene false in
local macro_rules
  | `(tactic| kxs_still) => `(tactic| first
    | assumption
    | exact kp_refl _ _
    | (apply kp_newF; assumption; kxs_still)
    | (apply kp_new; assumption; kxs_still)
    | (apply kp_up; (next => o_fieldsN); kxs_still)
    | (apply kp_new; (next => kba_ints); kxs_still)
    | (apply kp_sameR; assumption; kxs_still)
    | (apply kp_transR; assumption; kxs_still)
    | (apply kp_freshR; assumption; (next => kaf_suf); kxs_still))
set_option hygiene false in
local macro_rules
  | `(tactic| kaf_suf) => `(tactic| first
    | assumption
    | exact subNil
    | (apply subCons; (first | (apply Or.inl; o_fieldsN) | (apply Or.inr; kba_ints)); kaf_suf)
    | (apply subApp; (next => kaf_suf); kaf_suf))
set_option hygiene false in
local macro_rules
  | `(tactic| o_fieldsN) => `(tactic| first
    | assumption
    | exact memA
    | (apply memB; o_fieldsN)
    | (apply memL; o_fieldsN)
    | (apply memR; o_fieldsN))
set_option hygiene false in
local macro_rules
  | `(tactic| kd_subs) => `(tactic| first
    | assumption
    | exact Same.refl _
    | (apply same_putF; assumption; kd_subs)
    | (apply same_putG; assumption; kd_subs)
    | (apply same_putF; (next => kba_ints); kd_subs)
    | (apply same_transR; assumption; kd_subs))

section
variable {P : Program} {w : World} {K : PySem.W.Frag} {mg : Str → Option Value} {base : Heap} {n : Nat}
theorem trk_kp {cs : List Addr} {c : Addr} {o : HO} {H H1 : Hp} (t : Trk H cs) (k : Kp [c] H H1) (h : H1 c = some o) : Trk H1 cs := fun a m => by
  by_cases e : a = c
  · exact ⟨o, by rw [e]; exact h⟩
  · obtain ⟨u, hu⟩ := t a m
    exact ⟨u, k.at_ _ _ hu (not_cons e not_nil)⟩
theorem last_mem {n i : Nat} (h : i ∈ List.range' (n + 1 - low (n + 1)) (low (n + 1))) : i < n + 1 := by
  have := List.mem_range'_1.mp h
  have := low_le (n + 1) (Nat.succ_ne_zero _)
  omega
def lastNs (n : Nat) : List Nat := List.range' (n + 1 - low (n + 1)) (low (n + 1))
def spAdd (P : Program) (w : World) (K : PySem.W.Frag) (mg : Str → Option Value) (base : Heap) (CB CC CU CA : Addr) (n : Nat) : Sp := fun vs H Q _ => ∃ (b c l : Addr) (mv : List Addr) (fb fa fj z : V) (UR : List Ev → Hp → Prop) (Mem : V → Hp → Prop) (Blk : List V → V → Hp → Prop) (Qst : V → Hp → Prop) (Ans : V → List V → V → Hp → Prop)
  (ms : List V) (es : List Ent) (u : List Ev) (m : V), vs = [.ref b, m] ∧ US P w K mg base n [b, c, l] mv fb fa fj UR Mem Blk Qst Ans ∧ Coll CB CC CU CA b c l mv fb fa fj z Mem Blk ms es H ∧ UR u H ∧ Mem m H ∧ u.length < 90000 ∧ es.length < 90000 ∧ ms.length < 900 ∧ NTup H mv ∧
  ∀ blk H', Kp ([b, c, l] ++ mv) H H' → Coll CB CC CU CA b c l mv fb fa fj z Mem Blk (ms ++ [m]) (es ++ [.build (lastNs ms.length)]) H' → UR (u ++ [.build (lastNs ms.length) (pick (ms ++ [m]) (lastNs ms.length)) blk]) H' → Q (.int ms.length) H'
theorem ok_add (T : Txt K mg) : FnOk P w K mg base CX0 (n + 5) T.f_Blocks_add T.d_Blocks_add ["self", "member"] (spAdd P w K mg base T.C_Blocks T.C_Calls T.C_Builder T.C_Asker n) := by
  have G_Calls_check := ok_chk (P := P) (w := w) (base := base) T
  have G_Builder_grown_row := ok_grow (P := P) (w := w) (base := base) (n := n) T
  refine T.F_Blocks_add.ok sc_Blocks_add (fun vs H Q E h => ?_) (fun cdv A outer s H vs Q E hr h => ?_)
  · obtain ⟨b, c, l, mv, fb, fa, fj, z, UR, Mem, Blk, Qst, Ans, ms, es, u, m, rfl, _⟩ := h
    rfl
  · obtain ⟨b, c, l, mv, fb, fa, fj, z, UR, Mem, Blk, Qst, Ans, ms, es, u, m, rfl, U, ⟨⟨dx, cdx, bu, bdx, k, kdx, hh, p, ps, ls, hb, hc, hl, hlog, hbu, hk, hh', hp, hps, hns, d1, d2, d3, d4, d5, d6, d7, d8, d9, d10⟩, hm, hnt, ⟨o1, o2, o3, o4⟩⟩, hu, hmm, lu, le, lm, _, q⟩ := h
    refine ⟨_, (pss_cons (ps_expr (pe_meth0 (pe_fld (pv 0) rfl) T.cl_Calls ⟨T.m_Calls_check, T.t_Calls_check, T.k_Calls_check⟩ G_Calls_check (hr.mono (by omega)) T.b_Calls_check .nil pass0))
      (pss_cons (ps_set (i := 2) sc_Blocks_add.nd rfl (.inl rfl) (pe_callB call_len_seq (by rfl) T.z_len (by decide +kernel) (pa_cons (pe_fld (pv 0) rfl) pa_nil)))
      (pss_cons (ps_set (i := 3) sc_Blocks_add.nd rfl (.inl rfl) (pe_op op_cat (pe_fld (pv 0) rfl) (pe_lst (pa_cons (pv 1) pa_nil))))
      (pss_cons (ps_fld (pv 0) (pe_meth (pe_fld (pv 0) rfl) T.cl_Builder ⟨T.m_Builder_grown_row, T.t_Builder_grown_row, T.k_Builder_grown_row⟩ G_Builder_grown_row (hr.mono (by omega)) T.bd_Builder_grown_row T.vd_Builder_grown_row pass0 (pa_cons (pe_fld (pv 0) rfl) (pa_cons (pv 2) (pa_cons (pv 2) (pa_cons (pv 3) pa_nil))))) rfl)
      (pss_cons (ps_fld (pv 0) (pv 3) rfl)
      (pss_one (ps_ret (pv 2)))))))), ?_⟩
    obtain ⟨b1, b2, b3⟩ := bns_step ms.length
    have hS := T.S_Builder_grown_row
    have lp : ps.length = (bns ms.length).length := by rw [← hns, List.length_map]
    have lb := bl_len ms.length
    have b1' : expo (ms.length + 1) ≤ ps.length := by rw [lp]; exact b1
    rw [bns_len] at lp
    have hnum : nums ps = List.range' 0 ms.length := by
      rw [← bns_flat, ← hns]
      rfl
    have hnd : nums (ps.drop (ps.length - expo (ms.length + 1))) ++ [ms.length] = lastNs ms.length := by
      unfold lastNs
      rw [← b2, ← hns, List.length_map, ← List.map_drop]
      rfl
    have lns : ∀ i ∈ lastNs ms.length, i < (ms ++ [m]).length := fun i hi => by
      have := last_mem hi
      rw [List.length_append]
      exact this
    have ll : (lastNs ms.length).length = low (ms.length + 1) := List.length_range' ..
    have lo := low_le (ms.length + 1) (Nat.succ_ne_zero _)
    have lz := Nat.pos_of_ne_zero (low_ne (ms.length + 1) (Nat.succ_ne_zero _))
    have nbl : b ≠ l := neO hb hl (fun z => nomatch z)
    have ncl : c ≠ l := neO hc hl (fun z => nomatch z)
    o_readsAll
    rename_i m1 n1 h2 n2
    refine ⟨fun x hx => (hps x hx).1.same (by kd_subs), by kp_flats, hS, Nat.zero_le _, by omega, by rw [hnum, List.length_range']; omega, by omega, fun i hi => lns i (by rw [← hnd]; exact hi), ?_⟩
    intro tn te sl g H1 ntn nte nsl ng nsg k1 c1 e1 e2 e3 e4
    rw [hnd] at e1 e3
    have hsl : h2 ≠ sl := neN nsl upd_same
    have fsl : Fr H sl := by kba_ints
    have fg : Fr H g := by kba_ints
    have k01 : True ∧ Kp [c] H H1 := ⟨trivial, by kxs_still⟩
    have trk : Trk H ([b, c, l] ++ mv) := fun a m => (hnt a m).imp fun _ z => z.1
    have nsl' := trk_fr trk fsl
    have nmv : ∀ a, Fr H a → a ∉ mv := fun a fa m => trk_fr trk fa (memR m)
    have kall : True ∧ Kp ([b, c, l] ++ mv) H H1 := ⟨trivial, by kxs_still⟩
    refine (U.hb (ns := lastNs ms.length) (U.uk hu (by kxs_still)) (by omega) (trk_kp trk k01.2 c1) ?_ ?_ ?_ e3 nsl').imp fun v H2 ⟨z1, zn, z2, z3⟩ => ⟨?_, ?_, ls, ?_, ?_, fun qq p2 H3 k3 nq np2 c3 l3 q3 p3 => ?_⟩
    · intro z
      have := congrArg List.length z
      unfold pick at this
      rw [List.length_map, ll] at this
      exact Nat.lt_irrefl 0 (by rw [this] at lz; exact lz)
    · unfold pick
      rw [List.length_map, ll]
      omega
    · intro x hx
      rcases List.mem_append.mp (pick_mem lns hx) with hx | hx
      · exact U.mk' (hm x hx) kall.2
      · rw [List.mem_singleton.mp hx]
        exact U.mk' hmm kall.2
    · exact z1.at_ _ _ c1 (not_cons (by kbo_bools) o2)
    · exact z1.at_ _ _ e4 (not_cons nsg.symm (nmv g fg))
    · exact z1.at_ _ _ (by kp_flats) (not_cons (by kbo_bools) o3)
    · rw [hlog.len, sizeLine_eq]
      omega
    · o_readsAll
      have kf : True ∧ Kp ([b, c, l] ++ mv) H H3 := ⟨trivial, kp_freshR k3 (by kaf_suf) (kp_freshR z1 (subCons (.inr fsl) fun x hx => .inl (memR hx)) kall.2)⟩
      have fte : Fr H te := by kba_ints
      have ftn : Fr H tn := by kba_ints
      have fh2 : Fr H h2 := by kba_ints
      have tes : te ≠ sl := neO e2 e3 (fun z => nomatch z)
      have tns : tn ≠ sl := neO e1 e3 (fun z => nomatch z)
      have nte' := nmv te fte
      have ntn' := nmv tn ftn
      have nh' := nmv h2 fh2
      have np' := trk_fr (fun a m => (zn a m).imp fun _ z => z.1) np2
      have dul : bu ≠ l := neO hbu hl (fun z => nomatch z)
      have dkl : k ≠ l := neO hk hl (fun z => nomatch z)
      have kF : ∀ o1 o2, True ∧ Kp ([b, c, l] ++ mv) H (upd (upd H3 b o1) b o2) := fun _ _ => ⟨trivial, kp_up (by o_fieldsN) (kp_up (by o_fieldsN) kf.2)⟩
      have kG : ∀ o1 o2, True ∧ Kp [b, c, l] H2 (upd (upd H3 b o1) b o2) := fun _ _ => ⟨trivial, kp_up (by o_fieldsN) (kp_up (by o_fieldsN) (kp_more k3 fun _ m => memB m))⟩
      refine q v _ (kF _ _).2 ⟨⟨dx, cdx, bu, bdx, k, kdx, h2, p2, ps.take (ps.length - expo (ms.length + 1)) ++ [⟨qq, tn, lastNs ms.length, v⟩], ls ++ [.ref te], by kp_flats, by kp_flats, by kp_flats, ?_, by kp_flats, by kp_flats, by kp_flats, ?_, ?_, ?_, d1, d2, nh', np', by kbo_bools, by kbo_bools, d7, d8, d9, d10⟩, ?_, ?_, o1, o2, o3, o4⟩ (U.uk z3 (kG _ _).2)
      · exact (hlog.kp (kF _ _).2 hnt).add ⟨te, tn, rfl, by kp_flats, by kp_flats⟩
      · rw [show tps (ps.take (ps.length - expo (ms.length + 1)) ++ [⟨qq, tn, lastNs ms.length, v⟩]) = tps (ps.take (ps.length - expo (ms.length + 1))) ++ [.ref qq] from List.map_append ..]
        kp_flats
      · intro x hx
        rcases List.mem_append.mp hx with hx | hx
        · obtain ⟨y1, y2⟩ := hps x (List.mem_of_mem_take hx)
          refine ⟨y1.kp (kF _ _).2 hnt, ?_⟩
          rw [pick_more]
          · exact U.bk y2 (kF _ _).2
          · have : x.ns ∈ bns ms.length := by rw [← hns]; exact List.mem_map_of_mem (List.mem_of_mem_take hx)
            exact (bns_mem this).1
        · rw [List.mem_singleton.mp hx]
          exact ⟨⟨by kp_flats, by kp_flats⟩, U.bk z2 (kp_more (kG _ _).2 fun _ m => memL m)⟩
      · rw [List.map_append, List.map_take, hns, List.length_append]
        show _ = bns (ms.length + 1)
        rw [b3, bns_len, lp]
        rfl
      · intro x hx
        rcases List.mem_append.mp hx with hx | hx
        · exact U.mk' (hm x hx) (kF _ _).2
        · rw [List.mem_singleton.mp hx]
          exact U.mk' hmm (kF _ _).2
      · refine ntup_app (ntup_cons (o := BlO T.C_Blocks dx c bu k h2 p2) (by kp_flats) (fun _ z => nomatch z) (ntup_cons (o := CO T.C_Calls cdx l false) (by kp_flats) (fun _ z => nomatch z) (ntup_cons (o := .lst (ls ++ [.ref te])) (by kp_flats) (fun _ z => nomatch z) ntup_nil))) ?_
        refine ntup_kp (kG _ _).2 (fun a ha m => ?_) zn
        rcases List.mem_cons.mp m with rfl | m
        · exact o1 ha
        rcases List.mem_cons.mp m with rfl | m
        · exact o2 ha
        rw [List.mem_singleton.mp m] at ha
        exact o3 ha
end
end Ob

set_option Elab.async false
set_option linter.all false
set_option maxRecDepth 100000
set_option maxHeartbeats 1000000
namespace Ob
open PySem PySem.Spec PyProof.Rows L2
open LamX (Tabs TabB TabS ExtN)

set_option hygiene false in
local macro_rules
  | `(tactic| kp_flats) => `(tactic| first
    | assumption
    | exact upd_same
    | (apply atNew; assumption; kp_flats)
    | (apply atNe; (next => kbo_bools); kp_flats)
    | (apply atSame; assumption; kp_flats)
    | (apply atKp; assumption; (next => kaf_pre); kp_flats))
set_option hygiene false in
local macro_rules
  | `(tactic| kaf_pre) => `(tactic| first
    | assumption
    | exact not_nil
    | (apply not_cons; (next => kbo_bools); kaf_pre)
    | (apply not_app; (next => kaf_pre); kaf_pre))
set_option hygiene false in
local macro_rules
  | `(tactic| kbo_bools) => `(tactic| first
    | assumption
    | (apply Ne.symm; assumption)
    | (apply neN; assumption; kp_flats)
    | (apply neN'; assumption; kp_flats))
set_option hygiene false in
local macro_rules
  | `(tactic| o_reads) => `(tactic| first
    | with_reducible rfl
    | assumption
    | rfl
    | kp_flats
    | (show SqL _ _ _ _; first | assumption | (apply sqlOf; kp_flats) | (apply sqlSame; assumption; o_reads))
    | (show SqT _ _ _ _; first | assumption | (apply sqtOf; kp_flats) | (apply sqtAll; assumption) | (apply sqtSame; assumption; o_reads))
    | (show Cls _ _; first | exact T.cl_Calls | exact T.cl_Asker | exact T.cl_Builder | exact T.cl_Blocks)
    | (show NoAttr _ _ _; first | exact T.n_Calls_entries | exact T.n_Calls_running | exact T.n_Asker_calls | exact T.n_Asker_ask_call | exact T.n_Asker_join_call | exact T.n_Asker_zero | exact T.n_Builder_calls | exact T.n_Builder_build_call | exact T.n_Blocks_calls | exact T.n_Blocks_builder | exact T.n_Blocks_asker | exact T.n_Blocks_held | exact T.n_Blocks_parts)
    | (apply Or.inl; o_reads)
    | (apply Or.inr; o_reads)
    | (apply And.intro; (next => o_reads); o_reads)
    | (apply Exists.intro; o_reads)
    | exact Nat.le_of_ble_eq_true rfl
    | exact Nat.succ_ne_zero _
    | (show Fr _ _; kba_ints)
    | (show Same _ _; kd_subs)
    | (show Kp _ _ _; kxs_still)
    | (show (_ : Nat) ≤ _; simp only [List.length_append, List.length_map, List.length_cons, List.length_nil, List.length_take, List.length_drop, List.length_replicate, List.length_range, sizeLine_eq]; omega)
    | (show _ = none; apply Fr.h; kba_ints)
    | (show Bag _ _; first | assumption | (apply bag_putF; assumption; o_reads) | (apply bag_neF; (next => kbo_bools); o_reads) | (apply bag_kpR; assumption; (next => kaf_pre); o_reads))
    | omega
    | decide)
local macro_rules
  | `(tactic| o_readsAll) => `(tactic| repeat (first
    | (refine fun (pNew : Addr) (nNew : _ = none) => ?_; replace nNew := Fr.mk nNew)
    | (refine fun (xNew dNew : Addr) (nNew : _ = none) (mNew : _ = none) (eNew : dNew ≠ xNew) => ?_; replace nNew := Fr.mk nNew; replace mNew := Fr.mk mNew)
    | (apply And.intro; next => o_reads)
    | apply Exists.intro (α := V)
    | apply Exists.intro (α := Addr)
    | apply Exists.intro (α := Int)
    | apply Exists.intro (α := Bool)
    | apply Exists.intro (α := List V)
    | apply Exists.intro (α := List Nat)
    | apply Exists.intro (α := List (Str × V))
    | apply Exists.intro (α := List _)
    | apply Exists.intro (α := Str)
    | apply Exists.intro (α := HO)
    | apply Exists.intro (α := Sp)
    | apply Exists.intro (α := VK)))
set_option hygiene false in
local macro_rules
  | `(tactic| kba_ints) => `(tactic| first
    | assumption
    | (apply frUp; (first | assumption | (apply Ne.symm; assumption)); kba_ints)
    | (apply noneOf; assumption; intro oF eF; apply Exists.intro; kp_flats)
    | (apply frUp; (next => kbo_bools); kba_ints))
set_option hygiene false in
local macro_rules
  | `(tactic| kxs_still) => `(tactic| first
    | assumption
    | exact kp_refl _ _
    | (apply kp_newF; assumption; kxs_still)
    | (apply kp_new; assumption; kxs_still)
    | (apply kp_up; (next => o_fieldsN); kxs_still)
    | (apply kp_new; (next => kba_ints); kxs_still)
    | (apply kp_sameR; assumption; kxs_still)
    | (apply kp_transR; assumption; kxs_still)
    | (apply kp_freshR; assumption; (next => kaf_suf); kxs_still))
set_option hygiene false in
local macro_rules
  | `(tactic| kaf_suf) => `(tactic| first
    | assumption
    | exact subNil
    | (apply subCons; (first | (apply Or.inl; o_fieldsN) | (apply Or.inr; kba_ints)); kaf_suf)
    | (apply subApp; (next => kaf_suf); kaf_suf))
set_option hygiene false in
local macro_rules
  | `(tactic| o_fieldsN) => `(tactic| first
    | assumption
    | exact memA
    | (apply memB; o_fieldsN)
    | (apply memL; o_fieldsN)
    | (apply memR; o_fieldsN))
set_option hygiene false in
local macro_rules
  | `(tactic| kd_subs) => `(tactic| first
    | assumption
    | exact Same.refl _
    | (apply same_putF; assumption; kd_subs)
    | (apply same_putG; assumption; kd_subs)
    | (apply same_putF; (next => kba_ints); kd_subs)
    | (apply same_transR; assumption; kd_subs))

/-- the entries of a question -/
def qents : Nat → List (List Nat) → List Ent
  | _, [] => []
  | m, x :: l => .ask x :: ((if m = 0 then [] else [.join m x.length]) ++ qents (m + x.length) l)
theorem qents_add : ∀ (m : Nat) (l : List (List Nat)) (x : List Nat), qents m (l ++ [x]) = qents m l ++ (.ask x :: (if m + l.flatten.length = 0 then [] else [.join (m + l.flatten.length) x.length]))
  | m, [], x => by
    show Ent.ask x :: ((if m = 0 then [] else [Ent.join m x.length]) ++ []) = _
    rw [List.append_nil]
    rfl
  | m, y :: l, x => by
    show Ent.ask y :: (_ ++ qents (m + y.length) (l ++ [x])) = Ent.ask y :: (_ ++ qents (m + y.length) l) ++ _
    rw [qents_add (m + y.length) l x, List.flatten_cons, List.length_append, Nat.add_assoc, List.cons_append, List.append_assoc]
section
variable {P : Program} {w : World} {K : PySem.W.Frag} {mg : Str → Option Value} {base : Heap} {n : Nat}
def spQry (P : Program) (w : World) (K : PySem.W.Frag) (mg : Str → Option Value) (base : Heap) (CB CC CU CA : Addr) (n : Nat) : Sp := fun vs H Q _ => ∃ (b c l : Addr) (mv : List Addr) (fb fa fj z : V) (UR : List Ev → Hp → Prop) (Mem : V → Hp → Prop) (Blk : List V → V → Hp → Prop) (Qst : V → Hp → Prop) (Ans : V → List V → V → Hp → Prop)
  (ms : List V) (es : List Ent) (u : List Ev) (qn : V), vs = [.ref b, qn] ∧ US P w K mg base n [b, c, l] mv fb fa fj UR Mem Blk Qst Ans ∧ Coll CB CC CU CA b c l mv fb fa fj z Mem Blk ms es H ∧ UR u H ∧ Qst qn H ∧ u.length < 90000 ∧ es.length < 90000 ∧ ms.length < 900 ∧
  ∀ v evs H', Kp ([b, c, l] ++ mv) H H' → Coll CB CC CU CA b c l mv fb fa fj z Mem Blk ms (es ++ evs.map Ev.ent) H' → UR (u ++ evs) H' → evs.map Ev.ent = qents 0 (bns ms.length) → (ms = [] → v = z ∧ H' = H) → (ms ≠ [] → Ans qn ms v H') → Q v H'
theorem ok_qry (T : Txt K mg) : FnOk P w K mg base CX0 (n + 3) T.f_Blocks_query T.d_Blocks_query ["self", "question"] (spQry P w K mg base T.C_Blocks T.C_Calls T.C_Builder T.C_Asker n) := by
  have G_Calls_check := ok_chk (P := P) (w := w) (base := base) T
  have G_Asker_answer := ok_ans (P := P) (w := w) (base := base) (n := n) T
  refine T.F_Blocks_query.ok sc_Blocks_query (fun vs H Q E h => ?_) (fun cdv A outer s H vs Q E hr h => ?_)
  · obtain ⟨b, c, l, mv, fb, fa, fj, z, UR, Mem, Blk, Qst, Ans, ms, es, u, m, rfl, _⟩ := h
    rfl
  · obtain ⟨b, c, l, mv, fb, fa, fj, z, UR, Mem, Blk, Qst, Ans, ms, es, u, qn, rfl, U, ⟨⟨dx, cdx, bu, bdx, k, kdx, hh, p, ps, ls, hb, hc, hl, hlog, hbu, hk, hh', hp, hps, hns, d1, d2, d3, d4, d5, d6, d7, d8, d9, d10⟩, hm, hnt, ⟨o1, o2, o3, o4⟩⟩, hu, hqn, lu, le, lm, q⟩ := h
    refine ⟨_, (pss_cons (ps_expr (pe_meth0 (pe_fld (pv 0) rfl) T.cl_Calls ⟨T.m_Calls_check, T.t_Calls_check, T.k_Calls_check⟩ G_Calls_check (hr.mono (by omega)) T.b_Calls_check .nil pass0))
      (pss_one (ps_ret (pe_meth (pe_fld (pv 0) rfl) T.cl_Asker ⟨T.m_Asker_answer, T.t_Asker_answer, T.k_Asker_answer⟩ G_Asker_answer (hr.mono (by omega)) T.bd_Asker_answer T.vd_Asker_answer pass0 (pa_cons (pe_fld (pv 0) rfl) (pa_cons (pv 1) pa_nil)))))), ?_⟩
    have hS := T.S_Asker_answer
    have lp : ps.length = (bns ms.length).length := by rw [← hns, List.length_map]
    have lb := bl_len ms.length
    rw [bns_len] at lp
    have hnum : nums ps = List.range' 0 ms.length := by
      rw [← bns_flat, ← hns]
      rfl
    have nbl : b ≠ l := neO hb hl (fun z => nomatch z)
    have ncl : c ≠ l := neO hc hl (fun z => nomatch z)
    have nkl : k ≠ l := neO hk hl (fun z => nomatch z)
    have nhb : hh ≠ b := neO hh' hb (fun z => nomatch z)
    have nhc : hh ≠ c := neO hh' hc (fun z => nomatch z)
    have npb : p ≠ b := neO hp hb (fun z => nomatch z)
    have npc : p ≠ c := neO hp hc (fun z => nomatch z)
    o_readsAll
    refine ⟨fun i v H' => ∃ evs vs', evs.map Ev.ent = qents 0 ((bns ms.length).take i) ∧ evs.length ≤ 2 * i ∧ H' b = some (BlO T.C_Blocks dx c bu k hh p) ∧ H' c = some (CO T.C_Calls cdx l false) ∧ H' l = some (.lst vs') ∧ LogAt [] H' vs' (es ++ evs.map Ev.ent) ∧
      UR (u ++ evs) H' ∧ NTup H' mv ∧ Kp ([b, c, l] ++ mv) H H' ∧ (i = 0 → v = z ∧ H' = H) ∧ (i ≠ 0 → Ans qn (pick ms (nums (ps.take i))) v H'), rfl, hS, by decide, hk, ?_, ?_, ?_, ?_⟩
    · refine ⟨[], ls, rfl, Nat.zero_le _, hb, hc, hl, ?_, ?_, fun a ha => hnt a (memR ha), kp_refl _ _, fun _ => ⟨rfl, rfl⟩, fun n => absurd rfl n⟩
      · rw [List.map_nil, List.append_nil]
        exact hlog
      · rw [List.append_nil]
        exact hu
    · rintro i v H' _ ⟨evs, vs', j1, j2, j3, j4, j5, j6, j7, j8, j9, j10, j11⟩
      exact ⟨by kp_flats, j4, by kp_flats⟩
    · rintro i v H' x hx ⟨evs, vs', j1, j2, j3, j4, j5, j6, j7, j8, j9, j10, j11⟩
      have hxm := List.mem_of_getElem? hx
      have hi : i < ps.length := (List.getElem?_eq_some_iff.mp hx).1
      obtain ⟨x1, x2⟩ := hps x hxm
      have hxn : x.ns ∈ bns ms.length := by
        rw [← hns]
        exact List.mem_map_of_mem hxm
      obtain ⟨x3, x4⟩ := bns_mem hxn
      refine ⟨x1.kp j9 hnt, List.length_pos_iff.mpr x4, fun te H1 nte k1 c1 e1 => ?_⟩
      have hti : (bns ms.length).take i = (ps.take i).map Part.ns := by rw [← hns, List.map_take]
      have hfl : ((bns ms.length).take i).flatten = nums (ps.take i) := by
        rw [hti]
        rfl
      have hsu : (bns ms.length).take (i + 1) = (bns ms.length).take i ++ [x.ns] := by
        rw [List.take_succ, ← hns, List.getElem?_map, hx]
        rfl
      have hpos : i ≠ 0 → nums (ps.take i) ≠ [] := fun n0 z => by
        have h0 : 0 < ps.length := by omega
        have m0 : ps[0] ∈ ps.take i := List.mem_take_iff_getElem.mpr ⟨0, by omega, rfl⟩
        have m1 : ps[0].ns ∈ bns ms.length := by rw [← hns]; exact List.mem_map_of_mem (List.mem_of_mem_take m0)
        refine (bns_mem m1).2 (List.eq_nil_iff_forall_not_mem.mpr fun a ha => ?_)
        have : a ∈ nums (ps.take i) := List.mem_flatMap.mpr ⟨_, m0, ha⟩
        rw [z] at this
        cases this
      have hev : evs.length ≤ 1800 := by omega
      have hvl : vs'.length = es.length + evs.length := by rw [j6.len, List.length_append, List.length_map]
      have t1 : NTup H' ([b, c, l] ++ mv) := ntup_app (ntup_cons j3 (fun _ z => nomatch z) (ntup_cons j4 (fun _ z => nomatch z) (ntup_cons j5 (fun _ z => nomatch z) ntup_nil))) j8
      have t2 : Trk H1 ([b, c, l] ++ mv) := trk_kp (fun a m => (t1 a m).imp fun _ z => z.1) k1 c1
      have kA : True ∧ Kp ([b, c, l] ++ mv) H H1 := ⟨trivial, kp_trans j9 (kp_more k1 fun a m => by rw [List.mem_singleton.mp m]; exact memB memA)⟩
      have f1 : te ≠ b := by kbo_bools
      have f2 : te ≠ l := by kbo_bools
      have f3 : te ∉ mv := fun m => trk_fr (fun a m => (t1 a m).imp fun _ z => z.1) nte (memR m)
      refine (U.ha (u := u ++ evs) (ns := x.ns) (U.uk j7 (kp_more k1 fun a m => by rw [List.mem_singleton.mp m]; exact memB memA)) (by rw [List.length_append]; omega) t2 (U.qk hqn kA.2) (U.bk x2 kA.2)).imp fun v1 H2 ⟨z1, zn, z2, z3⟩ => ⟨z1.at_ _ _ c1 o2, vs', z1.at_ _ _ (by kp_flats) o3, by rw [hvl, sizeLine_eq]; omega, fun H3 k3 c3 l3 => ?_⟩
      have b2 : H2 b = some (BlO T.C_Blocks dx c bu k hh p) := z1.at_ _ _ (by kp_flats) o1
      have b3 : H3 b = some (BlO T.C_Blocks dx c bu k hh p) := by kp_flats
      have kB : True ∧ Kp ([b, c, l] ++ mv) H' H3 := ⟨trivial, kp_trans (kp_trans (kp_more k1 fun a m => by rw [List.mem_singleton.mp m]; exact memB memA) (kp_more z1 fun a m => memR m)) (kp_more k3 fun a m => memL (memB m))⟩
      have kC : True ∧ Kp [b, c, l] H2 H3 := ⟨trivial, kp_more k3 fun a m => memB m⟩
      have dj : ∀ a ∈ mv, a ∉ [b, c, l] := fun a ha m => by
        rcases List.mem_cons.mp m with rfl | m
        · exact o1 ha
        rcases List.mem_cons.mp m with rfl | m
        · exact o2 ha
        rw [List.mem_singleton.mp m] at ha
        exact o3 ha
      have zn3 : NTup H3 mv := ntup_kp kC.2 dj zn
      have e3 : H3 te = some (.tup (.str "ask" :: ([] ++ [.ref x.tn]))) := by kp_flats
      have en3 : EntAt [] H3 (.ref te) (.ask x.ns) := ⟨te, x.tn, rfl, e3, (x1.kp (kp_trans j9 kB.2) hnt).n⟩
      refine ⟨fun e0 => ?_, fun e0 => ⟨?_, fun t2 H4 nt2 k4 c4 e4 => ?_⟩⟩
      · subst e0
        refine ⟨evs ++ [.ask x.ns (pick ms x.ns) x.blk qn v1], vs' ++ [.ref te], ?_, ?_, b3, c3, l3, ?_, ?_, zn3, kp_trans j9 kB.2, fun z => by omega, fun _ => ?_⟩
        · rw [List.map_append, j1]
          exact (show _ = qents 0 ((bns ms.length).take (0 + 1)) by rw [hsu, qents_add]; rfl)
        · rw [List.length_append]
          show _ + 1 ≤ _
          omega
        · rw [List.map_append, ← List.append_assoc]
          exact (j6.kp kB.2 t1).add en3
        · rw [← List.append_assoc]
          exact U.uk z3 kC.2
        · rw [nums_take hx, pick_app]
          exact U.ak z2 (kp_more kC.2 fun a m => memL m)
      · exact (kp_trans j9 kB.2).at_ _ _ hk (by kaf_pre)
      · have t3 : NTup H3 ([b, c, l] ++ mv) := ntup_app (ntup_cons b3 (fun _ z => nomatch z) (ntup_cons c3 (fun _ z => nomatch z) (ntup_cons l3 (fun _ z => nomatch z) ntup_nil))) zn3
        have kD : True ∧ Kp ([b, c, l] ++ mv) H H4 := ⟨trivial, kp_trans (kp_trans j9 kB.2) (kp_more k4 fun a m => by rw [List.mem_singleton.mp m]; exact memB memA)⟩
        have kE : True ∧ Kp [b, c, l] H3 H4 := ⟨trivial, kp_more k4 fun a m => by rw [List.mem_singleton.mp m]; exact memB memA⟩
        have t4 : Trk H4 ([b, c, l] ++ mv) := trk_kp (fun a m => (t3 a m).imp fun _ z => z.1) k4 c4
        have f4 : t2 ≠ b := by kbo_bools
        have f5 : t2 ≠ l := by kbo_bools
        have f6 : t2 ∉ mv := fun m => trk_fr (fun a m => (t3 a m).imp fun _ z => z.1) nt2 (memR m)
        have mm : 0 + ((bns ms.length).take i).flatten.length = manyOf (ps.take i) := by
          rw [hfl, Nat.zero_add]
          rfl
        have mp : manyOf (ps.take i) ≠ 0 := fun z => hpos e0 (List.length_eq_zero_iff.mp z)
        have a3 : Ans qn (pick ms x.ns) v1 H4 := U.ak (U.ak z2 (kp_more kC.2 fun a m => memL m)) (kp_more kE.2 fun a m => memL m)
        have a4 : Ans qn (pick ms (nums (ps.take i))) v H4 := U.ak (j11 e0) (kp_trans kB.2 (kp_more kE.2 fun a m => memL m))
        refine (U.hj (u := u ++ evs ++ [.ask x.ns (pick ms x.ns) x.blk qn v1]) (m := manyOf (ps.take i)) (k := x.ns.length) (U.uk (U.uk z3 kC.2) kE.2) (by rw [List.length_append, List.length_append]; show _ + 1 < _; omega) t4 (U.qk hqn kD.2) a4 a3 ?_ ?_ ?_ ?_ ?_).imp fun v2 H5 ⟨y1, yn, y2, y3⟩ => ⟨y1.at_ _ _ c4 o2, vs' ++ [.ref te], y1.at_ _ _ (by kp_flats) o3, by rw [List.length_append, hvl, sizeLine_eq]; show _ + 1 < _; omega, fun H6 k6 c6 l6 => ?_⟩
        · intro z
          refine hpos e0 (List.length_eq_zero_iff.mp ?_)
          have := congrArg List.length z
          unfold pick at this
          rw [List.length_map] at this
          exact this
        · intro z
          refine x4 (List.length_eq_zero_iff.mp ?_)
          have := congrArg List.length z
          unfold pick at this
          rw [List.length_map] at this
          exact this
        · exact List.length_map ..
        · exact List.length_map ..
        · have z1 := nums_le ps (i + 1)
          rw [nums_take hx, List.length_append, hnum, List.length_range'] at z1
          show (nums (ps.take i)).length + x.ns.length ≤ 1000
          omega
        have b5 : H5 b = some (BlO T.C_Blocks dx c bu k hh p) := y1.at_ _ _ (by kp_flats) o1
        have b6 : H6 b = some (BlO T.C_Blocks dx c bu k hh p) := by kp_flats
        have kF : True ∧ Kp ([b, c, l] ++ mv) H3 H6 := ⟨trivial, kp_trans (kp_trans (kp_more kE.2 fun a m => memL m) (kp_more y1 fun a m => memR m)) (kp_more k6 fun a m => memL (memB m))⟩
        have kG : True ∧ Kp [b, c, l] H5 H6 := ⟨trivial, kp_more k6 fun a m => memB m⟩
        have e6 : H6 t2 = some (.tup (.str "join" :: ([] ++ [.int (manyOf (ps.take i) : Nat), .int (x.ns.length : Nat)]))) := by kp_flats
        refine ⟨evs ++ [.ask x.ns (pick ms x.ns) x.blk qn v1] ++ [.join (manyOf (ps.take i)) x.ns.length v v1 v2], vs' ++ [.ref te] ++ [.ref t2], ?_, ?_, b6, c6, l6, ?_, ?_, ntup_kp kG.2 dj yn, kp_trans (kp_trans j9 kB.2) kF.2, fun z => by omega, fun _ => ?_⟩
        · rw [List.map_append, List.map_append, j1, hsu, qents_add, mm, if_neg mp, List.append_assoc]
          rfl
        · rw [List.length_append, List.length_append]
          show _ + 1 + 1 ≤ _
          omega
        · rw [List.map_append, List.map_append, ← List.append_assoc, ← List.append_assoc]
          exact (((j6.kp kB.2 t1).add en3).kp kF.2 t3).add ⟨t2, rfl, e6⟩
        · rw [← List.append_assoc, ← List.append_assoc]
          exact U.uk y3 kG.2
        · rw [nums_take hx, pick_app]
          exact U.ak y2 (kp_more kG.2 fun a m => memL m)
    · rintro v H' ⟨evs, vs', j1, j2, j3, j4, j5, j6, j7, j8, j9, j10, j11⟩
      have t1 : NTup H' ([b, c, l] ++ mv) := ntup_app (ntup_cons j3 (fun _ z => nomatch z) (ntup_cons j4 (fun _ z => nomatch z) (ntup_cons j5 (fun _ z => nomatch z) ntup_nil))) j8
      have nul : bu ≠ l := neO hbu hl (fun z => nomatch z)
      rw [lp, ← bns_len, List.take_length] at j1
      have hz : ps.length = 0 ↔ ms = [] := by
        rw [lp]
        constructor
        · intro z
          have := bns_flat ms.length
          rw [show bns ms.length = [] from List.length_eq_zero_iff.mp ((bns_len _).trans z)] at this
          have := congrArg List.length this
          rw [List.length_range'] at this
          exact List.length_eq_zero_iff.mp this.symm
        · intro z
          rw [z]
          show (bl 0).length = 0
          rw [bl_zero]
          rfl
      refine q v evs H' j9 ⟨⟨dx, cdx, bu, bdx, k, kdx, hh, p, ps, vs', j3, j4, j5, j6, by kp_flats, by kp_flats, by kp_flats, by kp_flats, fun x hx => ⟨(hps x hx).1.kp j9 hnt, U.bk (hps x hx).2 j9⟩, hns, d1, d2, d3, d4, d5, d6, d7, d8, d9, d10⟩, fun x hx => U.mk' (hm x hx) j9, t1, o1, o2, o3, o4⟩ j7 j1 (fun z => j10 (hz.mpr z)) (fun z => ?_)
      have := j11 fun y => z (hz.mp y)
      rw [List.take_length, hnum, pick_all] at this
      exact this
end
end Ob

set_option Elab.async false
set_option linter.all false
set_option maxRecDepth 100000
set_option maxHeartbeats 1000000
namespace Ob
open PySem PySem.Spec PyProof.Rows L2
open LamX (Tabs TabB TabS ExtN)

/-! ### len(o), o of an own class with its own __len__ -/
theorem call_lenO {X : Cx} {k : Nat} {C f : Addr} {sp : Sp} (F : FnR X.prog X.w X.K X.mg X.base CX0 k f sp) (hr : Room (k + 1) X.A) (hs : PySem.W.findIn X.K (.ref C) "__len__" = some (some (.ref f))) (hf : PySem.W.typeIn X.K (.ref f) = some (.type "function")) :
    CallR X (.builtin "len") (fun xs H Q => ∃ (a dx : Addr) (fs : List (Str × V)), xs = [.ref a] ∧ H a = some (.ins C dx fs) ∧ sp [.ref a] H (fun v H' => ∃ m : Nat, v = .int (m : Int) ∧ m < 2 ^ 62 ∧ Q (.int (m : Int)) H') E0) := by
  intro pins s σ H xs us Q I r h
  obtain ⟨a, dx, fs, rfl, ha, h⟩ := h
  obtain ⟨u, rfl, ru⟩ := vals1 r
  obtain rfl : u = Value.ref a := ru
  obtain ⟨ox, od, J, _⟩ := StX.insC_at I (.inr ⟨dx, fs, ha⟩)
  refine PySem.Calls.call_function_entry kind_len plain_len entry_len (args_len1 _) ?_
  unfold Builtin.«len»
  refine wpAny_bind (m := oneArg "len" _) (wpAny_pure ?_)
  refine wpAny_bind (m := callSpecial? (.ref a) (Str.ofString "__len__")) (PySem.W.special_fn I.kIn J hs hf ?_)
  refine wpAny_call (codeAny_mono (F X.A.in1 X.stack s H _ _ _ E0 hr.in1 I.env0.in1 r h) fun res s' hq => ?_)
  match res, hq with
  | .error e, z => exact z.elim
  | .ok .next, z => exact z.elim
  | .ok .brk, z => exact z.elim
  | .ok .cont, z => exact z.elim
  | .ok (.ret v), z =>
    obtain ⟨y, H1, I1, ry, m, rfl, hm, q⟩ := I.after z
    obtain ⟨t, rfl⟩ := ry
    refine wpAny_bind (wpAny_holding (wpAny_pure ?_))
    refine wpAny_bind (wpAny_letGo ?_)
    show wpAny _ _ (if (m : Int) < 0 then _ else _) _ _ _
    rw [if_neg (by omega)]
    show wpAny _ _ (if (m : Int) ≥ 2 ^ 63 then _ else _) _ _ _
    rw [if_neg (by omega)]
    exact wpAny_bind (wpAny_mkInt (wpAny_pure ⟨_, rfl, ⟨.int (m : Int), H1, I1.tok _, ⟨_, rfl⟩, q⟩⟩))

end Ob

set_option Elab.async false
set_option linter.all false
set_option maxRecDepth 100000
set_option maxHeartbeats 1000000
namespace Ob
open PySem PySem.Spec PyProof.Rows L2
open LamX (Tabs TabB TabS ExtN)

set_option hygiene false in
local macro_rules
  | `(tactic| kp_flats) => `(tactic| first
    | assumption
    | exact upd_same
    | (apply atNew; assumption; kp_flats)
    | (apply atNe; (next => kbo_bools); kp_flats)
    | (apply atSame; assumption; kp_flats)
    | (apply atKp; assumption; (next => kaf_pre); kp_flats))
set_option hygiene false in
local macro_rules
  | `(tactic| kaf_pre) => `(tactic| first
    | assumption
    | exact not_nil
    | (apply not_cons; (next => kbo_bools); kaf_pre)
    | (apply not_app; (next => kaf_pre); kaf_pre))
set_option hygiene false in
local macro_rules
  | `(tactic| kbo_bools) => `(tactic| first
    | assumption
    | (apply Ne.symm; assumption)
    | (apply neN; assumption; kp_flats)
    | (apply neN'; assumption; kp_flats))
set_option hygiene false in
local macro_rules
  | `(tactic| o_reads) => `(tactic| first
    | with_reducible rfl
    | assumption
    | rfl
    | kp_flats
    | (show SqL _ _ _ _; first | assumption | (apply sqlOf; kp_flats) | (apply sqlSame; assumption; o_reads))
    | (show SqT _ _ _ _; first | assumption | (apply sqtOf; kp_flats) | (apply sqtAll; assumption) | (apply sqtSame; assumption; o_reads))
    | (show Cls _ _; first | exact T.cl_Calls | exact T.cl_Asker | exact T.cl_Builder | exact T.cl_Blocks)
    | (show NoAttr _ _ _; first | exact T.n_Calls_entries | exact T.n_Calls_running | exact T.n_Asker_calls | exact T.n_Asker_ask_call | exact T.n_Asker_join_call | exact T.n_Asker_zero | exact T.n_Builder_calls | exact T.n_Builder_build_call | exact T.n_Blocks_calls | exact T.n_Blocks_builder | exact T.n_Blocks_asker | exact T.n_Blocks_held | exact T.n_Blocks_parts)
    | (apply Or.inl; o_reads)
    | (apply Or.inr; o_reads)
    | (apply And.intro; (next => o_reads); o_reads)
    | (apply Exists.intro; o_reads)
    | exact Nat.le_of_ble_eq_true rfl
    | exact Nat.succ_ne_zero _
    | (show Fr _ _; kba_ints)
    | (show Same _ _; kd_subs)
    | (show Kp _ _ _; kxs_still)
    | (show (_ : Nat) ≤ _; simp only [List.length_append, List.length_map, List.length_cons, List.length_nil, List.length_take, List.length_drop, List.length_replicate, List.length_range, sizeLine_eq]; omega)
    | (show _ = none; apply Fr.h; kba_ints)
    | (show Bag _ _; first | assumption | (apply bag_putF; assumption; o_reads) | (apply bag_neF; (next => kbo_bools); o_reads) | (apply bag_kpR; assumption; (next => kaf_pre); o_reads))
    | omega
    | decide)
local macro_rules
  | `(tactic| o_readsAll) => `(tactic| repeat (first
    | (refine fun (pNew : Addr) (nNew : _ = none) => ?_; replace nNew := Fr.mk nNew)
    | (refine fun (xNew dNew : Addr) (nNew : _ = none) (mNew : _ = none) (eNew : dNew ≠ xNew) => ?_; replace nNew := Fr.mk nNew; replace mNew := Fr.mk mNew)
    | (apply And.intro; next => o_reads)
    | apply Exists.intro (α := V)
    | apply Exists.intro (α := Addr)
    | apply Exists.intro (α := Int)
    | apply Exists.intro (α := Bool)
    | apply Exists.intro (α := List V)
    | apply Exists.intro (α := List Nat)
    | apply Exists.intro (α := List (Str × V))
    | apply Exists.intro (α := List _)
    | apply Exists.intro (α := Str)
    | apply Exists.intro (α := HO)
    | apply Exists.intro (α := Sp)
    | apply Exists.intro (α := VK)))
set_option hygiene false in
local macro_rules
  | `(tactic| kba_ints) => `(tactic| first
    | assumption
    | (apply frUp; (first | assumption | (apply Ne.symm; assumption)); kba_ints)
    | (apply noneOf; assumption; intro oF eF; apply Exists.intro; kp_flats)
    | (apply frUp; (next => kbo_bools); kba_ints))
set_option hygiene false in
local macro_rules
  | `(tactic| kxs_still) => `(tactic| first
    | assumption
    | exact kp_refl _ _
    | (apply kp_newF; assumption; kxs_still)
    | (apply kp_new; assumption; kxs_still)
    | (apply kp_up; (next => o_fieldsN); kxs_still)
    | (apply kp_new; (next => kba_ints); kxs_still)
    | (apply kp_sameR; assumption; kxs_still)
    | (apply kp_transR; assumption; kxs_still)
    | (apply kp_freshR; assumption; (next => kaf_suf); kxs_still))
set_option hygiene false in
local macro_rules
  | `(tactic| kaf_suf) => `(tactic| first
    | assumption
    | exact subNil
    | (apply subCons; (first | (apply Or.inl; o_fieldsN) | (apply Or.inr; kba_ints)); kaf_suf)
    | (apply subApp; (next => kaf_suf); kaf_suf))
set_option hygiene false in
local macro_rules
  | `(tactic| o_fieldsN) => `(tactic| first
    | assumption
    | exact memA
    | (apply memB; o_fieldsN)
    | (apply memL; o_fieldsN)
    | (apply memR; o_fieldsN))
set_option hygiene false in
local macro_rules
  | `(tactic| kd_subs) => `(tactic| first
    | assumption
    | exact Same.refl _
    | (apply same_putF; assumption; kd_subs)
    | (apply same_putG; assumption; kd_subs)
    | (apply same_putF; (next => kba_ints); kd_subs)
    | (apply same_transR; assumption; kd_subs))

section
variable {P : Program} {w : World} {K : PySem.W.Frag} {mg : Str → Option Value} {base : Heap} {n : Nat}
variable {CB CC CU CA b c l : Addr} {mv : List Addr} {fb fa fj z : V} {Mem : V → Hp → Prop} {Blk : List V → V → Hp → Prop} {ms : List V} {es : List Ent} {H H' : Hp}
def spMem (CB CC CU CA : Addr) : Sp := fun vs H Q _ => ∃ (b c l : Addr) (mv : List Addr) (fb fa fj z : V) (Mem : V → Hp → Prop) (Blk : List V → V → Hp → Prop) (ms : List V) (es : List Ent), vs = [.ref b] ∧ Coll CB CC CU CA b c l mv fb fa fj z Mem Blk ms es H ∧
  ∀ o H', Fr H o → Same H H' → H' o = some (.lst ms) → Q (.ref o) H'
theorem ok_mem (T : Txt K mg) : FnOk P w K mg base CX0 1 T.f_Blocks_members T.d_Blocks_members ["self"] (spMem T.C_Blocks T.C_Calls T.C_Builder T.C_Asker) := by
  refine T.F_Blocks_members.ok sc_Blocks_members (fun vs H Q E h => ?_) (fun cdv A outer s H vs Q E hr h => ?_)
  · obtain ⟨b, c, l, mv, fb, fa, fj, z, Mem, Blk, ms, es, rfl, _⟩ := h
    rfl
  · obtain ⟨b, c, l, mv, fb, fa, fj, z, Mem, Blk, ms, es, rfl, ⟨⟨dx, cdx, bu, bdx, k, kdx, hh, p, ps, ls, hb, hc, hl, hlog, hbu, hk, hh', hp, _⟩, _⟩, q⟩ := h
    refine ⟨_, (pss_one (ps_ret (pe_callTy call_list_of (by rfl) T.z_list (by decide +kernel) (pa_cons (pe_fld (pv 0) rfl) pa_nil)))), ?_⟩
    o_readsAll
    rename_i o no
    exact q o _ no (by kd_subs) (by kp_flats)
def spLenB (CB CC CU CA : Addr) : Sp := fun vs H Q _ => ∃ (b c l : Addr) (mv : List Addr) (fb fa fj z : V) (Mem : V → Hp → Prop) (Blk : List V → V → Hp → Prop) (ms : List V) (es : List Ent), vs = [.ref b] ∧ Coll CB CC CU CA b c l mv fb fa fj z Mem Blk ms es H ∧ Q (.int (ms.length : Int)) H
theorem ok_lenb (T : Txt K mg) : FnOk P w K mg base CX0 1 T.f_Blocks_len T.d_Blocks_len ["self"] (spLenB T.C_Blocks T.C_Calls T.C_Builder T.C_Asker) := by
  refine T.F_Blocks_len.ok sc_Blocks_len (fun vs H Q E h => ?_) (fun cdv A outer s H vs Q E hr h => ?_)
  · obtain ⟨b, c, l, mv, fb, fa, fj, z, Mem, Blk, ms, es, rfl, _⟩ := h
    rfl
  · obtain ⟨b, c, l, mv, fb, fa, fj, z, Mem, Blk, ms, es, rfl, ⟨⟨dx, cdx, bu, bdx, k, kdx, hh, p, ps, ls, hb, hc, hl, hlog, hbu, hk, hh', hp, _⟩, _⟩, q⟩ := h
    refine ⟨_, (pss_one (ps_ret (pe_callB call_len_seq (by rfl) T.z_len (by decide +kernel) (pa_cons (pe_fld (pv 0) rfl) pa_nil)))), ?_⟩
    o_readsAll
    exact q
theorem Coll.b_at (h : Coll CB CC CU CA b c l mv fb fa fj z Mem Blk ms es H) : ∃ dx bu k h p, H b = some (BlO CB dx c bu k h p) := by
  obtain ⟨⟨dx, cdx, bu, bdx, k, kdx, hh, p, ps, ls, hb, _⟩, _⟩ := h
  exact ⟨_, _, _, _, _, hb⟩
/-- it stays while other things change -/
theorem Coll.kp {UR : List Ev → Hp → Prop} {Qst : V → Hp → Prop} {Ans : V → List V → V → Hp → Prop} (U : US P w K mg base n [b, c, l] mv fb fa fj UR Mem Blk Qst Ans) (h : Coll CB CC CU CA b c l mv fb fa fj z Mem Blk ms es H) (k1 : Kp mv H H') (t : NTup H' mv) : Coll CB CC CU CA b c l mv fb fa fj z Mem Blk ms es H' := by
  obtain ⟨⟨dx, cdx, bu, bdx, k, kdx, hh, p, ps, ls, hb, hc, hl, hlog, hbu, hk, hh', hp, hps, hns, d1, d2, d3, d4, dd⟩, hm, hnt, ⟨o1, o2, o3, o4⟩⟩ := h
  have k2 : Kp ([b, c, l] ++ mv) H H' := kp_more k1 fun _ m => memR m
  have hb' := k1.at_ _ _ hb o1
  have hc' := k1.at_ _ _ hc o2
  have hl' := k1.at_ _ _ hl o3
  exact ⟨⟨dx, cdx, bu, bdx, k, kdx, hh, p, ps, ls, hb', hc', hl', hlog.kp k2 hnt, k1.at_ _ _ hbu d1, k1.at_ _ _ hk d2, k1.at_ _ _ hh' d3, k1.at_ _ _ hp d4, fun x hx => ⟨(hps x hx).1.kp k2 hnt, U.bk (hps x hx).2 k2⟩, hns, d1, d2, d3, d4, dd⟩,
    fun x hx => U.mk' (hm x hx) k2, ntup_app (ntup_cons hb' (fun _ z => nomatch z) (ntup_cons hc' (fun _ z => nomatch z) (ntup_cons hl' (fun _ z => nomatch z) ntup_nil))) t, o1, o2, o3, o4⟩
theorem coll_new {dx cdx bu bdx k kdx hh p : Addr} (hb : H' b = some (BlO CB dx c bu k hh p)) (hc : H' c = some (CO CC cdx l false)) (hl : H' l = some (.lst [])) (hbu : H' bu = some (BuO CU bdx c fb)) (hk : H' k = some (AO CA kdx c fa fj z)) (hh' : H' hh = some (.lst [])) (hp : H' p = some (.lst []))
    (n1 : l ≠ hh) (n2 : l ≠ p) (fb' : Fr H b) (fc : Fr H c) (fl : Fr H l) (fbu : Fr H bu) (fk : Fr H k) (fh : Fr H hh) (fp : Fr H p) (t : NTup H mv) (t' : NTup H' mv) (nb : bu ≠ b) (nc : bu ≠ c) (mb : k ≠ b) (mc : k ≠ c) (bc : b ≠ c) :
    Coll CB CC CU CA b c l mv fb fa fj z Mem Blk [] [] H' := by
  have tr : Trk H mv := fun a m => (t a m).imp fun _ z => z.1
  have e0 : bns 0 = [] := by
    unfold bns
    rw [bl_zero]
    rfl
  exact ⟨⟨dx, cdx, bu, bdx, k, kdx, hh, p, [], [], hb, hc, hl, .nil, hbu, hk, hh', hp, (fun _ m => nomatch m), e0.symm, trk_fr tr fbu, trk_fr tr fk, trk_fr tr fh, trk_fr tr fp, n1.symm, n2.symm, nb, nc, mb, mc⟩, (fun _ m => nomatch m),
    ntup_app (ntup_cons hb (fun _ z => nomatch z) (ntup_cons hc (fun _ z => nomatch z) (ntup_cons hl (fun _ z => nomatch z) ntup_nil))) t', trk_fr tr fb', trk_fr tr fc, trk_fr tr fl, bc⟩
end
end Ob

set_option Elab.async false
set_option linter.all false
set_option maxRecDepth 100000
set_option maxHeartbeats 1000000
namespace Ob
open PySem PySem.Spec PyProof.Rows L2
open LamX (Tabs TabB TabS ExtN)

open PySem.F
/-! ### isinstance(f, T), f a function -/
theorem lk_fn_ga : typeLookup (.type "function") "__getattribute__" = pure (some (.builtin "object.__getattribute__")) := by rw [typeLookup_type, builtinLookup_eq_fast]; kernel_rfl
theorem lk_fn_class : typeLookup (.type "function") "__class__" = pure (some (.builtin "object.__class__")) := by rw [typeLookup_type, builtinLookup_eq_fast]; kernel_rfl
theorem slot_fn_ga : Slot "function" "__getattribute__" "object.__getattribute__" :=
  .of (owner := "object") (n := "__getattribute__") (by rw [typeLookup_type, builtinLookup_eq_fast]; kernel_rfl) (by decide +kernel) (by decide +kernel) (by decide +kernel) (by first | exact .inl (by decide +kernel) | exact .inr (by decide +kernel)) (by rw [isSubtype_type]; kernel_rfl)
theorem sub_fn_cls : isSubtype (.type "function") (.type (".".intercalate ("object.__class__".cutAt '.').dropLast)) = pure true := by
  rw [owner_object_class, isSubtype_type]; kernel_rfl
section
variable {prog : Program} {w : World} {A : Around} {E : Value → Shared → Prop} {h : Heap} {g : Array GenState} {d : Drawn} {t : Nat} {os : OsState} {a : Addr} {o : Obj}
theorem fncls_get {R : Result → Shared → Prop} (hx : h.get? a = some o) (hc : o.cls = .type "function") (hq : R (.ok (.ret (.type "function"))) ⟨h, g, d, t, os⟩) :
    codeAny (model prog w) A (.call (.builtin "getset_descriptor.__get__") ⟨[.builtin "object.__class__", .ref a, .type "function"], []⟩) R ⟨h, g, d, t, os⟩ := by
  have hT : (⟨h, g, d, t, os⟩ : Shared).TypeIs (.ref a) "function" := ⟨_, hx, hc⟩
  have hT5 : (⟨h, g, d, t, os⟩ : Shared).TypeIs (.builtin "object.__class__") "getset_descriptor" := PySem.F.typeOf_object_class
  have f8 := sub_fn_cls
  refine codeAny_call_builtin PySem.F.slot_gs_get.plain PySem.F.entry_gs_get (PySem.F.slot_gs_get.check _ _ _ _ _ _ _ _ hT5 (PySem.F.args_gs_get _ _ _) ?_)
  repeat (any_goals (first | assumption | wp_step))
  refine ⟨Code.quiet_builtin _ (by decide +kernel), codeAny_builtin PySem.F.entry_object_class ?_⟩
  repeat (any_goals (first | assumption | wp_step))
theorem fncls_entry {tk : Tok} {Q : Fin → Shared → Prop} (hx : h.get? a = some o) (hc : o.cls = .type "function") (hq : Q (.done (.ret (.type "function"))) ⟨h, g, d, t, os⟩) :
    wpAny (model prog w) A (Builtin.«object.__getattribute__» ⟨[.ref a, .str "__class__" tk], []⟩) Q E ⟨h, g, d, t, os⟩ := by
  have hT : (⟨h, g, d, t, os⟩ : Shared).TypeIs (.ref a) "function" := ⟨_, hx, hc⟩
  have hT5 : (⟨h, g, d, t, os⟩ : Shared).TypeIs (.builtin "object.__class__") "getset_descriptor" := PySem.F.typeOf_object_class
  have f4 := lk_fn_class
  have f5 := PySem.F.typeOf_object_class
  have f6 := PySem.F.slot_gs_get.lookup
  have f7 := PySem.F.slot_gs_set.lookup
  repeat (any_goals (first | assumption | wp_step))
  refine fncls_get hx hc ?_
  repeat (any_goals (first | assumption | wp_step))
theorem fncls_call {tk : Tok} {R : Result → Shared → Prop} (hx : h.get? a = some o) (hc : o.cls = .type "function") (hq : R (.ok (.ret (.type "function"))) ⟨h, g, d, t, os⟩) :
    codeAny (model prog w) A (.call (.builtin "object.__getattribute__") ⟨[.ref a, .str "__class__" tk], []⟩) R ⟨h, g, d, t, os⟩ :=
  codeAny_call_builtin slot_fn_ga.plain PySem.F.entry_object_getattribute (slot_fn_ga.check _ _ _ _ _ _ _ _ (show (⟨h, g, d, t, os⟩ : Shared).TypeIs (.ref a) "function" from ⟨_, hx, hc⟩) (PySem.F.args_object_getattribute_2 _ _) (fncls_entry hx hc hq))
theorem fncls_by {tk : Tok} {Q : Value → Shared → Prop} (hx : h.get? a = some o) (hc : o.cls = .type "function") (hq : Q (.type "function") ⟨h, g, d, t, os⟩) : wpAny (model prog w) A (getAttrBy (.ref a) (.str "__class__" tk) false) Q E ⟨h, g, d, t, os⟩ := by
  have hT : (⟨h, g, d, t, os⟩ : Shared).TypeIs (.ref a) "function" := ⟨_, hx, hc⟩
  have f2 := slot_fn_ga.lookup
  have f3 := slot_fn_ga.bind (.ref a)
  repeat (any_goals (first | assumption | wp_step))
  refine fncls_call hx hc ?_
  repeat (any_goals (first | assumption | wp_step))
theorem fncls_attr {Q : Option Value → Shared → Prop} (hx : h.get? a = some o) (hc : o.cls = .type "function") (hq : Q (some (.type "function")) ⟨h, g, d, t + 1, os⟩) : wpAny (model prog w) A (getAttr? (.ref a) "__class__") Q E ⟨h, g, d, t, os⟩ := by
  unfold getAttr? getAttrBy?
  repeat (any_goals (first | assumption | with_reducible apply fncls_by hx hc | wp_step))
end
theorem kitx_fn {K : PySem.W.Frag} {a : Addr} : PySem.W.KitX K (.ref a) (.type "function") (PySem.W.KitAt a "function") := PySem.W.kitx_of PySem.W.kitAt_ty (fun {_ _ _ _ _ s} p k => by obtain ⟨h, g, d, t, os⟩ := s; obtain ⟨o, h1, h2⟩ := p; exact fncls_attr h1 h2 k)
/-- such a thing is of the type function -/
def FnTy (a : Addr) (o : HO) : Prop := ∀ (P : Program) (w : World) (H : Hp) (h : Heap), HOk P w H h → H a = some o → ∃ ob, h.get? a = some ob ∧ ob.cls = .type "function"
theorem fnTy_lam {f : Addr} {F : Inf.LF} : FnTy f (Inf.LamO f F) := fun P w H h hok e => by
  obtain ⟨pm, ctv, z⟩ := Inf.lamO_at hok e
  exact ⟨_, z, rfl⟩
/-- isinstance(x, T), x anything of a known type or a function that a def made -/
def TyF (K : PySem.W.Frag) (H : Hp) (x : V) (t : Value) : Prop := TyX K H x t ∨ ∃ a o, x = .ref a ∧ H a = some o ∧ FnTy a o ∧ t = .type "function"
theorem call_isiF {X : Cx} : CallR X (.builtin "isinstance") (fun xs H Q => ∃ (x c : V) (t u : Value) (b : Bool), xs = [x, c] ∧ ClsV c u ∧ TyF X.K H x t ∧ PySem.W.kitOne X.K t u = some b ∧ Q (.bl b) H) := by
  intro pins s σ H xs us Q I r h
  obtain ⟨x, c, t, u, b, rfl, k, ty, e, q⟩ := h
  obtain ⟨u1, u2, rfl, r1, r2⟩ := vals2 r
  have e2 := k.eq r2
  subst e2
  rcases ty with ty | ⟨a, o, rfl, ha, hf, rfl⟩
  · obtain ⟨P, Z, p, hx⟩ := kit_of I r1 ty
    exact PySem.W.kia_one Z I.kIn p e hx fun tk => ⟨.bl b, H, I.tok tk, rfl, q⟩
  · obtain rfl : u1 = Value.ref a := r1
    exact PySem.W.kia_one kitx_fn I.kIn (hf _ _ _ _ I.hok ha) e (fun z => nomatch z) fun tk => ⟨.bl b, H, I.tok tk, rfl, q⟩

end Ob

set_option Elab.async false
set_option linter.all false
set_option maxRecDepth 100000
set_option maxHeartbeats 1000000
namespace Ob
open PySem PySem.Spec PyProof.Rows L2
open LamX (Tabs TabB TabS ExtN)

set_option hygiene false in
local macro_rules
  | `(tactic| kp_flats) => `(tactic| first
    | assumption
    | exact upd_same
    | (apply atNew; assumption; kp_flats)
    | (apply atNe; (next => kbo_bools); kp_flats)
    | (apply atSame; assumption; kp_flats)
    | (apply atKp; assumption; (next => kaf_pre); kp_flats))
set_option hygiene false in
local macro_rules
  | `(tactic| kaf_pre) => `(tactic| first
    | assumption
    | exact not_nil
    | (apply not_cons; (next => kbo_bools); kaf_pre)
    | (apply not_app; (next => kaf_pre); kaf_pre))
set_option hygiene false in
local macro_rules
  | `(tactic| kbo_bools) => `(tactic| first
    | assumption
    | (apply Ne.symm; assumption)
    | (apply neN; assumption; kp_flats)
    | (apply neN'; assumption; kp_flats))
set_option hygiene false in
local macro_rules
  | `(tactic| o_reads) => `(tactic| first
    | with_reducible rfl
    | assumption
    | rfl
    | kp_flats
    | (show SqL _ _ _ _; first | assumption | (apply sqlOf; kp_flats) | (apply sqlSame; assumption; o_reads))
    | (show SqT _ _ _ _; first | assumption | (apply sqtOf; kp_flats) | (apply sqtAll; assumption) | (apply sqtSame; assumption; o_reads))
    | (show Cls _ _; first | exact T.cl_Calls | exact T.cl_Asker | exact T.cl_Builder | exact T.cl_Blocks)
    | (show NoAttr _ _ _; first | exact T.n_Calls_entries | exact T.n_Calls_running | exact T.n_Asker_calls | exact T.n_Asker_ask_call | exact T.n_Asker_join_call | exact T.n_Asker_zero | exact T.n_Builder_calls | exact T.n_Builder_build_call | exact T.n_Blocks_calls | exact T.n_Blocks_builder | exact T.n_Blocks_asker | exact T.n_Blocks_held | exact T.n_Blocks_parts)
    | (apply Or.inl; o_reads)
    | (apply Or.inr; o_reads)
    | (apply And.intro; (next => o_reads); o_reads)
    | (apply Exists.intro; o_reads)
    | exact Nat.le_of_ble_eq_true rfl
    | exact Nat.succ_ne_zero _
    | (show Fr _ _; kba_ints)
    | (show Same _ _; kd_subs)
    | (show Kp _ _ _; kxs_still)
    | (show (_ : Nat) ≤ _; simp only [List.length_append, List.length_map, List.length_cons, List.length_nil, List.length_take, List.length_drop, List.length_replicate, List.length_range, sizeLine_eq]; omega)
    | (show _ = none; apply Fr.h; kba_ints)
    | (show Bag _ _; first | assumption | (apply bag_putF; assumption; o_reads) | (apply bag_neF; (next => kbo_bools); o_reads) | (apply bag_kpR; assumption; (next => kaf_pre); o_reads))
    | omega
    | decide)
local macro_rules
  | `(tactic| o_readsAll) => `(tactic| repeat (first
    | (refine fun (pNew : Addr) (nNew : _ = none) => ?_; replace nNew := Fr.mk nNew)
    | (refine fun (xNew dNew : Addr) (nNew : _ = none) (mNew : _ = none) (eNew : dNew ≠ xNew) => ?_; replace nNew := Fr.mk nNew; replace mNew := Fr.mk mNew)
    | (apply And.intro; next => o_reads)
    | apply Exists.intro (α := V)
    | apply Exists.intro (α := Addr)
    | apply Exists.intro (α := Int)
    | apply Exists.intro (α := Bool)
    | apply Exists.intro (α := List V)
    | apply Exists.intro (α := List Nat)
    | apply Exists.intro (α := List (Str × V))
    | apply Exists.intro (α := List _)
    | apply Exists.intro (α := Str)
    | apply Exists.intro (α := HO)
    | apply Exists.intro (α := Sp)
    | apply Exists.intro (α := VK)))
set_option hygiene false in
local macro_rules
  | `(tactic| kba_ints) => `(tactic| first
    | assumption
    | (apply frUp; (first | assumption | (apply Ne.symm; assumption)); kba_ints)
    | (apply noneOf; assumption; intro oF eF; apply Exists.intro; kp_flats)
    | (apply frUp; (next => kbo_bools); kba_ints))
set_option hygiene false in
local macro_rules
  | `(tactic| kxs_still) => `(tactic| first
    | assumption
    | exact kp_refl _ _
    | (apply kp_newF; assumption; kxs_still)
    | (apply kp_new; assumption; kxs_still)
    | (apply kp_up; (next => o_fieldsN); kxs_still)
    | (apply kp_new; (next => kba_ints); kxs_still)
    | (apply kp_sameR; assumption; kxs_still)
    | (apply kp_transR; assumption; kxs_still)
    | (apply kp_freshR; assumption; (next => kaf_suf); kxs_still))
set_option hygiene false in
local macro_rules
  | `(tactic| kaf_suf) => `(tactic| first
    | assumption
    | exact subNil
    | (apply subCons; (first | (apply Or.inl; o_fieldsN) | (apply Or.inr; kba_ints)); kaf_suf)
    | (apply subApp; (next => kaf_suf); kaf_suf))
set_option hygiene false in
local macro_rules
  | `(tactic| o_fieldsN) => `(tactic| first
    | assumption
    | exact memA
    | (apply memB; o_fieldsN)
    | (apply memL; o_fieldsN)
    | (apply memR; o_fieldsN))
set_option hygiene false in
local macro_rules
  | `(tactic| kd_subs) => `(tactic| first
    | assumption
    | exact Same.refl _
    | (apply same_putF; assumption; kd_subs)
    | (apply same_putG; assumption; kd_subs)
    | (apply same_putF; (next => kba_ints); kd_subs)
    | (apply same_transR; assumption; kd_subs))

/-- the tables of the defs that make functions, and the names of what is made -/
def TT {K : PySem.W.Frag} {mg : Str → Option Value} (T : Txt K mg) : List (Addr × Str) := [(T.p_l_thing, ("_law_thing" : Str) ++ ".<locals>." ++ "<lambda>"), (T.p_l_right, ("_law_right" : Str) ++ ".<locals>." ++ "<lambda>")]
section
variable {P : Program} {w : World} {K : PySem.W.Frag} {mg : Str → Option Value} {base : Heap} {n : Nat}
theorem hm_l_thing (T : Txt K mg) : (T.p_l_thing, ("_law_thing" : Str) ++ ".<locals>." ++ "<lambda>") ∈ TT T := List.mem_cons_self ..
theorem hm_l_right (T : Txt K mg) : (T.p_l_right, ("_law_right" : Str) ++ ".<locals>." ++ "<lambda>") ∈ TT T := List.mem_cons_of_mem _ (List.mem_cons_self ..)
theorem hu_l_thing (T : Txt K mg) : ∀ p ∈ TT T, p.1 = T.p_l_thing → p.2 = ("_law_thing" : Str) ++ ".<locals>." ++ "<lambda>" := fun p m e => by
  rcases List.mem_cons.mp m with rfl | m
  · rfl
  · rw [List.mem_singleton.mp m] at e
    exact absurd e.symm T.pne_l_thing_l_right
theorem hu_l_right (T : Txt K mg) : ∀ p ∈ TT T, p.1 = T.p_l_right → p.2 = ("_law_right" : Str) ++ ".<locals>." ++ "<lambda>" := fun p m e => by
  rcases List.mem_cons.mp m with rfl | m
  · exact absurd e T.pne_l_thing_l_right
  · rw [List.mem_singleton.mp m]
theorem kp_but {p : Addr} {H H1 : Hp} (b : But p H H1) : Kp [p] H H1 := ⟨fun c o e n => b c o e fun z => n (List.mem_singleton.mpr z)⟩
def spTakeK : Sp := fun vs H Q _ => ∃ (p : Addr) (m : Int), vs = [.ref p, .int m] ∧ Bag H p ∧ 0 < m ∧ m.natAbs < 2 ^ 200 ∧ ∀ r H', 0 ≤ r → r < m → Bag H' p → Kp [p] H H' → Q (.int r) H'
theorem ok_takeK (T : Txt K mg) : FnOk P w K mg base CX0 1 T.f_l_take T.d_l_take ["_law_bag_here", "_law_many"] spTakeK := by
  have F := ok_take (P := P) (w := w) (base := base) T
  refine ⟨fun vs H Q E h => ?_, fun A outer s H args us vs Q E hr e0 hb r h => F.run A outer s H args us vs Q E hr e0 hb r ?_⟩
  · obtain ⟨p, m, rfl, _⟩ := h
    rfl
  · obtain ⟨p, m, e, h1, h2, h3, q⟩ := h
    exact ⟨p, m, e, h1, h2, h3, fun r H' a b c d => q r H' a b c (kp_but d)⟩
theorem bag_kp {p : Addr} {cs : List Addr} {H H1 : Hp} (h : Bag H p) (k : Kp cs H H1) (n : p ∉ cs) : Bag H1 p := by
  obtain ⟨g, m, c, e, z⟩ := h
  exact ⟨g, m, c, k.at_ _ _ e n, z⟩
theorem bag_neF {p q : Addr} {H : Hp} {o : HO} (n : p ≠ q) (b : Bag H p) : Bag (upd H q o) p := by
  obtain ⟨g, m, c, e, z⟩ := b
  exact ⟨g, m, c, (upd_ne n).trans e, z⟩
theorem tabs_kp {TT : List (Addr × Str)} {cs : List Addr} {H H1 : Hp} (t : Tabs TT H) (k : Kp cs H H1) (n : ∀ a ∈ cs, ∃ o, H a = some o ∧ (∀ ps, o ≠ .tbl ps) ∧ ∀ φ, o ≠ .ext φ) : Tabs TT H1 := fun p hp => by
  obtain ⟨ps, h1, h2, h3⟩ := t p hp
  refine ⟨ps, k.at_ _ _ h1 (fun m => ?_), h2, fun pos cv hc => ?_⟩
  · obtain ⟨o, e, n1, _⟩ := n _ m
    rw [h1] at e
    exact n1 ps (Option.some.inj e).symm
  · obtain ⟨c, e1, e2⟩ := h3 pos cv hc
    refine ⟨c, e1, k.at_ _ _ e2 fun m => ?_⟩
    obtain ⟨o, e, _, n2⟩ := n _ m
    rw [e2] at e
    exact n2 _ (Option.some.inj e).symm
theorem tabs_same {TT : List (Addr × Str)} {H H1 : Hp} (t : Tabs TT H) (s : Same H H1) : Tabs TT H1 := t.ext s
/-- a thing: a list, a dict with a list, None, a function -/
inductive Thing (H0 H : Hp) : V → Prop where
  | lst {o : Addr} {x : V} (f : Fr H0 o) (h : H o = some (.lst [x])) : Thing H0 H (.ref o)
  | dct {o l : Addr} {x : V} (f : Fr H0 o) (g : Fr H0 l) (h : H o = some (.dK [(.inr "a", .ref l)])) (k : H l = some (.lst [x])) : Thing H0 H (.ref o)
  | non : Thing H0 H .non
  | fn {o : Addr} {F : Inf.LF} (f : Fr H0 o) (h : H o = some (Inf.LamO o F)) : Thing H0 H (.ref o)
def spThing (T : Txt K mg) : Sp := fun vs H Q _ => ∃ b : Addr, vs = [.ref b] ∧ Bag H b ∧ Tabs (TT T) H ∧ ∀ v H', Kp [b, T.p_l_thing, T.p_l_right] H H' → Bag H' b → Tabs (TT T) H' → Thing H H' v → Q v H'
theorem ok_thing (T : Txt K mg) (TB : LamX.TabB base mg T.c_l_thing T.p_l_thing) : FnOk P w K mg base CX0 3 T.f_l_thing T.d_l_thing ["_law_bag_here"] (spThing T) := by
  have G_l_take := ok_takeK (P := P) (w := w) (base := base) T
  refine T.F_l_thing.ok sc_l_thing (fun vs H Q E h => ?_) (fun A outer s H vs Q E hr h => ?_)
  · obtain ⟨b, rfl, _⟩ := h
    rfl
  · obtain ⟨b, rfl, hb, hT, q⟩ := h
    refine ⟨_, (pss_cons (ps_set (i := 1) sc_l_thing.nd rfl (.inl rfl) (pe_lst (pa_cons (pe_lst (pa_cons (pe_call G_l_take (hr.mono (by omega)) rfl T.g_l_take T.F_l_take.kp T.b_l_take .nil pass0 (pa_cons (pv 0) (pa_cons pe_int pa_nil))) pa_nil)) (pa_cons (pe_disp (pps_cons pe_str (pe_lst (pa_cons (pe_call G_l_take (hr.mono (by omega)) rfl T.g_l_take T.F_l_take.kp T.b_l_take .nil pass0 (pa_cons (pv 0) (pa_cons pe_int pa_nil))) pa_nil)) pps_nil) (by rfl) (by rfl) (fun z => by cases z) (by decide)) (pa_cons pe_non (pa_cons (Inf.pe_lamO (T := TT T) (c := T.c_l_thing) (P := T.p_l_thing) TB rfl (hm_l_thing T) (hu_l_thing T) rfl (NdefX.ndef_free (sc := defScope s_l_thing) (fr := []) (by decide +kernel))) pa_nil))))))
      (pss_one (ps_ret (pe_ix (r := rIxL K) ix_list (pv 1) (pe_call G_l_take (hr.mono (by omega)) rfl T.g_l_take T.F_l_take.kp T.b_l_take .nil pass0 (pa_cons (pv 0) (pa_cons pe_int pa_nil))) (fun _ _ => rfl))))), ?_⟩
    o_readsAll
    intro r1 H1 r10 r11 b1 k1
    obtain ⟨g1, m1, c1, eb1, -⟩ := id b1
    o_readsAll
    intro r2 H2 r20 r21 b2 k2
    obtain ⟨g2, m2, c2, eb2, -⟩ := id b2
    obtain ⟨g0, m0, c0, eb0, -⟩ := id hb
    o_readsAll
    rename_i o1 no1 d1 nd1 o2 no2
    refine ⟨(rfl : _ = List.map (fun kv : Key × V => (kV kv.1, kv.2)) [(Sum.inr ("a" : Str), V.ref o2)]), Nat.le_of_ble_eq_true rfl, ?_⟩
    have hT1 : Tabs (TT T) H1 := tabs_kp hT k1 (subCons ⟨_, eb0, (fun _ z => nomatch z), fun _ z => nomatch z⟩ subNil)
    have hT2 : Tabs (TT T) H2 := tabs_kp (tabs_same hT1 (H1 := upd (upd H1 o1 (.lst [.int r1])) d1 (.dK [])) (by kd_subs)) k2 (subCons ⟨.lst [.int g1, .int m1, .int c1], by kp_flats, (fun _ z => nomatch z), fun _ z => nomatch z⟩ subNil)
    have hT3 : Tabs (TT T) (upd (upd H2 o2 (.lst [.int r2])) d1 (.dK (mergeK [] [(.inr ("a" : Str), .ref o2)]))) := by
      refine tabs_kp (cs := [d1]) (H := upd H2 o2 (.lst [.int r2])) (tabs_same hT2 (by kd_subs)) (by kxs_still) (subCons ⟨.dK [], by kp_flats, (fun _ z => nomatch z), fun _ z => nomatch z⟩ subNil)
    refine ⟨hT3, ?_⟩
    intro f c' H3 x3 b3 t3 nf hc
    replace nf := Fr.mk nf
    have k3 : Kp [T.p_l_thing] (upd (upd H2 o2 (.lst [.int r2])) d1 (.dK (mergeK [] [(.inr ("a" : Str), .ref o2)]))) H3 := ⟨fun b o e m => x3 b o e fun z => m (List.mem_singleton.mpr z)⟩
    obtain ⟨ps1, tb1, -⟩ := hT _ (hm_l_thing T)
    replace tb1 : H T.p_l_thing = some (.tbl ps1) := tb1
    have n1 : b ≠ T.p_l_thing := neO eb0 tb1 (fun z => nomatch z)
    have fb3 : ∀ x, Fr H3 x → Fr (upd (upd H2 o2 (.lst [.int r2])) d1 (.dK (mergeK [] [(.inr ("a" : Str), .ref o2)]))) x := fun x h => ⟨b3 x h.h⟩
    o_readsAll
    rename_i s ns
    intro r3 H4 r30 r31 b4 k4
    obtain ⟨g4, m4, c4, eb4, -⟩ := id b4
    have eb3 : H3 b = some (.lst [.int g2, .int m2, .int c2]) := by kp_flats
    have a1 : H4 o1 = some (.lst [.int r1]) := by kp_flats
    have a2 : H4 d1 = some (.dK (mergeK [] [(.inr ("a" : Str), .ref o2)])) := by kp_flats
    have a3 : H4 o2 = some (.lst [.int r2]) := by kp_flats
    have a4 := k4.at_ f _ (by kp_flats) (by kaf_pre)
    have f1 : Fr H o1 := by kba_ints
    have f2 : Fr H d1 := by kba_ints
    have f3 : Fr H o2 := by kba_ints
    have f0 := fb3 f nf
    have f4 : Fr H f := by kba_ints
    have kk : True ∧ Kp [b, T.p_l_thing, T.p_l_right] H H4 := ⟨trivial, by kxs_still⟩
    have t4 : Tabs (TT T) H4 := tabs_kp (H := upd (upd H3 f _) s (.lst [.ref o1, .ref d1, .non, .ref f])) (tabs_same t3 (by kd_subs)) k4 (subCons ⟨.lst [.int g2, .int m2, .int c2], by kp_flats, (fun _ z => nomatch z), fun _ z => nomatch z⟩ subNil)
    obtain ⟨j, hj⟩ : ∃ j : Nat, r3 = (j : Int) := ⟨r3.toNat, by omega⟩
    have hj4 : j < 4 := by omega
    have key : ∃ v, atI [V.ref o1, .ref d1, .non, .ref f] r3 = some v ∧ Q v H4 := by
      rw [hj]
      clear hj
      match j, hj4 with
      | 0, _ => exact ⟨_, atI_nat (j := 0) rfl, q _ _ kk.2 b4 t4 (.lst f1 a1)⟩
      | 1, _ => exact ⟨_, atI_nat (j := 1) rfl, q _ _ kk.2 b4 t4 (.dct f2 f3 a2 a3)⟩
      | 2, _ => exact ⟨_, atI_nat (j := 2) rfl, q _ _ kk.2 b4 t4 .non⟩
      | 3, _ => exact ⟨_, atI_nat (j := 3) rfl, q _ _ kk.2 b4 t4 (.fn f4 a4)⟩
      | n + 4, h => exact absurd h (by omega)
    obtain ⟨v, e1, e2⟩ := key
    o_readsAll
    exact e2
end
end Ob

set_option Elab.async false
set_option linter.all false
set_option maxRecDepth 100000
set_option maxHeartbeats 1000000
namespace Ob
open PySem PySem.Spec PyProof.Rows L2
open LamX (Tabs TabB TabS ExtN)

set_option hygiene false in
local macro_rules
  | `(tactic| kp_flats) => `(tactic| first
    | assumption
    | exact upd_same
    | (apply atNew; assumption; kp_flats)
    | (apply atNe; (next => kbo_bools); kp_flats)
    | (apply atSame; assumption; kp_flats)
    | (apply atKp; assumption; (next => kaf_pre); kp_flats))
set_option hygiene false in
local macro_rules
  | `(tactic| kaf_pre) => `(tactic| first
    | assumption
    | exact not_nil
    | (apply not_cons; (next => kbo_bools); kaf_pre)
    | (apply not_app; (next => kaf_pre); kaf_pre))
set_option hygiene false in
local macro_rules
  | `(tactic| kbo_bools) => `(tactic| first
    | assumption
    | (apply Ne.symm; assumption)
    | (apply neN; assumption; kp_flats)
    | (apply neN'; assumption; kp_flats))
set_option hygiene false in
local macro_rules
  | `(tactic| o_reads) => `(tactic| first
    | with_reducible rfl
    | assumption
    | rfl
    | kp_flats
    | (show SqL _ _ _ _; first | assumption | (apply sqlOf; kp_flats) | (apply sqlSame; assumption; o_reads))
    | (show SqT _ _ _ _; first | assumption | (apply sqtOf; kp_flats) | (apply sqtAll; assumption) | (apply sqtSame; assumption; o_reads))
    | (show Cls _ _; first | exact T.cl_Calls | exact T.cl_Asker | exact T.cl_Builder | exact T.cl_Blocks)
    | (show NoAttr _ _ _; first | exact T.n_Calls_entries | exact T.n_Calls_running | exact T.n_Asker_calls | exact T.n_Asker_ask_call | exact T.n_Asker_join_call | exact T.n_Asker_zero | exact T.n_Builder_calls | exact T.n_Builder_build_call | exact T.n_Blocks_calls | exact T.n_Blocks_builder | exact T.n_Blocks_asker | exact T.n_Blocks_held | exact T.n_Blocks_parts)
    | (apply Or.inl; o_reads)
    | (apply Or.inr; o_reads)
    | (apply And.intro; (next => o_reads); o_reads)
    | (apply Exists.intro; o_reads)
    | exact Nat.le_of_ble_eq_true rfl
    | exact Nat.succ_ne_zero _
    | (show Fr _ _; kba_ints)
    | (show Same _ _; kd_subs)
    | (show Kp _ _ _; kxs_still)
    | (show (_ : Nat) ≤ _; simp only [List.length_append, List.length_map, List.length_cons, List.length_nil, List.length_take, List.length_drop, List.length_replicate, List.length_range, sizeLine_eq]; omega)
    | (show _ = none; apply Fr.h; kba_ints)
    | (show Bag _ _; first | assumption | (apply bag_putF; assumption; o_reads) | (apply bag_neF; (next => kbo_bools); o_reads) | (apply bag_kpR; assumption; (next => kaf_pre); o_reads))
    | omega
    | decide)
local macro_rules
  | `(tactic| o_readsAll) => `(tactic| repeat (first
    | (refine fun (pNew : Addr) (nNew : _ = none) => ?_; replace nNew := Fr.mk nNew)
    | (refine fun (xNew dNew : Addr) (nNew : _ = none) (mNew : _ = none) (eNew : dNew ≠ xNew) => ?_; replace nNew := Fr.mk nNew; replace mNew := Fr.mk mNew)
    | (apply And.intro; next => o_reads)
    | apply Exists.intro (α := V)
    | apply Exists.intro (α := Addr)
    | apply Exists.intro (α := Int)
    | apply Exists.intro (α := Bool)
    | apply Exists.intro (α := List V)
    | apply Exists.intro (α := List Nat)
    | apply Exists.intro (α := List (Str × V))
    | apply Exists.intro (α := List _)
    | apply Exists.intro (α := Str)
    | apply Exists.intro (α := HO)
    | apply Exists.intro (α := Sp)
    | apply Exists.intro (α := VK)))
set_option hygiene false in
local macro_rules
  | `(tactic| kba_ints) => `(tactic| first
    | assumption
    | (apply frUp; (first | assumption | (apply Ne.symm; assumption)); kba_ints)
    | (apply noneOf; assumption; intro oF eF; apply Exists.intro; kp_flats)
    | (apply frUp; (next => kbo_bools); kba_ints))
set_option hygiene false in
local macro_rules
  | `(tactic| kxs_still) => `(tactic| first
    | assumption
    | exact kp_refl _ _
    | (apply kp_newF; assumption; kxs_still)
    | (apply kp_new; assumption; kxs_still)
    | (apply kp_up; (next => o_fieldsN); kxs_still)
    | (apply kp_new; (next => kba_ints); kxs_still)
    | (apply kp_sameR; assumption; kxs_still)
    | (apply kp_transR; assumption; kxs_still)
    | (apply kp_freshR; assumption; (next => kaf_suf); kxs_still))
set_option hygiene false in
local macro_rules
  | `(tactic| kaf_suf) => `(tactic| first
    | assumption
    | exact subNil
    | (apply subCons; (first | (apply Or.inl; o_fieldsN) | (apply Or.inr; kba_ints)); kaf_suf)
    | (apply subApp; (next => kaf_suf); kaf_suf))
set_option hygiene false in
local macro_rules
  | `(tactic| o_fieldsN) => `(tactic| first
    | assumption
    | exact memA
    | (apply memB; o_fieldsN)
    | (apply memL; o_fieldsN)
    | (apply memR; o_fieldsN))
set_option hygiene false in
local macro_rules
  | `(tactic| kd_subs) => `(tactic| first
    | assumption
    | exact Same.refl _
    | (apply same_putF; assumption; kd_subs)
    | (apply same_putG; assumption; kd_subs)
    | (apply same_putF; (next => kba_ints); kd_subs)
    | (apply same_transR; assumption; kd_subs))

/-! ### the three lambdas of the law -/
def lamsOf : Stmt → List Expr
  | .Assign _ (.Call _ es _ _) _ => es
  | _ => []
def lamW (q : Str) : Expr → Addr → Inf.LF
  | .Lambda ps b sc _, c => ⟨q, ps, b, sc, [], c⟩
  | _, c => ⟨q, { posonlyargs := [], args := [], vararg := none, kwonlyargs := [], kw_defaults := [], kwarg := none, defaults := [] }, .Constant .none 0 ⟨0, 0, 0, 0⟩, defScope s_law, [], c⟩
def lamE (k : Nat) : Expr := (lamsOf ((defBody s_l_right).getD 1 (.Pass ⟨0, 0, 0, 0⟩))).getD k (.Constant .none 0 ⟨0, 0, 0, 0⟩)
def qR : Str := ("_law_right" : Str) ++ ".<locals>." ++ "<lambda>"
def LW (k : Nat) : Addr → Inf.LF := lamW qR (lamE k)
section
variable {P : Program} {w : World} {K : PySem.W.Frag} {mg : Str → Option Value} {base : Heap} {n : Nat}
theorem lam_act {k : Nat} {f : Addr} {F : Inf.LF} {N ps : List Str} {sp : Sp} (S : NdefX.NScope N ps [] F.scope) (hcl : F.cl = []) (hb : ∀ (pm ctv : Value) (us : List Value), us.length = ps.length → bindArgs (PySem.W.kla_fn "<lambda>" F.qual F.params F.body F.scope F.cl pm (.ref F.c) ctv) ⟨us, []⟩ = pure (ps.zip us))
    (len : ∀ vs H Q E, sp vs H Q E → vs.length = ps.length)
    (hbody : ∀ (A : Around) (outer : List Env) (s : Shared) (H : Hp) (vs : List V) (Q : VK) (E : XK), Room k (A.deeper (NdefX.envF F.nf f s.heap.objs.size)) → sp vs H Q E → ∃ te, PE (NdefX.ncx CX0 P w K mg base N F.nf f A outer s H E) F.body te ∧ te (NdefX.startF N vs []) H Q)
    {xs : List V} {H : Hp} {Q : VK} (hk : k + 1 ≤ n) (hf : H f = some (Inf.LamO f F)) (hc : H F.c = some (LamX.CodeO F.c F.qual)) (h : sp xs H Q E0) : Act P w K mg base n (.ref f) xs H Q :=
  ⟨f, _, _, Q, rfl, hf, Inf.lamHO, (Inf.lam_fnR S hcl hb len hbody).mono hk, ⟨hf, hc, h⟩, fun _ _ z => z⟩
def sp1 : Sp := fun vs H Q _ => ∃ (sl : Addr) (xs : List V), vs = [.ref sl] ∧ H sl = some (.lst xs) ∧ xs.length ≤ 10000 ∧ ∀ t H', Fr H t → Same H H' → H' t = some (.lst (xs ++ [.non])) → Q (.ref t) H'
def sp2 : Sp := fun vs H Q _ => ∃ (b : Addr) (xs : List V), vs = [.ref b, .non] ∧ H b = some (.lst (xs ++ [.non])) ∧ xs.length ≤ 10000 ∧ ∀ t H', Fr H t → Same H H' → H' t = some (.lst xs) → Q (.ref t) H'
def sp3 : Sp := fun vs H Q _ => ∃ (a b : Addr) (xs ys : List V), vs = [.ref a, .ref b] ∧ H a = some (.lst xs) ∧ H b = some (.lst ys) ∧ xs.length + ys.length ≤ 10000 ∧ ∀ t H', Fr H t → Same H H' → H' t = some (.lst (xs ++ ys)) → Q (.ref t) H'
theorem act1 {f c : Addr} {xs : List V} {H : Hp} {Q : VK} (hk : 1 ≤ n) (hf : H f = some (Inf.LamO f (LW 0 c))) (hc : H c = some (LamX.CodeO c qR)) (h : sp1 xs H Q E0) : Act P w K mg base n (.ref f) xs H Q := by
  refine lam_act (F := LW 0 c) (k := 0) (N := ["_law_some"]) (ps := ["_law_some"]) (sp := sp1) (NdefX.nscope_by (sc := (LW 0 0).scope) (by decide +kernel)) rfl (fun _ _ us hl => match us, hl with | [_], _ => rfl) (fun vs H Q E h => ?_) (fun A outer s H vs Q E hr h => ?_) hk hf hc h
  · obtain ⟨sl, xs, rfl, _⟩ := h
    rfl
  · obtain ⟨sl, xs, rfl, h1, h2, q⟩ := h
    refine ⟨_, pe_op op_cat (pv 0) (pe_lst (pa_cons pe_non pa_nil)), ?_⟩
    o_readsAll
    rename_i a na t nt
    exact q t _ (by kba_ints) (by kd_subs) (by kp_flats)
theorem act2 {f c : Addr} {xs : List V} {H : Hp} {Q : VK} (hk : 1 ≤ n) (hf : H f = some (Inf.LamO f (LW 1 c))) (hc : H c = some (LamX.CodeO c qR)) (h : sp2 xs H Q E0) : Act P w K mg base n (.ref f) xs H Q := by
  refine lam_act (F := LW 1 c) (k := 0) (N := ["_law_block", "_law_topic"]) (ps := ["_law_block", "_law_topic"]) (sp := sp2) (NdefX.nscope_by (sc := (LW 1 0).scope) (by decide +kernel)) rfl (fun _ _ us hl => match us, hl with | [_, _], _ => rfl) (fun vs H Q E h => ?_) (fun A outer s H vs Q E hr h => ?_) hk hf hc h
  · obtain ⟨sl, xs, rfl, _⟩ := h
    rfl
  · obtain ⟨b, xs, rfl, h1, h2, q⟩ := h
    refine ⟨_, pe_ifExp (pt_cmpR op_isN (pv 1) pe_non (nomark _)) (pe_slice sl_list (pv 0) po_none (po_some (pe_un un_neg pe_int))) (pv 1), ?_⟩
    o_readsAll
    rename_i t nt
    have e : cutV (xs ++ [V.non]) none (some (-1)) = xs := by
      unfold cutV
      have e1 : HT.sIx (xs ++ [V.non]).length 0 none = 0 := HT.sIx_none ..
      have e2 : HT.sIx (xs ++ [V.non]).length (xs ++ [V.non]).length (some (-1)) = xs.length := by
        rw [List.length_append]
        show HT.sIx (xs.length + 1) (xs.length + 1) (some (-1)) = xs.length
        show (if (-1 : Int) < 0 then ((-1 : Int) + ((xs.length + 1 : Nat) : Int)).toNat else min (-1 : Int).toNat (xs.length + 1)) = xs.length
        rw [if_pos (by decide)]
        omega
      rw [e1, e2, List.drop_zero, Nat.sub_zero]
      exact List.take_left' rfl
    rw [e]
    exact q t _ (by kba_ints) (by kd_subs) (by kp_flats)
theorem act3 {f c : Addr} {xs : List V} {H : Hp} {Q : VK} (hk : 1 ≤ n) (hf : H f = some (Inf.LamO f (LW 2 c))) (hc : H c = some (LamX.CodeO c qR)) (h : sp3 xs H Q E0) : Act P w K mg base n (.ref f) xs H Q := by
  refine lam_act (F := LW 2 c) (k := 0) (N := ["_law_one", "_law_other"]) (ps := ["_law_one", "_law_other"]) (sp := sp3) (NdefX.nscope_by (sc := (LW 2 0).scope) (by decide +kernel)) rfl (fun _ _ us hl => match us, hl with | [_, _], _ => rfl) (fun vs H Q E h => ?_) (fun A outer s H vs Q E hr h => ?_) hk hf hc h
  · obtain ⟨a, b, xs, ys, rfl, _⟩ := h
    rfl
  · obtain ⟨a, b, xs, ys, rfl, h1, h2, h3, q⟩ := h
    refine ⟨_, pe_op op_cat (pv 0) (pv 1), ?_⟩
    o_readsAll
    rename_i t nt
    exact q t _ (by kba_ints) (by kd_subs) (by kp_flats)
end
end Ob

set_option Elab.async false
set_option linter.all false
set_option maxRecDepth 100000
set_option maxHeartbeats 1000000
namespace Ob
open PySem PySem.Spec PyProof.Rows L2
open LamX (Tabs TabB TabS ExtN)

set_option hygiene false in
local macro_rules
  | `(tactic| kp_flats) => `(tactic| first
    | assumption
    | exact upd_same
    | (apply atNew; assumption; kp_flats)
    | (apply atNe; (next => kbo_bools); kp_flats)
    | (apply atSame; assumption; kp_flats)
    | (apply atKp; assumption; (next => kaf_pre); kp_flats))
set_option hygiene false in
local macro_rules
  | `(tactic| kaf_pre) => `(tactic| first
    | assumption
    | exact not_nil
    | (apply not_cons; (next => kbo_bools); kaf_pre)
    | (apply not_app; (next => kaf_pre); kaf_pre))
set_option hygiene false in
local macro_rules
  | `(tactic| kbo_bools) => `(tactic| first
    | assumption
    | (apply Ne.symm; assumption)
    | (apply neN; assumption; kp_flats)
    | (apply neN'; assumption; kp_flats))
set_option hygiene false in
local macro_rules
  | `(tactic| o_reads) => `(tactic| first
    | with_reducible rfl
    | assumption
    | rfl
    | kp_flats
    | (show SqL _ _ _ _; first | assumption | (apply sqlOf; kp_flats) | (apply sqlSame; assumption; o_reads))
    | (show SqT _ _ _ _; first | assumption | (apply sqtOf; kp_flats) | (apply sqtAll; assumption) | (apply sqtSame; assumption; o_reads))
    | (show Cls _ _; first | exact T.cl_Calls | exact T.cl_Asker | exact T.cl_Builder | exact T.cl_Blocks)
    | (show NoAttr _ _ _; first | exact T.n_Calls_entries | exact T.n_Calls_running | exact T.n_Asker_calls | exact T.n_Asker_ask_call | exact T.n_Asker_join_call | exact T.n_Asker_zero | exact T.n_Builder_calls | exact T.n_Builder_build_call | exact T.n_Blocks_calls | exact T.n_Blocks_builder | exact T.n_Blocks_asker | exact T.n_Blocks_held | exact T.n_Blocks_parts)
    | (apply Or.inl; o_reads)
    | (apply Or.inr; o_reads)
    | (apply And.intro; (next => o_reads); o_reads)
    | (apply Exists.intro; o_reads)
    | exact Nat.le_of_ble_eq_true rfl
    | exact Nat.succ_ne_zero _
    | (show Fr _ _; kba_ints)
    | (show Same _ _; kd_subs)
    | (show Kp _ _ _; kxs_still)
    | (show (_ : Nat) ≤ _; simp only [List.length_append, List.length_map, List.length_cons, List.length_nil, List.length_take, List.length_drop, List.length_replicate, List.length_range, sizeLine_eq]; omega)
    | (show _ = none; apply Fr.h; kba_ints)
    | (show Bag _ _; first | assumption | (apply bag_putF; assumption; o_reads) | (apply bag_neF; (next => kbo_bools); o_reads) | (apply bag_kpR; assumption; (next => kaf_pre); o_reads))
    | omega
    | decide)
local macro_rules
  | `(tactic| o_readsAll) => `(tactic| repeat (first
    | (refine fun (pNew : Addr) (nNew : _ = none) => ?_; replace nNew := Fr.mk nNew)
    | (refine fun (xNew dNew : Addr) (nNew : _ = none) (mNew : _ = none) (eNew : dNew ≠ xNew) => ?_; replace nNew := Fr.mk nNew; replace mNew := Fr.mk mNew)
    | (apply And.intro; next => o_reads)
    | apply Exists.intro (α := V)
    | apply Exists.intro (α := Addr)
    | apply Exists.intro (α := Int)
    | apply Exists.intro (α := Bool)
    | apply Exists.intro (α := List V)
    | apply Exists.intro (α := List Nat)
    | apply Exists.intro (α := List (Str × V))
    | apply Exists.intro (α := List _)
    | apply Exists.intro (α := Str)
    | apply Exists.intro (α := HO)
    | apply Exists.intro (α := Sp)
    | apply Exists.intro (α := VK)))
set_option hygiene false in
local macro_rules
  | `(tactic| kba_ints) => `(tactic| first
    | assumption
    | (apply frUp; (first | assumption | (apply Ne.symm; assumption)); kba_ints)
    | (apply noneOf; assumption; intro oF eF; apply Exists.intro; kp_flats)
    | (apply frUp; (next => kbo_bools); kba_ints))
set_option hygiene false in
local macro_rules
  | `(tactic| kxs_still) => `(tactic| first
    | assumption
    | exact kp_refl _ _
    | (apply kp_newF; assumption; kxs_still)
    | (apply kp_new; assumption; kxs_still)
    | (apply kp_up; (next => o_fieldsN); kxs_still)
    | (apply kp_new; (next => kba_ints); kxs_still)
    | (apply kp_sameR; assumption; kxs_still)
    | (apply kp_transR; assumption; kxs_still)
    | (apply kp_freshR; assumption; (next => kaf_suf); kxs_still))
set_option hygiene false in
local macro_rules
  | `(tactic| kaf_suf) => `(tactic| first
    | assumption
    | exact subNil
    | (apply subCons; (first | (apply Or.inl; o_fieldsN) | (apply Or.inr; kba_ints)); kaf_suf)
    | (apply subApp; (next => kaf_suf); kaf_suf))
set_option hygiene false in
local macro_rules
  | `(tactic| o_fieldsN) => `(tactic| first
    | assumption
    | exact memA
    | (apply memB; o_fieldsN)
    | (apply memL; o_fieldsN)
    | (apply memR; o_fieldsN))
set_option hygiene false in
local macro_rules
  | `(tactic| kd_subs) => `(tactic| first
    | assumption
    | exact Same.refl _
    | (apply same_putF; assumption; kd_subs)
    | (apply same_putG; assumption; kd_subs)
    | (apply same_putF; (next => kba_ints); kd_subs)
    | (apply same_transR; assumption; kd_subs))

section
variable {P : Program} {w : World} {K : PySem.W.Frag} {mg : Str → Option Value} {base : Heap} {n : Nat}
/-- the three lambdas stand -/
structure Lams (f1 c1 f2 c2 f3 c3 : Addr) (H : Hp) : Prop where
  f1 : H f1 = some (Inf.LamO f1 (LW 0 c1))
  c1 : H c1 = some (LamX.CodeO c1 qR)
  f2 : H f2 = some (Inf.LamO f2 (LW 1 c2))
  c2 : H c2 = some (LamX.CodeO c2 qR)
  f3 : H f3 = some (Inf.LamO f3 (LW 2 c3))
  c3 : H c3 = some (LamX.CodeO c3 qR)
theorem Lams.kp {f1 c1 f2 c2 f3 c3 : Addr} {cs : List Addr} {H H1 : Hp} (h : Lams f1 c1 f2 c2 f3 c3 H) (k : Kp cs H H1) (n : ∀ a ∈ [f1, c1, f2, c2, f3, c3], a ∉ cs) : Lams f1 c1 f2 c2 f3 c3 H1 :=
  ⟨k.at_ _ _ h.f1 (n _ (by o_fieldsN)), k.at_ _ _ h.c1 (n _ (by o_fieldsN)), k.at_ _ _ h.f2 (n _ (by o_fieldsN)), k.at_ _ _ h.c2 (n _ (by o_fieldsN)), k.at_ _ _ h.f3 (n _ (by o_fieldsN)), k.at_ _ _ h.c3 (n _ (by o_fieldsN))⟩
/-- what changes besides stands as in S -/
def Snap (S : Hp) (mv : List Addr) (H : Hp) : Prop := ∀ a ∈ mv, ∃ o, S a = some o ∧ H a = some o ∧ ∀ xs, o ≠ .tup xs
theorem Snap.kp {S : Hp} {mv cs : List Addr} {H H1 : Hp} (h : Snap S mv H) (k : Kp cs H H1) (n : ∀ a ∈ mv, a ∉ cs) : Snap S mv H1 := fun a m => by
  obtain ⟨o, e1, e2, e3⟩ := h a m
  exact ⟨o, e1, k.at_ _ _ e2 (n a m), e3⟩
theorem Snap.nt {S : Hp} {mv : List Addr} {H : Hp} (h : Snap S mv H) : NTup H mv := fun a m => by
  obtain ⟨o, _, e2, e3⟩ := h a m
  exact ⟨o, e2, e3⟩
def BlkL (cs : List Addr) (xs : List V) (v : V) (H : Hp) : Prop := ∃ t, v = .ref t ∧ t ∉ cs ∧ H t = some (.lst (xs ++ [.non])) ∧ xs.length ≤ 1000
def AnsL (cs : List Addr) (_q : V) (xs : List V) (v : V) (H : Hp) : Prop := ∃ t, v = .ref t ∧ t ∉ cs ∧ H t = some (.lst xs)
theorem us8 {own mv : List Addr} {f1 c1 f2 c2 f3 c3 : Addr} {S : Hp} (hn : 1 ≤ n) (d1 : ∀ a ∈ [f1, c1, f2, c2, f3, c3], a ∉ own) (d3 : ∀ a ∈ mv, a ∉ own) :
    US P w K mg base n own mv (.ref f1) (.ref f2) (.ref f3) (fun _ H => Lams f1 c1 f2 c2 f3 c3 H ∧ Snap S mv H) (fun _ _ => True) (BlkL (own ++ mv)) (fun q _ => q = .non) (AnsL (own ++ mv)) where
  uk := fun h k => ⟨h.1.kp k d1, h.2.kp k d3⟩
  mk' := fun _ _ => trivial
  bk := fun ⟨t, e, n, h, l⟩ k => ⟨t, e, n, k.at_ _ _ h n, l⟩
  qk := fun e _ => e
  ak := fun ⟨t, e, n, h⟩ k => ⟨t, e, n, k.at_ _ _ h n⟩
  hb := fun {u H sl xs ns} h _ tr _ lx _ hs _ => act1 hn h.1.f1 h.1.c1 ⟨sl, xs, rfl, hs, by omega, fun t H' ft s e => ⟨kp_same s, fun a m => (h.2.nt a m).imp fun _ z => ⟨s _ _ z.1, z.2⟩, ⟨t, rfl, trk_fr tr ft, e, lx⟩, h.1.kp (kp_same (cs := []) s) (fun _ _ => not_nil), h.2.kp (kp_same (cs := []) s) (fun _ _ => not_nil)⟩⟩
  ha := fun {u H xs blk qn ns} h _ tr hq hb => by
    obtain ⟨b, rfl, nb, eb, lx⟩ := hb
    rw [hq]
    exact act2 hn h.1.f2 h.1.c2 ⟨b, xs, rfl, eb, by omega, fun t H' ft s e => ⟨kp_same s, fun a m => (h.2.nt a m).imp fun _ z => ⟨s _ _ z.1, z.2⟩, ⟨t, rfl, trk_fr tr ft, e⟩, h.1.kp (kp_same (cs := []) s) (fun _ _ => not_nil), h.2.kp (kp_same (cs := []) s) (fun _ _ => not_nil)⟩⟩
  hj := fun {u H xs ys a b qn m k} h _ tr _ ha hb _ _ e1 e2 lm => by
    obtain ⟨t1, rfl, n1, h1⟩ := ha
    obtain ⟨t2, rfl, n2, h2⟩ := hb
    exact act3 hn h.1.f3 h.1.c3 ⟨t1, t2, xs, ys, rfl, h1, h2, by omega, fun t H' ft s e => ⟨kp_same s, fun a m => (h.2.nt a m).imp fun _ z => ⟨s _ _ z.1, z.2⟩, ⟨t, rfl, trk_fr tr ft, e⟩, h.1.kp (kp_same (cs := []) s) (fun _ _ => not_nil), h.2.kp (kp_same (cs := []) s) (fun _ _ => not_nil)⟩⟩
/-- one more thing that changes: it is new -/
theorem Coll.more {CB CC CU CA b c l o : Addr} {mv : List Addr} {fb fa fj z : V} {Mem Mem' : V → Hp → Prop} {Blk Blk' : List V → V → Hp → Prop} {ms : List V} {es : List Ent} {H H' : Hp} (h : Coll CB CC CU CA b c l mv fb fa fj z Mem Blk ms es H) (k1 : Kp mv H H') (t : NTup H' (o :: mv)) (fo : Fr H o)
    (hB : ∀ xs v, Blk xs v H → Blk' xs v H') (hM : ∀ x, Mem x H → Mem' x H') : Coll CB CC CU CA b c l (o :: mv) fb fa fj z Mem' Blk' ms es H' := by
  obtain ⟨⟨dx, cdx, bu, bdx, k, kdx, hh, p, ps, ls, hb, hc, hl, hlog, hbu, hk, hh', hp, hps, hns, d1, d2, d3, d4, dd⟩, hm, hnt, ⟨o1, o2, o3, o4⟩⟩ := h
  have k2 : Kp ([b, c, l] ++ mv) H H' := kp_more k1 fun _ m => memR m
  have hb' := k1.at_ _ _ hb o1
  have hc' := k1.at_ _ _ hc o2
  have hl' := k1.at_ _ _ hl o3
  have ne : ∀ {a : Addr} {u : HO}, H a = some u → a ∉ mv → a ∉ o :: mv := fun e m => not_cons (ne_of_none e fo.h) m
  exact ⟨⟨dx, cdx, bu, bdx, k, kdx, hh, p, ps, ls, hb', hc', hl', hlog.kp k2 hnt, k1.at_ _ _ hbu d1, k1.at_ _ _ hk d2, k1.at_ _ _ hh' d3, k1.at_ _ _ hp d4, fun x hx => ⟨(hps x hx).1.kp k2 hnt, hB _ _ (hps x hx).2⟩, hns, ne hbu d1, ne hk d2, ne hh' d3, ne hp d4, dd⟩,
    fun x hx => hM _ (hm x hx), ntup_app (ntup_cons hb' (fun _ z => nomatch z) (ntup_cons hc' (fun _ z => nomatch z) (ntup_cons hl' (fun _ z => nomatch z) ntup_nil))) t, ne hb o1, ne hc o2, ne hl o3, o4⟩
/-- a question to no members -/
def spQ0 (CB CC CU CA : Addr) : Sp := fun vs H Q _ => ∃ (b c l : Addr) (mv : List Addr) (fb fa fj z : V) (Mem : V → Hp → Prop) (Blk : List V → V → Hp → Prop) (es : List Ent) (qn : V), vs = [.ref b, qn] ∧ Coll CB CC CU CA b c l mv fb fa fj z Mem Blk [] es H ∧ Q z H
theorem ok_q0 (T : Txt K mg) : FnOk P w K mg base CX0 (n + 3) T.f_Blocks_query T.d_Blocks_query ["self", "question"] (spQ0 T.C_Blocks T.C_Calls T.C_Builder T.C_Asker) := by
  have G_Calls_check := ok_chk (P := P) (w := w) (base := base) T
  have G_Asker_answer := ok_ans (P := P) (w := w) (base := base) (n := n) T
  refine T.F_Blocks_query.ok sc_Blocks_query (fun vs H Q E h => ?_) (fun cdv A outer s H vs Q E hr h => ?_)
  · obtain ⟨b, c, l, mv, fb, fa, fj, z, Mem, Blk, es, qn, rfl, _⟩ := h
    rfl
  · obtain ⟨b, c, l, mv, fb, fa, fj, z, Mem, Blk, es, qn, rfl, ⟨⟨dx, cdx, bu, bdx, k, kdx, hh, p, ps, ls, hb, hc, hl, hlog, hbu, hk, hh', hp, hps, hns, _⟩, _⟩, q⟩ := h
    refine ⟨_, (pss_cons (ps_expr (pe_meth0 (pe_fld (pv 0) rfl) T.cl_Calls ⟨T.m_Calls_check, T.t_Calls_check, T.k_Calls_check⟩ G_Calls_check (hr.mono (by omega)) T.b_Calls_check .nil pass0))
      (pss_one (ps_ret (pe_meth (pe_fld (pv 0) rfl) T.cl_Asker ⟨T.m_Asker_answer, T.t_Asker_answer, T.k_Asker_answer⟩ G_Asker_answer (hr.mono (by omega)) T.bd_Asker_answer T.vd_Asker_answer pass0 (pa_cons (pe_fld (pv 0) rfl) (pa_cons (pv 1) pa_nil)))))), ?_⟩
    have hS := T.S_Asker_answer
    have e0 : ps = [] := by
      have : bns 0 = [] := by
        unfold bns
        rw [bl_zero]
        rfl
      exact List.map_eq_nil_iff.mp (hns.trans this)
    subst e0
    o_readsAll
    refine ⟨fun i v H' => v = z ∧ H' = H, rfl, hS, by decide, hk, ⟨rfl, rfl⟩, ?_, ?_, ?_⟩
    · rintro i v H' _ ⟨e1, rfl⟩
      exact ⟨hk, hc, hp⟩
    · intro i v H' x hx
      cases hx
    · rintro v H' ⟨rfl, rfl⟩
      exact q
end
end Ob

set_option Elab.async false
set_option linter.all false
set_option maxRecDepth 100000
set_option maxHeartbeats 1000000
namespace Ob
open PySem PySem.Spec PyProof.Rows L2
open LamX (Tabs TabB TabS ExtN)

/-! ### == and != of lists that hold the very same objects -/
def NoTok (v : V) : Prop := v = .non ∨ ∃ a, v = .ref a
theorem noTok_val {v : V} {u u' : Value} (h : NoTok v) (r : RelV v u) (r' : RelV v u') : u = u' := by
  rcases h with rfl | ⟨a, rfl⟩
  · exact (show u = Value.none from r).trans (show u' = Value.none from r').symm
  · exact (show u = Value.ref a from r).trans (show u' = Value.ref a from r').symm
theorem noTok_all : ∀ {xs : List V} {us us' : List Value}, (∀ x ∈ xs, NoTok x) → Vals xs us → Vals xs us' → us = us'
  | [], _, _, _, r, r' => by
    cases r
    cases r'
    rfl
  | x :: xs, _, _, h, r, r' => by
    cases r with
    | cons r1 r2 =>
      cases r' with
      | cons q1 q2 => rw [noTok_val (h x (List.mem_cons_self ..)) r1 q1, noTok_all (fun y hy => h y (List.mem_cons_of_mem _ hy)) r2 q2]
/-- both lists hold the objects xs -/
def rSame (K : PySem.W.Frag) (b : Bool) : R2 := fun x y H Q => ∃ (p q : Addr) (xs : List V), x = .ref p ∧ y = .ref q ∧ SqL K H p xs ∧ SqL K H q xs ∧ (∀ v ∈ xs, NoTok v) ∧ Q (.bl b) H
theorem all_yes (n : Nat) : (List.range n).all (fun _ => true) = true := List.all_eq_true.mpr fun _ _ => rfl
section
variable {X : Cx} {pins : List (Addr × Obj)} {σ : L2.St} {H : Hp} {s : Shared} {p q : Addr} {xs : List V}
theorem same_lists (I : Inv X pins σ H s) (hp : SqL X.K H p xs) (hq : SqL X.K H q xs) (hn : ∀ v ∈ xs, NoTok v) : ∃ its : Array Value, s.heap.IsList p its ∧ s.heap.IsList q its := by
  obtain ⟨its, rv, ⟨o, n, h1, h2, _, h3⟩, _⟩ := I.list hp
  obtain ⟨its', rv', ⟨o', n', h1', h2', _, h3'⟩, _⟩ := I.list hq
  obtain rfl := noTok_all hn rv rv'
  exact ⟨its.toArray, ⟨o, h1, h2, n, h3⟩, ⟨o', h1', h2', n', h3'⟩⟩
end
theorem op_eqS {X : Cx} (hu : X.A.units + 64 < cLine) : OpR X (compareOp .Eq) (rSame X.K true) := by
  intro pins s σ H x y v u Q I rx ry h
  obtain ⟨p, q, xs, rfl, rfl, hp, hq, hn, k⟩ := h
  obtain rfl : v = Value.ref p := rx
  obtain rfl : u = Value.ref q := ry
  obtain ⟨its, h1, h2⟩ := same_lists I hp hq hn
  have z := SeqAt.RcAt.lists (A := X.A) (e := fun _ => true) h1 h2 rfl (by omega) (fun j j1 j2 => SeqAt.EqAt.same _)
  rw [all_yes] at z
  exact z _ _ _ _ ⟨.bl true, H, I, rfl, k⟩
theorem op_neS {X : Cx} (hu : X.A.units + 64 < cLine) : OpR X (compareOp .NotEq) (rSame X.K false) := by
  intro pins s σ H x y v u Q I rx ry h
  obtain ⟨p, q, xs, rfl, rfl, hp, hq, hn, k⟩ := h
  obtain rfl : v = Value.ref p := rx
  obtain rfl : u = Value.ref q := ry
  obtain ⟨its, h1, h2⟩ := same_lists I hp hq hn
  have z := SeqAt.RcNeAt.lists (A := X.A) (e := fun _ => true) h1 h2 rfl (by omega) (fun j j1 j2 => SeqAt.EqAt.same _)
  rw [all_yes] at z
  exact z _ _ _ _ ⟨.bl false, H, I, rfl, k⟩
/-- a list against the empty one -/
def rNeNil (K : PySem.W.Frag) : R2 := fun x y H Q => ∃ (p q : Addr) (xs : List V), x = .ref p ∧ y = .ref q ∧ SqL K H p xs ∧ SqL K H q [] ∧ Q (.bl (!xs.isEmpty)) H
theorem is_list {X : Cx} {pins : List (Addr × Obj)} {σ : L2.St} {H : Hp} {s : Shared} {p : Addr} {xs : List V} (I : Inv X pins σ H s) (hp : SqL X.K H p xs) : ∃ its : Array Value, its.size = xs.length ∧ s.heap.IsList p its := by
  obtain ⟨its, rv, ⟨o, n, h1, h2, _, h3⟩, _⟩ := I.list hp
  exact ⟨its.toArray, by rw [List.size_toArray, rv.length], ⟨o, h1, h2, n, h3⟩⟩
theorem op_neNil {X : Cx} (hu : X.A.units + 64 < cLine) : OpR X (compareOp .NotEq) (rNeNil X.K) := by
  intro pins s σ H x y v u Q I rx ry h
  obtain ⟨p, q, xs, rfl, rfl, hp, hq, k⟩ := h
  cases xs with
  | nil => exact op_neS hu pins s σ H _ _ v u Q I rx ry ⟨p, q, [], rfl, rfl, hp, hq, (fun _ z => nomatch z), k⟩
  | cons a l =>
    obtain rfl : v = Value.ref p := rx
    obtain rfl : u = Value.ref q := ry
    obtain ⟨i1, e1, h1⟩ := is_list I hp
    obtain ⟨i2, e2, h2⟩ := is_list I hq
    have z := SeqAt.RcNeAt.lists_lengths (A := X.A) h1 h2 (by rw [e1, e2]; rfl) (by omega)
    exact z _ _ _ _ ⟨.bl true, H, I, rfl, k⟩

end Ob

set_option Elab.async false
set_option linter.all false
set_option maxRecDepth 100000
set_option maxHeartbeats 1000000
namespace Ob
open PySem PySem.Spec PyProof.Rows L2
open LamX (Tabs TabB TabS ExtN)

set_option hygiene false in
local macro_rules
  | `(tactic| kp_flats) => `(tactic| first
    | assumption
    | exact upd_same
    | (apply atNew; assumption; kp_flats)
    | (apply atNe; (next => kbo_bools); kp_flats)
    | (apply atSame; assumption; kp_flats)
    | (apply atKp; assumption; (next => kaf_pre); kp_flats))
set_option hygiene false in
local macro_rules
  | `(tactic| kaf_pre) => `(tactic| first
    | assumption
    | exact not_nil
    | (apply not_cons; (next => kbo_bools); kaf_pre)
    | (apply not_app; (next => kaf_pre); kaf_pre))
set_option hygiene false in
local macro_rules
  | `(tactic| kbo_bools) => `(tactic| first
    | assumption
    | (apply Ne.symm; assumption)
    | (apply neN; assumption; kp_flats)
    | (apply neN'; assumption; kp_flats))
set_option hygiene false in
local macro_rules
  | `(tactic| o_reads) => `(tactic| first
    | with_reducible rfl
    | assumption
    | rfl
    | kp_flats
    | (show SqL _ _ _ _; first | assumption | (apply sqlOf; kp_flats) | (apply sqlSame; assumption; o_reads))
    | (show SqT _ _ _ _; first | assumption | (apply sqtOf; kp_flats) | (apply sqtAll; assumption) | (apply sqtSame; assumption; o_reads))
    | (show Cls _ _; first | exact T.cl_Calls | exact T.cl_Asker | exact T.cl_Builder | exact T.cl_Blocks)
    | (show NoAttr _ _ _; first | exact T.n_Calls_entries | exact T.n_Calls_running | exact T.n_Asker_calls | exact T.n_Asker_ask_call | exact T.n_Asker_join_call | exact T.n_Asker_zero | exact T.n_Builder_calls | exact T.n_Builder_build_call | exact T.n_Blocks_calls | exact T.n_Blocks_builder | exact T.n_Blocks_asker | exact T.n_Blocks_held | exact T.n_Blocks_parts)
    | (apply Or.inl; o_reads)
    | (apply Or.inr; o_reads)
    | (apply And.intro; (next => o_reads); o_reads)
    | (apply Exists.intro; o_reads)
    | exact Nat.le_of_ble_eq_true rfl
    | exact Nat.succ_ne_zero _
    | (show Fr _ _; kba_ints)
    | (show Same _ _; kd_subs)
    | (show Kp _ _ _; kxs_still)
    | (show (_ : Nat) ≤ _; simp only [List.length_append, List.length_map, List.length_cons, List.length_nil, List.length_take, List.length_drop, List.length_replicate, List.length_range, sizeLine_eq]; omega)
    | (show _ = none; apply Fr.h; kba_ints)
    | (show Bag _ _; first | assumption | (apply bag_putF; assumption; o_reads) | (apply bag_neF; (next => kbo_bools); o_reads) | (apply bag_kpR; assumption; (next => kaf_pre); o_reads))
    | omega
    | decide)
local macro_rules
  | `(tactic| o_readsAll) => `(tactic| repeat (first
    | (refine fun (pNew : Addr) (nNew : _ = none) => ?_; replace nNew := Fr.mk nNew)
    | (refine fun (xNew dNew : Addr) (nNew : _ = none) (mNew : _ = none) (eNew : dNew ≠ xNew) => ?_; replace nNew := Fr.mk nNew; replace mNew := Fr.mk mNew)
    | (apply And.intro; next => o_reads)
    | apply Exists.intro (α := V)
    | apply Exists.intro (α := Addr)
    | apply Exists.intro (α := Int)
    | apply Exists.intro (α := Bool)
    | apply Exists.intro (α := List V)
    | apply Exists.intro (α := List Nat)
    | apply Exists.intro (α := List (Str × V))
    | apply Exists.intro (α := List _)
    | apply Exists.intro (α := Str)
    | apply Exists.intro (α := HO)
    | apply Exists.intro (α := Sp)
    | apply Exists.intro (α := VK)))
set_option hygiene false in
local macro_rules
  | `(tactic| kba_ints) => `(tactic| first
    | assumption
    | (apply frUp; (first | assumption | (apply Ne.symm; assumption)); kba_ints)
    | (apply noneOf; assumption; intro oF eF; apply Exists.intro; kp_flats)
    | (apply frUp; (next => kbo_bools); kba_ints))
set_option hygiene false in
local macro_rules
  | `(tactic| kxs_still) => `(tactic| first
    | assumption
    | exact kp_refl _ _
    | (apply kp_newF; assumption; kxs_still)
    | (apply kp_new; assumption; kxs_still)
    | (apply kp_up; (next => o_fieldsN); kxs_still)
    | (apply kp_new; (next => kba_ints); kxs_still)
    | (apply kp_sameR; assumption; kxs_still)
    | (apply kp_transR; assumption; kxs_still)
    | (apply kp_freshR; assumption; (next => kaf_suf); kxs_still))
set_option hygiene false in
local macro_rules
  | `(tactic| kaf_suf) => `(tactic| first
    | assumption
    | exact subNil
    | (apply subCons; (first | (apply Or.inl; o_fieldsN) | (apply Or.inr; kba_ints)); kaf_suf)
    | (apply subApp; (next => kaf_suf); kaf_suf))
set_option hygiene false in
local macro_rules
  | `(tactic| o_fieldsN) => `(tactic| first
    | assumption
    | exact memA
    | (apply memB; o_fieldsN)
    | (apply memL; o_fieldsN)
    | (apply memR; o_fieldsN))
set_option hygiene false in
local macro_rules
  | `(tactic| kd_subs) => `(tactic| first
    | assumption
    | exact Same.refl _
    | (apply same_putF; assumption; kd_subs)
    | (apply same_putG; assumption; kd_subs)
    | (apply same_putF; (next => kba_ints); kd_subs)
    | (apply same_transR; assumption; kd_subs))

section
variable {P : Program} {w : World} {K : PySem.W.Frag} {mg : Str → Option Value} {base : Heap}
def IsExt (o : HO) : Prop := ∃ φ, o = .ext φ
theorem ext_not {fs cs : List Addr} {H : Hp} (e : ∀ a ∈ fs, ∃ φ, H a = some (.ext φ)) (n : ∀ b ∈ cs, ∃ o, H b = some o ∧ ∀ φ, o ≠ .ext φ) : ∀ a ∈ fs, a ∉ cs := fun a m z => by
  obtain ⟨φ, h1⟩ := e a m
  obtain ⟨o, h2, h3⟩ := n a z
  rw [h1] at h2
  exact h3 φ (Option.some.inj h2).symm
theorem Lams.ext {f1 c1 f2 c2 f3 c3 : Addr} {H : Hp} (h : Lams f1 c1 f2 c2 f3 c3 H) : ∀ a ∈ [f1, c1, f2, c2, f3, c3], ∃ φ, H a = some (.ext φ) :=
  subCons ⟨_, h.f1⟩ (subCons ⟨_, h.c1⟩ (subCons ⟨_, h.f2⟩ (subCons ⟨_, h.c2⟩ (subCons ⟨_, h.f3⟩ (subCons ⟨_, h.c3⟩ subNil)))))
def d7 : PyData := .list [.int 7]
theorem dp7 {K : PySem.W.Frag} {H : Hp} {a : Addr} (h : H a = some (.lst [.int 7])) : Dp K H (.ref a) d7 := .lst (sqlOf h) (.cons (.int 7) .nil)
theorem ifNE {A B : Prop} (h : B) : if (!PyData.eqv d7 d7) = true then A else B := by
  rw [if_neg (by decide +kernel)]
  exact h
structure RI (T : Txt K mg) (b z sn xb c l f1 c1 f2 c2 f3 c3 : Addr) (H0 : Hp) (ms : List V) (mv : List Addr) (es : List Ent) (H : Hp) : Prop where
  ok : ∀ v ∈ ms, NoTok v
  bag : Bag H b
  seen : H sn = some (.lst ms)
  coll : Coll T.C_Blocks T.C_Calls T.C_Builder T.C_Asker xb c l mv (.ref f1) (.ref f2) (.ref f3) (.ref z) (fun _ _ => True) (BlkL ([xb, c, l] ++ mv)) ms es H
  sub : ∀ a ∈ [b, sn, z, T.p_l_thing, T.p_l_right], a ∈ mv
  lams : Lams f1 c1 f2 c2 f3 c3 H
  tabs : Tabs (TT T) H
  kp : Kp [b, z, T.p_l_thing, T.p_l_right] H0 H
  fr : ∀ a ∈ [xb, c, l], Fr H0 a
  nb : sn ∉ [b, T.p_l_thing, T.p_l_right]
  fs : Fr H0 sn
theorem coll_dj {CB CC CU CA b c l : Addr} {mv : List Addr} {fb fa fj z : V} {Mem : V → Hp → Prop} {Blk : List V → V → Hp → Prop} {ms : List V} {es : List Ent} {H : Hp} (h : Coll CB CC CU CA b c l mv fb fa fj z Mem Blk ms es H) : ∀ a ∈ mv, a ∉ [b, c, l] := fun a m w => by
  obtain ⟨o1, o2, o3, _⟩ := h.own
  rcases List.mem_cons.mp w with rfl | w
  · exact o1 m
  rcases List.mem_cons.mp w with rfl | w
  · exact o2 m
  rw [List.mem_singleton.mp w] at m
  exact o3 m
theorem snap_of {S : Hp} {mv : List Addr} (n : NTup S mv) : Snap S mv S := fun a m => by
  obtain ⟨o, e, k⟩ := n a m
  exact ⟨o, e, e, k⟩
theorem coll_own {CB CC CU CA b c l : Addr} {mv : List Addr} {fb fa fj z : V} {Mem : V → Hp → Prop} {Blk : List V → V → Hp → Prop} {ms : List V} {es : List Ent} {H : Hp} (h : Coll CB CC CU CA b c l mv fb fa fj z Mem Blk ms es H) :
    ∀ a ∈ [b, c, l], ∃ o, H a = some o ∧ (∀ ps, o ≠ .tbl ps) ∧ ∀ φ, o ≠ .ext φ := by
  obtain ⟨⟨dx, cdx, bu, bdx, k, kdx, hh, p, ps, ls, hb, hc, hl, _⟩, _⟩ := h
  exact subCons ⟨_, hb, (fun _ z => nomatch z), fun _ z => nomatch z⟩ (subCons ⟨_, hc, (fun _ z => nomatch z), fun _ z => nomatch z⟩ (subCons ⟨_, hl, (fun _ z => nomatch z), fun _ z => nomatch z⟩ subNil))
theorem kp_snap {own mv : List Addr} {H2 H3 : Hp} (k : Kp (own ++ mv) H2 H3) (s : Snap H2 mv H3) : Kp own H2 H3 := ⟨fun a o e n => by
  by_cases m : a ∈ mv
  · obtain ⟨u, e1, e2, _⟩ := s a m
    rw [e] at e1
    cases e1
    exact e2
  · exact k.at_ _ _ e (not_app n m)⟩
variable {T : Txt K mg} {b z sn xb c l f1 c1 f2 c2 f3 c3 : Addr} {H0 H' H1 : Hp} {ms : List V} {mv mv' : List Addr} {es : List Ent} {v : V}
theorem us_own (ri : RI T b z sn xb c l f1 c1 f2 c2 f3 c3 H0 ms mv es H') : ∀ a ∈ [f1, c1, f2, c2, f3, c3], a ∉ [xb, c, l] :=
  ext_not ri.lams.ext fun a m => (coll_own ri.coll a m).imp fun _ y => ⟨y.1, y.2.2⟩
/-- the thing is seen, and what it has that changes is known -/
theorem ri_pre (P : Program) (w : World) (base : Heap) (ri : RI T b z sn xb c l f1 c1 f2 c2 f3 c3 H0 ms mv es H') (k1 : Kp [b, T.p_l_thing, T.p_l_right] H' H1) (b1 : Bag H1 b) (t1 : Tabs (TT T) H1) (hm : mv' = mv ∨ ∃ o u, mv' = o :: mv ∧ Fr H' o ∧ H1 o = some u ∧ ∀ xs, u ≠ .tup xs) (n1 : NTup H1 mv) :
    Coll T.C_Blocks T.C_Calls T.C_Builder T.C_Asker xb c l mv' (.ref f1) (.ref f2) (.ref f3) (.ref z) (fun _ _ => True) (BlkL ([xb, c, l] ++ mv')) ms es (upd H1 sn (.lst (ms ++ [v]))) ∧ NTup (upd H1 sn (.lst (ms ++ [v]))) mv' ∧ Lams f1 c1 f2 c2 f3 c3 (upd H1 sn (.lst (ms ++ [v]))) ∧ Tabs (TT T) (upd H1 sn (.lst (ms ++ [v]))) ∧
      (∀ a ∈ mv', a ∉ [xb, c, l]) ∧ (∀ a ∈ [b, sn, z, T.p_l_thing, T.p_l_right], a ∈ mv') := by
  have hsn : H1 sn = some (.lst ms) := k1.at_ _ _ ri.seen ri.nb
  have ksn : Kp [sn] H1 (upd H1 sn (.lst (ms ++ [v]))) := by kxs_still
  have kmv : Kp mv H' (upd H1 sn (.lst (ms ++ [v]))) := kp_up (ri.sub _ (by o_fieldsN)) (kp_more k1 (subCons (ri.sub _ (by o_fieldsN)) (subCons (ri.sub _ (by o_fieldsN)) (subCons (ri.sub _ (by o_fieldsN)) subNil))))
  have nt : NTup (upd H1 sn (.lst (ms ++ [v]))) mv := fun a m => by
    by_cases e : a = sn
    · exact ⟨.lst (ms ++ [v]), by rw [e]; exact upd_same, fun _ z => nomatch z⟩
    · obtain ⟨o, e1, e2⟩ := n1 a m
      exact ⟨o, (upd_ne e).trans e1, e2⟩
  have lam : Lams f1 c1 f2 c2 f3 c3 (upd H1 sn (.lst (ms ++ [v]))) := by
    obtain ⟨g, m, q, eb, _⟩ := ri.bag
    obtain ⟨p1, e1, _⟩ := ri.tabs _ (hm_l_thing T)
    obtain ⟨p2, e2, _⟩ := ri.tabs _ (hm_l_right T)
    refine (ri.lams.kp k1 (ext_not ri.lams.ext (subCons ⟨_, eb, fun _ z => nomatch z⟩ (subCons ⟨_, e1, fun _ z => nomatch z⟩ (subCons ⟨_, e2, fun _ z => nomatch z⟩ subNil))))).kp ksn (ext_not ?_ (subCons ⟨_, hsn, fun _ z => nomatch z⟩ subNil))
    exact (ri.lams.kp k1 (ext_not ri.lams.ext (subCons ⟨_, eb, fun _ z => nomatch z⟩ (subCons ⟨_, e1, fun _ z => nomatch z⟩ (subCons ⟨_, e2, fun _ z => nomatch z⟩ subNil))))).ext
  have tab : Tabs (TT T) (upd H1 sn (.lst (ms ++ [v]))) := tabs_kp t1 ksn (subCons ⟨_, hsn, (fun _ z => nomatch z), fun _ z => nomatch z⟩ subNil)
  have U := us8 (P := P) (w := w) (K := K) (mg := mg) (base := base) (n := 1) (own := [xb, c, l]) (mv := mv) (S := H') (Nat.le_refl 1) (us_own ri) (coll_dj ri.coll)
  rcases hm with rfl | ⟨o, u, rfl, fo, eo, ho⟩
  · have cc := ri.coll.kp U kmv nt
    exact ⟨cc, nt, lam, tab, coll_dj cc, ri.sub⟩
  · have no : o ≠ sn := fun z => by
      have := fo.h
      rw [z, ri.seen] at this
      cases this
    have nt' : NTup (upd H1 sn (.lst (ms ++ [v]))) (o :: mv) := ntup_cons ((upd_ne no).trans eo) ho nt
    have cc := ri.coll.more (Mem' := fun _ _ => True) (Blk' := BlkL ([xb, c, l] ++ (o :: mv))) kmv nt' fo (fun xs v ⟨t, e1, e2, e3, e4⟩ => by
      have ht : t ∉ mv := fun m => e2 (memR m)
      refine ⟨t, e1, not_app (fun m => e2 (memL m)) (not_cons (ne_of_none e3 fo.h) ht), kmv.at_ _ _ e3 ht, e4⟩) (fun _ _ => trivial)
    exact ⟨cc, nt', lam, tab, coll_dj cc, fun a m => memB (ri.sub a m)⟩
/-- it is added -/
theorem ri_post {H2 H3 : Hp} {bs : List Ent} {b5 : Bag H2 b} (ri : RI T b z sn xb c l f1 c1 f2 c2 f3 c3 H0 ms mv es H') (hk : Kp [b, z, T.p_l_thing, T.p_l_right] H0 H2) (hs : H2 sn = some (.lst (ms ++ [v]))) (ht : Tabs (TT T) H2) (hv : NoTok v) (hd : ∀ a ∈ mv', a ∉ [xb, c, l]) (hu : ∀ a ∈ [b, sn, z, T.p_l_thing, T.p_l_right], a ∈ mv') (hc : ∀ a ∈ [xb, c, l], ∃ o, H2 a = some o ∧ (∀ ps, o ≠ .tbl ps) ∧ ∀ φ, o ≠ .ext φ)
    (kq : Kp [xb, c, l] H2 H3) (cc : Coll T.C_Blocks T.C_Calls T.C_Builder T.C_Asker xb c l mv' (.ref f1) (.ref f2) (.ref f3) (.ref z) (fun _ _ => True) (BlkL ([xb, c, l] ++ mv')) (ms ++ [v]) (es ++ bs) H3) (lm : Lams f1 c1 f2 c2 f3 c3 H3) :
    RI T b z sn xb c l f1 c1 f2 c2 f3 c3 H0 (ms ++ [v]) mv' (es ++ bs) H3 where
  ok := fun x m => (List.mem_append.mp m).elim (ri.ok x) fun m => by rw [List.mem_singleton.mp m]; exact hv
  bag := bag_kpR kq (hd _ (hu _ (by o_fieldsN))) b5
  seen := kq.at_ _ _ hs (hd _ (hu _ (by o_fieldsN)))
  coll := cc
  sub := hu
  lams := lm
  tabs := tabs_kp ht kq hc
  kp := kp_fresh hk kq fun x m => .inr (ri.fr x m)
  fr := ri.fr
  nb := ri.nb
  fs := ri.fs
/-- what is the law's own changes: a thing of mv -/
theorem RI.put (P : Program) (w : World) (base : Heap) {o : Addr} {u u' : HO} (ri : RI T b z sn xb c l f1 c1 f2 c2 f3 c3 H0 ms mv es H') (ho : o ∈ mv) (e : H' o = some u) (e1 : ∀ ps, u ≠ .tbl ps) (e2 : ∀ φ, u ≠ .ext φ) (e3 : ∀ xs, u' ≠ .tup xs) (nb : b ≠ o) (ns : sn ≠ o) (fo : Fr H0 o) : RI T b z sn xb c l f1 c1 f2 c2 f3 c3 H0 ms mv es (upd H' o u') := by
  have ko : Kp [o] H' (upd H' o u') := by kxs_still
  have U := us8 (P := P) (w := w) (K := K) (mg := mg) (base := base) (n := 1) (own := [xb, c, l]) (mv := mv) (S := H') (Nat.le_refl 1) (us_own ri) (coll_dj ri.coll)
  refine ⟨ri.ok, bag_kpR ko (not_cons nb not_nil) ri.bag, (upd_ne ns).trans ri.seen, ri.coll.kp U (kp_up ho (kp_refl _ _)) (fun a m => ?_), ri.sub, ri.lams.kp ko (ext_not ri.lams.ext (subCons ⟨_, e, e2⟩ subNil)), tabs_kp ri.tabs ko (subCons ⟨_, e, e1, e2⟩ subNil), kp_fresh ri.kp ko (subCons (.inr fo) subNil), ri.fr, ri.nb, ri.fs⟩
  by_cases q : a = o
  · exact ⟨u', by rw [q]; exact upd_same, e3⟩
  · obtain ⟨w, h1, h2⟩ := ri.coll.nt a (memR m)
    exact ⟨w, (upd_ne q).trans h1, h2⟩
end
end Ob

set_option Elab.async false
set_option linter.all false
set_option maxRecDepth 100000
set_option maxHeartbeats 1000000
namespace Ob
open PySem PySem.Spec PyProof.Rows L2
open LamX (Tabs TabB TabS ExtN)

set_option hygiene false in
local macro_rules
  | `(tactic| kp_flats) => `(tactic| first
    | assumption
    | exact upd_same
    | (apply atNew; assumption; kp_flats)
    | (apply atNe; (next => kbo_bools); kp_flats)
    | (apply atSame; assumption; kp_flats)
    | (apply atKp; assumption; (next => kaf_pre); kp_flats))
set_option hygiene false in
local macro_rules
  | `(tactic| kaf_pre) => `(tactic| first
    | assumption
    | exact not_nil
    | (apply not_cons; (next => kbo_bools); kaf_pre)
    | (apply not_app; (next => kaf_pre); kaf_pre))
set_option hygiene false in
local macro_rules
  | `(tactic| kbo_bools) => `(tactic| first
    | assumption
    | (apply Ne.symm; assumption)
    | (apply neN; assumption; kp_flats)
    | (apply neN'; assumption; kp_flats))
set_option hygiene false in
local macro_rules
  | `(tactic| o_reads) => `(tactic| first
    | with_reducible rfl
    | assumption
    | rfl
    | kp_flats
    | (show SqL _ _ _ _; first | assumption | (apply sqlOf; kp_flats) | (apply sqlSame; assumption; o_reads))
    | (show SqT _ _ _ _; first | assumption | (apply sqtOf; kp_flats) | (apply sqtAll; assumption) | (apply sqtSame; assumption; o_reads))
    | (show Cls _ _; first | exact T.cl_Calls | exact T.cl_Asker | exact T.cl_Builder | exact T.cl_Blocks)
    | (show NoAttr _ _ _; first | exact T.n_Calls_entries | exact T.n_Calls_running | exact T.n_Asker_calls | exact T.n_Asker_ask_call | exact T.n_Asker_join_call | exact T.n_Asker_zero | exact T.n_Builder_calls | exact T.n_Builder_build_call | exact T.n_Blocks_calls | exact T.n_Blocks_builder | exact T.n_Blocks_asker | exact T.n_Blocks_held | exact T.n_Blocks_parts)
    | (apply Or.inl; o_reads)
    | (apply Or.inr; o_reads)
    | (apply And.intro; (next => o_reads); o_reads)
    | (apply Exists.intro; o_reads)
    | exact Nat.le_of_ble_eq_true rfl
    | exact Nat.succ_ne_zero _
    | (show Fr _ _; kba_ints)
    | (show Same _ _; kd_subs)
    | (show Kp _ _ _; kxs_still)
    | (show (_ : Nat) ≤ _; simp only [List.length_append, List.length_map, List.length_cons, List.length_nil, List.length_take, List.length_drop, List.length_replicate, List.length_range, sizeLine_eq]; omega)
    | (show _ = none; apply Fr.h; kba_ints)
    | (show Bag _ _; first | assumption | (apply bag_putF; assumption; o_reads) | (apply bag_neF; (next => kbo_bools); o_reads) | (apply bag_kpR; assumption; (next => kaf_pre); o_reads))
    | omega
    | decide)
local macro_rules
  | `(tactic| o_readsAll) => `(tactic| repeat (first
    | (refine fun (pNew : Addr) (nNew : _ = none) => ?_; replace nNew := Fr.mk nNew)
    | (refine fun (xNew dNew : Addr) (nNew : _ = none) (mNew : _ = none) (eNew : dNew ≠ xNew) => ?_; replace nNew := Fr.mk nNew; replace mNew := Fr.mk mNew)
    | (apply And.intro; next => o_reads)
    | apply Exists.intro (α := V)
    | apply Exists.intro (α := Addr)
    | apply Exists.intro (α := Int)
    | apply Exists.intro (α := Bool)
    | apply Exists.intro (α := List V)
    | apply Exists.intro (α := List Nat)
    | apply Exists.intro (α := List (Str × V))
    | apply Exists.intro (α := List _)
    | apply Exists.intro (α := Str)
    | apply Exists.intro (α := HO)
    | apply Exists.intro (α := Sp)
    | apply Exists.intro (α := VK)))
set_option hygiene false in
local macro_rules
  | `(tactic| kba_ints) => `(tactic| first
    | assumption
    | (apply frUp; (first | assumption | (apply Ne.symm; assumption)); kba_ints)
    | (apply noneOf; assumption; intro oF eF; apply Exists.intro; kp_flats)
    | (apply frUp; (next => kbo_bools); kba_ints))
set_option hygiene false in
local macro_rules
  | `(tactic| kxs_still) => `(tactic| first
    | assumption
    | exact kp_refl _ _
    | (apply kp_newF; assumption; kxs_still)
    | (apply kp_new; assumption; kxs_still)
    | (apply kp_up; (next => o_fieldsN); kxs_still)
    | (apply kp_new; (next => kba_ints); kxs_still)
    | (apply kp_sameR; assumption; kxs_still)
    | (apply kp_transR; assumption; kxs_still)
    | (apply kp_freshR; assumption; (next => kaf_suf); kxs_still))
set_option hygiene false in
local macro_rules
  | `(tactic| kaf_suf) => `(tactic| first
    | assumption
    | exact subNil
    | (apply subCons; (first | (apply Or.inl; o_fieldsN) | (apply Or.inr; kba_ints)); kaf_suf)
    | (apply subApp; (next => kaf_suf); kaf_suf))
set_option hygiene false in
local macro_rules
  | `(tactic| o_fieldsN) => `(tactic| first
    | assumption
    | exact memA
    | (apply memB; o_fieldsN)
    | (apply memL; o_fieldsN)
    | (apply memR; o_fieldsN))
set_option hygiene false in
local macro_rules
  | `(tactic| kd_subs) => `(tactic| first
    | assumption
    | exact Same.refl _
    | (apply same_putF; assumption; kd_subs)
    | (apply same_putG; assumption; kd_subs)
    | (apply same_putF; (next => kba_ints); kd_subs)
    | (apply same_transR; assumption; kd_subs))

set_option pp.maxSteps 700
section
variable {P : Program} {w : World} {K : PySem.W.Frag} {mg : Str → Option Value} {base : Heap}
def spRight (T : Txt K mg) : Sp := fun vs H Q _ => ∃ (b z : Addr), vs = [.ref b, .ref z] ∧ Bag H b ∧ Tabs (TT T) H ∧ H z = some (.lst []) ∧ z ≠ b ∧ ∀ H', Kp [b, z, T.p_l_thing, T.p_l_right] H H' → Bag H' b → Tabs (TT T) H' → Q (.bl true) H'
theorem nx1 (ms : List V) (v : V) {i : Nat} (h : ms.length = i) : (ms ++ [v]).length = i + 1 := by
  rw [List.length_append, h]
  rfl
theorem nx2 (es : List Ent) (v : Ent) {i : Nat} (h : es.length ≤ i) : (es ++ [v]).length ≤ i + 1 := by
  rw [List.length_append]
  exact Nat.add_le_add_right h 1
theorem neFr {H : Hp} {a c : Addr} {o : HO} (f : Fr H a) (e : H c = some o) : a ≠ c := fun z => by
  have := f.h
  rw [z, e] at this
  cases this
theorem ownU {T : Txt K mg} {b z sn xb c l f1 c1 f2 c2 f3 c3 : Addr} {H0 H' : Hp} {mv : List Addr} {es : List Ent} {v : V} (H1 : Hp) {ms : List V} (ri : RI T b z sn xb c l f1 c1 f2 c2 f3 c3 H0 ms mv es H') (ms' : List V) (k1 : Kp [b, T.p_l_thing, T.p_l_right] H' H1) : ∀ a ∈ [xb, c, l], ∃ o, upd H1 sn (.lst (ms' ++ [v])) a = some o ∧ ∀ φ, o ≠ .ext φ := fun a m => by
  have hd : ∀ x ∈ [b, sn, z, T.p_l_thing, T.p_l_right], x ≠ a := fun x y w => coll_dj ri.coll x (ri.sub x y) (by rw [w]; exact m)
  obtain ⟨o, e, _, n⟩ := coll_own ri.coll a m
  have n1 : a ≠ sn := (hd sn (by o_fieldsN)).symm
  have n2 : a ≠ b := (hd b (by o_fieldsN)).symm
  have n3 : a ≠ T.p_l_thing := (hd T.p_l_thing (by o_fieldsN)).symm
  have n4 : a ≠ T.p_l_right := (hd T.p_l_right (by o_fieldsN)).symm
  exact ⟨o, (upd_ne n1).trans (k1.at_ _ _ e (not_cons n2 (not_cons n3 (not_cons n4 not_nil)))), n⟩
theorem nbF {T : Txt K mg} {b z sn xb c l f1 c1 f2 c2 f3 c3 : Addr} {H0 H' : Hp} {ms : List V} {mv : List Addr} {es : List Ent} {o : Addr} (f : Fr H' o) (ri : RI T b z sn xb c l f1 c1 f2 c2 f3 c3 H0 ms mv es H') : b ≠ o := by
  obtain ⟨g, m, q, e, _⟩ := ri.bag
  exact (neFr f e).symm
theorem frH {T : Txt K mg} {b z sn xb c l f1 c1 f2 c2 f3 c3 : Addr} {H0 H' : Hp} {ms : List V} {mv : List Addr} {es : List Ent} {o : Addr} (ri : RI T b z sn xb c l f1 c1 f2 c2 f3 c3 H0 ms mv es H') (f : Fr H' o) : Fr H0 o := ⟨by
  cases e : H0 o with
  | none => rfl
  | some u =>
    have ht : ∀ a ∈ [b, z, T.p_l_thing, T.p_l_right], a ≠ o := fun a m w => by
      have hm : a ∈ [b, sn, z, T.p_l_thing, T.p_l_right] := by
        rcases List.mem_cons.mp m with rfl | m
        · o_fieldsN
        · exact memB (memB m)
      obtain ⟨v, e1, _⟩ := ri.coll.nt a (memR (ri.sub a hm))
      exact neFr f e1 w.symm
    have := ri.kp.at_ _ _ e fun m => ht o m rfl
    rw [f.h] at this
    cases this⟩
theorem dj1 {T : Txt K mg} {b z sn xb c l f1 c1 f2 c2 f3 c3 : Addr} {H0 H' : Hp} {ms : List V} {mv : List Addr} {es : List Ent} {o : Addr} (f : Fr H' o) (ri : RI T b z sn xb c l f1 c1 f2 c2 f3 c3 H0 ms mv es H') : o ∉ [xb, c, l] := fun m => by
  obtain ⟨u, e, _⟩ := coll_own ri.coll o m
  exact neFr f e rfl
theorem itB {c : Bool} {A B : Prop} (a : c = true → A) (b : c = false → B) : if c = true then A else B := by
  cases c with
  | true => exact a rfl
  | false => exact b rfl
theorem ntup_put {H : Hp} {own mv : List Addr} {t : Addr} {xs : List V} (h : NTup H (own ++ (t :: mv))) : NTup (upd H t (.lst xs)) (t :: mv) := fun a m => by
  by_cases q : a = t
  · exact ⟨.lst xs, by rw [q]; exact upd_same, fun _ z => nomatch z⟩
  · obtain ⟨w, h1, h2⟩ := h a (memR m)
    exact ⟨w, (upd_ne q).trans h1, h2⟩
theorem ok_right (T : Txt K mg) (TB1 : TabB base mg T.c_l_thing T.p_l_thing) (TB : TabB base mg T.c_l_right T.p_l_right) : FnOk P w K mg base CX0 20 T.f_l_right T.d_l_right ["_law_bag_here", "_law_zero_list"] (spRight T) := by
  have G_l_take := ok_takeK (P := P) (w := w) (base := base) T
  have G_l_thing := ok_thing (P := P) (w := w) (base := base) T TB1
  have G_Blocks_init := ok_bi (P := P) (w := w) (base := base) T
  have G_q0 := ok_q0 (P := P) (w := w) (base := base) (n := 1) T
  have G_Blocks_query := ok_qry (P := P) (w := w) (base := base) (n := 1) T
  have G_Blocks_add := ok_add (P := P) (w := w) (base := base) (n := 1) T
  have G_Blocks_members := ok_mem (P := P) (w := w) (base := base) T
  have FL := FnOk.raw (ok_lenb (P := P) (w := w) (base := base) T) T.b_Blocks_len .nil
  obtain ⟨mv0, KB_Blocks_init⟩ := FunD.kbinds0 (ps := ["self", "build", "ask", "join", "zero"]) T.F_Blocks_init 4 ["zero"] [] (fun us mv ws => us ++ ws) (List.cons_ne_nil _ _) (fun _ z => nomatch z) (fun a _ c => a.append c)
    (fun D doc pm an cdv ct us mv ws h1 h2 h3 => match us, h1, mv, h2, ws, h3 with | [_, _, _, _], _, [], _, [_], _ => rfl)
  refine T.F_l_right.ok sc_l_right (fun vs H Q E h => ?_) (fun A outer s H vs Q E hr h => ?_)
  · obtain ⟨b, z, rfl, _⟩ := h
    rfl
  · obtain ⟨b, z, rfl, hb, hT, hz, nzb, q⟩ := h
    refine ⟨_, (pss_cons (ps_set (i := 2) sc_l_right.nd rfl (.inl rfl) (pe_lst pa_nil))
      (pss_cons (ps_set (i := 3) sc_l_right.nd rfl (.inl rfl) (pe_makeK ⟨T.mk_Blocks, T.m_Blocks_init, T.t_Blocks_init, T.kp_Blocks⟩ G_Blocks_init (hr.mono (by omega)) rfl T.gc_Blocks KB_Blocks_init pass0 (pa_cons (Inf.pe_lamO (T := TT T) (c := T.c_l_right) (P := T.p_l_right) TB rfl (hm_l_right T) (hu_l_right T) rfl (NdefX.ndef_free (sc := defScope s_l_right) (fr := []) (by decide +kernel))) (pa_cons (Inf.pe_lamO (T := TT T) (c := T.c_l_right) (P := T.p_l_right) TB rfl (hm_l_right T) (hu_l_right T) rfl (NdefX.ndef_free (sc := defScope s_l_right) (fr := []) (by decide +kernel))) (pa_cons (Inf.pe_lamO (T := TT T) (c := T.c_l_right) (P := T.p_l_right) TB rfl (hm_l_right T) (hu_l_right T) rfl (NdefX.ndef_free (sc := defScope s_l_right) (fr := []) (by decide +kernel))) pa_nil))) (pk_cons (pv 1) pk_nil)))
      (pss_cons (ps_expr (pe_bm PySem.F.plainAttrs_list PySem.F.slot_list_append PySem.F.type_list_append mt_append (pe_meth (pv 3) T.cl_Blocks ⟨T.m_Blocks_query, T.t_Blocks_query, T.k_Blocks_query⟩ G_q0 (hr.mono (by omega)) T.b_Blocks_query .nil pass0 (pa_cons pe_dnewK pa_nil)) (pa_cons pe_int pa_nil)))
      (pss_cons (ps_if (PW.pt (pw_or (pt_cmpR (op_neD hr.units) (pv 1) (pe_lst (pa_cons pe_int pa_nil)) (nomark _)) (pw_or1 (pt_cmpR (op_neD hr.units) (pe_meth (pv 3) T.cl_Blocks ⟨T.m_Blocks_query, T.t_Blocks_query, T.k_Blocks_query⟩ G_q0 (hr.mono (by omega)) T.b_Blocks_query .nil pass0 (pa_cons pe_non pa_nil)) (pe_lst (pa_cons pe_int pa_nil)) (nomark _))))) (pss_one (ps_ret pe_bl)) pss_nil)
      (pss_cons (ps_for (passes_of rfl) rfl (pi_range1 (by rfl) T.z_range (pa_cons (pe_call G_l_take (hr.mono (by omega)) rfl T.g_l_take T.F_l_take.kp T.b_l_take .nil pass0 (pa_cons (pv 0) (pa_cons pe_int pa_nil))) pa_nil)) (pg_name (i := 4) sc_l_right.nd rfl (.inl rfl)) (pss_cons (ps_set (i := 5) sc_l_right.nd rfl (.inl rfl) (pe_call G_l_thing (hr.mono (by omega)) rfl T.g_l_thing T.F_l_thing.kp T.b_l_thing .nil pass0 (pa_cons (pv 0) pa_nil)))
        (pss_cons (ps_expr (pe_bm PySem.F.plainAttrs_list PySem.F.slot_list_append PySem.F.type_list_append mt_append (pv 2) (pa_cons (pv 5) pa_nil)))
        (pss_cons (ps_expr (pe_meth (pv 3) T.cl_Blocks ⟨T.m_Blocks_add, T.t_Blocks_add, T.k_Blocks_add⟩ G_Blocks_add (hr.mono (by omega)) T.b_Blocks_add .nil pass0 (pa_cons (pv 5) pa_nil)))
        (pss_cons (ps_if (pt_val (pe_callB call_isiF (by rfl) T.z_isinstance (by decide +kernel) (pa_cons (pv 5) (pa_cons (pe_bltn (v := .ty "list") (by rfl) T.z_list (by decide +kernel) rfl) pa_nil)))) (pss_one (ps_expr (pe_bm PySem.F.plainAttrs_list PySem.F.slot_list_append PySem.F.type_list_append mt_append (pv 5) (pa_cons (pv 4) pa_nil)))) pss_nil)
        (pss_one (ps_if (pt_val (pe_callB call_isiF (by rfl) T.z_isinstance (by decide +kernel) (pa_cons (pv 5) (pa_cons (pe_bltn (v := .ty "dict") (by rfl) T.z_dict (by decide +kernel) rfl) pa_nil)))) (pss_one (ps_expr (pe_bm PySem.F.plainAttrs_list PySem.F.slot_list_append PySem.F.type_list_append mt_append (pe_dget (hu_of hr) (pv 5) pe_str (fun _ _ => rfl)) (pa_cons (pv 4) pa_nil)))) pss_nil)))))))
      (pss_cons (ps_set (i := 6) sc_l_right.nd rfl (.inl rfl) (pe_meth0 (pv 3) T.cl_Blocks ⟨T.m_Blocks_members, T.t_Blocks_members, T.k_Blocks_members⟩ G_Blocks_members (hr.mono (by omega)) T.b_Blocks_members .nil pass0))
      (pss_cons (ps_if (PW.pt (pw_or (pt_cmpR op_ne (pe_callB call_len_seq (by rfl) T.z_len (by decide +kernel) (pa_cons (pv 6) pa_nil)) (pe_callB call_len_seq (by rfl) T.z_len (by decide +kernel) (pa_cons (pv 2) pa_nil)) (nomark _)) (pw_or1 (pt_cmpR (op_neS hr.units) (pv 6) (pv 2) (nomark _))))) (pss_one (ps_ret pe_bl)) pss_nil)
      (pss_cons (ps_if (PW.pt (pw_and (pt_cmpR (op_neNil hr.units) (pv 2) (pe_lst pa_nil) (nomark _)) (pw_and1 (pt_cmpR (op_neS hr.units) (pe_meth (pv 3) T.cl_Blocks ⟨T.m_Blocks_query, T.t_Blocks_query, T.k_Blocks_query⟩ G_Blocks_query (hr.mono (by omega)) T.b_Blocks_query .nil pass0 (pa_cons pe_non pa_nil)) (pv 2) (nomark _))))) (pss_one (ps_ret pe_bl)) pss_nil)
      (pss_cons (ps_expr (pe_bm0 PySem.F.plainAttrs_list PySem.F.slot_list_clear PySem.F.type_list_clear mt_clear (pv 6)))
      (pss_one (ps_ret (pe_and (pe_cmpR (op_eqS hr.units) (pe_meth0 (pv 3) T.cl_Blocks ⟨T.m_Blocks_members, T.t_Blocks_members, T.k_Blocks_members⟩ G_Blocks_members (hr.mono (by omega)) T.b_Blocks_members .nil pass0) (pv 2) (nomark _)) (pe_one (pe_cmpR op_eq (pe_callB (call_lenO FL (hr.mono (by omega)) T.m_Blocks_len T.y_Blocks_len) (by rfl) T.z_len (by decide +kernel) (pa_cons (pv 3) pa_nil)) (pe_callB call_len_seq (by rfl) T.z_len (by decide +kernel) (pa_cons (pv 2) pa_nil)) (nomark _))))))))))))))), ?_⟩
    o_readsAll
    rename_i sn nsn
    obtain ⟨g0, m0, c0, eb0, bnd⟩ := id hb
    obtain ⟨ps1, tb1, -⟩ := hT _ (hm_l_thing T)
    replace tb1 : H T.p_l_thing = some (.tbl ps1) := tb1
    obtain ⟨ps2, tb2, -⟩ := hT _ (hm_l_right T)
    replace tb2 : H T.p_l_right = some (.tbl ps2) := tb2
    have npt := T.pne_l_thing_l_right
    have nzr : z ≠ T.p_l_right := neO hz tb2 (fun w => nomatch w)
    have nzt : z ≠ T.p_l_thing := neO hz tb1 (fun w => nomatch w)
    have nbr : b ≠ T.p_l_right := neO eb0 tb2 (fun w => nomatch w)
    have nbt : b ≠ T.p_l_thing := neO eb0 tb1 (fun w => nomatch w)
    refine ⟨tabs_same hT (by kd_subs), ?_⟩
    intro f1 c1 H1 x1 y1 t1 nf1 hc1
    replace nf1 := Fr.mk nf1
    replace hc1 : H1 c1 = some (LamX.CodeO c1 qR) := hc1
    obtain ⟨pa1, ta1, -⟩ := t1 _ (hm_l_right T)
    replace ta1 : H1 T.p_l_right = some (.tbl pa1) := ta1
    have nc1 : c1 ≠ T.p_l_right := neO hc1 ta1 (fun z => by cases z)
    have k1 : Kp [T.p_l_right] (upd H sn (.lst [])) H1 := ⟨fun b o e m => x1 b o e fun z => m (List.mem_singleton.mpr z)⟩
    have g1 : Fr (upd H sn (.lst [])) f1 := ⟨y1 f1 nf1.h⟩
    o_readsAll
    refine ⟨tabs_same t1 (by kd_subs), ?_⟩
    intro f2 c2 H2 x2 y2 t2 nf2 hc2
    replace nf2 := Fr.mk nf2
    replace hc2 : H2 c2 = some (LamX.CodeO c2 qR) := hc2
    obtain ⟨pa2, ta2, -⟩ := t2 _ (hm_l_right T)
    replace ta2 : H2 T.p_l_right = some (.tbl pa2) := ta2
    have nc2 : c2 ≠ T.p_l_right := neO hc2 ta2 (fun z => by cases z)
    have k2 : Kp [T.p_l_right] (upd H1 f1 (Inf.LamO f1 (LW 0 c1))) H2 := ⟨fun b o e m => x2 b o e fun z => m (List.mem_singleton.mpr z)⟩
    have g2 : Fr (upd H1 f1 (Inf.LamO f1 (LW 0 c1))) f2 := ⟨y2 f2 nf2.h⟩
    o_readsAll
    refine ⟨tabs_same t2 (by kd_subs), ?_⟩
    intro f3 c3 H3 x3 y3 t3 nf3 hc3
    replace nf3 := Fr.mk nf3
    replace hc3 : H3 c3 = some (LamX.CodeO c3 qR) := hc3
    obtain ⟨pa3, ta3, -⟩ := t3 _ (hm_l_right T)
    replace ta3 : H3 T.p_l_right = some (.tbl pa3) := ta3
    have nc3 : c3 ≠ T.p_l_right := neO hc3 ta3 (fun z => by cases z)
    have k3 : Kp [T.p_l_right] (upd H2 f2 (Inf.LamO f2 (LW 1 c2))) H3 := ⟨fun b o e m => x3 b o e fun z => m (List.mem_singleton.mpr z)⟩
    have g3 : Fr (upd H2 f2 (Inf.LamO f2 (LW 1 c2))) f3 := ⟨y3 f3 nf3.h⟩
    o_readsAll
    rename_i xb dxb neb nxb ndb
    intro c cdx l bu bdx k kdx h p H4 fc fl fbu fk fh fp q1 q2 q3 q4 q5 q6 q7 nlh nlp nhp ub uc kb kc bc k4
    have nt0 : T.p_l_thing ≠ xb := by kbo_bools
    have hfr : ∀ a ∈ [xb, c, l], Fr H a := subCons (by kba_ints) (subCons (by kba_ints) (subCons (by kba_ints) subNil))
    have L4 : Lams f1 c1 f2 c2 f3 c3 H4 := ⟨by kp_flats, by kp_flats, by kp_flats, by kp_flats, by kp_flats, by kp_flats⟩
    have e1 : H4 sn = some (.lst []) := by kp_flats
    have e2 : H4 z = some (.lst []) := by kp_flats
    have e3 : H4 b = some (.lst [.int g0, .int m0, .int c0]) := by kp_flats
    have e4 : H4 T.p_l_thing = some (.tbl ps1) := by kp_flats
    have e5 : H4 T.p_l_right = some (.tbl pa3) := by kp_flats
    have fz : Fr H sn := nsn
    have nsr : sn ≠ T.p_l_right := by kbo_bools
    have nst : sn ≠ T.p_l_thing := by kbo_bools
    have nzs : z ≠ sn := by kbo_bools
    have nbs : b ≠ sn := by kbo_bools
    have cl0 : Coll T.C_Blocks T.C_Calls T.C_Builder T.C_Asker xb c l [b, sn, z, T.p_l_thing, T.p_l_right] (.ref f1) (.ref f2) (.ref f3) (.ref z) (fun _ _ => True) (BlkL ([xb, c, l] ++ [b, sn, z, T.p_l_thing, T.p_l_right])) [] [] H4 := by
      refine coll_new (H := upd H3 f3 (Inf.LamO f3 (LW 2 c3))) q1 q2 q3 q4 q5 q6 q7 nlh nlp nxb (by kba_ints) (by kba_ints) (by kba_ints) (by kba_ints) (by kba_ints) (by kba_ints) ?_ ?_ ub uc kb kc bc
      · exact ntup_cons (o := .lst [.int g0, .int m0, .int c0]) (by kp_flats) (fun _ z => nomatch z) (ntup_cons (o := .lst []) (by kp_flats) (fun _ z => nomatch z) (ntup_cons (o := .lst []) (by kp_flats) (fun _ z => nomatch z) (ntup_cons (o := .tbl ps1) (by kp_flats) (fun _ z => nomatch z) (ntup_cons (o := .tbl pa3) (by kp_flats) (fun _ z => nomatch z) ntup_nil))))
      · exact ntup_cons e3 (fun _ z => nomatch z) (ntup_cons e1 (fun _ z => nomatch z) (ntup_cons e2 (fun _ z => nomatch z) (ntup_cons e4 (fun _ z => nomatch z) (ntup_cons e5 (fun _ z => nomatch z) ntup_nil))))
    have kk4 : True ∧ Kp [T.p_l_right] H H4 := ⟨trivial, by kxs_still⟩
    have t4 : Tabs (TT T) H4 := by
      refine tabs_kp (cs := [xb]) (tabs_same t3 (by kd_subs)) k4 (subCons ⟨.ins T.C_Blocks dxb [], upd_same, (fun _ z => nomatch z), fun _ z => nomatch z⟩ subNil)
    have dOwn : ∀ a ∈ [f1, c1, f2, c2, f3, c3], a ∉ [xb, c, l] := ext_not L4.ext (subCons ⟨_, q1, fun _ z => nomatch z⟩ (subCons ⟨_, q2, fun _ z => nomatch z⟩ (subCons ⟨_, q3, fun _ z => nomatch z⟩ subNil)))
    have U := fun mv S d3 => us8 (P := P) (w := w) (K := K) (mg := mg) (base := base) (n := 1) (own := [xb, c, l]) (mv := mv) (S := S) (Nat.le_refl 1) dOwn d3
    have dj0 : ∀ a ∈ [b, sn, z, T.p_l_thing, T.p_l_right], a ∉ [xb, c, l] := subCons (by kaf_pre) (subCons (by kaf_pre) (subCons (by kaf_pre) (subCons (by kaf_pre) (subCons (by kaf_pre) subNil))))
    have nxz : xb ≠ z := neO q1 e2 (fun w => nomatch w)
    have nxs : xb ≠ sn := neO q1 e1 (fun w => nomatch w)
    have nxb' : xb ≠ b := neO q1 e3 (fun w => nomatch w)
    clear k4 k3 k2 k1 x1 x2 x3 y1 y2 y3 t1 t2 t3 g1 g2 g3
    have nt0 : NTup H4 [b, sn, z, T.p_l_thing, T.p_l_right] := fun a m => cl0.nt a (memR m)
    have cS : ∀ H', Same H4 H' → Coll T.C_Blocks T.C_Calls T.C_Builder T.C_Asker xb c l [b, sn, z, T.p_l_thing, T.p_l_right] (.ref f1) (.ref f2) (.ref f3) (.ref z) (fun _ _ => True) (BlkL ([xb, c, l] ++ [b, sn, z, T.p_l_thing, T.p_l_right])) [] [] H' := fun H' s => cl0.kp (U _ H4 dj0) (kp_same s) fun a m => (nt0 a m).imp fun _ y => ⟨s _ _ y.1, y.2⟩
    o_readsAll
    rename_i dd ndd
    refine ⟨BlkL ([xb, c, l] ++ [b, sn, z, T.p_l_thing, T.p_l_right]), [], _, rfl, cS _ (by kd_subs), ?_⟩
    o_readsAll
    rename_i l7 nl7
    refine ⟨d7, d7, dp7 (by kp_flats), dp7 (by kp_flats), rfl, rfl, ?_⟩
    have c5 : Coll T.C_Blocks T.C_Calls T.C_Builder T.C_Asker xb c l [b, sn, z, T.p_l_thing, T.p_l_right] (.ref f1) (.ref f2) (.ref f3) (.ref z) (fun _ _ => True) (BlkL ([xb, c, l] ++ [b, sn, z, T.p_l_thing, T.p_l_right])) [] [] (upd (upd (upd H4 dd (.dK [])) z (.lst [.int 7])) l7 (.lst [.int 7])) := by
      refine cl0.kp (U _ H4 dj0) (by kxs_still) (ntup_cons (o := .lst [.int g0, .int m0, .int c0]) (by kp_flats) (fun _ z => nomatch z) (ntup_cons (o := .lst []) (by kp_flats) (fun _ z => nomatch z) (ntup_cons (o := .lst [.int 7]) (by kp_flats) (fun _ z => nomatch z) (ntup_cons (o := .tbl ps1) (by kp_flats) (fun _ z => nomatch z) (ntup_cons (o := .tbl pa3) (by kp_flats) (fun _ z => nomatch z) ntup_nil)))))
    o_readsAll
    refine ⟨BlkL ([xb, c, l] ++ [b, sn, z, T.p_l_thing, T.p_l_right]), [], _, rfl, c5, ?_⟩
    o_readsAll
    rename_i l8 nl8
    refine ⟨d7, d7, dp7 (by kp_flats), dp7 (by kp_flats), rfl, rfl, ?_⟩
    have hb4 : Bag H4 b := ⟨g0, m0, c0, e3, bnd⟩
    o_readsAll
    intro r H5 r0 r1 b5 k5
    have e1' : H5 sn = some (.lst []) := by kp_flats
    have t5 : Tabs (TT T) H5 := by
      refine tabs_kp (tabs_same (H := upd (upd H4 dd (.dK [])) z (.lst [.int 7])) (tabs_kp (cs := [z]) (H := upd H4 dd (.dK [])) (tabs_same t4 (by kd_subs)) (by kxs_still) (subCons ⟨.lst [], by kp_flats, (fun _ z => nomatch z), fun _ z => nomatch z⟩ subNil)) (by kd_subs)) k5 (subCons ⟨.lst [.int g0, .int m0, .int c0], by kp_flats, (fun _ z => nomatch z), fun _ z => nomatch z⟩ subNil)
    have L5 : Lams f1 c1 f2 c2 f3 c3 H5 := by
      have dz : ∀ a ∈ [f1, c1, f2, c2, f3, c3], a ∉ [z, b] := ext_not L4.ext (subCons ⟨_, e2, fun _ z => nomatch z⟩ (subCons ⟨_, e3, fun _ z => nomatch z⟩ subNil))
      exact L4.kp (cs := [z, b]) (by kxs_still) dz
    have cl5 : Coll T.C_Blocks T.C_Calls T.C_Builder T.C_Asker xb c l [b, sn, z, T.p_l_thing, T.p_l_right] (.ref f1) (.ref f2) (.ref f3) (.ref z) (fun _ _ => True) (BlkL ([xb, c, l] ++ [b, sn, z, T.p_l_thing, T.p_l_right])) [] [] H5 := by
      obtain ⟨g5, m5, c5', eb5, -⟩ := id b5
      refine cl0.kp (U _ H4 dj0) (by kxs_still) (ntup_cons eb5 (fun _ z => nomatch z) (ntup_cons e1' (fun _ z => nomatch z) (ntup_cons (o := .lst [.int 7]) (by kp_flats) (fun _ z => nomatch z) (ntup_cons (o := .tbl ps1) (by kp_flats) (fun _ z => nomatch z) (ntup_cons (o := .tbl pa3) (by kp_flats) (fun _ z => nomatch z) ntup_nil)))))
    have kk5 : True ∧ Kp [b, z, T.p_l_thing, T.p_l_right] H H5 := ⟨trivial, by
      have := kk4.2
      kxs_still⟩
    clear cS c5 cl0 nt0 k5 t4 L4 e1 e2 e3 e4 e5 hb4
    o_readsAll
    clear nf1 nf2 nf3 hc1 hc2 hc3 nc1 nc2 nc3 ta1 ta2 ta3 nxb ndb fc fl fbu fk fh fp q1 q2 q3 q4 q5 q6 q7 ndd nl7 nl8 ub uc kb kc bc nlh nlp nhp neb
    refine for_range (n := r.toNat) (fun i σ H' => ∃ y4 y5 y6 ms mv es, σ = [some (.ref b), some (.ref z), some (.ref sn), some (.ref xb), y4, y5, y6] ∧ ms.length = i ∧ es.length ≤ i ∧ RI T b z sn xb c l f1 c1 f2 c2 f3 c3 H ms mv es H') ?_ ?_ ?_
    · exact ⟨_, _, _, [], _, [], rfl, rfl, Nat.le_refl _, (fun _ m => nomatch m), b5, e1', cl5, fun _ m => m, L5, t5, kk5.2, hfr, by kaf_pre, nsn⟩
    · rintro i σ H' hi ⟨y4, y5, y6, ms, mv, es, rfl, lm, le, ri⟩
      obtain ⟨dx, bu, k', h', p', hxb⟩ := ri.coll.b_at
      obtain ⟨ox1, ox2, ox3, ox4⟩ := ri.coll.own
      have hbag := ri.bag
      have hsn := ri.seen
      have htab := ri.tabs
      have nxT : xb ≠ T.p_l_thing := fun w => ox1 (by rw [w]; exact ri.sub _ (by o_fieldsN))
      have nxR : xb ≠ T.p_l_right := fun w => ox1 (by rw [w]; exact ri.sub _ (by o_fieldsN))
      o_readsAll
      intro v H1 k1 b1 t1 th
      have hsn1 : H1 sn = some (.lst ms) := by kp_flats
      have hxb1 : H1 xb = some (BlO T.C_Blocks dx c bu k' h' p') := by kp_flats
      have lr : ms.length < 31 := by omega
      have n1 : NTup H1 mv := fun a m => by
        by_cases a1 : a = b
        · obtain ⟨g, q, w, eb, -⟩ := b1
          exact ⟨.lst [.int g, .int q, .int w], by rw [a1]; exact eb, fun _ z => nomatch z⟩
        by_cases a2 : a = T.p_l_thing
        · obtain ⟨ps, eb, -⟩ := t1 _ (hm_l_thing T)
          exact ⟨.tbl ps, by rw [a2]; exact eb, fun _ z => nomatch z⟩
        by_cases a3 : a = T.p_l_right
        · obtain ⟨ps, eb, -⟩ := t1 _ (hm_l_right T)
          exact ⟨.tbl ps, by rw [a3]; exact eb, fun _ z => nomatch z⟩
        obtain ⟨o, eo, ho⟩ := ri.coll.nt a (memR m)
        exact ⟨o, k1.at_ _ _ eo (not_cons a1 (not_cons a2 (not_cons a3 not_nil))), ho⟩
      have step : ∀ mv', (mv' = mv ∨ ∃ o u, mv' = o :: mv ∧ Fr H' o ∧ H1 o = some u ∧ ∀ xs, u ≠ .tup xs) → NoTok v → ∀ (Q : VK) (E : XK), (∀ H3, Kp [xb, c, l] (upd H1 sn (.lst (ms ++ [v]))) H3 → (∀ a ∈ mv', a ∉ [xb, c, l]) → RI T b z sn xb c l f1 c1 f2 c2 f3 c3 H (ms ++ [v]) mv' (es ++ [.build (lastNs ms.length)]) H3 → Q (.int ms.length) H3) →
          spAdd P w K mg base T.C_Blocks T.C_Calls T.C_Builder T.C_Asker 1 [.ref xb, v] (upd H1 sn (.lst (ms ++ [v]))) Q E := by
        intro mv' hm hv Q E q
        obtain ⟨p1, p2, p3, p4, p5, p6⟩ := ri_pre (v := v) P w base ri k1 b1 t1 hm n1
        refine ⟨xb, c, l, mv', _, _, _, _, (fun _ H => Lams f1 c1 f2 c2 f3 c3 H ∧ Snap (upd H1 sn (.lst (ms ++ [v]))) mv' H), (fun _ _ => True), BlkL ([xb, c, l] ++ mv'), (fun q _ => q = .non), AnsL ([xb, c, l] ++ mv'), ms, es, [], v, rfl, U mv' _ p5, p1, ⟨p3, snap_of p2⟩, trivial, by decide, by omega, by omega, p2, ?_⟩
        intro blk H3 k3 cc ⟨u1, u2⟩
        have kq := kp_snap k3 u2
        refine q H3 kq p5 (ri_post (b5 := bag_kpR (cs := [sn]) (by kxs_still) (not_cons nbs not_nil) b1) ri ?_ upd_same p4 hv p5 p6 (coll_own p1) kq cc u1)
        exact kp_newF ri.fs (kp_trans ri.kp (kp_more k1 (subCons (by o_fieldsN) (subCons (by o_fieldsN) (subCons (by o_fieldsN) subNil)))))
      have lt : (i : Int) < 31 := by omega
      cases th with
      | non =>
        refine ⟨_, rfl, .inl ⟨rfl, _, .inl (.inl hsn1)⟩, _, rfl, sn, ms, _, rfl, rfl, hsn1, by rw [sizeLine_eq]; omega, _, rfl, xb, dx, _, rfl, (upd_ne nxs).trans hxb1, rfl, ?_⟩
        refine ⟨_, rfl, ?_⟩
        dsimp only [tNil]
        refine step mv (.inl rfl) (.inl rfl) _ _ fun H3 kq dj ri3 => ?_
        o_readsAll
        refine ⟨.type "NoneType", .type "list", false, rfl, .ty _, .inl (.base .non), kit_ty (by decide +kernel), ?_⟩
        o_readsAll
        refine ⟨.type "NoneType", .type "dict", false, rfl, .ty _, .inl (.base .non), kit_ty (by decide +kernel), false, rfl, iteF ?_⟩
        exact ⟨_, _, _, _, mv, _, rfl, nx1 ms _ lm, nx2 es _ le, ri3⟩
      | lst fo ho => 
        rename_i o x
        have nos : o ≠ sn := neFr fo hsn
        have nox : o ≠ xb := neFr fo hxb
        refine ⟨_, rfl, .inl ⟨rfl, _, .inl (.inl hsn1)⟩, _, rfl, sn, ms, _, rfl, rfl, hsn1, by rw [sizeLine_eq]; omega, _, rfl, xb, dx, _, rfl, (upd_ne nxs).trans hxb1, rfl, ?_⟩
        refine ⟨_, rfl, ?_⟩
        dsimp only [tNil]
        refine step (o :: mv) (.inr ⟨o, _, rfl, fo, ho, fun _ z => nomatch z⟩) (.inr ⟨_, rfl⟩) _ _ fun H3 kq dj ri3 => ?_
        have e3 : H3 o = some (.lst [x]) := kq.at_ _ _ ((upd_ne nos).trans ho) (dj o (List.mem_cons_self ..))
        o_readsAll
        refine ⟨.type "list", .type "list", true, rfl, .ty _, .inl (.base (.lst e3)), kit_ty (by decide +kernel), true, rfl, iteT ?_⟩
        o_readsAll
        refine ⟨.type "list", .type "dict", false, rfl, .ty _, .inl (.base (.lst upd_same)), kit_ty (by decide +kernel), false, rfl, iteF ?_⟩
        exact ⟨_, _, _, _, _, _, rfl, nx1 ms _ lm, nx2 es _ le, ri3.put P w base (List.mem_cons_self ..) e3 (fun _ z => nomatch z) (fun _ z => nomatch z) (fun _ z => nomatch z) (nbF fo ri) nos.symm (frH ri fo)⟩
      | dct fo fl ho hl =>
        rename_i o ll x
        have nos : o ≠ sn := neFr fo hsn
        have nls : ll ≠ sn := neFr fl hsn
        refine ⟨_, rfl, .inl ⟨rfl, _, .inl (.inl hsn1)⟩, _, rfl, sn, ms, _, rfl, rfl, hsn1, by rw [sizeLine_eq]; omega, _, rfl, xb, dx, _, rfl, (upd_ne nxs).trans hxb1, rfl, ?_⟩
        refine ⟨_, rfl, ?_⟩
        dsimp only [tNil]
        refine step (ll :: mv) (.inr ⟨ll, _, rfl, fl, hl, fun _ z => nomatch z⟩) (.inr ⟨_, rfl⟩) _ _ fun H3 kq dj ri3 => ?_
        have e3 : H3 ll = some (.lst [x]) := kq.at_ _ _ ((upd_ne nls).trans hl) (dj ll (List.mem_cons_self ..))
        have e4 : H3 o = some (.dK [(.inr "a", .ref ll)]) := kq.at_ _ _ ((upd_ne nos).trans ho) (dj1 fo ri)
        o_readsAll
        refine ⟨.type "dict", .type "list", false, rfl, .ty _, .inl (.base (.dK e4)), kit_ty (by decide +kernel), false, rfl, iteF ?_⟩
        o_readsAll
        refine ⟨.type "dict", .type "dict", true, rfl, .ty _, .inl (.base (.dK e4)), kit_ty (by decide +kernel), true, rfl, iteT ?_⟩
        o_readsAll
        refine ⟨DGet.k (k := .inr "a") e4, ?_⟩
        o_readsAll
        exact ⟨_, _, _, _, _, _, rfl, nx1 ms _ lm, nx2 es _ le, ri3.put P w base (List.mem_cons_self ..) e3 (fun _ z => nomatch z) (fun _ z => nomatch z) (fun _ z => nomatch z) (nbF fl ri) nls.symm (frH ri fl)⟩
      | fn fo ho =>
        rename_i o F
        have nos : o ≠ sn := neFr fo hsn
        refine ⟨_, rfl, .inl ⟨rfl, _, .inl (.inl hsn1)⟩, _, rfl, sn, ms, _, rfl, rfl, hsn1, by rw [sizeLine_eq]; omega, _, rfl, xb, dx, _, rfl, (upd_ne nxs).trans hxb1, rfl, ?_⟩
        refine ⟨_, rfl, ?_⟩
        dsimp only [tNil]
        refine step mv (.inl rfl) (.inr ⟨_, rfl⟩) _ _ fun H3 kq dj ri3 => ?_
        have e3 : H3 o = some (Inf.LamO o F) := kq.at_ _ _ ((upd_ne nos).trans ho) (ext_not (fs := [o]) (H := upd H1 sn (.lst (ms ++ [.ref o]))) (subCons ⟨_, (upd_ne nos).trans ho⟩ subNil) (ownU H1 ri ms k1) o (List.mem_cons_self ..))
        o_readsAll
        refine ⟨.type "function", .type "list", false, rfl, .ty _, .inr ⟨o, _, rfl, e3, fnTy_lam, rfl⟩, kit_ty (by decide +kernel), false, rfl, iteF ?_⟩
        o_readsAll
        refine ⟨.type "function", .type "dict", false, rfl, .ty _, .inr ⟨o, _, rfl, e3, fnTy_lam, rfl⟩, kit_ty (by decide +kernel), false, rfl, iteF ?_⟩
        exact ⟨_, _, _, _, mv, _, rfl, nx1 ms _ lm, nx2 es _ le, ri3⟩
    · rintro σ H' ⟨y4, y5, y6, ms, mv, es, rfl, lm, le, ri⟩
      obtain ⟨dx, bu, k', h', p', hxb⟩ := ri.coll.b_at
      have hsn := ri.seen
      have hseen : SqL K H' sn ms := sqlOf hsn
      o_readsAll
      refine ⟨_, ms, es, rfl, ri.coll, ?_⟩
      o_readsAll
      intro t H1 ft s1 et
      have hsn1 : H1 sn = some (.lst ms) := s1 _ _ hsn
      o_readsAll
      refine ifF ?_ ?_
      · rw [decide_eq_true rfl]
        rfl
      o_readsAll
      refine ⟨ri.ok, _, rfl, iteF ?_⟩
      o_readsAll
      rename_i e fe
      have nte : t ≠ e := (neFr fe et).symm
      have sm4 : Same H' (upd H1 e (.lst [])) := same_putF fe s1
      have nt4 : NTup (upd H1 e (.lst [])) (t :: mv) := ntup_cons ((upd_ne nte).trans et) (fun _ z => nomatch z) fun a m => (ri.coll.nt a (memR m)).imp fun _ y => ⟨sm4 _ _ y.1, y.2⟩
      have c4 := ri.coll.more (Mem' := fun _ _ => True) (Blk' := BlkL ([xb, c, l] ++ (t :: mv))) (kp_same sm4) nt4 ft (fun xs v ⟨t', e1, e2, e3, e4⟩ => ⟨t', e1, not_app (fun m => e2 (memL m)) (not_cons (neFr ft e3).symm fun m => e2 (memR m)), sm4 _ _ e3, e4⟩) (fun _ _ => trivial)
      have U4 := us8 (P := P) (w := w) (K := K) (mg := mg) (base := base) (n := 1) (own := [xb, c, l]) (mv := t :: mv) (S := upd H1 e (.lst [])) (Nat.le_refl 1) (us_own ri) (coll_dj c4)
      have L4 : Lams f1 c1 f2 c2 f3 c3 (upd H1 e (.lst [])) := ⟨sm4 _ _ ri.lams.f1, sm4 _ _ ri.lams.c1, sm4 _ _ ri.lams.f2, sm4 _ _ ri.lams.c2, sm4 _ _ ri.lams.f3, sm4 _ _ ri.lams.c3⟩
      have nts : t ≠ sn := neFr ft hsn
      refine itB ?_ ?_
      · intro hne
        refine ⟨_, rfl, xb, dx, _, rfl, sm4 _ _ hxb, rfl, ?_⟩
        dsimp only [tCons, tC, tNil]
        refine ⟨xb, c, l, t :: mv, _, _, _, _, (fun _ H => Lams f1 c1 f2 c2 f3 c3 H ∧ Snap (upd H1 e (.lst [])) (t :: mv) H), (fun _ _ => True), BlkL ([xb, c, l] ++ (t :: mv)), (fun q _ => q = .non), AnsL ([xb, c, l] ++ (t :: mv)), ms, es, [], .non, rfl, U4, c4, ⟨L4, snap_of nt4⟩, rfl, by decide, by omega, by omega, fun v evs H3 k3 cc u3 _ _ an => ?_⟩
        obtain ⟨t3, rfl, nt3, et3⟩ := an (fun w => by rw [w] at hne; cases hne)
        have kq := kp_snap k3 u3.2
        have hsn3 : H3 sn = some (.lst ms) := by
          refine kq.at_ _ _ (sm4 _ _ hsn) (coll_dj c4 _ (memB (ri.sub _ (by o_fieldsN))))
        have htt3 : H3 t = some (.lst ms) := kq.at_ _ _ ((upd_ne nte).trans et) (dj1 ft ri)
        refine ⟨_, rfl, t3, sn, ms, rfl, rfl, sqlOf et3, sqlOf hsn3, ri.ok, _, rfl, iteF ?_⟩
        clear an
        have hsn5 : upd H3 t (.lst []) sn = some (.lst ms) := (upd_ne nts.symm).trans hsn3
        have c6 := cc.kp (H' := upd H3 t (.lst [])) U4 (kp_up memA (kp_refl _ _)) (ntup_put cc.nt)
        obtain ⟨dx6, bu6, k6, h6, p6, hxb6⟩ := c6.b_at
        refine ⟨_, rfl, .inl ⟨rfl, _, .inl (.inl htt3)⟩, t, ms, rfl, rfl, htt3, ?_⟩
        refine ⟨_, rfl, xb, dx6, _, rfl, hxb6, rfl, ?_⟩
        dsimp only [tNil]
        refine ⟨xb, c, l, t :: mv, _, _, _, _, _, _, ms, _, rfl, c6, fun o H6 fo s6 eo => ?_⟩
        refine ⟨_, rfl, o, sn, ms, rfl, rfl, sqlOf eo, sqlOf (s6 _ _ hsn5), ri.ok, _, rfl, iteT ?_⟩
        refine ⟨_, rfl, xb, dx6, _, rfl, s6 _ _ hxb6, ?_⟩
        refine ⟨xb, c, l, t :: mv, _, _, _, _, _, _, ms, _, rfl, c6.kp U4 (kp_same s6) (fun a m => (c6.nt a (memR m)).imp fun _ y => ⟨s6 _ _ y.1, y.2⟩), ms.length, rfl, by omega, ?_⟩
        refine ⟨_, rfl, sn, ms, rfl, .inl (sqlOf (s6 _ _ hsn5)), ?_⟩
        o_readsAll
        have L3 : upd H3 t (.lst []) t = some (.lst []) := upd_same
        have kA : Kp [xb, c, l, t] H' H6 := kp_trans (kp_trans (kp_trans (kp_same sm4) (kp_more kq fun x m => by
          rcases List.mem_cons.mp m with rfl | m
          · o_fieldsN
          rcases List.mem_cons.mp m with rfl | m
          · o_fieldsN
          rw [List.mem_singleton.mp m]
          o_fieldsN)) (kp_up (by o_fieldsN) (kp_refl _ _))) (kp_same s6)
        have t3 : Tabs (TT T) H3 := tabs_kp (tabs_same ri.tabs sm4) kq (coll_own c4)
        have t6 : Tabs (TT T) H6 := tabs_same (tabs_kp (cs := [t]) t3 (by kxs_still) (subCons ⟨_, htt3, (fun _ z => nomatch z), fun _ z => nomatch z⟩ subNil)) s6
        rw [decide_eq_true (rfl : V.int ms.length = V.int ms.length)]
        refine q H6 (kp_fresh ri.kp kA (subCons (.inr (ri.fr _ (by o_fieldsN))) (subCons (.inr (ri.fr _ (by o_fieldsN))) (subCons (.inr (ri.fr _ (by o_fieldsN))) (subCons (.inr (frH ri ft)) subNil))))) (bag_kpR kA (fun m => ?_) ri.bag) t6
        have h1 := coll_dj ri.coll b (ri.sub b (by o_fieldsN))
        rcases List.mem_cons.mp m with w | m
        · exact h1 (by rw [w]; o_fieldsN)
        rcases List.mem_cons.mp m with w | m
        · exact h1 (by rw [w]; o_fieldsN)
        rcases List.mem_cons.mp m with w | m
        · exact h1 (by rw [w]; o_fieldsN)
        exact nbF ft ri (List.mem_singleton.mp m)
      · intro hne
        have kq : Kp [xb, c, l] (upd H1 e (.lst [])) (upd H1 e (.lst [])) := kp_refl _ _
        have hsn3 := sm4 _ _ hsn
        have htt3 : upd H1 e (.lst []) t = some (.lst ms) := (upd_ne nte).trans et
        have cc := c4
        have hsn5 : upd (upd H1 e (.lst [])) t (.lst []) sn = some (.lst ms) := (upd_ne nts.symm).trans hsn3
        have c6 := cc.kp (H' := upd (upd H1 e (.lst [])) t (.lst [])) U4 (kp_up memA (kp_refl _ _)) (ntup_put cc.nt)
        obtain ⟨dx6, bu6, k6, h6, p6, hxb6⟩ := c6.b_at
        refine ⟨_, rfl, .inl ⟨rfl, _, .inl (.inl htt3)⟩, t, ms, rfl, rfl, htt3, ?_⟩
        refine ⟨_, rfl, xb, dx6, _, rfl, hxb6, rfl, ?_⟩
        dsimp only [tNil]
        refine ⟨xb, c, l, t :: mv, _, _, _, _, _, _, ms, _, rfl, c6, fun o H6 fo s6 eo => ?_⟩
        refine ⟨_, rfl, o, sn, ms, rfl, rfl, sqlOf eo, sqlOf (s6 _ _ hsn5), ri.ok, _, rfl, iteT ?_⟩
        refine ⟨_, rfl, xb, dx6, _, rfl, s6 _ _ hxb6, ?_⟩
        refine ⟨xb, c, l, t :: mv, _, _, _, _, _, _, ms, _, rfl, c6.kp U4 (kp_same s6) (fun a m => (c6.nt a (memR m)).imp fun _ y => ⟨s6 _ _ y.1, y.2⟩), ms.length, rfl, by omega, ?_⟩
        refine ⟨_, rfl, sn, ms, rfl, .inl (sqlOf (s6 _ _ hsn5)), ?_⟩
        o_readsAll
        have L3 : upd (upd H1 e (.lst [])) t (.lst []) t = some (.lst []) := upd_same
        have kA : Kp [xb, c, l, t] H' H6 := kp_trans (kp_trans (kp_trans (kp_same sm4) (kp_more kq fun x m => by
          rcases List.mem_cons.mp m with rfl | m
          · o_fieldsN
          rcases List.mem_cons.mp m with rfl | m
          · o_fieldsN
          rw [List.mem_singleton.mp m]
          o_fieldsN)) (kp_up (by o_fieldsN) (kp_refl _ _))) (kp_same s6)
        have t3 : Tabs (TT T) (upd H1 e (.lst [])) := tabs_kp (tabs_same ri.tabs sm4) kq (coll_own c4)
        have t6 : Tabs (TT T) H6 := tabs_same (tabs_kp (cs := [t]) t3 (by kxs_still) (subCons ⟨_, htt3, (fun _ z => nomatch z), fun _ z => nomatch z⟩ subNil)) s6
        rw [decide_eq_true (rfl : V.int ms.length = V.int ms.length)]
        refine q H6 (kp_fresh ri.kp kA (subCons (.inr (ri.fr _ (by o_fieldsN))) (subCons (.inr (ri.fr _ (by o_fieldsN))) (subCons (.inr (ri.fr _ (by o_fieldsN))) (subCons (.inr (frH ri ft)) subNil))))) (bag_kpR kA (fun m => ?_) ri.bag) t6
        have h1 := coll_dj ri.coll b (ri.sub b (by o_fieldsN))
        rcases List.mem_cons.mp m with w | m
        · exact h1 (by rw [w]; o_fieldsN)
        rcases List.mem_cons.mp m with w | m
        · exact h1 (by rw [w]; o_fieldsN)
        rcases List.mem_cons.mp m with w | m
        · exact h1 (by rw [w]; o_fieldsN)
        exact nbF ft ri (List.mem_singleton.mp m)
end
end Ob

set_option Elab.async false
set_option linter.all false
set_option maxRecDepth 100000
set_option maxHeartbeats 1000000
namespace Ob
open PySem PySem.Spec PyProof.Rows L2
open LamX (Tabs TabB TabS ExtN)

set_option hygiene false in
local macro_rules
  | `(tactic| kp_flats) => `(tactic| first
    | assumption
    | exact upd_same
    | (apply atNew; assumption; kp_flats)
    | (apply atNe; (next => kbo_bools); kp_flats)
    | (apply atSame; assumption; kp_flats)
    | (apply atKp; assumption; (next => kaf_pre); kp_flats))
set_option hygiene false in
local macro_rules
  | `(tactic| kaf_pre) => `(tactic| first
    | assumption
    | exact not_nil
    | (apply not_cons; (next => kbo_bools); kaf_pre)
    | (apply not_app; (next => kaf_pre); kaf_pre))
set_option hygiene false in
local macro_rules
  | `(tactic| kbo_bools) => `(tactic| first
    | assumption
    | (apply Ne.symm; assumption)
    | (apply neN; assumption; kp_flats)
    | (apply neN'; assumption; kp_flats))
set_option hygiene false in
local macro_rules
  | `(tactic| o_reads) => `(tactic| first
    | with_reducible rfl
    | assumption
    | rfl
    | kp_flats
    | (show SqL _ _ _ _; first | assumption | (apply sqlOf; kp_flats) | (apply sqlSame; assumption; o_reads))
    | (show SqT _ _ _ _; first | assumption | (apply sqtOf; kp_flats) | (apply sqtAll; assumption) | (apply sqtSame; assumption; o_reads))
    | (show Cls _ _; first | exact T.cl_Calls | exact T.cl_Asker | exact T.cl_Builder | exact T.cl_Blocks)
    | (show NoAttr _ _ _; first | exact T.n_Calls_entries | exact T.n_Calls_running | exact T.n_Asker_calls | exact T.n_Asker_ask_call | exact T.n_Asker_join_call | exact T.n_Asker_zero | exact T.n_Builder_calls | exact T.n_Builder_build_call | exact T.n_Blocks_calls | exact T.n_Blocks_builder | exact T.n_Blocks_asker | exact T.n_Blocks_held | exact T.n_Blocks_parts)
    | (apply Or.inl; o_reads)
    | (apply Or.inr; o_reads)
    | (apply And.intro; (next => o_reads); o_reads)
    | (apply Exists.intro; o_reads)
    | exact Nat.le_of_ble_eq_true rfl
    | exact Nat.succ_ne_zero _
    | (show Fr _ _; kba_ints)
    | (show Same _ _; kd_subs)
    | (show Kp _ _ _; kxs_still)
    | (show (_ : Nat) ≤ _; simp only [List.length_append, List.length_map, List.length_cons, List.length_nil, List.length_take, List.length_drop, List.length_replicate, List.length_range, sizeLine_eq]; omega)
    | (show _ = none; apply Fr.h; kba_ints)
    | (show Bag _ _; first | assumption | (apply bag_putF; assumption; o_reads) | (apply bag_neF; (next => kbo_bools); o_reads) | (apply bag_kpR; assumption; (next => kaf_pre); o_reads))
    | omega
    | decide)
local macro_rules
  | `(tactic| o_readsAll) => `(tactic| repeat (first
    | (refine fun (pNew : Addr) (nNew : _ = none) => ?_; replace nNew := Fr.mk nNew)
    | (refine fun (xNew dNew : Addr) (nNew : _ = none) (mNew : _ = none) (eNew : dNew ≠ xNew) => ?_; replace nNew := Fr.mk nNew; replace mNew := Fr.mk mNew)
    | (apply And.intro; next => o_reads)
    | apply Exists.intro (α := V)
    | apply Exists.intro (α := Addr)
    | apply Exists.intro (α := Int)
    | apply Exists.intro (α := Bool)
    | apply Exists.intro (α := List V)
    | apply Exists.intro (α := List Nat)
    | apply Exists.intro (α := List (Str × V))
    | apply Exists.intro (α := List _)
    | apply Exists.intro (α := Str)
    | apply Exists.intro (α := HO)
    | apply Exists.intro (α := Sp)
    | apply Exists.intro (α := VK)))
set_option hygiene false in
local macro_rules
  | `(tactic| kba_ints) => `(tactic| first
    | assumption
    | (apply frUp; (first | assumption | (apply Ne.symm; assumption)); kba_ints)
    | (apply noneOf; assumption; intro oF eF; apply Exists.intro; kp_flats)
    | (apply frUp; (next => kbo_bools); kba_ints))
set_option hygiene false in
local macro_rules
  | `(tactic| kxs_still) => `(tactic| first
    | assumption
    | exact kp_refl _ _
    | (apply kp_newF; assumption; kxs_still)
    | (apply kp_new; assumption; kxs_still)
    | (apply kp_up; (next => o_fieldsN); kxs_still)
    | (apply kp_new; (next => kba_ints); kxs_still)
    | (apply kp_sameR; assumption; kxs_still)
    | (apply kp_transR; assumption; kxs_still)
    | (apply kp_freshR; assumption; (next => kaf_suf); kxs_still))
set_option hygiene false in
local macro_rules
  | `(tactic| kaf_suf) => `(tactic| first
    | assumption
    | exact subNil
    | (apply subCons; (first | (apply Or.inl; o_fieldsN) | (apply Or.inr; kba_ints)); kaf_suf)
    | (apply subApp; (next => kaf_suf); kaf_suf))
set_option hygiene false in
local macro_rules
  | `(tactic| o_fieldsN) => `(tactic| first
    | assumption
    | exact memA
    | (apply memB; o_fieldsN)
    | (apply memL; o_fieldsN)
    | (apply memR; o_fieldsN))
set_option hygiene false in
local macro_rules
  | `(tactic| kd_subs) => `(tactic| first
    | assumption
    | exact Same.refl _
    | (apply same_putF; assumption; kd_subs)
    | (apply same_putG; assumption; kd_subs)
    | (apply same_putF; (next => kba_ints); kd_subs)
    | (apply same_transR; assumption; kd_subs))

section
variable {P : Program} {w : World} {K : PySem.W.Frag} {mg : Str → Option Value} {base : Heap}
def spLaw (T : Txt K mg) : Sp := fun vs H Q _ => ∃ (a : Addr) (ns : List Int), vs = [.ref a] ∧ SqL K H a (ns.map V.int) ∧ ns.length ≤ 63 ∧ H T.p_l_thing = some (.tbl #[]) ∧ H T.p_l_right = some (.tbl #[]) ∧ ∀ H', Q (.bl true) H'
theorem tabs0 (T : Txt K mg) {H : Hp} (h1 : H T.p_l_thing = some (.tbl #[])) (h2 : H T.p_l_right = some (.tbl #[])) : Tabs (TT T) H := fun p hp => by
  rcases List.mem_cons.mp hp with rfl | m
  · exact LamX.TabS.nil h1
  · rw [List.mem_singleton.mp m]
    exact LamX.TabS.nil h2
theorem sqlKp {cs : List Addr} {H H1 : Hp} {a : Addr} {xs : List V} (h : SqL K H a xs) (k : Kp cs H H1) (n : ∀ c ∈ cs, ∃ ps, H c = some (.tbl ps)) : SqL K H1 a xs := by
  have hn : ∀ o, H a = some o → (∀ ps, o ≠ .tbl ps) → H1 a = some o := fun o e ne => k.at_ _ _ e fun m => by
    obtain ⟨ps, e1⟩ := n a m
    rw [e] at e1
    exact ne _ (Option.some.inj e1)
  rcases h with (h | ⟨o, h⟩) | h
  · exact .inl (.inl (hn _ h fun _ z => nomatch z))
  · exact .inl (.inr ⟨o, hn _ h fun _ z => nomatch z⟩)
  · exact .inr h
theorem frKp {T : Txt K mg} {H H1 : Hp} {a : Addr} (k : Kp [T.p_l_thing, T.p_l_right] H H1) (_n : ∀ c ∈ [T.p_l_thing, T.p_l_right], ∃ ps, H c = some (.tbl ps)) (t : Tabs (TT T) H1) (f : Fr H1 a) : Fr H a := ⟨by
  cases e : H a with
  | none => rfl
  | some u =>
    have h1 : a ≠ T.p_l_thing := by
      obtain ⟨ps, e1, _⟩ := t _ (hm_l_thing T)
      exact neFr f e1
    have h2 : a ≠ T.p_l_right := by
      obtain ⟨ps, e1, _⟩ := t _ (hm_l_right T)
      exact neFr f e1
    have := k.at_ _ _ e (not_cons h1 (not_cons h2 not_nil))
    rw [f.h] at this
    cases this⟩
theorem ok_law (T : Txt K mg) (TB1 : LamX.TabB base mg T.c_l_thing T.p_l_thing) (TB2 : LamX.TabB base mg T.c_l_right T.p_l_right) {f : Addr} {d : FuncData} (F : Fun K "law" "law" s_law f d) : FnOk P w K mg base CX0 40 f d ["_law_script"] (spLaw T) := by
  have G_l_bag := ok_bag (P := P) (w := w) (base := base) T
  have G_l_right := ok_right (P := P) (w := w) (base := base) T TB1 TB2
  refine F.ok sc_law (fun vs H Q E h => ?_) (fun cdv A outer s H vs Q E hr h => ?_)
  · obtain ⟨a, ns, rfl, _⟩ := h
    rfl
  · obtain ⟨a, ns, rfl, hS, hlen, ht1, ht2, q⟩ := h
    refine ⟨_, (pss_cons (ps_for PassesOwn.never rfl (pi_range1 (by rfl) T.z_range (pa_cons (pe_op op_add pe_int (pe_callB (call_min2 rfl) (by rfl) T.z_min (by decide +kernel) (pa_cons pe_int (pa_cons (pe_callB call_len_seq (by rfl) T.z_len (by decide +kernel) (pa_cons (pv 0) pa_nil)) pa_nil)))) pa_nil)) (pg_name (i := 1) sc_law.nd rfl (.inl rfl)) (pss_cons (ps_set (i := 2) sc_law.nd rfl (.inl rfl) (pe_call G_l_bag (hr.mono (by omega)) rfl T.g_l_bag T.F_l_bag.kp T.b_l_bag .nil pass0 (pa_cons (pv 0) (pa_cons (pv 1) pa_nil))))
        (pss_one (ps_if (pt_not (pt_truth (pe_call G_l_right (hr.mono (by omega)) rfl T.g_l_right T.F_l_right.kp T.b_l_right .nil pass0 (pa_cons (pv 2) (pa_cons (pe_lst pa_nil) pa_nil))) (by intro _; rfl))) (pss_one (ps_ret pe_bl)) pss_nil))))
      (pss_one (ps_ret pe_bl))), ?_⟩
    have tb := tabs0 T ht1 ht2
    refine ⟨_, rfl, a, _, rfl, .inl hS, 3, _, rfl, _, _, rfl, rfl, _, rfl, ?_, ?_, ?_⟩
    · split <;> omega
    · split <;> omega
    generalize hN : ((1 : Int) + (if (((ns.map V.int).length : Nat) : Int) < 3 then (((ns.map V.int).length : Nat) : Int) else 3)).toNat = N
    have hN2 : N ≤ 4 := by
      rw [← hN]
      split <;> omega
    refine for_range (fun i σ H' => ∃ y1 y2, σ = [some (.ref a), y1, y2] ∧ Kp [T.p_l_thing, T.p_l_right] H H' ∧ Tabs (TT T) H') ⟨_, _, rfl, kp_refl _ _, tb⟩ ?_ ?_
    · rintro i σ H' hi ⟨y1, y2, rfl, k1, t1⟩
      have hS1 := sqlKp hS k1 (subCons ⟨_, ht1⟩ (subCons ⟨_, ht2⟩ subNil))
      refine ⟨_, rfl, _, rfl, a, ns, i, by rw [Int.zero_add]; rfl, hS1, by omega, fun p H2 np s2 b2 => ?_⟩
      o_readsAll
      rename_i pN nN
      have t2 : Tabs (TT T) H2 := tabs_same t1 s2
      have np1 : Fr H p := frKp k1 (subCons ⟨_, ht1⟩ (subCons ⟨_, ht2⟩ subNil)) t1 ⟨np⟩
      have nN1 : Fr H pN := frKp k1 (subCons ⟨_, ht1⟩ (subCons ⟨_, ht2⟩ subNil)) t1 ⟨s2.free nN.h⟩
      refine ⟨tabs_same t2 (same_newF nN), upd_same, (fun z => by
        obtain ⟨g, m, q', eb, _⟩ := b2
        exact neFr nN eb z), fun H4 k4 b4 t4 => ?_⟩
      refine ⟨true, rfl, ?_⟩
      have k5 : Kp [T.p_l_thing, T.p_l_right] H H4 := by
        refine kp_fresh (kp_trans k1 (kp_same (s2.trans (same_newF nN)))) k4 (subCons (.inr np1) (subCons (.inr nN1) (subCons (.inl (by o_fieldsN)) (subCons (.inl (by o_fieldsN)) subNil))))
      refine ifF rfl ?_
      exact ⟨_, _, rfl, k5, t4⟩
    · rintro σ H' ⟨y1, y2, rfl, k1, t1⟩
      o_readsAll
      exact q _
end
theorem all_mk {QQ : Program} {l : PySem.W.OpenLaw} {w : World} {K : PySem.W.Frag} {h : Heap} {mg : Str → Option Value} {fa : Addr} (X : K.In h) (G : h.Ns mainGlobals mg) (hfa : mg "law" = some (.ref fa)) (tt : Inf.TopTabs QQ K mg h)
    {C_Calls : Addr} {C_Asker : Addr} {C_Builder : Addr} {C_Blocks : Addr} {a0 : Addr} {oc0 kV0 dc0 pm0 ct0 : Value} {od0 an0 : Option Addr} {sl0 : Array (Option Value)} {cd0 : Value} {a1 : Addr} {oc1 kV1 dc1 pm1 ct1 : Value} {od1 an1 : Option Addr} {sl1 : Array (Option Value)} {cd1 : Value} {dT1 dE1 : Addr} {oT1 : Value} {pT1 pE1 : Option Addr} {nT1 nE1 : Nat} {sT1 sE1 : Array (Option Value)} {a2 : Addr} {oc2 kV2 dc2 pm2 ct2 : Value} {od2 an2 : Option Addr} {sl2 : Array (Option Value)} {cd2 : Value} {a3 : Addr} {oc3 kV3 dc3 pm3 ct3 : Value} {od3 an3 : Option Addr} {sl3 : Array (Option Value)} {cd3 : Value} {dT3 dE3 : Addr} {oT3 : Value} {pT3 pE3 : Option Addr} {nT3 nE3 : Nat} {sT3 sE3 : Array (Option Value)} {a4 : Addr} {oc4 kV4 dc4 pm4 ct4 : Value} {od4 an4 : Option Addr} {sl4 : Array (Option Value)} {cd4 : Value} {dT4 dE4 : Addr} {oT4 : Value} {pT4 pE4 : Option Addr} {nT4 nE4 : Nat} {sT4 sE4 : Array (Option Value)} {a5 : Addr} {oc5 kV5 dc5 pm5 ct5 : Value} {od5 an5 : Option Addr} {sl5 : Array (Option Value)} {cd5 : Value} {a6 : Addr} {oc6 kV6 dc6 pm6 ct6 : Value} {od6 an6 : Option Addr} {sl6 : Array (Option Value)} {cd6 : Value} {a7 : Addr} {oc7 kV7 dc7 pm7 ct7 : Value} {od7 an7 : Option Addr} {sl7 : Array (Option Value)} {cd7 : Value} {a8 : Addr} {kd8 : Addr} {oc8 dc8 pm8 ct8 : Value} {od8 an8 : Option Addr} {sl8 : Array (Option Value)} {cd8 : Value} {a9 : Addr} {oc9 kV9 dc9 pm9 ct9 : Value} {od9 an9 : Option Addr} {sl9 : Array (Option Value)} {cd9 : Value} {a10 : Addr} {oc10 kV10 dc10 pm10 ct10 : Value} {od10 an10 : Option Addr} {sl10 : Array (Option Value)} {cd10 : Value} {a11 : Addr} {oc11 kV11 dc11 pm11 ct11 : Value} {od11 an11 : Option Addr} {sl11 : Array (Option Value)} {cd11 : Value} {a12 : Addr} {oc12 kV12 dc12 pm12 ct12 : Value} {od12 an12 : Option Addr} {sl12 : Array (Option Value)} {cd12 : Value} {a13 : Addr} {oc13 kV13 dc13 pm13 ct13 : Value} {od13 an13 : Option Addr} {sl13 : Array (Option Value)} {cd13 : Value} {a14 : Addr} {oc14 kV14 dc14 pm14 ct14 : Value} {od14 an14 : Option Addr} {sl14 : Array (Option Value)} {cd14 : Value} {a15 : Addr} {oc15 kV15 dc15 pm15 ct15 : Value} {od15 an15 : Option Addr} {sl15 : Array (Option Value)} {cd15 : Value} {a16 : Addr} {oc16 kV16 dc16 pm16 ct16 : Value} {od16 an16 : Option Addr} {sl16 : Array (Option Value)} {cd16 : Value} {dT16 dE16 : Addr} {oT16 : Value} {pT16 pE16 : Option Addr} {nT16 nE16 : Nat} {sT16 sE16 : Array (Option Value)} {a17 : Addr} {oc17 kV17 dc17 pm17 ct17 : Value} {od17 an17 : Option Addr} {sl17 : Array (Option Value)} {cd17 : Value} {a18 : Addr} {oc18 kV18 dc18 pm18 ct18 : Value} {od18 an18 : Option Addr} {sl18 : Array (Option Value)} {cd18 : Value} {a19 : Addr} {oc19 kV19 dc19 pm19 ct19 : Value} {od19 an19 : Option Addr} {sl19 : Array (Option Value)} {cc19 pp19 : Addr} {lv19 : Array Value} {lo19 : Value} {ld19 : Option Addr} {ls19 : Array (Option Value)} {a20 : Addr} {oc20 kV20 dc20 pm20 ct20 : Value} {od20 an20 : Option Addr} {sl20 : Array (Option Value)} {cc20 pp20 : Addr} {lv20 : Array Value} {lo20 : Value} {ld20 : Option Addr} {ls20 : Array (Option Value)} {a21 : Addr} {oc21 kV21 dc21 pm21 ct21 : Value} {od21 an21 : Option Addr} {sl21 : Array (Option Value)} {cd21 : Value}
    (gc_Calls : PySem.W.nsIn K mainGlobals "Calls" = some (some (.ref C_Calls)))
    (gc_Asker : PySem.W.nsIn K mainGlobals "Asker" = some (some (.ref C_Asker)))
    (gc_Builder : PySem.W.nsIn K mainGlobals "Builder" = some (some (.ref C_Builder)))
    (gc_Blocks : PySem.W.nsIn K mainGlobals "Blocks" = some (some (.ref C_Blocks)))
    (ma0 : PySem.W.findIn K (.ref C_Asker) "__init__" = some (some (.ref a0)))
    (l0 : K.lookup a0 = some ⟨oc0, od0, .func (PySem.W.fnOf "__init__" "Asker.__init__" (defArgs s_Asker_init) (defBody s_Asker_init) (defScope s_Asker_init) .none kV0 dc0 pm0 an0 cd0 ct0), sl0⟩) (c0 : PySem.W.codeIn K cd0 "Asker.__init__" = true) (k0 : PySem.W.keepIn K (.ref a0) = true)
    (mt0 : PySem.W.isFn K (.ref a0) = true) (my0 : PySem.W.typeIn K (.ref a0) = some (.type "function"))
    (ma1 : PySem.W.findIn K (.ref C_Asker) "answer" = some (some (.ref a1)))
    (l1 : K.lookup a1 = some ⟨oc1, od1, .func (PySem.W.fnOf "answer" "Asker.answer" (defArgs s_Asker_answer) (defBody s_Asker_answer) (defScope s_Asker_answer) (.ref dT1) kV1 dc1 pm1 an1 cd1 ct1), sl1⟩) (c1 : PySem.W.codeIn K cd1 "Asker.answer" = true) (k1 : PySem.W.keepIn K (.ref a1) = true)
    (dl1 : K.lookup dT1 = some ⟨oT1, pT1, .seq (List.toArray [.ref dE1]) nT1, sT1⟩) (de1 : K.lookup dE1 = some ⟨.type "tuple", pE1, .seq (List.toArray []) nE1, sE1⟩)
    (mt1 : PySem.W.isFn K (.ref a1) = true) (my1 : PySem.W.typeIn K (.ref a1) = some (.type "function"))
    (ma2 : PySem.W.findIn K (.ref C_Builder) "__init__" = some (some (.ref a2)))
    (l2 : K.lookup a2 = some ⟨oc2, od2, .func (PySem.W.fnOf "__init__" "Builder.__init__" (defArgs s_Builder_init) (defBody s_Builder_init) (defScope s_Builder_init) .none kV2 dc2 pm2 an2 cd2 ct2), sl2⟩) (c2 : PySem.W.codeIn K cd2 "Builder.__init__" = true) (k2 : PySem.W.keepIn K (.ref a2) = true)
    (mt2 : PySem.W.isFn K (.ref a2) = true) (my2 : PySem.W.typeIn K (.ref a2) = some (.type "function"))
    (ma3 : PySem.W.findIn K (.ref C_Builder) "part" = some (some (.ref a3)))
    (l3 : K.lookup a3 = some ⟨oc3, od3, .func (PySem.W.fnOf "part" "Builder.part" (defArgs s_Builder_part) (defBody s_Builder_part) (defScope s_Builder_part) (.ref dT3) kV3 dc3 pm3 an3 cd3 ct3), sl3⟩) (c3 : PySem.W.codeIn K cd3 "Builder.part" = true) (k3 : PySem.W.keepIn K (.ref a3) = true)
    (dl3 : K.lookup dT3 = some ⟨oT3, pT3, .seq (List.toArray [.ref dE3]) nT3, sT3⟩) (de3 : K.lookup dE3 = some ⟨.type "tuple", pE3, .seq (List.toArray []) nE3, sE3⟩)
    (mt3 : PySem.W.isFn K (.ref a3) = true) (my3 : PySem.W.typeIn K (.ref a3) = some (.type "function"))
    (ma4 : PySem.W.findIn K (.ref C_Builder) "grown_row" = some (some (.ref a4)))
    (l4 : K.lookup a4 = some ⟨oc4, od4, .func (PySem.W.fnOf "grown_row" "Builder.grown_row" (defArgs s_Builder_grown_row) (defBody s_Builder_grown_row) (defScope s_Builder_grown_row) (.ref dT4) kV4 dc4 pm4 an4 cd4 ct4), sl4⟩) (c4 : PySem.W.codeIn K cd4 "Builder.grown_row" = true) (k4 : PySem.W.keepIn K (.ref a4) = true)
    (dl4 : K.lookup dT4 = some ⟨oT4, pT4, .seq (List.toArray [.ref dE4]) nT4, sT4⟩) (de4 : K.lookup dE4 = some ⟨.type "tuple", pE4, .seq (List.toArray []) nE4, sE4⟩)
    (mt4 : PySem.W.isFn K (.ref a4) = true) (my4 : PySem.W.typeIn K (.ref a4) = some (.type "function"))
    (ma5 : PySem.W.findIn K (.ref C_Calls) "__init__" = some (some (.ref a5)))
    (l5 : K.lookup a5 = some ⟨oc5, od5, .func (PySem.W.fnOf "__init__" "Calls.__init__" (defArgs s_Calls_init) (defBody s_Calls_init) (defScope s_Calls_init) .none kV5 dc5 pm5 an5 cd5 ct5), sl5⟩) (c5 : PySem.W.codeIn K cd5 "Calls.__init__" = true) (k5 : PySem.W.keepIn K (.ref a5) = true)
    (mt5 : PySem.W.isFn K (.ref a5) = true) (my5 : PySem.W.typeIn K (.ref a5) = some (.type "function"))
    (ma6 : PySem.W.findIn K (.ref C_Calls) "check" = some (some (.ref a6)))
    (l6 : K.lookup a6 = some ⟨oc6, od6, .func (PySem.W.fnOf "check" "Calls.check" (defArgs s_Calls_check) (defBody s_Calls_check) (defScope s_Calls_check) .none kV6 dc6 pm6 an6 cd6 ct6), sl6⟩) (c6 : PySem.W.codeIn K cd6 "Calls.check" = true) (k6 : PySem.W.keepIn K (.ref a6) = true)
    (mt6 : PySem.W.isFn K (.ref a6) = true) (my6 : PySem.W.typeIn K (.ref a6) = some (.type "function"))
    (ma7 : PySem.W.findIn K (.ref C_Calls) "run" = some (some (.ref a7)))
    (l7 : K.lookup a7 = some ⟨oc7, od7, .func (PySem.W.fnOf "run" "Calls.run" (defArgs s_Calls_run) (defBody s_Calls_run) (defScope s_Calls_run) .none kV7 dc7 pm7 an7 cd7 ct7), sl7⟩) (c7 : PySem.W.codeIn K cd7 "Calls.run" = true) (k7 : PySem.W.keepIn K (.ref a7) = true)
    (mt7 : PySem.W.isFn K (.ref a7) = true) (my7 : PySem.W.typeIn K (.ref a7) = some (.type "function"))
    (ma8 : PySem.W.findIn K (.ref C_Blocks) "__init__" = some (some (.ref a8)))
    (l8 : K.lookup a8 = some ⟨oc8, od8, .func (PySem.W.fnOf "__init__" "Blocks.__init__" (defArgs s_Blocks_init) (defBody s_Blocks_init) (defScope s_Blocks_init) .none (.ref kd8) dc8 pm8 an8 cd8 ct8), sl8⟩) (c8 : PySem.W.codeIn K cd8 "Blocks.__init__" = true) (k8 : PySem.W.keepIn K (.ref a8) = true)
    (kw8_0 : PySem.W.nsIn K kd8 "zero" = some (some .none))
    (mt8 : PySem.W.isFn K (.ref a8) = true) (my8 : PySem.W.typeIn K (.ref a8) = some (.type "function"))
    (ma9 : PySem.W.findIn K (.ref C_Blocks) "add" = some (some (.ref a9)))
    (l9 : K.lookup a9 = some ⟨oc9, od9, .func (PySem.W.fnOf "add" "Blocks.add" (defArgs s_Blocks_add) (defBody s_Blocks_add) (defScope s_Blocks_add) .none kV9 dc9 pm9 an9 cd9 ct9), sl9⟩) (c9 : PySem.W.codeIn K cd9 "Blocks.add" = true) (k9 : PySem.W.keepIn K (.ref a9) = true)
    (mt9 : PySem.W.isFn K (.ref a9) = true) (my9 : PySem.W.typeIn K (.ref a9) = some (.type "function"))
    (ma10 : PySem.W.findIn K (.ref C_Blocks) "query" = some (some (.ref a10)))
    (l10 : K.lookup a10 = some ⟨oc10, od10, .func (PySem.W.fnOf "query" "Blocks.query" (defArgs s_Blocks_query) (defBody s_Blocks_query) (defScope s_Blocks_query) .none kV10 dc10 pm10 an10 cd10 ct10), sl10⟩) (c10 : PySem.W.codeIn K cd10 "Blocks.query" = true) (k10 : PySem.W.keepIn K (.ref a10) = true)
    (mt10 : PySem.W.isFn K (.ref a10) = true) (my10 : PySem.W.typeIn K (.ref a10) = some (.type "function"))
    (ma11 : PySem.W.findIn K (.ref C_Blocks) "members" = some (some (.ref a11)))
    (l11 : K.lookup a11 = some ⟨oc11, od11, .func (PySem.W.fnOf "members" "Blocks.members" (defArgs s_Blocks_members) (defBody s_Blocks_members) (defScope s_Blocks_members) .none kV11 dc11 pm11 an11 cd11 ct11), sl11⟩) (c11 : PySem.W.codeIn K cd11 "Blocks.members" = true) (k11 : PySem.W.keepIn K (.ref a11) = true)
    (mt11 : PySem.W.isFn K (.ref a11) = true) (my11 : PySem.W.typeIn K (.ref a11) = some (.type "function"))
    (ma12 : PySem.W.findIn K (.ref C_Blocks) "__len__" = some (some (.ref a12)))
    (l12 : K.lookup a12 = some ⟨oc12, od12, .func (PySem.W.fnOf "__len__" "Blocks.__len__" (defArgs s_Blocks_len) (defBody s_Blocks_len) (defScope s_Blocks_len) .none kV12 dc12 pm12 an12 cd12 ct12), sl12⟩) (c12 : PySem.W.codeIn K cd12 "Blocks.__len__" = true) (k12 : PySem.W.keepIn K (.ref a12) = true)
    (mt12 : PySem.W.isFn K (.ref a12) = true) (my12 : PySem.W.typeIn K (.ref a12) = some (.type "function"))
    (ga13 : PySem.W.nsIn K mainGlobals "exponent" = some (some (.ref a13)))
    (l13 : K.lookup a13 = some ⟨oc13, od13, .func (PySem.W.fnOf "exponent" "exponent" (defArgs s_exponent) (defBody s_exponent) (defScope s_exponent) .none kV13 dc13 pm13 an13 cd13 ct13), sl13⟩) (c13 : PySem.W.codeIn K cd13 "exponent" = true) (k13 : PySem.W.keepIn K (.ref a13) = true)
    (ga14 : PySem.W.nsIn K mainGlobals "lowest_power" = some (some (.ref a14)))
    (l14 : K.lookup a14 = some ⟨oc14, od14, .func (PySem.W.fnOf "lowest_power" "lowest_power" (defArgs s_lowest_power) (defBody s_lowest_power) (defScope s_lowest_power) .none kV14 dc14 pm14 an14 cd14 ct14), sl14⟩) (c14 : PySem.W.codeIn K cd14 "lowest_power" = true) (k14 : PySem.W.keepIn K (.ref a14) = true)
    (ga15 : PySem.W.nsIn K mainGlobals "growth" = some (some (.ref a15)))
    (l15 : K.lookup a15 = some ⟨oc15, od15, .func (PySem.W.fnOf "growth" "growth" (defArgs s_growth) (defBody s_growth) (defScope s_growth) .none kV15 dc15 pm15 an15 cd15 ct15), sl15⟩) (c15 : PySem.W.codeIn K cd15 "growth" = true) (k15 : PySem.W.keepIn K (.ref a15) = true)
    (ga16 : PySem.W.nsIn K mainGlobals "build_entry" = some (some (.ref a16)))
    (l16 : K.lookup a16 = some ⟨oc16, od16, .func (PySem.W.fnOf "build_entry" "build_entry" (defArgs s_build_entry) (defBody s_build_entry) (defScope s_build_entry) (.ref dT16) kV16 dc16 pm16 an16 cd16 ct16), sl16⟩) (c16 : PySem.W.codeIn K cd16 "build_entry" = true) (k16 : PySem.W.keepIn K (.ref a16) = true)
    (dl16 : K.lookup dT16 = some ⟨oT16, pT16, .seq (List.toArray [.ref dE16]) nT16, sT16⟩) (de16 : K.lookup dE16 = some ⟨.type "tuple", pE16, .seq (List.toArray []) nE16, sE16⟩)
    (ga17 : PySem.W.nsIn K mainGlobals "_law_bag" = some (some (.ref a17)))
    (l17 : K.lookup a17 = some ⟨oc17, od17, .func (PySem.W.fnOf "_law_bag" "_law_bag" (defArgs s_l_bag) (defBody s_l_bag) (defScope s_l_bag) .none kV17 dc17 pm17 an17 cd17 ct17), sl17⟩) (c17 : PySem.W.codeIn K cd17 "_law_bag" = true) (k17 : PySem.W.keepIn K (.ref a17) = true)
    (ga18 : PySem.W.nsIn K mainGlobals "_law_take" = some (some (.ref a18)))
    (l18 : K.lookup a18 = some ⟨oc18, od18, .func (PySem.W.fnOf "_law_take" "_law_take" (defArgs s_l_take) (defBody s_l_take) (defScope s_l_take) .none kV18 dc18 pm18 an18 cd18 ct18), sl18⟩) (c18 : PySem.W.codeIn K cd18 "_law_take" = true) (k18 : PySem.W.keepIn K (.ref a18) = true)
    (ga19 : PySem.W.nsIn K mainGlobals "_law_thing" = some (some (.ref a19)))
    (l19 : K.lookup a19 = some ⟨oc19, od19, .func (PySem.W.fnOf "_law_thing" "_law_thing" (defArgs s_l_thing) (defBody s_l_thing) (defScope s_l_thing) .none kV19 dc19 pm19 an19 (.ref cc19) ct19), sl19⟩) (c19 : PySem.W.codeIn K (.ref cc19) "_law_thing" = true) (k19 : PySem.W.keepIn K (.ref a19) = true)
    (tl19 : K.lookup cc19 = some ⟨lo19, ld19, .fields lv19, ls19⟩) (tp19 : lv19[11]? = some (.ref pp19)) (tn19 : K.lookup pp19 = none) (tr19 : (PyProof.Rows.recsOf QQ).any (fun d => d.name == "_law_thing") = true)
    (ga20 : PySem.W.nsIn K mainGlobals "_law_right" = some (some (.ref a20)))
    (l20 : K.lookup a20 = some ⟨oc20, od20, .func (PySem.W.fnOf "_law_right" "_law_right" (defArgs s_l_right) (defBody s_l_right) (defScope s_l_right) .none kV20 dc20 pm20 an20 (.ref cc20) ct20), sl20⟩) (c20 : PySem.W.codeIn K (.ref cc20) "_law_right" = true) (k20 : PySem.W.keepIn K (.ref a20) = true)
    (tl20 : K.lookup cc20 = some ⟨lo20, ld20, .fields lv20, ls20⟩) (tp20 : lv20[11]? = some (.ref pp20)) (tn20 : K.lookup pp20 = none) (tr20 : (PyProof.Rows.recsOf QQ).any (fun d => d.name == "_law_right") = true)
    (ga21 : PySem.W.nsIn K mainGlobals "law" = some (some (.ref a21)))
    (l21 : K.lookup a21 = some ⟨oc21, od21, .func (PySem.W.fnOf "law" "law" (defArgs s_law) (defBody s_law) (defScope s_law) .none kV21 dc21 pm21 an21 cd21 ct21), sl21⟩) (c21 : PySem.W.codeIn K cd21 "law" = true) (k21 : PySem.W.keepIn K (.ref a21) = true)
    (pne19_20 : pp19 ≠ pp20)
    (z_abs : PySem.W.nsIn K mainGlobals "abs" = some none)
    (z_bool : PySem.W.nsIn K mainGlobals "bool" = some none)
    (z_classmethod : PySem.W.nsIn K mainGlobals "classmethod" = some none)
    (z_dict : PySem.W.nsIn K mainGlobals "dict" = some none)
    (z_int : PySem.W.nsIn K mainGlobals "int" = some none)
    (z_isinstance : PySem.W.nsIn K mainGlobals "isinstance" = some none)
    (z_len : PySem.W.nsIn K mainGlobals "len" = some none)
    (z_list : PySem.W.nsIn K mainGlobals "list" = some none)
    (z_min : PySem.W.nsIn K mainGlobals "min" = some none)
    (z_range : PySem.W.nsIn K mainGlobals "range" = some none)
    (z_tuple : PySem.W.nsIn K mainGlobals "tuple" = some none)
    (pg_Calls : PySem.W.plainGet K C_Calls Str.empty = true)
    (hd_Calls : PySem.W.hasDictIn K C_Calls = true)
    (po_Calls : PySem.W.plainOver K C_Calls = true)
    (sa_Calls : PySem.W.findIn K (.ref C_Calls) "__setattr__" = some (some (.builtin "object.__setattr__")))
    (mk_Calls : PySem.W.makesIn K C_Calls = true)
    (kp_Calls : PySem.W.keepIn K (.ref C_Calls) = true)
    (n_Calls_entries : PySem.W.findIn K (.ref C_Calls) "entries" = some none)
    (n_Calls_running : PySem.W.findIn K (.ref C_Calls) "running" = some none)
    (pg_Asker : PySem.W.plainGet K C_Asker Str.empty = true)
    (hd_Asker : PySem.W.hasDictIn K C_Asker = true)
    (po_Asker : PySem.W.plainOver K C_Asker = true)
    (sa_Asker : PySem.W.findIn K (.ref C_Asker) "__setattr__" = some (some (.builtin "object.__setattr__")))
    (mk_Asker : PySem.W.makesIn K C_Asker = true)
    (kp_Asker : PySem.W.keepIn K (.ref C_Asker) = true)
    (n_Asker_calls : PySem.W.findIn K (.ref C_Asker) "calls" = some none)
    (n_Asker_ask_call : PySem.W.findIn K (.ref C_Asker) "ask_call" = some none)
    (n_Asker_join_call : PySem.W.findIn K (.ref C_Asker) "join_call" = some none)
    (n_Asker_zero : PySem.W.findIn K (.ref C_Asker) "zero" = some none)
    (pg_Builder : PySem.W.plainGet K C_Builder Str.empty = true)
    (hd_Builder : PySem.W.hasDictIn K C_Builder = true)
    (po_Builder : PySem.W.plainOver K C_Builder = true)
    (sa_Builder : PySem.W.findIn K (.ref C_Builder) "__setattr__" = some (some (.builtin "object.__setattr__")))
    (mk_Builder : PySem.W.makesIn K C_Builder = true)
    (kp_Builder : PySem.W.keepIn K (.ref C_Builder) = true)
    (n_Builder_calls : PySem.W.findIn K (.ref C_Builder) "calls" = some none)
    (n_Builder_build_call : PySem.W.findIn K (.ref C_Builder) "build_call" = some none)
    (pg_Blocks : PySem.W.plainGet K C_Blocks Str.empty = true)
    (hd_Blocks : PySem.W.hasDictIn K C_Blocks = true)
    (po_Blocks : PySem.W.plainOver K C_Blocks = true)
    (sa_Blocks : PySem.W.findIn K (.ref C_Blocks) "__setattr__" = some (some (.builtin "object.__setattr__")))
    (mk_Blocks : PySem.W.makesIn K C_Blocks = true)
    (kp_Blocks : PySem.W.keepIn K (.ref C_Blocks) = true)
    (n_Blocks_calls : PySem.W.findIn K (.ref C_Blocks) "calls" = some none)
    (n_Blocks_builder : PySem.W.findIn K (.ref C_Blocks) "builder" = some none)
    (n_Blocks_asker : PySem.W.findIn K (.ref C_Blocks) "asker" = some none)
    (n_Blocks_held : PySem.W.findIn K (.ref C_Blocks) "held" = some none)
    (n_Blocks_parts : PySem.W.findIn K (.ref C_Blocks) "parts" = some none) : Inf.LawAtG l w K CX0 40 63 "_law_script" mg fa h := by
  have e := hfa.symm.trans (PySem.W.mg_of X G ga21)
  cases e
  have F0 := fun_mk (st := s_Asker_init) l0 c0 k0
  have F1 : FunD K "answer" "Asker.answer" (defArgs s_Asker_answer) (defBody s_Asker_answer) (defScope s_Asker_answer) [V.ref dE1] [] a1 _ := ⟨⟨_, _, _, _, _, _, _, _, _, _, rfl, l1, c1, .inr ⟨List.cons_ne_nil _ _, dT1, _, [.ref dE1], _, rfl, dl1, rfl, .cons rfl .nil⟩, .inl rfl⟩, k1⟩
  obtain ⟨ds1, vd1, bd1⟩ := FunD.binds1 (ps := ["self", "parts", "question", "mark"]) F1 3 0 (List.cons_ne_nil _ _) rfl (fun T kV doc pm an cdv ct us its h1 h2 => match us, h1, its, h2 with | [_, _, _], _, [_], _ => ⟨_, rfl, rfl⟩)
  obtain ⟨es1, ve1, be1⟩ := FunD.binds1 (ps := ["self", "parts", "question", "mark"]) F1 4 1 (List.cons_ne_nil _ _) rfl (fun T kV doc pm an cdv ct us its h1 h2 => match us, h1, its, h2 with | [_, _, _, _], _, [_], _ => ⟨_, rfl, rfl⟩)
  cases ve1
  have F2 := fun_mk (st := s_Builder_init) l2 c2 k2
  have F3 : FunD K "part" "Builder.part" (defArgs s_Builder_part) (defBody s_Builder_part) (defScope s_Builder_part) [V.ref dE3] [] a3 _ := ⟨⟨_, _, _, _, _, _, _, _, _, _, rfl, l3, c3, .inr ⟨List.cons_ne_nil _ _, dT3, _, [.ref dE3], _, rfl, dl3, rfl, .cons rfl .nil⟩, .inl rfl⟩, k3⟩
  obtain ⟨ds3, vd3, bd3⟩ := FunD.binds1 (ps := ["self", "numbers", "held", "mark"]) F3 3 0 (List.cons_ne_nil _ _) rfl (fun T kV doc pm an cdv ct us its h1 h2 => match us, h1, its, h2 with | [_, _, _], _, [_], _ => ⟨_, rfl, rfl⟩)
  obtain ⟨es3, ve3, be3⟩ := FunD.binds1 (ps := ["self", "numbers", "held", "mark"]) F3 4 1 (List.cons_ne_nil _ _) rfl (fun T kV doc pm an cdv ct us its h1 h2 => match us, h1, its, h2 with | [_, _, _, _], _, [_], _ => ⟨_, rfl, rfl⟩)
  cases ve3
  have F4 : FunD K "grown_row" "Builder.grown_row" (defArgs s_Builder_grown_row) (defBody s_Builder_grown_row) (defScope s_Builder_grown_row) [V.ref dE4] [] a4 _ := ⟨⟨_, _, _, _, _, _, _, _, _, _, rfl, l4, c4, .inr ⟨List.cons_ne_nil _ _, dT4, _, [.ref dE4], _, rfl, dl4, rfl, .cons rfl .nil⟩, .inl rfl⟩, k4⟩
  obtain ⟨ds4, vd4, bd4⟩ := FunD.binds1 (ps := ["self", "parts", "many", "number", "held", "mark"]) F4 5 0 (List.cons_ne_nil _ _) rfl (fun T kV doc pm an cdv ct us its h1 h2 => match us, h1, its, h2 with | [_, _, _, _, _], _, [_], _ => ⟨_, rfl, rfl⟩)
  obtain ⟨es4, ve4, be4⟩ := FunD.binds1 (ps := ["self", "parts", "many", "number", "held", "mark"]) F4 6 1 (List.cons_ne_nil _ _) rfl (fun T kV doc pm an cdv ct us its h1 h2 => match us, h1, its, h2 with | [_, _, _, _, _, _], _, [_], _ => ⟨_, rfl, rfl⟩)
  cases ve4
  have F5 := fun_mk (st := s_Calls_init) l5 c5 k5
  have F6 := fun_mk (st := s_Calls_check) l6 c6 k6
  have F7 := fun_mk (st := s_Calls_run) l7 c7 k7
  have F8 : FunD K "__init__" "Blocks.__init__" (defArgs s_Blocks_init) (defBody s_Blocks_init) (defScope s_Blocks_init) [] [("zero", V.non)] a8 _ := ⟨⟨_, _, _, _, _, _, _, _, _, _, rfl, l8, c8, .inl ⟨rfl, rfl⟩, .inr ⟨kd8, rfl, fun q hq => by
      rcases List.mem_singleton.mp hq with rfl
      exact ⟨_, kw8_0, rfl⟩⟩⟩, k8⟩
  have F9 := fun_mk (st := s_Blocks_add) l9 c9 k9
  have F10 := fun_mk (st := s_Blocks_query) l10 c10 k10
  have F11 := fun_mk (st := s_Blocks_members) l11 c11 k11
  have F12 := fun_mk (st := s_Blocks_len) l12 c12 k12
  have F13 := fun_mk (st := s_exponent) l13 c13 k13
  have F14 := fun_mk (st := s_lowest_power) l14 c14 k14
  have F15 := fun_mk (st := s_growth) l15 c15 k15
  have F16 : FunD K "build_entry" "build_entry" (defArgs s_build_entry) (defBody s_build_entry) (defScope s_build_entry) [V.ref dE16] [] a16 _ := ⟨⟨_, _, _, _, _, _, _, _, _, _, rfl, l16, c16, .inr ⟨List.cons_ne_nil _ _, dT16, _, [.ref dE16], _, rfl, dl16, rfl, .cons rfl .nil⟩, .inl rfl⟩, k16⟩
  obtain ⟨ds16, vd16, bd16⟩ := FunD.binds1 (ps := ["numbers", "mark"]) F16 1 0 (List.cons_ne_nil _ _) rfl (fun T kV doc pm an cdv ct us its h1 h2 => match us, h1, its, h2 with | [_], _, [_], _ => ⟨_, rfl, rfl⟩)
  obtain ⟨es16, ve16, be16⟩ := FunD.binds1 (ps := ["numbers", "mark"]) F16 2 1 (List.cons_ne_nil _ _) rfl (fun T kV doc pm an cdv ct us its h1 h2 => match us, h1, its, h2 with | [_, _], _, [_], _ => ⟨_, rfl, rfl⟩)
  cases ve16
  have F17 := fun_mk (st := s_l_bag) l17 c17 k17
  have F18 := fun_mk (st := s_l_take) l18 c18 k18
  have F19 : FunT K "_law_thing" "_law_thing" s_l_thing a19 _ cc19 := ⟨⟨_, _, _, _, _, _, _, _, rfl, l19, c19⟩, k19⟩
  have B19 : Binds K _ ["_law_bag_here"] [] := .all (fd := PySem.W.fnOf "_law_thing" "_law_thing" (defArgs s_l_thing) (defBody s_l_thing) (defScope s_l_thing) .none kV19 dc19 pm19 an19 (.ref cc19) ct19) fun us hl => match us, hl with | [_], _ => rfl
  have F20 : FunT K "_law_right" "_law_right" s_l_right a20 _ cc20 := ⟨⟨_, _, _, _, _, _, _, _, rfl, l20, c20⟩, k20⟩
  have B20 : Binds K _ ["_law_bag_here", "_law_zero_list"] [] := .all (fd := PySem.W.fnOf "_law_right" "_law_right" (defArgs s_l_right) (defBody s_l_right) (defScope s_l_right) .none kV20 dc20 pm20 an20 (.ref cc20) ct20) fun us hl => match us, hl with | [_, _], _ => rfl
  have F21 := fun_mk (st := s_law) l21 c21 k21
  have T19 := tt "_law_thing" a19 cc19 pp19 _ _ _ _ _ _ tr19 (PySem.W.mg_of X G ga19) l19 rfl rfl tl19 tp19
  have T20 := tt "_law_right" a20 cc20 pp20 _ _ _ _ _ _ tr20 (PySem.W.mg_of X G ga20) l20 rfl rfl tl20 tp20
  let T : Txt K mg := {
    C_Calls := C_Calls,
    gc_Calls := PySem.W.mg_of X G gc_Calls,
    C_Asker := C_Asker,
    gc_Asker := PySem.W.mg_of X G gc_Asker,
    C_Builder := C_Builder,
    gc_Builder := PySem.W.mg_of X G gc_Builder,
    C_Blocks := C_Blocks,
    gc_Blocks := PySem.W.mg_of X G gc_Blocks,
    f_Asker_init := a0,
    d_Asker_init := _,
    F_Asker_init := F0,
    b_Asker_init := (F0.binds (ps := ["self", "calls", "ask", "join", "zero"]) fun _ _ _ _ _ _ us hl => match us, hl with | [_, _, _, _, _], _ => rfl),
    m_Asker_init := ma0,
    t_Asker_init := mt0,
    y_Asker_init := my0,
    k_Asker_init := k0,
    f_Asker_answer := a1,
    d_Asker_answer := _,
    E_Asker_answer := dE1,
    F_Asker_answer := F1,
    S_Asker_answer := fun _ => .inr ⟨_, _, _, de1, rfl, rfl, by decide, .nil⟩,
    ds_Asker_answer := ds1,
    vd_Asker_answer := vd1,
    bd_Asker_answer := bd1,
    b_Asker_answer := be1,
    m_Asker_answer := ma1,
    t_Asker_answer := mt1,
    y_Asker_answer := my1,
    k_Asker_answer := k1,
    f_Builder_init := a2,
    d_Builder_init := _,
    F_Builder_init := F2,
    b_Builder_init := (F2.binds (ps := ["self", "calls", "build"]) fun _ _ _ _ _ _ us hl => match us, hl with | [_, _, _], _ => rfl),
    m_Builder_init := ma2,
    t_Builder_init := mt2,
    y_Builder_init := my2,
    k_Builder_init := k2,
    f_Builder_part := a3,
    d_Builder_part := _,
    E_Builder_part := dE3,
    F_Builder_part := F3,
    S_Builder_part := fun _ => .inr ⟨_, _, _, de3, rfl, rfl, by decide, .nil⟩,
    ds_Builder_part := ds3,
    vd_Builder_part := vd3,
    bd_Builder_part := bd3,
    b_Builder_part := be3,
    m_Builder_part := ma3,
    t_Builder_part := mt3,
    y_Builder_part := my3,
    k_Builder_part := k3,
    f_Builder_grown_row := a4,
    d_Builder_grown_row := _,
    E_Builder_grown_row := dE4,
    F_Builder_grown_row := F4,
    S_Builder_grown_row := fun _ => .inr ⟨_, _, _, de4, rfl, rfl, by decide, .nil⟩,
    ds_Builder_grown_row := ds4,
    vd_Builder_grown_row := vd4,
    bd_Builder_grown_row := bd4,
    b_Builder_grown_row := be4,
    m_Builder_grown_row := ma4,
    t_Builder_grown_row := mt4,
    y_Builder_grown_row := my4,
    k_Builder_grown_row := k4,
    f_Calls_init := a5,
    d_Calls_init := _,
    F_Calls_init := F5,
    b_Calls_init := (F5.binds (ps := ["self"]) fun _ _ _ _ _ _ us hl => match us, hl with | [_], _ => rfl),
    m_Calls_init := ma5,
    t_Calls_init := mt5,
    y_Calls_init := my5,
    k_Calls_init := k5,
    f_Calls_check := a6,
    d_Calls_check := _,
    F_Calls_check := F6,
    b_Calls_check := (F6.binds (ps := ["self"]) fun _ _ _ _ _ _ us hl => match us, hl with | [_], _ => rfl),
    m_Calls_check := ma6,
    t_Calls_check := mt6,
    y_Calls_check := my6,
    k_Calls_check := k6,
    f_Calls_run := a7,
    d_Calls_run := _,
    F_Calls_run := F7,
    m_Calls_run := ma7,
    t_Calls_run := mt7,
    y_Calls_run := my7,
    k_Calls_run := k7,
    f_Blocks_init := a8,
    d_Blocks_init := _,
    F_Blocks_init := F8,
    m_Blocks_init := ma8,
    t_Blocks_init := mt8,
    y_Blocks_init := my8,
    k_Blocks_init := k8,
    f_Blocks_add := a9,
    d_Blocks_add := _,
    F_Blocks_add := F9,
    b_Blocks_add := (F9.binds (ps := ["self", "member"]) fun _ _ _ _ _ _ us hl => match us, hl with | [_, _], _ => rfl),
    m_Blocks_add := ma9,
    t_Blocks_add := mt9,
    y_Blocks_add := my9,
    k_Blocks_add := k9,
    f_Blocks_query := a10,
    d_Blocks_query := _,
    F_Blocks_query := F10,
    b_Blocks_query := (F10.binds (ps := ["self", "question"]) fun _ _ _ _ _ _ us hl => match us, hl with | [_, _], _ => rfl),
    m_Blocks_query := ma10,
    t_Blocks_query := mt10,
    y_Blocks_query := my10,
    k_Blocks_query := k10,
    f_Blocks_members := a11,
    d_Blocks_members := _,
    F_Blocks_members := F11,
    b_Blocks_members := (F11.binds (ps := ["self"]) fun _ _ _ _ _ _ us hl => match us, hl with | [_], _ => rfl),
    m_Blocks_members := ma11,
    t_Blocks_members := mt11,
    y_Blocks_members := my11,
    k_Blocks_members := k11,
    f_Blocks_len := a12,
    d_Blocks_len := _,
    F_Blocks_len := F12,
    b_Blocks_len := (F12.binds (ps := ["self"]) fun _ _ _ _ _ _ us hl => match us, hl with | [_], _ => rfl),
    m_Blocks_len := ma12,
    t_Blocks_len := mt12,
    y_Blocks_len := my12,
    k_Blocks_len := k12,
    f_exponent := a13,
    d_exponent := _,
    F_exponent := F13,
    b_exponent := (F13.binds (ps := ["number"]) fun _ _ _ _ _ _ us hl => match us, hl with | [_], _ => rfl),
    g_exponent := PySem.W.mg_of X G ga13,
    f_lowest_power := a14,
    d_lowest_power := _,
    F_lowest_power := F14,
    b_lowest_power := (F14.binds (ps := ["number"]) fun _ _ _ _ _ _ us hl => match us, hl with | [_], _ => rfl),
    g_lowest_power := PySem.W.mg_of X G ga14,
    f_growth := a15,
    d_growth := _,
    F_growth := F15,
    b_growth := (F15.binds (ps := ["parts", "many", "number"]) fun _ _ _ _ _ _ us hl => match us, hl with | [_, _, _], _ => rfl),
    g_growth := PySem.W.mg_of X G ga15,
    f_build_entry := a16,
    d_build_entry := _,
    E_build_entry := dE16,
    F_build_entry := F16,
    S_build_entry := fun _ => .inr ⟨_, _, _, de16, rfl, rfl, by decide, .nil⟩,
    ds_build_entry := ds16,
    vd_build_entry := vd16,
    bd_build_entry := bd16,
    b_build_entry := be16,
    g_build_entry := PySem.W.mg_of X G ga16,
    f_l_bag := a17,
    d_l_bag := _,
    F_l_bag := F17,
    b_l_bag := (F17.binds (ps := ["_law_script", "_law_at"]) fun _ _ _ _ _ _ us hl => match us, hl with | [_, _], _ => rfl),
    g_l_bag := PySem.W.mg_of X G ga17,
    f_l_take := a18,
    d_l_take := _,
    F_l_take := F18,
    b_l_take := (F18.binds (ps := ["_law_bag_here", "_law_many"]) fun _ _ _ _ _ _ us hl => match us, hl with | [_, _], _ => rfl),
    g_l_take := PySem.W.mg_of X G ga18,
    f_l_thing := a19,
    d_l_thing := _,
    c_l_thing := cc19,
    p_l_thing := pp19,
    F_l_thing := F19,
    b_l_thing := B19,
    g_l_thing := PySem.W.mg_of X G ga19,
    f_l_right := a20,
    d_l_right := _,
    c_l_right := cc20,
    p_l_right := pp20,
    F_l_right := F20,
    b_l_right := B20,
    g_l_right := PySem.W.mg_of X G ga20,
    pne_l_thing_l_right := pne19_20,
    z_abs := PySem.W.mg_none_of X G z_abs,
    z_bool := PySem.W.mg_none_of X G z_bool,
    z_classmethod := PySem.W.mg_none_of X G z_classmethod,
    z_dict := PySem.W.mg_none_of X G z_dict,
    z_int := PySem.W.mg_none_of X G z_int,
    z_isinstance := PySem.W.mg_none_of X G z_isinstance,
    z_len := PySem.W.mg_none_of X G z_len,
    z_list := PySem.W.mg_none_of X G z_list,
    z_min := PySem.W.mg_none_of X G z_min,
    z_range := PySem.W.mg_none_of X G z_range,
    z_tuple := PySem.W.mg_none_of X G z_tuple,
    cl_Calls := ⟨pg_Calls, hd_Calls, po_Calls, sa_Calls⟩,
    mk_Calls := mk_Calls,
    kp_Calls := kp_Calls,
    n_Calls_entries := n_Calls_entries,
    n_Calls_running := n_Calls_running,
    cl_Asker := ⟨pg_Asker, hd_Asker, po_Asker, sa_Asker⟩,
    mk_Asker := mk_Asker,
    kp_Asker := kp_Asker,
    n_Asker_calls := n_Asker_calls,
    n_Asker_ask_call := n_Asker_ask_call,
    n_Asker_join_call := n_Asker_join_call,
    n_Asker_zero := n_Asker_zero,
    cl_Builder := ⟨pg_Builder, hd_Builder, po_Builder, sa_Builder⟩,
    mk_Builder := mk_Builder,
    kp_Builder := kp_Builder,
    n_Builder_calls := n_Builder_calls,
    n_Builder_build_call := n_Builder_build_call,
    cl_Blocks := ⟨pg_Blocks, hd_Blocks, po_Blocks, sa_Blocks⟩,
    mk_Blocks := mk_Blocks,
    kp_Blocks := kp_Blocks,
    n_Blocks_calls := n_Blocks_calls,
    n_Blocks_builder := n_Blocks_builder,
    n_Blocks_asker := n_Blocks_asker,
    n_Blocks_held := n_Blocks_held,
    n_Blocks_parts := n_Blocks_parts }
  refine ⟨PySem.W.fnOf "law" "law" (defArgs s_law) (defBody s_law) (defScope s_law) .none kV21 dc21 pm21 an21 cd21 ct21, [(cc19, pp19), (cc20, pp20)], spLaw T, (all_cons T19.2 (all_cons T20.2 (fun _ z => nomatch z))), (all_cons tn19 (all_cons tn20 (fun _ z => nomatch z))), (all_cons T19.1 (all_cons T20.1 (fun _ z => nomatch z))), fun s v => .of_eq rfl, fun H a ns hl ht hS => ⟨a, ns, rfl, hS, hl, ht _ (List.mem_cons_self ..), ht _ (List.mem_cons_of_mem _ (List.mem_cons_self ..)), fun _ => rfl⟩, fun base _ _ tb => Inf.FnOkG.of (ok_law T (tb _ (List.mem_cons_self ..)) (tb _ (List.mem_cons_of_mem _ (List.mem_cons_self ..))) F21)⟩
end Ob
open PySem PySem.W PyProof.Rows
set_option maxHeartbeats 0 in
theorem PySem.Challenge.cw_oncebuilt_k08_members_are_any_objects_holds : PySem.Challenge.rw_oncebuilt_k08_members_are_any_objects.Holds := by
  w_on; o_law; k_head; (case hw => w_witness2)
  k_fill
  refine Inf.walk_topG (l := PySem.Challenge.rw_oncebuilt_k08_members_are_any_objects) (n := 63) (k := 40) (x := "_law_script") (YP := _) (CX := fun _ => L2.CX0) rfl (by decide) rfl ⟨rfl, by decide, by decide⟩ (fun w h Y => by first | exact PySem.W.kIn_of Y | exact PySem.W.km_in_of Y) ?F (fun _ _ _ _ _ h => h)
  case F =>
    intro w mg fa h Y KX G hmg tt
    refine' Ob.all_mk KX G hmg tt ?gc_Calls ?gc_Asker ?gc_Builder ?gc_Blocks ?ma0 ?l0 ?c0 ?k0 ?mt0 ?my0 ?ma1 ?l1 ?c1 ?k1 ?dl1 ?de1 ?mt1 ?my1 ?ma2 ?l2 ?c2 ?k2 ?mt2 ?my2 ?ma3 ?l3 ?c3 ?k3 ?dl3 ?de3 ?mt3 ?my3 ?ma4 ?l4 ?c4 ?k4 ?dl4 ?de4 ?mt4 ?my4 ?ma5 ?l5 ?c5 ?k5 ?mt5 ?my5 ?ma6 ?l6 ?c6 ?k6 ?mt6 ?my6 ?ma7 ?l7 ?c7 ?k7 ?mt7 ?my7 ?ma8 ?l8 ?c8 ?k8 ?kw8_0 ?mt8 ?my8 ?ma9 ?l9 ?c9 ?k9 ?mt9 ?my9 ?ma10 ?l10 ?c10 ?k10 ?mt10 ?my10 ?ma11 ?l11 ?c11 ?k11 ?mt11 ?my11 ?ma12 ?l12 ?c12 ?k12 ?mt12 ?my12 ?ga13 ?l13 ?c13 ?k13 ?ga14 ?l14 ?c14 ?k14 ?ga15 ?l15 ?c15 ?k15 ?ga16 ?l16 ?c16 ?k16 ?dl16 ?de16 ?ga17 ?l17 ?c17 ?k17 ?ga18 ?l18 ?c18 ?k18 ?ga19 ?l19 ?c19 ?k19 ?tl19 ?tp19 ?tn19 ?tr19 ?ga20 ?l20 ?c20 ?k20 ?tl20 ?tp20 ?tn20 ?tr20 ?ga21 ?l21 ?c21 ?k21 ?pne19_20 ?z_abs ?z_bool ?z_classmethod ?z_dict ?z_int ?z_isinstance ?z_len ?z_list ?z_min ?z_range ?z_tuple ?pg_Calls ?hd_Calls ?po_Calls ?sa_Calls ?mk_Calls ?kp_Calls ?n_Calls_entries ?n_Calls_running ?pg_Asker ?hd_Asker ?po_Asker ?sa_Asker ?mk_Asker ?kp_Asker ?n_Asker_calls ?n_Asker_ask_call ?n_Asker_join_call ?n_Asker_zero ?pg_Builder ?hd_Builder ?po_Builder ?sa_Builder ?mk_Builder ?kp_Builder ?n_Builder_calls ?n_Builder_build_call ?pg_Blocks ?hd_Blocks ?po_Blocks ?sa_Blocks ?mk_Blocks ?kp_Blocks ?n_Blocks_calls ?n_Blocks_builder ?n_Blocks_asker ?n_Blocks_held ?n_Blocks_parts
    (case gc_Calls => k_is); (case gc_Asker => k_is); (case gc_Builder => k_is); (case gc_Blocks => k_is); (case ma0 => k_is); (case l0 => k_is); (case c0 => k_is); (case k0 => k_is); (case mt0 => k_is); (case my0 => k_is); (case ma1 => k_is); (case l1 => k_is); (case c1 => k_is); (case k1 => k_is); (case dl1 => k_is); (case de1 => k_is); (case mt1 => k_is); (case my1 => k_is); (case ma2 => k_is); (case l2 => k_is); (case c2 => k_is); (case k2 => k_is); (case mt2 => k_is); (case my2 => k_is); (case ma3 => k_is); (case l3 => k_is); (case c3 => k_is); (case k3 => k_is); (case dl3 => k_is); (case de3 => k_is); (case mt3 => k_is); (case my3 => k_is); (case ma4 => k_is); (case l4 => k_is); (case c4 => k_is); (case k4 => k_is); (case dl4 => k_is); (case de4 => k_is); (case mt4 => k_is); (case my4 => k_is); (case ma5 => k_is); (case l5 => k_is); (case c5 => k_is); (case k5 => k_is); (case mt5 => k_is); (case my5 => k_is); (case ma6 => k_is); (case l6 => k_is); (case c6 => k_is); (case k6 => k_is); (case mt6 => k_is); (case my6 => k_is); (case ma7 => k_is); (case l7 => k_is); (case c7 => k_is); (case k7 => k_is); (case mt7 => k_is); (case my7 => k_is); (case ma8 => k_is); (case l8 => k_is); (case c8 => k_is); (case k8 => k_is); (case kw8_0 => k_is); (case mt8 => k_is); (case my8 => k_is); (case ma9 => k_is); (case l9 => k_is); (case c9 => k_is); (case k9 => k_is); (case mt9 => k_is); (case my9 => k_is); (case ma10 => k_is); (case l10 => k_is); (case c10 => k_is); (case k10 => k_is); (case mt10 => k_is); (case my10 => k_is); (case ma11 => k_is); (case l11 => k_is); (case c11 => k_is); (case k11 => k_is); (case mt11 => k_is); (case my11 => k_is); (case ma12 => k_is); (case l12 => k_is); (case c12 => k_is); (case k12 => k_is); (case mt12 => k_is); (case my12 => k_is); (case ga13 => k_is); (case l13 => k_is); (case c13 => k_is); (case k13 => k_is); (case ga14 => k_is); (case l14 => k_is); (case c14 => k_is); (case k14 => k_is); (case ga15 => k_is); (case l15 => k_is); (case c15 => k_is); (case k15 => k_is); (case ga16 => k_is); (case l16 => k_is); (case c16 => k_is); (case k16 => k_is); (case dl16 => k_is); (case de16 => k_is); (case ga17 => k_is); (case l17 => k_is); (case c17 => k_is); (case k17 => k_is); (case ga18 => k_is); (case l18 => k_is); (case c18 => k_is); (case k18 => k_is); (case ga19 => k_is); (case l19 => k_is); (case c19 => k_is); (case k19 => k_is); (case tl19 => k_is); (case tp19 => rfl); (case tn19 => kernel_rfl); (case tr19 => rfl); (case ga20 => k_is); (case l20 => k_is); (case c20 => k_is); (case k20 => k_is); (case tl20 => k_is); (case tp20 => rfl); (case tn20 => kernel_rfl); (case tr20 => rfl); (case ga21 => k_is); (case l21 => k_is); (case c21 => k_is); (case k21 => k_is); (case pne19_20 => decide); (case z_abs => k_is); (case z_bool => k_is); (case z_classmethod => k_is); (case z_dict => k_is); (case z_int => k_is); (case z_isinstance => k_is); (case z_len => k_is); (case z_list => k_is); (case z_min => k_is); (case z_range => k_is); (case z_tuple => k_is); (case pg_Calls => k_is); (case hd_Calls => k_is); (case po_Calls => k_is); (case sa_Calls => k_is); (case mk_Calls => k_is); (case kp_Calls => k_is); (case n_Calls_entries => k_is); (case n_Calls_running => k_is); (case pg_Asker => k_is); (case hd_Asker => k_is); (case po_Asker => k_is); (case sa_Asker => k_is); (case mk_Asker => k_is); (case kp_Asker => k_is); (case n_Asker_calls => k_is); (case n_Asker_ask_call => k_is); (case n_Asker_join_call => k_is); (case n_Asker_zero => k_is); (case pg_Builder => k_is); (case hd_Builder => k_is); (case po_Builder => k_is); (case sa_Builder => k_is); (case mk_Builder => k_is); (case kp_Builder => k_is); (case n_Builder_calls => k_is); (case n_Builder_build_call => k_is); (case pg_Blocks => k_is); (case hd_Blocks => k_is); (case po_Blocks => k_is); (case sa_Blocks => k_is); (case mk_Blocks => k_is); (case kp_Blocks => k_is); (case n_Blocks_calls => k_is); (case n_Blocks_builder => k_is); (case n_Blocks_asker => k_is); (case n_Blocks_held => k_is); (case n_Blocks_parts => k_is)


import PyProof.Rows.All
import Wide.All
import OpenK.AllK
import Wide.FinOn
import PyProof.FString3
import PyProof.StrBlock2
import PyProof.ReprRoads
import KE.KxField
import HandS.ForMost
import HandS.EndTab
import HandS.WordsExc
import HandS.ExcOwn
import HandS.ExcValue
import HandS.ExcIs
import HandS.IsInst
import HandS.StrMore
import HandS.FStr
import HandS.Style
import HandS.Wide
import HandS.WideBits
import HandS.RaiseMore
import HandS.Small
import HandS.Evl
import HandS.Defaults
import KE.KExcSuper
import KE.KExcIs
import PySem.Challenge.RW_pricedreels_k00_errors_apart
import KE.RegKSuper
import KE.KExcLine
set_option Elab.async false
set_option linter.all false
set_option maxRecDepth 100000
set_option maxHeartbeats 4000000
namespace KA
open PySem PySem.Spec PyProof.Rows L2
section
variable {X : Cx}
/-- text * int -/
def rMulS : R2 := fun x y H Q => ∃ (a : Str) (n : Int), x = .str a ∧ y = .int n ∧ 0 ≤ n ∧ n ≤ 1000 ∧ a.length ≤ 1000 ∧ Q (.str (Txt.mul a n)) H
theorem op_mulS : OpR X (binaryOp .Mult) rMulS := by
  intro pins s σ H x y v u Q I rx ry h
  obtain ⟨a, n, rfl, rfl, h0, h1, h2, q⟩ := h
  obtain ⟨t, rfl⟩ := rx
  obtain ⟨t', rfl⟩ := ry
  refine SB.mul ⟨?_, fun hn hz => ?_, fun hn hz => ?_⟩ fun t' k => ⟨.str (Txt.mul a n), H, I.tok _, ⟨_, rfl⟩, q⟩
  · simp
    omega
  · have h3 : (1000 : Int) ≤ (2 ^ 63 - 1) / n := by
      refine Int.le_ediv_of_mul_le (by omega) ?_
      omega
    omega
  · have : a.length * n.toNat ≤ 1000 * 1000 := Nat.mul_le_mul h2 (by omega)
    unfold Builtin.Str.tooLong
    simp
    have e : sizeLine = 16777216 := by rfl
    omega
end
end KA
namespace KA
open PySem PySem.Spec PyProof.Rows L2 PySem.W
/-! ### an exception that was caught, kept as a value -/
/-- an exception of the class cls with the own dict d stands at a -/
def ExV (cls : Value) (d : Option Addr) (a : Addr) : HO := .ext fun h => ∃ oe : Obj, h.get? a = some oe ∧ Zc cls d oe ∧ ∃ vs, oe.data = .fields vs
theorem exV_ok {P : Program} {w : World} {H : Hp} {h : Heap} {a : Addr} {cls : Value} {d : Option Addr} {oe : Obj} {vs : Array Value} (e : h.get? a = some oe) (z : Zc cls d oe) (f : oe.data = .fields vs) :
    ObjOk P w H h a (ExV cls d a) := ⟨⟨oe, e, z, vs, f⟩, ⟨oe, e⟩, fun _ _ ⟨o, q, r⟩ k => ⟨o, k o q, r⟩⟩
section
variable {X : Cx} {pins : List (Addr × Obj)} {σ : L2.St} {H : Hp} {s : Shared}
/-- what was pinned, and did not stand at the entry, is tracked from here on -/
theorem track {a : Addr} {oe : Obj} {φ : Heap → Prop} (J : Inv X ((a, oe) :: pins) σ H s) (ok : X.Ok) (n0 : X.s_0.heap.get? a = none) (np : ∀ p ∈ X.pn ++ pins, p.1 ≠ a)
    (new : ObjOk X.prog X.w (upd H a (.ext φ)) s.heap a (.ext φ)) : Inv X pins σ (upd H a (.ext φ)) s := by
  obtain ⟨ea, na, nL, notF, nc⟩ := J.pin (a, oe) (List.mem_append_right _ List.mem_cons_self)
  have nz : ∀ b u, H b = some u → b ≠ a := fun b u q => ne_of_none q na
  have cut : ∀ p, p ∈ X.pn ++ pins → p ∈ X.pn ++ (a, oe) :: pins := fun p hp => by
    rcases List.mem_append.mp hp with h | h
    · exact List.mem_append_left _ h
    · exact List.mem_append_right _ (List.mem_cons_of_mem _ h)
  have old : ∀ b o, X.s_0.heap.get? b = some o → b ≠ a := fun b o q z => by
    rw [z, n0] at q
    cases q
  have base : Un X.fs X.ex X.H_0 (upd H a (.ext φ)) X.s_0.heap s.heap :=
    { keep := J.base.keep, slot := J.base.slot, there := J.base.there
      free := fun b o q n hx => (upd_ne (old b o q)).trans (J.base.free b o q n hx)
      tups := fun b xs q => (upd_ne (nz b _ (J.base.tups b xs q))).trans (J.base.tups b xs q)
      frzs := fun b o u q => (upd_ne (nz b _ (J.base.frzs b o u q))).trans (J.base.frzs b o u q)
      tbls := fun b ps q => by
        obtain ⟨more, z⟩ := J.base.tbls b ps q
        exact ⟨more, (upd_ne (nz b _ z)).trans z⟩ }
  have apart : ∀ b, b ≠ a → H b = none → upd H a (.ext φ) b = none := fun b hb hn => (upd_ne hb).trans hn
  have ce : ∀ x c, X.env.cells.lookup x = some c → c ≠ a := fun x c q z => by
    obtain ⟨v, o, ho, hd⟩ := J.cell x c q
    rw [z, ea] at ho
    cases ho
    exact nc v hd
  have hk : HOk X.prog X.w (upd H a (.ext φ)) s.heap := fun b o q => by
    by_cases hb : b = a
    · subst hb
      rw [upd_same] at q
      cases q
      exact new
    · rw [upd_ne hb] at q
      exact (J.hok b o q).stay (fun c v _ r => r) (fun c r => (upd_ne (nz c _ r)).trans r) (fun c xs r => (upd_ne (nz c _ r)).trans r)
  have pk : ∀ p ∈ X.pn ++ pins, s.heap.get? p.1 = some p.2 ∧ upd H a (.ext φ) p.1 = none ∧ p.1 ≠ X.env.locals ∧ p.1 ∉ X.fs ∧ ∀ v, p.2.data ≠ .cell v := fun p hp => by
    obtain ⟨e1, e2, e3⟩ := J.pin p (cut p hp)
    exact ⟨e1, apart _ (np p hp) e2, e3⟩
  exact { ok := ok, os := J.os, bare := J.bare, base := base, loc := J.loc, cell := J.cell, free := apart _ (Ne.symm nL) J.free
          freeC := fun x c q => apart _ (ce x c q) (J.freeC x c q), pin := pk, hok := hk, len := J.len }
end
/-- what 'except x as n: m = n' wishes of an exception of the body: it is of the clause's class, and m holds it behind the try (slots: n in i, m in j) -/
def wKeep (K : PySem.W.Frag) (c : Value) (i j len : Nat) (D : Ends) : WX := fun cls d σ H =>
  PySem.W.exmOne K cls c = some true ∧ ∀ a, H a = none → σ.length = len → D.nx ((((σ.set i (some (.ref a))).set j (some (.ref a)))).set i none) (upd H a (ExV cls d a))
section
variable {X : Cx} {x n m : Str} {c : Value} {i j : Nat} {body : List Stmt} {np pm pr pa ph pt : Pos} {tb : WX → TS}
theorem ps_try_keep (hx : X.ex = []) (hs : X.stack = X.env :: X.outer) (hf : X.env.frame = some X.env.locals) (hN : X.N.Nodup) (hi : X.N[i]? = some n) (hj : X.N[j]? = some m) (hln : X.env.kindOf n = some .local) (hlm : X.env.kindOf m = some .local) (hc : Names X x c)
    (hd : (n == ("__debug__" : Str)) = false) (hcd : (n == ("__classdict__" : Str)) = false)
    (hb : ∀ (W : WX) (pn : List (Addr × Obj)) (xe : Value → Shared → Prop), Takes (X.tr pn xe) W → PassesOwn (model X.prog X.w) X.A X.env xe → PSs (X.tr pn xe) body (tb W)) :
    PS X (.Try body [.ExceptHandler (some (.Name x np)) (some n) [.Assign [.Name m pm] (.Name n pr) pa] ph] [] [] pt) (fun D σ H => tb (wKeep X.K c i j X.N.length D) D σ H) := by
  refine ⟨fun pins s σ H D I h => wpAny_Try_except ?_⟩
  have ok := I.ok
  have fr : X.A.frames = some (X.env :: X.outer) := ok.frames.trans (congrArg some hs)
  have ways : ∀ u s', XE (X.tr (X.pn ++ pins) (fun e s₁ => wpAny (model X.prog X.w) X.A (noteFrame e X.env)
      (fun _ s₂ => wpAny (model X.prog X.w) X.A (setFlight e none)
        (fun _ s₃ => wpAny (model X.prog X.w) X.A (handleBy e X.env [.ExceptHandler (some (.Name x np)) (some n) [.Assign [.Name m pm] (.Name n pr) pa] ph]) (SP X pins D) X.xe s₃) X.xe s₂) X.xe s₁)) (wKeep X.K c i j X.N.length D) u s' →
      wpAny (model X.prog X.w) X.A (noteFrame u X.env)
        (fun _ s₂ => wpAny (model X.prog X.w) X.A (setFlight u none)
          (fun _ s₃ => wpAny (model X.prog X.w) X.A (handleBy u X.env [.ExceptHandler (some (.Name x np)) (some n) [.Assign [.Name m pm] (.Name n pr) pa] ph]) (SP X pins D) X.xe s₃) X.xe s₂) X.xe s' := by
    rintro u s' ⟨a, B, sI, pins', σ', H', cls, d, rfl, Jt, nb, up, sky, na, os, ag, hyes, hgo⟩
    have J : Inv X pins σ' H' sI := Jt.ofTry ok
    have nb : ∀ b o, sI.heap.get? b = some o → b ∉ frs X.stack → B.get? b = some o := nb
    have sky : Sky B (X.env :: X.outer) a (Zc cls d) X.env.locals s'.heap := hs ▸ sky
    refine Sky.land Zc.steady fr hf sky fun h3 air3 grow3 => ?_
    have J3 : Inv X pins σ' H' { s' with heap := h3 } := J.landed nb air3.1 (up.trans grow3) os ag
    obtain ⟨o3, v3, e3, z3, f3⟩ := air3.there
    have away : a ∉ frs (X.env :: X.outer) := fun hm => by
      obtain ⟨_, o', e', hnf⟩ := air3.2.2.1.mem hm
      cases e3.symm.trans e'
      exact hnf _ f3
    have nL : a ≠ X.env.locals := fun z => away (List.mem_filterMap.mpr ⟨X.env, List.mem_cons_self, hf.trans (congrArg some z.symm)⟩)
    have notF : a ∉ X.fs := fun hm => by
      obtain ⟨e, inX, q⟩ := List.mem_filterMap.mp hm
      exact away (List.mem_filterMap.mpr ⟨e, List.mem_cons_of_mem _ inX, q⟩)
    have gone : sI.heap.get? a = none := by
      cases q : sI.heap.get? a with
      | none => rfl
      | some o =>
        have z := nb a o q (by rw [hs]; exact away)
        rw [air3.2.1] at z
        cases z
    have n0 : X.s_0.heap.get? a = none := by
      cases q : X.s_0.heap.get? a with
      | none => rfl
      | some o =>
        obtain ⟨o', z⟩ := J.base.there a o q (by rw [hx]; exact fun z => nomatch z)
        rw [gone] at z
        cases z
    have np' : ∀ p ∈ X.pn ++ pins, p.1 ≠ a := fun p hp z => by
      have q := (J.pin p hp).1
      rw [z, gone] at q
      cases q
    have S3 := J3.suite e3 f3 na nL notF
    refine wpAny_handleBy_cons (codeAny_handlers_test ?_) (by intro q; cases q)
    have LT : PySem.W.Looks (model X.prog X.w) h3 (typeOf (.ref a)) cls := fun A Q E s k q => wpAny_typeOf_ref (k _ _ e3) (z3.1.symm ▸ q)
    have LM := PySem.W.exm_one (M := model X.prog X.w) J3.kIn LT hyes
    have named : ∀ {Q E : Value → Shared → Prop}, Q c { s' with heap := h3 } →
        wpAny (model X.prog X.w) (X.A.mark (some (.ref a))) (eval (.Name x np) X.env) Q E { s' with heap := h3 } := fun {Q E} q => by
      obtain ⟨g, gd, gm | ⟨gm, gv, gn⟩⟩ := hc
      · exact ld_glob (X := X.suite a _) S3 g gm q gd
      · exact ld_blt (X := X.suite a _) S3 g gm gv q gn gd
    refine named (LM.here (codeAny_handlers_suite_as ?_))
    refine HandSPX.lands_againZ air3 fun h4 air4 grow4 => ?_
    have J4 : Inv X pins σ' H' { s' with heap := h4 } := J.landed nb air4.1 ((up.trans grow3).trans grow4) os ag
    obtain ⟨o4, v4, e4, z4, f4⟩ := air4.there
    refine store_ok (X := X.suite a ((a, o4) :: (X.pn ++ pins))) (v := .ref a) (J4.suite e4 f4 na nL notF) hN hi (.inl hln) rfl (fun s5 S5 => ?_) (.inr hln)
    have assign : PSs (X.suite a ((a, o4) :: (X.pn ++ pins))) [.Assign [.Name m pm] (.Name n pr) pa] (tAsg (tVar i) (gName j)) :=
      pss_one (ps_set (i := j) hN hj (.inl hlm) (pe_var hi (.inl hln) hd hcd) (hf := .inr hlm))
    have hlt : i < (σ'.set i (some (V.ref a))).length := by
      rw [List.length_set, J.len]
      exact (List.getElem?_eq_some_iff.mp hi).1
    refine wpAny_mono (assign.run [] s5 _ H' { D with nx := fun σ6 H6 => σ6 = (σ'.set i (some (.ref a))).set j (some (.ref a)) ∧ H6 = H', rt := fun _ _ => False, bk := fun _ _ => False, ct := fun _ _ => False } S5
      ⟨.ref a, by rw [List.getElem?_set_self (by simpa using hlt)], rfl, rfl⟩) (fun f s6 q6 => ?_) (fun _ _ z => z.elim)
    cases f with
    | next =>
      obtain ⟨σ6, H6, S6, eσ, eH⟩ := q6
      subst eσ
      subst eH
      have U : Inv X pins _ H6 s6 := S6.unsuite ok
      have P6 := S6.pin (a, o4) (List.mem_append_left _ List.mem_cons_self)
      have pin2 : ∀ p ∈ X.pn ++ (a, o4) :: pins, s6.heap.get? p.1 = some p.2 ∧ H6 p.1 = none ∧ p.1 ≠ X.env.locals ∧ p.1 ∉ X.fs ∧ ∀ v, p.2.data ≠ .cell v := fun p hp => by
        rcases List.mem_append.mp hp with h | h
        · exact U.pin p (List.mem_append_left _ h)
        · rcases List.mem_cons.mp h with e | h
          · rw [e]
            exact P6
          · exact U.pin p (List.mem_append_right _ h)
      have U2 : Inv X ((a, o4) :: pins) _ H6 s6 := { U with pin := pin2 }
      refine gone_ok U2 hN hi hln fun s7 J7 => ?_
      have P7 := (J7.pin (a, o4) (List.mem_append_right _ List.mem_cons_self)).1
      exact ⟨_, _, track J7 ok n0 np' (exV_ok P7 z4 f4), hgo a na J.len⟩
    | brk =>
      obtain ⟨_, _, _, z⟩ := q6
      exact z.elim
    | cont =>
      obtain ⟨_, _, _, z⟩ := q6
      exact z.elim
    | ret u =>
      obtain ⟨_, _, _, _, _, z⟩ := q6
      exact z.elim
  refine wpAny_mono ((hb (wKeep X.K c i j X.N.length D) (X.pn ++ pins) _ ways PassesOwn.looking).run [] s σ H D (I.toTry _) h) (fun f s1 q => ?_) fun _ _ z => z
  cases f with
  | next =>
    obtain ⟨σ1, H1, J1, q1⟩ := q
    exact wpAny_execs_nil ⟨σ1, H1, J1.ofTry ok, q1⟩
  | brk =>
    obtain ⟨σ1, H1, J1, q1⟩ := q
    exact ⟨σ1, H1, J1.ofTry ok, q1⟩
  | cont =>
    obtain ⟨σ1, H1, J1, q1⟩ := q
    exact ⟨σ1, H1, J1.ofTry ok, q1⟩
  | ret u =>
    obtain ⟨v, σ1, H1, J1, r, q1⟩ := q
    exact ⟨v, σ1, H1, J1.ofTry ok, r, q1⟩
end
end KA
namespace KA
open PySem PySem.Spec PyProof.Rows L2 PySem.W
/-- isinstance of an exception that is kept as a value, its class without fields of its own -/
def rIsV (K : PySem.W.Frag) : List V → Hp → VK → Prop := fun xs H Q => ∃ (a D : Addr) (c : V) (cv : Value) (b : Bool), xs = [.ref a, c] ∧ H a = some (ExV (.ref D) none a) ∧ ExcC K D ∧ ClsV c cv ∧ PySem.W.kitOne K (.ref D) cv = some b ∧ Q (.bl b) H
def rIs2 (K : PySem.W.Frag) : List V → Hp → VK → Prop := fun xs H Q => rIsi K xs H Q ∨ rIsV K xs H Q
section
variable {X : Cx}
theorem call_isV : CallR X (.builtin "isinstance") (rIsV X.K) := by
  intro pins s σ H xs us Q I r h
  obtain ⟨a, D, c, cv, b, rfl, ha, C, k, e, q⟩ := h
  obtain ⟨u1, u2, rfl, r1, r2⟩ := vals2 r
  cases k.eq r2
  cases (show u1 = Value.ref a from r1)
  obtain ⟨⟨oe, h1, ⟨z1, z2⟩, vs, z3⟩, _⟩ := I.hok a _ ha
  obtain ⟨oc, od, dt, sl⟩ := oe
  dsimp only at z1 z2 z3
  subst z1 z2 z3
  have J : PySem.W.InstAt s.heap a ⟨.ref D, none, .fields vs, sl⟩ D none := ⟨h1, rfl, rfl, trivial⟩
  exact PySem.W.kia_one (PySem.W.handS_kitx_exc C.hg C.hk C.hs C.hd C.ha C.hn C.ht C.hm) I.kIn J e (fun z => nomatch z) fun tk => ⟨.bl b, H, I.tok tk, rfl, q⟩
theorem call_is2 : CallR X (.builtin "isinstance") (rIs2 X.K) := by
  intro pins s σ H xs us Q I r h
  rcases h with h | h
  · exact call_isi pins s σ H xs us Q I r h
  · exact call_isV pins s σ H xs us Q I r h
/-- repr of data -/
def rRepr (K : PySem.W.Frag) : List V → Hp → VK → Prop := fun xs H Q => ∃ (x : Addr) (d : PyData), xs = [.ref x] ∧ Dp K H (.ref x) d ∧ d.showable = true ∧ d.hasDict = false ∧ d.depth ≤ 60 ∧ d.shown.length ≤ sizeLine ∧ Q (.str d.shown) H
theorem call_repr {k : Nat} (hg : X.A.guards = some []) (hr : Room k X.A) : CallR X (.builtin "repr") (rRepr X.K) := by
  intro pins s σ H xs us Q I r h
  obtain ⟨x, d, rfl, hd, hs, hn, hz, hl, q⟩ := h
  obtain ⟨u1, rfl, r1⟩ := vals1 r
  cases (show u1 = Value.ref x from r1)
  obtain ⟨as, rd⟩ := Dp.reads I d (.ref x) (.ref x) hd rfl
  have hu := hr.un
  refine repr_of_reads' rd hs (fun z => by rw [hn] at z; cases z) hg (by omega) (fun _ _ e => e) (fun h' u tk hk => ?_) hl
  exact ⟨.str d.shown, H, I.kept (t' := tk) hk, ⟨_, rfl⟩, q⟩
end
end KA
namespace KA
open PySem PySem.Spec PyProof.Rows L2 PySem.W LamX
section
variable {X : Cx}
/-- caught: what the lambda raises is kept and handed back, None if it raises nothing -/
def TCaught (K : PySem.W.Frag) (CS : Addr) : (XK → Hp → VK → Prop) → Hp → VK → Prop := fun tl H Q => ∀ Q1 : VK, (∀ v H', Q .non H' → Q1 v H') →
  tl (fun cls d H' => PySem.W.exmOne K cls (.ref CS) = some true ∧ ∀ a, H' a = none → Q (.ref a) (upd H' a (ExV cls d a))) H Q1
theorem caught_gives {a e n m q x : Str} {sg : Scope} {g CS : Addr} {cdg : Value} {j1 : Nat} {p1 p2 p3 p4 p5 p6 p7 p8 p9 pa pb pc pd pe : Pos} (S : FnScope [a, m, n] [a] sg)
    (la : sg.names.lookup a = some .local) (lm : sg.names.lookup m = some .local) (ln : sg.names.lookup n = some .local) (he : sg.names.lookup e = some .globalImplicit) (hme : X.mg e = some (.ref CS)) (hde : (e == ("__debug__" : Str)) = false)
    (d1 : (n == ("__debug__" : Str)) = false) (d2 : (n == ("__classdict__" : Str)) = false) (d3 : (m == ("__debug__" : Str)) = false) (d4 : (m == ("__classdict__" : Str)) = false) :
    GivesTo X [a, m, n] x sg g cdg
      [.Assign [.Name m p1] (.Constant .none j1 p2) p3,
       .Try [.Expr (.Call (.Name a p4) [] [] p5) p6] [.ExceptHandler (some (.Name e p7)) (some n) [.Assign [.Name m p8] (.Name n p9) pa] pb] [] [] pc,
       .Return (some (.Name m pd)) pe] a q (TCaught X.K CS) := by
  intro f c' s H Q tl act hc h
  have hgl : Gl (cxOf C8.CX0 X.prog X.w X.K X.mg X.base [a, m, n] x sg g cdg X.A X.stack s H C8.E0).nox e := he
  refine ⟨_, pss_cons (ps_set (i := 1) S.nd rfl (.inl lm) pe_non) (pss_cons (ps_try_keep (X := (cxOf C8.CX0 X.prog X.w X.K X.mg X.base [a, m, n] x sg g cdg X.A X.stack s H C8.E0).nox) (c := .ref CS) (i := 2) (j := 1)
      (tb := fun W D σ H => ∃ Eb : XK, (∀ cls d σ' H', Eb cls d H' → W cls d σ' H') ∧ σ[0]? = some (some (.ref f)) ∧ H c' = some (CodeO c' q) ∧ tl Eb H (fun _ H' => D.nx σ H'))
      rfl rfl rfl S.nd rfl rfl ln lm ⟨hgl, hde, .inl hme⟩ d1 d2 (fun W pn xe tk _ => ?_))
    (pss_one (ps_ret (pe_var (i := 1) rfl (.inl lm) d3 d4)))), ?_⟩
  · refine ⟨fun pins s' σ H' D I h' => ?_⟩
    obtain ⟨Eb, wish, h1, h2, h3⟩ := h'
    exact (pss_one (ps_expr (act W pn xe Eb p4 p5 tk wish))).run pins s' σ H' D I ⟨h1, h2, h3⟩
  · refine ⟨fun cls d H' => PySem.W.exmOne X.K cls (.ref CS) = some true ∧ ∀ a, H' a = none → Q (.ref a) (upd H' a (ExV cls d a)), fun cls d σ' H' ⟨e1, e2⟩ => ⟨e1, fun b hb hl => ?_⟩, rfl, hc, ?_⟩
    · match σ', hl with
      | [u, v, w], _ => exact ⟨_, rfl, e2 b hb⟩
    · exact h _ fun v H' z => ⟨_, rfl, z⟩
end
end KA
namespace KA
open PySem PySem.Spec PyProof.Rows L2 PySem.W LamX
/-! ### what the top has written, by name -/
/-- a def of the top -/
structure DefT (K : PySem.W.Frag) (mg : Str → Option Value) (x : Str) (st : Stmt) where
  a : Addr
  d : FuncData
  f : Fun K x x st a d
  m : mg x = some (.ref a)
abbrev veB : List Value := [.type "ValueError", .type "Exception", .type "BaseException", .type "object"]
/-- an exception class of the top over ReelError at R, without an __init__ of its own -/
structure ExcT (K : PySem.W.Frag) (mg : Str → Option Value) (x : Str) (R : Addr) where
  C : Addr
  g : mg x = some (.ref C)
  q : PySem.W.excIn K C veB "ValueError.__new__" = true
  k : PySem.W.keepIn K (.ref C) = true
  b : PySem.W.subIn K (.ref C) (.type "BaseException") = some true
  t : PySem.W.typeIn K (.ref C) = some (.type "type")
  r : PySem.W.subIn K (.ref C) (.ref R) = some true
  e : ExcC K C
/-- ReelError -/
structure ReelT (K : PySem.W.Frag) (mg : Str → Option Value) where
  C : Addr
  g : mg "ReelError" = some (.ref C)
  b : PySem.W.subIn K (.ref C) (.type "BaseException") = some true
  t : PySem.W.typeIn K (.ref C) = some (.type "type")
  d : PySem.W.hasDictIn K C = true
theorem ExcT.exm {K : PySem.W.Frag} {mg : Str → Option Value} {x : Str} (R : ReelT K mg) (T : ExcT K mg x R.C) : PySem.W.exmOne K (.ref T.C) (.ref R.C) = some true := PySem.W.exm_ref R.b R.d R.t T.r
/-- an int constant of the top -/
def CstT (mg : Str → Option Value) (x : Str) (n : Int) : Prop := ∃ t, mg x = some (.int n t)
abbrev C1 := L2.CX
theorem passE {X : Cx} : Passes (L2.CX X.prog X.w) X E0 := passL
section
variable {X : Cx} {E : XK}
/-- raise C('..') in a def that lets it out -/
theorem ps_raiseT {K : PySem.W.Frag} {mg : Str → Option Value} {x : Str} {R : Addr} {pos p1 p2 pc : Pos} {j : Nat} {m : Str} (hK : X.K = K) (hM : X.mg = mg) (T : ExcT K mg x R) (hg : Gl X x) (hc : X.calm = true) {W : WX} (tk : Takes X W)
    (hdb : (x == ("__debug__" : Str)) = false := by decide) :
    PS X (.Raise (some (.Call (.Name x p1) [.Constant (.str m) j pc] [] p2)) none pos) (fun _ σ H => W (.ref T.C) none σ H) := by
  subst hK
  subst hM
  exact ps_raise hc tk (pmk_own PySem.F.excBase_ValueError T.q T.g T.k (raises_own T.b T.t) hg hdb)
end
end KA
namespace KA
open PySem PySem.Spec PyProof.Rows L2 PySem.W LamX
/-! ### the law's own draws: their state -/
abbrev kLarge : Key := Sum.inr "large"
abbrev kCells : Key := Sum.inr "cells"
abbrev kLeft : Key := Sum.inr "left"
abbrev kTurn : Key := Sum.inr "turn"
def stKv (lg cl : Addr) (left turn : Int) : List (Key × V) := [(kLarge, .ref lg), (kCells, .ref cl), (kLeft, .int left), (kTurn, .int turn)]
section
variable {lg cl : Addr} {left turn : Int}
theorem k12 : ¬ kLarge = kCells := by decide +kernel
theorem k13 : ¬ kLarge = kLeft := by decide +kernel
theorem k14 : ¬ kLarge = kTurn := by decide +kernel
theorem k23 : ¬ kCells = kLeft := by decide +kernel
theorem k24 : ¬ kCells = kTurn := by decide +kernel
theorem k34 : ¬ kLeft = kTurn := by decide +kernel
theorem st_large : valV (stKv lg cl left turn) kLarge = some (.ref lg) := valV_pos rfl
theorem st_cells : valV (stKv lg cl left turn) kCells = some (.ref cl) := (valV_neg k12).trans (valV_pos rfl)
theorem st_left : valV (stKv lg cl left turn) kLeft = some (.int left) := (valV_neg k13).trans ((valV_neg k23).trans (valV_pos rfl))
theorem st_turn : valV (stKv lg cl left turn) kTurn = some (.int turn) := (valV_neg k14).trans ((valV_neg k24).trans ((valV_neg k34).trans (valV_pos rfl)))
theorem st_put_left (l : Int) : putK (stKv lg cl left turn) kLeft (.int l) = stKv lg cl l turn := by
  unfold putK
  rw [valV_any, st_left, Option.isSome_some, if_pos rfl]
  simp only [stKv, List.map_cons, List.map_nil, if_neg k13, if_neg k23, if_neg (Ne.symm k34), if_true]
theorem st_put_turn (t : Int) : putK (stKv lg cl left turn) kTurn (.int t) = stKv lg cl left t := by
  unfold putK
  rw [valV_any, st_turn, Option.isSome_some, if_pos rfl]
  simp only [stKv, List.map_cons, List.map_nil, if_neg k14, if_neg k24, if_neg k34, if_true]
end
/-- the state stands at st: the numbers that are left to draw from at lg, the script's at cl -/
structure StD (H : Hp) (st lg cl : Addr) (large cells : List Int) (left : Int) (turn : Nat) : Prop where
  d : H st = some (.dK (stKv lg cl left turn))
  l : H lg = some (.lst (large.map V.int))
  c : H cl = some (.lst (cells.map V.int))
  ne : lg ≠ cl
  pl : ∀ x ∈ large, 0 ≤ x
  p0 : 0 ≤ left
def StAt (H : Hp) (st lg cl : Addr) (n : Nat) : Prop := ∃ large cells left turn, StD H st lg cl large cells left turn ∧ turn ≤ n
/-- all but the state stands as it stood -/
def Kp (st lg : Addr) (H H' : Hp) : Prop := ∀ b o, H b = some o → b ≠ st → b ≠ lg → H' b = some o
theorem Kp.refl {st lg : Addr} {H : Hp} : Kp st lg H H := fun _ _ h _ _ => h
theorem Kp.trans {st lg : Addr} {H H1 H2 : Hp} (a : Kp st lg H H1) (b : Kp st lg H1 H2) : Kp st lg H H2 := fun c o h n1 n2 => b c o (a c o h n1 n2) n1 n2
theorem Kp.same {st lg : Addr} {H H1 : Hp} (a : Same H H1) : Kp st lg H H1 := fun c o h _ _ => a c o h
theorem Same.new {H : Hp} {p : Addr} {o : HO} (h : H p = none) : Same H (upd H p o) := fun b u e => by
  rw [upd_ne (ne_of_none e h)]
  exact e
theorem StD.same {H H' : Hp} {st lg cl : Addr} {large cells : List Int} {left : Int} {turn : Nat} (S : StD H st lg cl large cells left turn) (e : Same H H') : StD H' st lg cl large cells left turn :=
  { S with d := e _ _ S.d, l := e _ _ S.l, c := e _ _ S.c }
theorem StAt.same {H H' : Hp} {st lg cl : Addr} {n : Nat} (S : StAt H st lg cl n) (e : Same H H') : StAt H' st lg cl n := by
  obtain ⟨a, b, c, d, s, h⟩ := S
  exact ⟨a, b, c, d, s.same e, h⟩
theorem StAt.mono {H : Hp} {st lg cl : Addr} {n m : Nat} (S : StAt H st lg cl n) (h : n ≤ m) : StAt H st lg cl m := by
  obtain ⟨a, b, c, d, s, h'⟩ := S
  exact ⟨a, b, c, d, s, Nat.le_trans h' h⟩
theorem StD.st_lg {H : Hp} {st lg cl : Addr} {large cells : List Int} {left : Int} {turn : Nat} (S : StD H st lg cl large cells left turn) : st ≠ lg := ne_of S.d S.l (by intro z; cases z)
theorem StD.st_cl {H : Hp} {st lg cl : Addr} {large cells : List Int} {left : Int} {turn : Nat} (S : StD H st lg cl large cells left turn) : st ≠ cl := ne_of S.d S.c (by intro z; cases z)
/-- the state's dict is written -/
theorem StD.put {H : Hp} {st lg cl : Addr} {large cells : List Int} {left l : Int} {turn t : Nat} (S : StD H st lg cl large cells left turn) (h : 0 ≤ l) : StD (upd H st (.dK (stKv lg cl l t))) st lg cl large cells l t :=
  { d := upd_same, l := (upd_ne S.st_lg.symm).trans S.l, c := (upd_ne S.st_cl.symm).trans S.c, ne := S.ne, pl := S.pl, p0 := h }
theorem Kp.put {st lg : Addr} {H : Hp} {o : HO} : Kp st lg H (upd H st o) := fun b u e n _ => (upd_ne n).trans e
theorem Kp.put2 {st lg : Addr} {H : Hp} {o : HO} : Kp st lg H (upd H lg o) := fun b u e _ n => (upd_ne n).trans e
theorem dp_ints {K : PySem.W.Frag} {H : Hp} : ∀ ns : List Int, DpAll K H (ns.map V.int) (ns.map PyData.int)
  | [] => .nil
  | n :: r => .cons (.int n) (dp_ints r)
theorem dp_int_list {K : PySem.W.Frag} {H : Hp} {a : Addr} {ns : List Int} (h : H a = some (.lst (ns.map V.int))) : Dp K H (.ref a) (.list (ns.map PyData.int)) := .lst (SqL.of h) (dp_ints ns)
theorem dp_nil {K : PySem.W.Frag} {H : Hp} {a : Addr} (h : H a = some (.lst [])) : Dp K H (.ref a) (.list []) := .lst (SqL.of h) .nil
theorem lay_is : ∀ ns : List Int, PyData.canLayAll0 (ns.map PyData.int) = true ∧ PyData.depthAll (ns.map PyData.int) = 0
  | [] => ⟨rfl, rfl⟩
  | n :: r => by
    obtain ⟨h1, h2⟩ := lay_is r
    exact ⟨by simp [PyData.canLayAll0, PyData.canLay0, h1], by simp [PyData.depthAll, PyData.depth, h2]⟩
theorem shaped_is (ns : List Int) : SeqAt.shaped (.list (ns.map PyData.int)) = true := by
  obtain ⟨h1, h2⟩ := lay_is ns
  simp [SeqAt.shaped, PyData.canLay0, PyData.depth, h1, h2]
theorem shaped_nil : SeqAt.shaped (.list []) = true := shaped_is []
theorem eqv_ints_nil (ns : List Int) : PyData.eqv (.list (ns.map PyData.int)) (.list []) = ns.isEmpty := by
  cases ns <;> rfl
theorem st_merge (lg cl : Addr) (left turn : Int) : mergeK [] (stKv lg cl left turn) = stKv lg cl left turn := by
  unfold stKv mergeK
  simp only [List.foldl_cons, List.foldl_nil]
  rw [putK_new (kvs := []) _ valV_nil, List.nil_append]
  rw [putK_new (k := kCells) _ ((valV_neg (show ¬ kLarge = kCells from k12)).trans valV_nil), List.cons_append, List.nil_append]
  rw [putK_new (k := kLeft) _ ((valV_neg (show ¬ kLarge = kLeft from k13)).trans ((valV_neg (show ¬ kCells = kLeft from k23)).trans valV_nil)), List.cons_append, List.cons_append, List.nil_append]
  rw [putK_new (k := kTurn) _ ((valV_neg (show ¬ kLarge = kTurn from k14)).trans ((valV_neg (show ¬ kCells = kTurn from k24)).trans ((valV_neg (show ¬ kLeft = kTurn from k34)).trans valV_nil)))]
  rfl
theorem take_map_snoc {α β : Type} (f : α → β) (l : List α) (i : Nat) (x : α) (h : l[i]? = some x) : (l.take (i + 1)).map f = (l.take i).map f ++ [f x] := by
  rw [List.take_add_one, h]
  simp
theorem StAt.off {H : Hp} {st lg cl p : Addr} {n : Nat} (S : StAt H st lg cl n) (hp : H p = none) : p ≠ st ∧ p ≠ lg := by
  obtain ⟨_, _, _, _, S', _⟩ := S
  exact ⟨(ne_of_none S'.d hp).symm, (ne_of_none S'.l hp).symm⟩
end KA
namespace KA
open PySem PySem.Spec PyProof.Rows L2 PySem.W LamX
/-! ### calls by names alone; defs whose frame must know that no repr is running -/
section
variable {X : Cx} {CX : CXT} {k : Nat} {f : Addr} {fd : FuncData} {ps ks : List Str} {sp : Sp} {E : XK} {x : Str} {p pos : Pos} {kws : List Keyword} {tk : TA} {g : List Value → List Value → List Value} {gV : List V → List V → List V}
def tKw (m : Nat) (sp : Sp) (gV : List V → List V → List V) (E : XK) (tk : TA) : TE := fun σ H Q => tk σ H fun zs H2 => zs.length = m ∧ sp (gV [] zs) H2 Q E
/-- f(k = v, ..) -/
theorem pe_kw (F : FnOk X.prog X.w X.K X.mg X.base CX k f fd ps sp) (hr : Room k X.A) (hg : Gl X x) (hm : X.mg x = some (.ref f)) (hk : PySem.W.keepIn X.K (.ref f) = true) (hb : KBn X.K fd ps 0 ks g gV) (hx : Passes CX X E) (hkw : PK X kws tk)
    (named : (backToKw pos (keywordEach kws X.env)).all (·.1.isSome) = true := by rfl) (theirs : (backToKw pos (keywordEach kws X.env)).filterMap (·.1) = ks := by rfl) (hdb : (x == ("__debug__" : Str)) = false := by decide)
    (noStars : ((backTo pos (starEach [] X.env)).any (·.1) || (backToKw pos (keywordEach kws X.env)).any (·.1.isNone)) = false := by rfl) :
    PE X (.Call (.Name x p) [] kws pos) (tKw ks.length sp gV E tk) :=
  ⟨fun pins s σ H Q I h => wpAny_Call_Name_kw (ld_glob I hg hm (PySem.W.callWith_KW0 (h₀ := X.base) I.ok.mod.kin hk named (thn (hkw.run pos pins s σ H _ I h) fun ws s2 hw => by
    obtain ⟨zs, H2, I2, rz, l2, q2⟩ := hw
    refine ⟨I2.kIn, ?_⟩
    rw [theirs]
    exact run_fnN F hr hb hx I2 .nil rz rfl l2 q2) noStars) hdb)⟩
end
section
variable {K : PySem.W.Frag} {x qual : Str} {st : Stmt} {f : Addr} {fd : FuncData} {ps ks : List Str}
/-- one parameter, by its name -/
theorem Fun.kw1 {a : Str} (F : Fun K x qual st f fd) (h : ∀ (kV doc pm : Value) (an : Option Addr) (cdv ct u : Value), bindArgs (PySem.W.fnOf x qual (defArgs st) (defBody st) (defScope st) .none kV doc pm an cdv ct) ⟨[], [(a, u)]⟩ = pure [(a, u)]) :
    KBn K fd [a] 0 [a] (fun _ ws => ws) (fun _ zs => zs) := by
  obtain ⟨oc, od, kV, doc, pm, an, cdv, ct, osl, rfl, lk, hcd⟩ := F.ex
  refine ⟨fun s us ws X l1 l2 => ?_, fun _ r => r⟩
  match us, ws, l1, l2 with
  | [], [u], _, _ => exact .of_eq (h kV doc pm an cdv ct u)
/-- two parameters a, b, called as f(b = .., a = ..) -/
theorem Fun.kw2 {a b : Str} (F : Fun K x qual st f fd) (h : ∀ (kV doc pm : Value) (an : Option Addr) (cdv ct u v : Value), bindArgs (PySem.W.fnOf x qual (defArgs st) (defBody st) (defScope st) .none kV doc pm an cdv ct) ⟨[], [(b, u), (a, v)]⟩ = pure [(a, v), (b, u)]) :
    KBn K fd [a, b] 0 [b, a] (fun _ ws => ws.reverse) (fun _ zs => zs.reverse) := by
  obtain ⟨oc, od, kV, doc, pm, an, cdv, ct, osl, rfl, lk, hcd⟩ := F.ex
  refine ⟨fun s us ws X l1 l2 => ?_, fun {_ _ zs ws} _ r => ?_⟩
  · match us, ws, l1, l2 with
    | [], [u, v], _, _ => exact .of_eq (h kV doc pm an cdv ct u v)
  · clear h
    have rev : ∀ {zs : List V} {ws : List Value}, Vals zs ws → Vals zs.reverse ws.reverse := fun {zs ws} r => by
      induction r with
      | nil => exact .nil
      | cons h _ ih =>
        rw [List.reverse_cons, List.reverse_cons]
        exact ih.append (.cons h .nil)
    exact rev r
end
end KA
namespace KA
open PySem PySem.Spec PyProof.Rows L2 PySem.W LamX
/-- as FnOk, where no repr is running around the call -/
structure FnG (P : Program) (w : World) (K : PySem.W.Frag) (mg : Str → Option Value) (base : Heap) (CX : CXT) (k : Nat) (f : Addr) (fd : FuncData) (ps : List Str) (sp : Sp) : Prop where
  len : ∀ vs H Q E, sp vs H Q E → vs.length = ps.length
  run : ∀ (A : Around) (outer : List Env) (s : Shared) (H : Hp) (args : Args) (us : List Value) (vs : List V) (Q : VK) (E : XK), Room k A → A.guards = some [] →
    Env0 P w K mg base A outer s H → BindsTo s fd args (ps.zip us) → Vals vs us → sp vs H Q E → codeAny (model P w) A (.call (.ref f) args) (CR CX outer P w H s Q E) s
theorem fnG_of {CX : CXT} {P : Program} {w : World} {K : PySem.W.Frag} {mg : Str → Option Value} {base : Heap} {k : Nat} {f : Addr} {x qual : Str} {st : Stmt} {fd : FuncData} {N ps : List Str} {sp : Sp} (F : Fun K x qual st f fd) (S : FnScope N ps (defScope st))
    (len : ∀ vs H Q E, sp vs H Q E → vs.length = ps.length)
    (hbody : ∀ (cdv : Value) (A : Around) (outer : List Env) (s : Shared) (H : Hp) (vs : List V) (Q : VK) (E : XK), Room k (A.deeper (envOfC qual (defScope st) s.heap.objs.size f cdv)) → A.guards = some [] → sp vs H Q E →
      ∃ t, PSs (cxOf CX P w K mg base N qual (defScope st) f cdv A outer s H E) (defBody st) t ∧ t { nx := fun _ H' => Q .non H', rt := Q } (L2.start N vs) H) : FnG P w K mg base CX (k + 1) f fd ps sp := by
  obtain ⟨oc, od, kV, doc, pm, an, cdv, ct, osl, rfl, lk, hcd⟩ := F.ex
  exact ⟨len, fun A outer s H args us vs Q E hr hg e0 hb r h => run_ofS lk hcd S hr e0 hb r (len _ _ _ _ h) fun hr' => hbody cdv A outer s H vs Q E hr' hg h⟩
/-- what stands around the law's call: the script at a, the tables of cs (each a code object and its table) empty -/
structure Law (h : Heap) (mg mb : Str → Option Value) (K : PySem.W.Frag) (cs : List (Addr × Addr)) (a : Addr) (vs : List Value) (ns : List Int) : Prop where
  kx : K.In h
  nsM : h.Ns mainGlobals mg
  bn : h.Ns builtinsNs mb
  bb : ∀ x : Str, x ≠ "__name__" → mb x = bootBuiltins x
  lim : h.NoLimit
  tab : ∀ p ∈ cs, h.get? p.2 = some { cls := .none, data := .fields #[] }
  notab : ∀ p ∈ cs, K.lookup p.2 = none
  code : ∀ p ∈ cs, PySem.W.CodeHd h p.1 p.2
  bm : ∃ (bm : Addr) (ob : Obj), mg "__builtins__" = some (.ref bm) ∧ bm ≠ builtinsNs ∧ h.get? bm = some ob ∧ ob.cls = .type "module" ∧ ob.dict = some builtinsNs ∧ ob.data = .plain
  at_ : h.get? a = some { cls := .type "list", data := .seq vs.toArray }
  isI : IntsAre vs ns
  len : ns.length ≤ sizeLine
/-- the abstract heap at the law's call -/
def lawH (K : PySem.W.Frag) (cs : List (Addr × Addr)) (a : Addr) (vs : List Value) (ns : List Int) : Hp := fun b =>
  if b = a ∧ K.lookup a = none then some (.frz { cls := .type "list", data := .seq vs.toArray } (.lst (ns.map V.int)))
  else if b ∈ cs.map (·.2) then some (.tbl #[]) else none
section
variable {P : Program} {w : World} {K : PySem.W.Frag} {mg mb : Str → Option Value} {h : Heap} {cs : List (Addr × Addr)} {a : Addr} {vs : List Value} {ns : List Int}
theorem Law.tabAt (L : Law h mg mb K cs a vs ns) {b : Addr} (hb : b ∈ cs.map (·.2)) : h.get? b = some { cls := .none, data := .fields #[] } ∧ K.lookup b = none := by
  obtain ⟨p, hp, rfl⟩ := List.mem_map.mp hb
  exact ⟨L.tab p hp, L.notab p hp⟩
theorem Law.ne (L : Law h mg mb K cs a vs ns) {b : Addr} (hb : b ∈ cs.map (·.2)) : b ≠ a := fun z => by
  have q := (L.tabAt hb).1
  rw [z, L.at_] at q
  cases q
/-- what is tracked: the script, or a table -/
theorem Law.cases (L : Law h mg mb K cs a vs ns) {b : Addr} {u : HO} (e : lawH K cs a vs ns b = some u) :
    (b = a ∧ K.lookup a = none ∧ u = .frz { cls := .type "list", data := .seq vs.toArray } (.lst (ns.map V.int))) ∨ (b ∈ cs.map (·.2) ∧ u = .tbl #[]) := by
  unfold lawH at e
  split at e
  · rename_i c
    exact .inl ⟨c.1, c.2, (Option.some.inj e).symm⟩
  · split at e
    · rename_i c
      exact .inr ⟨c, (Option.some.inj e).symm⟩
    · cases e
theorem Law.tbl (L : Law h mg mb K cs a vs ns) {b : Addr} (hb : b ∈ cs.map (·.2)) : lawH K cs a vs ns b = some (.tbl #[]) := by
  unfold lawH
  rw [if_neg (fun z => L.ne hb z.1), if_pos hb]
theorem Law.seq (L : Law h mg mb K cs a vs ns) : SqL K (lawH K cs a vs ns) a (ns.map V.int) := by
  cases q : K.lookup a with
  | none => exact .inl (.inr ⟨_, by unfold lawH; rw [if_pos ⟨rfl, q⟩]⟩)
  | some o =>
    have e := L.kx a o q
    rw [L.at_] at e
    cases e
    exact .inr ⟨_, vs.toArray, _, q, rfl, rfl, rfl, by rw [List.size_toArray, L.isI.length]; exact L.len, by simpa using vals_ints L.isI⟩
theorem Law.hok (L : Law h mg mb K cs a vs ns) : HOk P w (lawH K cs a vs ns) h := fun b u e => by
  rcases L.cases e with ⟨rfl, _, rfl⟩ | ⟨hb, rfl⟩
  · exact ⟨L.at_, by rw [List.length_map]; exact L.len, vs, _, vals_ints L.isI, L.at_⟩
  · exact (L.tabAt hb).1
/-- an object that is neither a list nor an empty record is not tracked -/
theorem Law.free (L : Law h mg mb K cs a vs ns) {b : Addr} {o : Obj} (e : h.get? b = some o) (h1 : ∀ vs n, o.data ≠ .seq vs n) (h2 : o.data ≠ .fields #[]) : lawH K cs a vs ns b = none := by
  cases q : lawH K cs a vs ns b with
  | none => rfl
  | some u =>
    rcases L.cases q with ⟨rfl, _⟩ | ⟨hb, _⟩
    · rw [L.at_] at e
      cases e
      exact absurd rfl (h1 _ _)
    · rw [(L.tabAt hb).1] at e
      cases e
      exact absurd rfl h2
theorem Law.nsK (L : Law h mg mb K cs a vs ns) {b : Addr} {m : Str → Option Value} (x : h.Ns b m) : (hidT h (lawH K cs a vs ns)).Ns b m := by
  obtain ⟨o, es, ep, e, d, r⟩ := x
  refine ⟨o, es, ep, hidT_get e (L.free e (fun _ _ z => ?_) fun z => ?_), d, r⟩ <;> (rw [d] at z; cases z)
theorem Law.kin (L : Law h mg mb K cs a vs ns) : K.In (hidT h (lawH K cs a vs ns)) := fun b o e => hidT_get (L.kx b o e) (by
  cases q : lawH K cs a vs ns b with
  | none => rfl
  | some u =>
    rcases L.cases q with ⟨rfl, z, _⟩ | ⟨hb, _⟩
    · rw [z] at e
      cases e
    · rw [(L.tabAt hb).2] at e
      cases e)
theorem Law.mod (L : Law h mg mb K cs a vs ns) : L2.Mod K mg (hidT h (lawH K cs a vs ns)) := by
  obtain ⟨mc, h1, h2⟩ := L.lim
  exact ⟨L.kin, L.nsK L.nsM, ⟨mb, L.nsK L.bn, L.bb⟩, mc, L.nsK h1, h2⟩
theorem Law.main (L : Law h mg mb K cs a vs ns) {b : Addr} {o : Obj} (e : h.get? b = some o) (n : ∀ es ep, o.data ≠ .dict es ep) : b ≠ mainGlobals := fun z => by
  obtain ⟨o', es, ep, e', d, _⟩ := L.nsM
  rw [z, e'] at e
  cases e
  exact n _ _ d
theorem Law.tabs (L : Law h mg mb K cs a vs ns) : ∀ p ∈ cs, TabB (hidT h (lawH K cs a vs ns)) mg p.1 p.2 := fun p hp => by
  have hm : p.2 ∈ cs.map (·.2) := List.mem_map.mpr ⟨p, hp, rfl⟩
  have ht := (L.tabAt hm).1
  refine ⟨?_, ?_, fun z => L.main ht (fun _ _ q => by cases q) z.symm⟩
  · obtain ⟨o, us, file, tf, flags, tg, inF, text, tt, e1, r1, r2, r3, rest⟩ := L.code p hp
    refine ⟨o, us, file, tf, flags, tg, inF, text, tt, hidT_get e1 (L.free e1 (fun _ _ z => ?_) fun z => ?_), r1, r2, r3, rest⟩
    · rw [r2] at z
      cases z
    · rw [r2] at z
      cases z
      simp at r3
  · obtain ⟨bm, ob, b1, b2, b3, b4, b5, b6⟩ := L.bm
    refine ⟨bm, ob, b1, b2, L.main b3 (fun _ _ q => by rw [b6] at q; cases q), fun q => ?_, hidT_get b3 (L.free b3 (fun _ _ z => ?_) fun z => ?_), b4, b5, b6⟩
    · rw [q, ht] at b3
      cases b3
      cases b6
    · rw [b6] at z
      cases z
    · rw [b6] at z
      cases z
/-- an address of the heap at the call stands as it stood, or it is a table that has grown -/
theorem Law.stay (L : Law h mg mb K cs a vs ns) {s' : Shared} {H' : Hp} {b : Addr} {o : Obj} (un : Un [] [] (lawH K cs a vs ns) H' h s'.heap) (ok : HOk P w H' s'.heap) (e : h.get? b = some o) (nb : b ∉ cs.map (·.2)) : s'.heap.get? b = some o := by
  cases q : lawH K cs a vs ns b with
  | none => exact un.keep b o e q (by simp) (by simp)
  | some u =>
    rcases L.cases q with ⟨rfl, _, rfl⟩ | ⟨z, _⟩
    · have e2 := (ok b _ (un.frzs b _ _ q)).1
      rw [L.at_] at e
      rw [← e]
      exact e2
    · exact absurd z nb
theorem Law.grown (L : Law h mg mb K cs a vs ns) {s' : Shared} {H' : Hp} {b : Addr} (un : Un [] [] (lawH K cs a vs ns) H' h s'.heap) (ok : HOk P w H' s'.heap) (hb : b ∈ cs.map (·.2)) : ∃ more : Array Value, s'.heap.get? b = some { cls := .none, data := .fields more } := by
  obtain ⟨more, z⟩ := un.tbls b #[] (L.tbl hb)
  exact ⟨_, ok b _ z⟩
theorem Law.old (L : Law h mg mb K cs a vs ns) {s' : Shared} {H' : Hp} (un : Un [] [] (lawH K cs a vs ns) H' h s'.heap) (ok : HOk P w H' s'.heap) : OldK h s'.heap := by
  constructor
  · intro b o e
    by_cases hb : b ∈ cs.map (·.2)
    · obtain ⟨p, hp, rfl⟩ := List.mem_map.mp hb
      obtain ⟨more, hm⟩ := L.grown un ok hb
      have ht := L.tab p hp
      rw [ht] at e
      cases e
      refine .inr (.inl ⟨((L.code p hp).tab ht).isCodeTable, rfl, #[], more, rfl, ?_⟩)
      rw [Array.empty_append]
      exact hm
    · exact .inl (L.stay un ok e hb)
  · intro b o e
    by_cases hb : b ∈ cs.map (·.2)
    · obtain ⟨more, hm⟩ := L.grown un ok hb
      exact ⟨_, hm⟩
    · exact ⟨o, L.stay un ok e hb⟩
end
/-- the law, called with the script at a -/
theorem law_callG {P : Program} {w : World} {K : PySem.W.Frag} {mg mb : Str → Option Value} {CX : CXT} {k : Nat} {fa a : Addr} {cs : List (Addr × Addr)} {fd : FuncData} {x : Str} {sp : Sp} {s : Shared} {vs : List Value} {ns : List Int}
    (L : Law s.heap mg mb K cs a vs ns) (hg : s.gens = #[]) (hr : Room k callerA) (F : ∀ base : Heap, K.In base → base.Ns mainGlobals mg → (∀ p ∈ cs, TabB base mg p.1 p.2) → FnG P w K mg base CX k fa fd [x] sp)
    (hbind : ∀ (s : Shared) (u : Value), BindsTo s fd ⟨[u], []⟩ [(x, u)]) (hsp : ∀ H : Hp, (∀ p ∈ cs, H p.2 = some (.tbl #[])) → SqL K H a (ns.map V.int) → sp [.ref a] H (fun v _ => v = .bl true) fun _ _ _ => False)
    (hCX : ∀ H e s', CX [] H s (fun _ _ _ => False) e s' → False) :
    codeAny (model P w) callerA (.call (.ref fa) ⟨[.ref a], []⟩) (fun r s' => r = .ok (.ret (.bool true)) ∧ OldK s.heap s'.heap ∧ s'.os = s.os ∧ AllBare s'.gens) s := by
  have env : Env0 P w K mg (hidT s.heap (lawH K cs a vs ns)) callerA [] s (lawH K cs a vs ns) :=
    ⟨rfl, L.mod, fun _ _ => of_hidT, Nat.le_of_eq (hidT_size _ _), trivial, fun b hb => absurd (show b ∈ ([] : List Addr) from hb) List.not_mem_nil, L.hok, .of_eq hg⟩
  have pre := hsp (lawH K cs a vs ns) (fun p hp => L.tbl (List.mem_map.mpr ⟨p, hp, rfl⟩)) L.seq
  have run := (F _ L.kin (L.nsK L.nsM) L.tabs).run callerA [] s _ ⟨[.ref a], []⟩ [.ref a] [.ref a] _ _ hr rfl env (hbind s _) (.cons rfl .nil) pre
  refine codeAny_mono run fun r s' q => ?_
  match r, q with
  | .error e, q => exact (hCX _ e s' q).elim
  | .ok .next, q => exact False.elim q
  | .ok .brk, q => exact False.elim q
  | .ok .cont, q => exact False.elim q
  | .ok (.ret u), q =>
    obtain ⟨v, H', os, bare, un, ok, rv, e⟩ := q
    cases (show v = .bl true from e)
    cases (show u = Value.bool true from rv)
    exact ⟨rfl, L.old un ok, os, bare⟩
/-- what is known of the law at the head's heap h -/
def LawAtG (l : PySem.W.OpenLaw) (w : World) (K : PySem.W.Frag) (CX : CXT) (k n : Nat) (x : Str) (mg : Str → Option Value) (fa : Addr) (h : Heap) : Prop :=
  ∃ (fd : FuncData) (cs : List (Addr × Addr)) (sp : Sp), ((∀ p ∈ cs, h.get? p.2 = some { cls := .none, data := .fields #[] }) ∧ (∀ p ∈ cs, K.lookup p.2 = none) ∧ ∀ p ∈ cs, PySem.W.CodeHd h p.1 p.2) ∧
    (∀ (s : Shared) (u : Value), BindsTo s fd ⟨[u], []⟩ [(x, u)]) ∧
    (∀ (H : Hp) (a : Addr) (ns : List Int), ns.length ≤ n → (∀ p ∈ cs, H p.2 = some (.tbl #[])) → SqL K H a (ns.map V.int) → sp [.ref a] H (fun v _ => v = .bl true) fun _ _ _ => False) ∧
    ∀ base : Heap, K.In base → base.Ns mainGlobals mg → (∀ p ∈ cs, TabB base mg p.1 p.2) → FnG l.prog w K mg base CX k fa fd [x] sp
theorem walk_ofG {l : PySem.W.OpenLaw} {n k : Nat} {q : Program} {loose : List Str} {XP : (Str → Option Value) → Heap → Prop} {YP : World → Heap → Prop} {d : DefRec} {K : Params → PySem.W.Frag} {CX : World → CXT} {x : Str}
    (most : l.most = some n) (line : n ≤ sizeLine) (plain : d.params.defaults = []) (room : Room k callerA) (known : ∀ (w : World) (h : Heap), YP w h → (K w.params).In h)
    (at_ : ∀ (w : World) (mg : Str → Option Value) (fa : Addr) (h : Heap), YP w h → (K w.params).In h → h.Ns mainGlobals mg → mg d.name = some (.ref fa) → LawAtG l w (K w.params) (CX w) k n x mg fa h)
    (calm : ∀ (w : World) (H : Hp) (s : Shared) (e : Value) (s' : Shared), CX w [] H s (fun _ _ _ => False) e s' → False) : PySem.W.WalkO q loose XP YP l.row.toRowW d [] (fun f vs => PySem.call f vs) := by
  refine Att.attach_callB most plain fun w _ s mg mb fa _ _ _ _ a vs ns G Y _ _ _ name here isI short _ bare => ?_
  obtain ⟨fd, cs, sp, ⟨t1, t2, t3⟩, bind, pre, F⟩ := at_ w mg fa _ Y (known w _ Y) G.T.g name
  exact law_callG ⟨known w _ Y, G.T.g, G.T.b, G.T.builtins, G.T.nolimit, t1, t2, t3, G.T.bmain, here, isI, Nat.le_trans short line⟩ bare room F bind (fun H t S => pre H a ns short t S) fun H e s' => calm w H s e s'
end KA
namespace KU
open PySem PySem.W PySem.Calls PyProof.Rows PySem.HandSPX
/-! ### an own error whose __init__(self, f) says super().__init__(e) and self.f = f -/
abbrev upBody (f : Str) (e : Expr) (p0 p1 p2 p3 pe q1 q2 q3 q4 : Pos) : List Stmt :=
  [.Expr (.Call (.Attribute (.Call (.Name "super" p0) [] [] p1) "__init__" p2) [e] [] p3) pe, .Assign [.Attribute (.Name "self" q1) f q2] (.Name f q3) q4]
abbrev upArgs (f : Str) (r1 r2 : Pos) : Arguments := { posonlyargs := [], args := [{ arg := "self", annotation := none, pos := r1 }, { arg := f, annotation := none, pos := r2 }], vararg := none, kwonlyargs := [], kw_defaults := [], kwarg := none, defaults := [] }
abbrev upScope (f : Str) : Scope := { kind := .function, names := [(PySem.Str.ofString "self", .local), (f, .local), (PySem.Str.ofString "__class__", .free), (PySem.Str.ofString "super", .globalImplicit)], isGenerator := false, isCoroutine := false, more := [] }
/-- what the written part says of the class at C, of its __init__ at fI -/
structure UpTxt (P : Program) (K : Frag) (C fI cda cc : Addr) (qual f : Str) (e : Expr) : Prop where
  fn : ∃ (oc : Value) (od : Option Addr) (doc pm : Value) (an : Option Addr) (ct : Value) (osl : Array (Option Value)) (r1 r2 p0 p1 p2 p3 pe q1 q2 q3 q4 : Pos),
    K.lookup fI = some ⟨oc, od, .func (ksFn "__init__" qual (upArgs f r1 r2) (upBody f e p0 p1 p2 p3 pe q1 q2 q3 q4) (upScope f) .none .none doc pm an (.ref cda) ct cc), osl⟩ ∧
      (∀ a b : Value, bindArgs (ksFn "__init__" qual (upArgs f r1 r2) (upBody f e p0 p1 p2 p3 pe q1 q2 q3 q4) (upScope f) .none .none doc pm an (.ref cda) ct cc) ⟨[a, b], []⟩ = pure [(PySem.Str.ofString "self", a), (f, b)]) ∧
      (∀ L : Addr, swapsWith (.Name f q3) (some (.Attribute (.Name "self" q1) f q2)) q4.line (ksEnv qual (upScope f) L fI (.ref cda) cc) = pure false) ∧
      ∃ pl : Sem Bool, ∀ L : Addr, eval (.Call (.Attribute (.Call (.Name "super" p0) [] [] p1) "__init__" p2) [e] [] p3) (ksEnv qual (upScope f) L fI (.ref cda) cc) = (do
        let o ← attributeBase (.Call (.Name "super" p0) [] [] p1) "__init__" (ksEnv qual (upScope f) L fI (.ref cda) cc) (eval (.Call (.Name "super" p0) [] [] p1) (ksEnv qual (upScope f) L fI (.ref cda) cc))
        standAt p2.atName
        let (g, first) ← holding [o] (getMethod o "__init__" pl)
        callWith p3 g first (backTo p3 (starEach [e] (ksEnv qual (upScope f) L fI (.ref cda) cc))) [])
  star : ∀ env : Env, starEach [e] env = [(false, eval e env)]
  code : codeIn K (.ref cda) qual = true
  file : ∃ (cl : Value) (cdd : Option Addr) (vs : Array Value) (ccs : Array (Option Value)) (fl : Str) (tf : Tok), K.lookup cda = some ⟨cl, cdd, .fields vs, ccs⟩ ∧ vs[2]? = some (.str fl tf) ∧ ((P.main.file : Str) == fl) = true
  cell : ∃ (cl : Value) (cld : Option Addr) (csl : Array (Option Value)), K.lookup cc = some ⟨cl, cld, .cell (some (.ref C)), csl⟩
  cls : ∃ cd, clsIn K C = some cd ∧ refsVE cd.mro = true ∧ cd.hasDict = true
  self : mroIn K C (.ref C) = some true
  noSuper : nsIn K mainGlobals "super" = some none
  top : (P.main.scope.names.lookup ("super" : Str)).isSome = false
  third : nsIn K cStatics "thirdparty.any" = some none
  up : ks_superIn K C C "__init__" = some (some (.builtin "ValueError.__init__"))
  val : subIn K (.ref C) (.type "ValueError") = some true
  own : excInitIn K C [.type "ValueError", .type "Exception", .type "BaseException", .type "object"] "ValueError.__new__" = true
  set : findIn K (.ref C) "__setattr__" = some (some (.builtin "object.__setattr__"))
  noF : findIn K (.ref C) f = some none
  obj : ∃ (nm q : Str) (N : Addr) (bs bm : List Value) (sn : List Str) (sub : List Value) (ab : Bool) (col : Option Bool) (dd : Option Addr) (k0 k1 k2 k3 k5 : Option Value),
    K.lookup C = some (excClassObj nm q C N bs bm true sn sub ab col dd k0 k1 k2 k3 k5 "ValueError.__new__") ∧ refsVE bm = true
  iC : findIn K (.ref C) "__init__" = some (some (.ref fI))
  tC : typeIn K (.ref fI) = some (.type "function")
  ga : findIn K (.ref C) "__getattribute__" = some (some (.builtin "BaseException.__getattribute__"))
  gg : findIn K (.ref C) "__getattr__" = some none
  kC : keepIn K (.ref C) = true
  exC : subIn K (.ref C) (.type "BaseException") = some true
  tyC : typeIn K (.ref C) = some (.type "type")
  hdC : hasDictIn K C = true
  nf : f ≠ "self" ∧ f ≠ "__class__" ∧ f ≠ "super" ∧ f ≠ "__debug__"
/-- what it leaves of a fresh exception at x -/
structure UpEnd (h h' : Heap) (x C dx t1 : Addr) (f : Str) (v : Value) : Prop where
  keep : ∀ b o, b ≠ x → h.get? b = some o → h'.get? b = some o
  obj : h'.get? x = some { cls := .ref C, dict := some dx, data := .fields #[.ref t1, .none, .none, .none, .bool false, .none] }
  big : h.objs.size ≤ dx
  ne : dx ≠ x
  ns : h'.Ns1 dx (fun y => if y = f then some v else none)
section
variable {prog : Program} {w : World} {A : Around} {R : Result → Shared → Prop} {s : Shared} {K : Frag} {mg mb : Str → Option Value} {C fI cda cc : Addr} {qual f : Str} {e : Expr}
theorem up_init (T : UpTxt prog K C fI cda cc qual f e) {x t0 : Addr} {v : Value} (X : K.In s.heap) (hlim : s.heap.NoLimit) (hg : s.heap.Ns mainGlobals mg) (hb : s.heap.Ns builtinsNs mb) (hbb : ∀ y : Str, y ≠ "__name__" → mb y = bootBuiltins y)
    (hx : s.heap.get? x = some (excO C t0)) (hnx : K.lookup x = none) (hroom : A.depth < recursionLimit)
    (text : ∀ (A' : Around) (E : Value → Shared → Prop) (s' : Shared) (L : Addr) (m : Str → Option Value) (Q : Value → Shared → Prop), s'.heap.Ns L m → m f = some v → (∀ (z : Str) (t t' : Tok), Q (.str z t) { s' with toks := t' }) → wpAny (model prog w) A' (eval e (ksEnv qual (upScope f) L fI (.ref cda) cc)) Q E s')
    (hq : ∀ h' tk dx t1, UpEnd s.heap h' x C dx t1 f v → R (.ok (.ret .none)) { s with heap := h', toks := tk }) :
    codeAny (model prog w) A (.call (.ref fI) ⟨[.ref x, v], []⟩) R s := by
  obtain ⟨hp, g, dr, tk, os⟩ := s
  dsimp only at X hlim hg hb hx
  obtain ⟨oc, od, doc, pm, an, ct, osl, r1, r2, p0, p1, p2, p3, pe, q1, q2, q3, q4, ho, hbd, hswap, pl, hcall⟩ := T.fn
  obtain ⟨n1, n2, n3, n4⟩ := T.nf
  have lf : (upScope f).names.lookup f = some .local := by
    show List.lookup f ((PySem.Str.ofString "self", NameKind.local) :: _) = _
    rw [List.lookup_cons]
    cases f == PySem.Str.ofString "self" with
    | true => rfl
    | false =>
      show List.lookup f ((f, NameKind.local) :: _) = _
      rw [List.lookup_cons, beq_self_eq_true]
  refine ks_codeAny_call_defAt (binds := [(PySem.Str.ofString "self", .ref x), (f, v)]) (body := upBody f e p0 p1 p2 p3 pe q1 q2 q3 q4) hroom (X _ _ ho) rfl hlim (codeRec_of X T.code) rfl ?bind ?cells ?locs (fun h₁ hns keep => ?_) rfl rfl rfl
  case bind => exact .of_eq (hbd _ _)
  case cells =>
    intro y hy
    simp only [List.mem_cons, List.not_mem_nil, or_false] at hy
    rcases hy with z | z | z | z <;> (subst z; exact fun q => by cases q)
  case locs =>
    intro y hy
    simp only [List.mem_cons, List.not_mem_nil, or_false] at hy
    rcases hy with z | z <;> subst z
    · rfl
    · exact lf
  have X1 : K.In h₁ := X.keeps keep
  have ms : (List.lookup (PySem.Str.ofString "self") [(PySem.Str.ofString "self", Value.ref x), (f, v)].reverse) = some (.ref x) := by
    show List.lookup (PySem.Str.ofString "self") [(f, v), (PySem.Str.ofString "self", Value.ref x)] = _
    rw [List.lookup_cons, beq_false_of_ne (Ne.symm n1)]
    rfl
  have mf : (List.lookup f [(PySem.Str.ofString "self", Value.ref x), (f, v)].reverse) = some v := by
    show List.lookup f [(f, v), (PySem.Str.ofString "self", Value.ref x)] = _
    rw [List.lookup_cons, beq_self_eq_true]
  obtain ⟨cd, hcd, hmro, hdict⟩ := T.cls
  obtain ⟨cl, cdd, vs, ccs, fl, tf, hcode, hvs, hfile⟩ := T.file
  obtain ⟨ccl, cld, csl, hcell⟩ := T.cell
  have hx1 := keep _ _ hx
  generalize hm : (fun y => List.lookup y [(PySem.Str.ofString "self", Value.ref x), (f, v)].reverse) = m at hns
  have ms' : m "self" = some (.ref x) := by rw [← hm]; exact ms
  have mf' : m f = some v := by rw [← hm]; exact mf
  clear ms mf hm
  show PySem.wpAt _ _ _ (execs (upBody f e p0 p1 p2 p3 pe q1 q2 q3 q4) (ksEnv qual (upScope f) hp.objs.size fI (.ref cda) cc)) _ _ _
  refine ks_wpAt_execs_cons (ks_wpAt_Expr_any (ks_wpAt_MethodCall (pl := pl) ?_ (hcall _)))
  obtain ⟨oC, hC1, hC2⟩ : ∃ oC, h₁.get? C = some oC ∧ oC.data = .cls cd := by
    unfold clsIn at hcd
    split at hcd
    · rename_i c d cd' sl z
      cases hcd
      exact ⟨_, X1 _ _ z, rfl⟩
    · cases hcd
  have k1 : (upScope f).names.lookup ("super" : Str) = some .globalImplicit := by
    show List.lookup (PySem.Str.ofString "super") ((f, NameKind.local) :: _) = _
    rw [List.lookup_cons, beq_false_of_ne (Ne.symm n3)]
    rfl
  have k2 : (upScope f).names.lookup ("__class__" : Str) = some .free := by
    show List.lookup (PySem.Str.ofString "__class__") ((f, NameKind.local) :: _) = _
    rw [List.lookup_cons, beq_false_of_ne (Ne.symm n2)]
    rfl
  refine ks_wpAt_super_base (env := ksEnv qual (upScope f) hp.objs.size fI (.ref cda) cc) k1 k2 rfl rfl (X1 _ _ ho) rfl rfl rfl (X1 _ _ hcode) rfl hvs hfile T.top ?_
  refine ks_loadName_global rfl k1 (loadGlobal_builtin (env := ksEnv qual (upScope f) hp.objs.size fI (.ref cda) cc) (hg.keeps keep) (mg_none_of X hg T.noSuper) (hb.keeps keep) ((hbb _ (by decide +kernel)).trans (show bootBuiltins "super" = some (.type "super") by kernel_rfl)) ⟨rfl, ?_⟩)
  refine wpAny_loadName_free rfl k2 rfl ⟨_, X1 _ _ hcell, rfl⟩ ?_
  refine wpAny_loadName_local rfl rfl hns ms' ?_
  refine ks_wpAny_isType_cls hC1 hC2 ⟨rfl, ?_⟩
  refine ks_wpAny_call_super hC1 hC2 hx1 rfl (fun c z => by cases z) (looks_mroIn X1 T.self) (fun h2 so keep2 => ?_)
  have X2 : K.In h2 := X1.keeps keep2
  have hx2 := keep2 _ _ hx1
  have I2 : InstAt h2 x (excO C t0) C none := ⟨hx2, rfl, rfl, trivial⟩
  have along : alongIn K "__init__" ((cd.mro.dropWhile (· != .ref C)).drop 1) = some (some (.builtin "ValueError.__init__")) := by
    have z := T.up
    unfold ks_superIn at z
    rw [hcd] at z
    exact z
  refine kxs_getMethod kxs_ValueError so (looks_opaque X2 T.third) (l₀ := cd.mro) (fun A Q E s k q => wpAny_bind ((looks_clsIn X2 hcd) A _ E s k (wpAny_pure q))) rfl X2 along (I2.type.andThen (looks_subIn X2 T.val)) (ks_ne X2 I2 hcd) rfl ?_
  have push3 : ∀ b o, h2.get? b = some o → (h2.push (kxs_mw "ValueError.__init__" x)).get? b = some o := fun b o z => Heap.get?_push_of_some _ z
  generalize hh3 : h2.push (kxs_mw "ValueError.__init__" x) = h3 at push3
  have hu : h3.get? h2.objs.size = some (kxs_mw "ValueError.__init__" x) := by
    rw [← hh3]
    exact Heap.get?_push_at rfl rfl
  generalize h2.objs.size = u at hu
  have X3 : K.In h3 := X2.keeps push3
  have hx3 := push3 _ _ hx2
  have hns3 : h3.Ns hp.objs.size m := (hns.keeps keep2).keeps push3
  rw [T.star]
  refine kxs_callWith (i := "ValueError.__init__") (x := x) (u := u) rfl (evalArgs_plain (spliced_cons ?_))
  refine text _ _ _ _ _ _ hns3 mf' fun z zt t' => spliced_nil ⟨hu, ?_⟩
  obtain ⟨nm, N', qn, bs, bm, hdct, sn, sub, ab, col, dd, kk0, kk1, kk2, kk3, kk5, hC, hT⟩ := excInit_of X3 T.own
  refine wpAny_call (codeAny_of_tree ?_)
  show wpAny _ (Around.in1 _) (callAny (.ref u) ⟨[.str z zt], []⟩) _ _ _
  simp only [callAny]
  refine wpAny_bind (wpAny_load hu ?_)
  simp only [kxs_mw, show (Value.type "method-wrapper" == Value.type "method" || Value.type "method-wrapper" == Value.type "builtin_function_or_method" || Value.type "method-wrapper" == Value.type "method-wrapper") = true by decide, if_true]
  have FB := F.excBase_ValueError
  refine KFB.if_so (by decide) (wpAny_bind (check_bound_init FB.toExcCallFacts hC hx3 rfl (wpAny_bind (wpAny_pure (wpAny_pure ⟨plainId_quiet FB.init.plain _, codeAny_builtin FB.initEntry ?_⟩)))))
  refine exc_init_tree (cls := .ref C) (t0 := t0) (dv := none) (c2 := .none) (c3 := .none) (b4 := .bool false) hx3 (by show 1 ≤ sizeLine; decide) fun h4 keep4 hx4 _ => ?_
  have X4 : K.In h4 := fun b o z => keep4 b o (fun q => by rw [q, hnx] at z; cases z) (X3 b o z)
  have hns4 : h4.Ns hp.objs.size m := by
    obtain ⟨oL, es, ep, hL, rest⟩ := hns3
    exact ⟨oL, es, ep, keep4 _ _ (Nat.ne_of_gt (Heap.lt_size hx)) hL, rest⟩
  refine wpAt_of_wpAny (wpAny_execs_cons (plainObj_wpAny_Assign_Attribute ?_ (hswap _)))
  have kf : (ksEnv qual (upScope f) hp.objs.size fI (.ref cda) cc).kindOf f = some .local := lf
  have ndb : (f == ("__debug__" : Str)) = false := beq_false_of_ne n4
  refine wpAny_Name (wpAny_loadName_local rfl kf hns4 mf' ?_) ndb
  refine wpAny_Name (wpAny_loadName_local rfl rfl hns4 ms' ?_) rfl
  refine set_plain X4 (ox := excO C h3.objs.size) (od := none) ⟨hx4, rfl, rfl, trivial⟩ T.set ?_
  refine exc_osa X4 hx4 hcd hmro hdict T.noF fun h5 tk5 dx keep5 big ne5 hx5 hn5 => ?_
  refine wpAny_execs_nil (hq h5 tk5 dx h3.objs.size ⟨fun b o hb z => keep5 b o hb (keep4 b o hb (push3 b o (keep2 b o (keep b o z)))), hx5, ?_, ne5, hn5⟩)
  exact Nat.le_of_lt (Nat.lt_of_lt_of_le hns4.lt big)
/-- a made one -/
structure UpMade (h h' : Heap) (e C d : Addr) (f : Str) (v : Value) : Prop where
  keep : ∀ b o, h.get? b = some o → h'.get? b = some o
  new : h.objs.size ≤ e
  obj : ∃ oe vs, h'.get? e = some oe ∧ oe.cls = .ref C ∧ oe.dict = some d ∧ oe.data = .fields vs ∧ vs[1]? = some .none
  big : h.objs.size ≤ d
  ne : d ≠ e
  ns : h'.Ns1 d (fun y => if y = f then some v else none)
theorem up_made (T : UpTxt prog K C fI cda cc qual f e) {v : Value} (X : K.In s.heap) (hlim : s.heap.NoLimit) (hg : s.heap.Ns mainGlobals mg) (hb : s.heap.Ns builtinsNs mb) (hbb : ∀ y : Str, y ≠ "__name__" → mb y = bootBuiltins y) (hroom : A.depth + 1 < recursionLimit)
    (text : ∀ (A' : Around) (E : Value → Shared → Prop) (s' : Shared) (L : Addr) (m : Str → Option Value) (Q : Value → Shared → Prop), s'.heap.Ns L m → m f = some v → (∀ (z : Str) (t t' : Tok), Q (.str z t) { s' with toks := t' }) → wpAny (model prog w) A' (eval e (ksEnv qual (upScope f) L fI (.ref cda) cc)) Q E s')
    (hq : ∀ h' tk a d, UpMade s.heap h' a C d f v → R (.ok (.ret (.ref a))) { s with heap := h', toks := tk }) : codeAny (model prog w) A (.call (.ref C) ⟨[v], []⟩) R s := by
  obtain ⟨nm, q, N, bs, bm, sn, sub, ab, col, dd, k0, k1, k2, k3, k5, hC, hbm⟩ := T.obj
  obtain ⟨hp, g, dr, tk, os⟩ := s
  dsimp only at X hlim hg hb
  generalize hh : (hp.push (kdv_tup [v])).push (excO C hp.objs.size) = h1
  have k : ∀ b o, hp.get? b = some o → h1.get? b = some o := fun b o z => by
    rw [← hh]
    exact Heap.get?_push_of_some _ (Heap.get?_push_of_some _ z)
  have got : h1.get? (hp.objs.size + 1) = some (excO C hp.objs.size) := by
    rw [← hh]
    heap_get
  have fresh : K.lookup (hp.objs.size + 1) = none := by
    cases z : K.lookup (hp.objs.size + 1) with
    | none => rfl
    | some o => exact absurd (show hp.objs.size + 1 < hp.objs.size from Heap.lt_size (X _ _ z)) (Nat.not_lt.mpr (Nat.le_succ _))
  refine call_own F.excBase_ValueError (fun Y => refsVE_contains Y bm hbm) (X _ _ hC) (looks_findIn X T.iC) (fun self => bind_fn X self T.tC) (by show 1 ≤ sizeLine; decide) ?_
  rw [hh]
  refine up_init (s := ⟨h1, g, dr, tk, os⟩) T (X.keeps k) (hlim.keeps k) (hg.keeps k) (hb.keeps k) hbb got fresh hroom text fun h' tk' dx t1 Z => ?_
  have size1 : hp.objs.size ≤ h1.objs.size := Nat.le_of_lt (Nat.lt_of_succ_lt (Heap.lt_size got))
  exact ⟨rfl, hq h' tk' (hp.objs.size + 1) dx ⟨fun b o z => Z.keep b o (Nat.ne_of_lt (Nat.lt_succ_of_lt (Heap.lt_size z))) (k b o z), Nat.le_succ _, ⟨_, _, Z.obj, rfl, rfl, rfl, rfl⟩, Nat.le_trans size1 Z.big, Z.ne, Z.ns⟩⟩
end
end KU
namespace KU
open PySem PySem.W PySem.Calls PyProof.Rows PySem.HandSPX
/-- what the error says of v can be told -/
abbrev Text (P : Program) (w : World) (fI cda cc : Addr) (qual f : Str) (e : Expr) (v : Value) : Prop :=
  ∀ (A' : Around) (E : Value → Shared → Prop) (s' : Shared) (L : Addr) (m : Str → Option Value) (Q : Value → Shared → Prop), s'.heap.Ns L m → m f = some v → (∀ (z : Str) (t t' : Tok), Q (.str z t) { s' with toks := t' }) →
    wpAny (model P w) A' (eval e (ksEnv qual (upScope f) L fI (.ref cda) cc)) Q E s'
theorem kind_f {f : Str} : (upScope f).names.lookup f = some .local := by
  show List.lookup f ((PySem.Str.ofString "self", NameKind.local) :: _) = _
  rw [List.lookup_cons]
  cases f == PySem.Str.ofString "self" with
  | true => rfl
  | false =>
    show List.lookup f ((f, NameKind.local) :: _) = _
    rw [List.lookup_cons, beq_self_eq_true]
/-- f'z{f}' of an int, of a text -/
theorem text_of {P : Program} {w : World} {fI cda cc : Addr} {qual f z : Str} {j : Nat} {pc pn pf pj : Pos} {v : Value} {y : Str} (hd : f ≠ "__debug__")
    (fld : ∀ (A' : Around) (E : Value → Shared → Prop) (s' : Shared) (Q : Value → Shared → Prop), (∀ (t t' : Tok), Q (.str y t) { s' with toks := t' }) → wpAny (model P w) A' (formatField v Str.empty) Q E s')
    (h1 : z.length ≤ sizeLine) (h2 : (z ++ y).length ≤ sizeLine) : Text P w fI cda cc qual f (.JoinedStr [.Constant (.str z) j pc, .FormattedValue (.Name f pn) (-1) none pf] pj) v := by
  intro A' E s' L m Q hn hm k
  refine wpAny_JoinedStr ?_
  have e0 : ∀ env : Env, evalEach [.Constant (.str z) j pc, .FormattedValue (.Name f pn) (-1) none pf] env = [eval (.Constant (.str z) j pc) env, eval (.FormattedValue (.Name f pn) (-1) none pf) env] := fun _ => by first | rfl | simp [evalEach]
  rw [e0]
  have e1 : Str.empty ++ z = z := by
    show (⟨#[] ++ z.cps⟩ : Str) = z
    rw [Array.empty_append]
  refine Calls.Constant_str ⟨z, _, rfl, by rw [e1]; exact h1, ?_⟩
  rw [e1]
  refine wpAny_FormattedValue_plain (wpAny_Name (wpAny_loadName_local rfl (show (ksEnv qual (upScope f) L fI (.ref cda) cc).kindOf f = some .local from kind_f) hn hm ?_) (beq_false_of_ne hd))
  exact fld _ _ _ _ fun t t' => ⟨y, t, rfl, h2, h2, k _ _ _⟩
theorem text_int {P : Program} {w : World} {fI cda cc : Addr} {qual f z : Str} {j : Nat} {pc pn pf pj : Pos} {i : Int} {t : Tok} (hd : f ≠ "__debug__") (hi : i.natAbs.log2 < 1920) (h1 : z.length ≤ sizeLine) (h2 : (z ++ (toString i : String)).length ≤ sizeLine) :
    Text P w fI cda cc qual f (.JoinedStr [.Constant (.str z) j pc, .FormattedValue (.Name f pn) (-1) none pf] pj) (.int i t) :=
  text_of hd (fun _ _ _ _ k => wpAny_formatField_int hi (k _ _)) h1 h2
theorem text_str {P : Program} {w : World} {fI cda cc : Addr} {qual f z y : Str} {j : Nat} {pc pn pf pj : Pos} {t : Tok} (hd : f ≠ "__debug__") (h1 : z.length ≤ sizeLine) (h2 : (z ++ y).length ≤ sizeLine) (h3 : y.length ≤ sizeLine) :
    Text P w fI cda cc qual f (.JoinedStr [.Constant (.str z) j pc, .FormattedValue (.Name f pn) (-1) none pf] pj) (.str y t) :=
  text_of hd (fun _ _ _ _ k => wpAny_formatField_str (k _ _) (k _ _) h3) h1 h2
end KU
namespace KU
open PySem PySem.Spec PyProof.Rows L2
theorem relO_up {v : V} {v' : Value} {n : Str} (r : RelV v v') (f : Str) : RelO (List.lookup f [(n, v)]) (if f = n then some v' else none) := by
  by_cases c : f = n
  · subst c
    rw [if_pos rfl, List.lookup_cons, beq_self_eq_true]
    exact r
  · rw [if_neg c, List.lookup_cons, beq_false_of_ne c]
    trivial
section
variable {X : Cx} {C fI cda cc : Addr} {qual f x : Str} {e : Expr}
/-- x(a), x the class's name -/
def tMkUp (T : Value → Prop) (C : Addr) (f : Str) (ta : TA) : L2.St → Hp → XK → Prop := fun σ H Q => ta σ H fun vs H1 => ∃ v, vs = [v] ∧ (∀ v', RelV v v' → T v') ∧ ∀ d, H1 d = none → Q (.ref C) (some d) (upd H1 d (.xd [(f, v)]))
theorem pmk_up {a : Expr} {ta : TA} {p pos : Pos} {k : Nat} (T : UpTxt X.prog X.K C fI cda cc qual f e) (gC : X.mg x = some (.ref C)) (hr : Room k X.A) (ha : PA X [a] ta) (hg : Gl X x) (hdb : (x == ("__debug__" : Str)) = false := by decide)
    (he : starEach (a :: []) X.env = (false, eval a X.env) :: starEach [] X.env := by rfl) (hpl : (backTo pos (starEach [] X.env)).any (·.1) = false := by rfl) :
    PMk X (.Call (.Name x p) [a] [] pos) (tMkUp (Text X.prog X.w fI cda cc qual f e) C f ta) := by
  intro pins s σ H Q I h
  refine wpAny_Call_Name_kw (ld_glob I hg gC ?_ hdb)
  refine PySem.W.callWith_K (h₀ := X.base) I.ok.mod.kin T.kC (thn (ha.run pos pins s σ H _ I h) fun us s1 hh => ?_) he hpl
  obtain ⟨vs, H1, I1, r1, v, rfl, ht, q1⟩ := hh
  refine ⟨I1.kIn, ?_⟩
  cases r1 with
  | cons rv rn =>
    rename_i v' us'
    cases rn
    show wpAny _ _ (call (.ref C) [v']) _ _ _
    obtain ⟨mb, b1, b2⟩ := I1.mod.blt
    have lim := I1.nolimit
    have glob := I1.mod.glob.keeps I1.bk
    have blt := b1.keeps I1.bk
    have dp := hr.dp
    obtain ⟨hp, g, dr, tk, os⟩ := s1
    refine wpAny_call (up_made T I1.kIn lim glob blt b2 (by omega) (ht v' rv) fun h' tk' a' d M => ?_)
    show MkP X pins σ Q (.ref a') ⟨h', g, dr, tk', os⟩
    obtain ⟨oe, fv, hoe, hc, hd, hdat, one⟩ := M.obj
    obtain ⟨G, in_, out⟩ := restrict h' fun b => decide (b ≠ a')
    have same : ∀ b, b ≠ a' → G.get? b = h'.get? b := fun b hb => in_ b (decide_eq_true hb)
    have gone : G.get? a' = none := out a' (by simp)
    have stay : ∀ b o, hp.get? b = some o → G.get? b = some o := fun b o z => (same b (Nat.ne_of_lt (Nat.lt_of_lt_of_le (Heap.lt_size z) M.new))).trans (M.keep b o z)
    have own : ObjOk X.prog X.w (upd H1 d (.xd [(f, v)])) G d (.xd [(f, v)]) := ⟨_, M.ns.at (fun o z => (same d M.ne).trans z), fun y => relO_up rv y⟩
    have J : Inv X pins σ (upd H1 d (.xd [(f, v)])) ⟨G, g, dr, tk', os⟩ := I1.laid (t' := tk') stay M.big own
    refine ⟨a', oe, fv, ⟨G, g, dr, tk', os⟩, _, .ref C, some d, rfl, J, fun b o z => ?_, gone, hoe, ⟨hc, hd⟩, hdat, one, ?_, rfl, I1.bare, raises_own T.exC T.tyC, q1 d (I1.hok.fresh M.big)⟩
    · have hb : b ≠ a' := fun y => by
        rw [y] at z
        exact absurd (gone.symm.trans z) (by simp)
      exact (same b hb).symm.trans z
    · rw [upd_ne (Ne.symm M.ne)]
      exact I1.hok.fresh M.new
/-- raise x(a) -/
theorem ps_raiseUp {a : Expr} {ta : TA} {W : WX} {p pos pos2 : Pos} {k : Nat} (hc : X.calm = true) (T : UpTxt X.prog X.K C fI cda cc qual f e) (gC : X.mg x = some (.ref C)) (hr : Room k X.A) (tk : Takes X W) (ha : PA X [a] ta) (hg : Gl X x) (hdb : (x == ("__debug__" : Str)) = false := by decide)
    (he : starEach (a :: []) X.env = (false, eval a X.env) :: starEach [] X.env := by rfl) (hpl : (backTo pos (starEach [] X.env)).any (·.1) = false := by rfl) :
    PS X (.Raise (some (.Call (.Name x p) [a] [] pos)) none pos2) (fun _ σ H => tMkUp (Text X.prog X.w fI cda cc qual f e) C f ta σ H fun cls d H' => W cls d σ H') := ps_raise hc tk (pmk_up T gC hr ha hg hdb he hpl)
/-- err.f, err an exception that is kept as a value -/
def tUpGet (C : Addr) (f : Str) (te : TE) : TE := fun σ H Q => te σ H fun x H1 => ∃ (a d : Addr) (v : V), x = .ref a ∧ H1 a = some (KA.ExV (.ref C) (some d) a) ∧ H1 d = some (.xd [(f, v)]) ∧ Q v H1
theorem pe_upGet {o : Expr} {te : TE} {pos : Pos} (T : UpTxt X.prog X.K C fI cda cc qual f e) (he : PE X o te) (hb : attributeBase o f X.env (eval o X.env) = eval o X.env := by rfl) :
    PE X (.Attribute o f pos) (tUpGet C f te) := by
  refine ⟨fun pins s σ H Q I h => ?_⟩
  refine attr_of hb (thn (he.run pins s σ H _ I h) fun u s1 hh => ?_)
  obtain ⟨x, H1, I1, rx, a, d, v, rfl, ha, hd, q⟩ := hh
  obtain rfl : u = Value.ref a := rx
  obtain ⟨⟨oe, got, z, vs, dat⟩, _⟩ := I1.hok a _ ha
  obtain ⟨mA, ns, rel⟩ := I1.hok d _ hd
  obtain ⟨od, at_, look⟩ := lookIn_ns ns
  have l : List.lookup f [(f, v)] = some v := by rw [List.lookup_cons, beq_self_eq_true]
  obtain ⟨u, hu, ru⟩ := RelO.some_of (v := v) (o := mA f) (by rw [← l]; exact rel f)
  have J : PySem.W.InstAt s1.heap a oe C (some od) := ⟨got, z.1, by unfold PySem.W.notCls; rw [dat] <;> rfl, by rw [z.2]; exact at_⟩
  exact HandSPX.exc_get I1.kIn J T.ga T.gg T.exC (PySem.W.findObj_own T.hdC T.noF rfl (by rw [look, hu])) (handed_of ru) ⟨v, H1, I1.tok _, ru, q⟩
end
end KU
namespace KW
open PySem PySem.Spec PyProof.Rows L2 PySem.W LamX
/-! ### a lambda without parameters that is handed on from def to def: it stands as it was made, whoever calls it -/
theorem un_comp {fs gs : List Addr} {H H1 H2 : Hp} {h h1 h2 : Heap} (a : Un fs [] H H1 h h1) (b : Un gs [] H1 H2 h1 h2) (sub : ∀ x ∈ gs, x ∈ fs ∨ h.get? x = none) : Un fs [] H H2 h h2 := by
  have no : ∀ {x : Addr} {o : Obj}, h.get? x = some o → x ∉ fs → x ∉ gs := fun e n z => by
    rcases sub _ z with q | q
    · exact n q
    · rw [q] at e
      cases e
  refine ⟨fun x o e n hx _ => ?_, fun x o e n hx _ => ?_, fun x o e n _ => ?_, fun x o e _ => ?_, fun x xs e => b.tups _ _ (a.tups _ _ e), fun x o u e => b.frzs _ _ _ (a.frzs _ _ _ e), fun x ps e => ?_⟩
  · exact b.keep x o (a.keep x o e n hx (by simp)) (a.free x o e n (by simp)) (no e hx) (by simp)
  · obtain ⟨sl, e1⟩ := a.slot x o e n hx (by simp)
    have n1 := a.free x o e n (by simp)
    by_cases hg : x ∈ gs
    · obtain ⟨sl2, e2⟩ := b.slot x _ e1 n1 hg (by simp)
      exact ⟨sl2, e2⟩
    · exact ⟨sl, b.keep x _ e1 n1 hg (by simp)⟩
  · obtain ⟨o1, e1⟩ := a.there x o e (by simp)
    exact b.free x o1 e1 (a.free x o e n (by simp)) (by simp)
  · obtain ⟨o1, e1⟩ := a.there x o e (by simp)
    exact b.there x o1 e1 (by simp)
  · obtain ⟨m1, e1⟩ := a.tbls x ps e
    obtain ⟨m2, e2⟩ := b.tbls x _ e1
    exact ⟨m1 ++ m2, by rw [e2, Array.append_assoc]⟩
/-- the lambda at f, its code object at c' of the name q, made where the heaps were H0, h0; fs: the frames that ran then; t: what it promises -/
structure Work (P : Program) (w : World) (K : PySem.W.Frag) (mg : Str → Option Value) (base : Heap) (k : Nat) (fs : List Addr) (H0 : Hp) (h0 : Heap) (f c' : Addr) (q : Str) (t : XK → Hp → VK → Prop) : Prop where
  obj : ∃ (params : Arguments) (body : Expr) (scope : Scope) (cl : List (Str × Addr)) (pm ctv : Value), h0.get? f = some (PySem.W.kla_obj "<lambda>" q params body scope cl pm c' ctv)
  free : H0 f = none
  out : f ∉ fs
  run : ∀ (A : Around) (outer : List Env) (s1 : Shared) (HZ : Hp) (Q : VK) (E : XK), Room (k + 1) A → Env0 P w K mg base A outer s1 HZ → Un fs [] H0 HZ h0 s1.heap → HZ c' = some (CodeO c' q) → t E HZ Q →
    codeAny (model P w) A (.call (.ref f) ⟨[], []⟩) (CR (L2.CX P w) outer P w HZ s1 Q E) s1
section
variable {X : Cx} {pins : List (Addr × Obj)} {σ : L2.St} {H : Hp} {s : Shared}
theorem work_of {k : Nat} {f c' : Addr} {pm ctv : Value} {params : Arguments} {body : Expr} {scope : Scope} {tb : XK → TE} (I : Inv X pins σ H s) (L : LamS X.env.scope scope)
    (hf : s.heap.get? f = some (PySem.W.kla_obj "<lambda>" (X.env.qual ++ "<lambda>") params body scope (cloFrom X.env.cells scope.names []) pm c' ctv)) (hfn : H f = none) (hfr : f ∉ frs X.stack)
    (hbind : bindArgs (PySem.W.kla_fn "<lambda>" (X.env.qual ++ "<lambda>") params body scope (cloFrom X.env.cells scope.names []) pm (.ref c') ctv) ⟨[], []⟩ = pure [])
    (hbody : ∀ (A : Around) (outer : List Env) (s1 : Shared) (HZ : Hp) (E : XK), Room k (A.deeper (lamEnv X scope s1.heap.objs.size f c')) → PE (lamCx X A outer s1 HZ E scope f c') body (tb E)) :
    Work X.prog X.w X.K X.mg X.base k (frs X.stack) H s.heap f c' (X.env.qual ++ "<lambda>") (fun E HZ Q => tb E σ HZ Q) := by
  refine ⟨⟨_, _, _, _, _, _, hf⟩, hfn, hfr, fun A outer s1 HZ Q E hr e0 un hc ht => ?_⟩
  have of1 := un.keep f _ hf hfn hfr (by simp)
  obtain ⟨⟨oc, vs, t, hoc, hdc, hvc⟩, _, _⟩ := e0.hok c' _ hc
  have lim : s1.heap.NoLimit := e0.mod.nolimit.keeps fun b o e => (e0.bs b o e).1
  refine PySem.W.kla_callFunE hr.depth of1 rfl L.co L.gen rfl ⟨c', oc, vs, t, rfl, hoc, hdc, hvc⟩ ?_
  rw [hbind]
  refine wpAny_pure (wpAny_newFunctionEnv (fun y hy => (L.own y hy).2) (fun y hy => absurd hy (by simp)) (fun h₁ hns hsb => ⟨lim.fresh _ hsb, ?_⟩) L.kind)
  show codeAny _ _ (.expr body (lamEnv X scope s1.heap.objs.size f c')) _ _
  have kp : ∀ b o, s1.heap.get? b = some o → h₁.get? b = some o := fun b o e => hsb.extBut b o (Nat.ne_of_lt (Heap.lt_size e)) (Heap.get?_push_of_some _ e)
  have J : Inv (lamCx X A outer s1 HZ E scope f c') [] σ HZ { s1 with heap := h₁, toks := s1.toks + ([] : List (Str × Value)).length } := lam_start2 I L e0 hr.hd un hns kp
  refine PySem.W.kla_codeExpr (wpAny_mono ((hbody A outer s1 HZ E (hr.deeper _)).run [] _ _ HZ Q J ht) (fun v s' hq => ?_) fun e s' hq => hq)
  obtain ⟨w', H', J', rv, q⟩ := hq
  exact ⟨w', H', J'.os, J'.bare, J'.base, J'.hok, rv, q⟩
end
section
variable {Z : Cx} {k : Nat} {fs : List Addr} {H0 : Hp} {h0 : Heap} {f c' : Addr} {q : Str} {t : XK → Hp → VK → Prop}
/-- where Z stands to the making -/
structure Since (Z : Cx) (fs : List Addr) (H0 : Hp) (h0 : Heap) : Prop where
  un : Un fs [] H0 Z.H_0 h0 Z.s_0.heap
  sub : ∀ b ∈ Z.fs, b ∈ fs ∨ h0.get? b = none
  ex : Z.ex = []
theorem Since.now {pins : List (Addr × Obj)} {σ : L2.St} {H : Hp} {s : Shared} (S : Since Z fs H0 h0) (I : Inv Z pins σ H s) : Un fs [] H0 H h0 s.heap := by
  have b := I.base
  rw [S.ex] at b
  exact un_comp S.un b S.sub
theorem Since.stk {pins : List (Addr × Obj)} {σ : L2.St} {H : Hp} {s : Shared} (S : Since Z fs H0 h0) (I : Inv Z pins σ H s) : ∀ b ∈ frs Z.stack, b ∈ fs ∨ h0.get? b = none := fun b hb => by
  rcases List.mem_cons.mp (I.stkSub b hb) with e | e
  · refine .inr ?_
    cases z : h0.get? b with
    | none => rfl
    | some o =>
      obtain ⟨o', z'⟩ := S.un.there b o z (by simp)
      have l := Heap.lt_size z'
      have a := I.ok.above
      rw [e] at l
      exact absurd l (Nat.not_lt.mpr a)
  · exact S.sub b e
/-- the slot's name is called: a work stands in it -/
theorem pe_work {i : Nat} {a : Str} {E : XK} {p1 p2 : Pos} (Wk : Work Z.prog Z.w Z.K Z.mg Z.base k fs H0 h0 f c' q t) (S : Since Z fs H0 h0) (hx : Passes (L2.CX Z.prog Z.w) Z E) (hr : Room (k + 1) Z.A) (hN : Z.N[i]? = some a) (hv : Vis Z.env.scope a)
    (hd : (a == ("__debug__" : Str)) = false := by decide) (hcd : (a == ("__classdict__" : Str)) = false := by decide) :
    PE Z (.Call (.Name a p1) [] [] p2) (fun σ H Q => σ[i]? = some (some (.ref f)) ∧ H c' = some (CodeO c' q) ∧ t E H Q) := by
  refine ⟨fun pins s σ H Q I h => ?_⟩
  obtain ⟨hs, hc, ht⟩ := h
  refine wpAny_Call_Name_kw (thn ((pe_var (pos := p1) (i := i) hN hv hd hcd).run pins s σ H (fun v H1 => v = .ref f ∧ H1 = H) I ⟨.ref f, hs, rfl, rfl⟩) fun u s1 ⟨v, H1, I1, r1, q1⟩ => ?_)
  obtain ⟨ev, eH⟩ := q1
  subst ev
  rw [eH] at I1
  obtain rfl : u = Value.ref f := r1
  obtain ⟨_, _, _, _, _, _, ob⟩ := Wk.obj
  have un := S.now I1
  have of1 := un.keep f _ ob Wk.free Wk.out (by simp)
  refine PySem.W.callWith_F0 ⟨_, _, _, _, of1⟩ ?_
  refine wpAny_call (codeAny_mono (Wk.run Z.A Z.stack s1 H Q E hr I1.env0 un hc ht) fun r s' hq => ?_)
  match r, hq with
  | .error e, hq => exact hx pins σ H s1 e s' I1 hq
  | .ok (.ret u), hq => exact I1.after hq
  | .ok .next, hq => exact False.elim hq
  | .ok .brk, hq => exact False.elim hq
  | .ok .cont, hq => exact False.elim hq
end
/-- the promise of a def that a work is handed to -/
structure FnW (P : Program) (w : World) (K : PySem.W.Frag) (mg : Str → Option Value) (base : Heap) (fs : List Addr) (H0 : Hp) (h0 : Heap) (CX : CXT) (k : Nat) (g : Addr) (fd : FuncData) (ps : List Str) (sp : Sp) : Prop where
  len : ∀ vs H Q E, sp vs H Q E → vs.length = ps.length
  run : ∀ (A : Around) (outer : List Env) (s : Shared) (H : Hp) (args : Args) (us : List Value) (vs : List V) (Q : VK) (E : XK), Room k A → A.guards = some [] → Env0 P w K mg base A outer s H → Un fs [] H0 H h0 s.heap → (∀ b ∈ frs outer, b ∈ fs ∨ h0.get? b = none) →
    BindsTo s fd args (ps.zip us) → Vals vs us → sp vs H Q E → codeAny (model P w) A (.call (.ref g) args) (CR CX outer P w H s Q E) s
theorem fnW_of {CX : CXT} {P : Program} {w : World} {K : PySem.W.Frag} {mg : Str → Option Value} {base : Heap} {fs : List Addr} {H0 : Hp} {h0 : Heap} {k : Nat} {f : Addr} {x qual : Str} {st : Stmt} {fd : FuncData} {N ps : List Str} {sp : Sp} (F : Fun K x qual st f fd) (S : FnScope N ps (defScope st))
    (len : ∀ vs H Q E, sp vs H Q E → vs.length = ps.length)
    (hbody : ∀ (cdv : Value) (A : Around) (outer : List Env) (s : Shared) (H : Hp) (vs : List V) (Q : VK) (E : XK), Room k (A.deeper (envOfC qual (defScope st) s.heap.objs.size f cdv)) → A.guards = some [] → Since (cxOf CX P w K mg base N qual (defScope st) f cdv A outer s H E) fs H0 h0 → sp vs H Q E →
      ∃ t, PSs (cxOf CX P w K mg base N qual (defScope st) f cdv A outer s H E) (defBody st) t ∧ t { nx := fun _ H' => Q .non H', rt := Q } (L2.start N vs) H) : FnW P w K mg base fs H0 h0 CX (k + 1) f fd ps sp := by
  obtain ⟨oc, od, kV, doc, pm, an, cdv, ct, osl, rfl, lk, hcd⟩ := F.ex
  exact ⟨len, fun A outer s H args us vs Q E hr hgd e0 un sub hb r h => run_ofS lk hcd S hr e0 hb r (len _ _ _ _ h) fun hr' => hbody cdv A outer s H vs Q E hr' hgd ⟨un, sub, rfl⟩ h⟩
section
variable {Z : Cx} {CX : CXT} {k : Nat} {fs : List Addr} {H0 : Hp} {h0 : Heap} {g : Addr} {fd : FuncData} {ps : List Str} {sp : Sp} {E : XK} {x : Str} {p pos : Pos} {e : Expr} {es : List Expr} {t : TA}
/-- x(a, ..) in a def that the work has been handed to, handed on -/
theorem pe_wcall (F : FnW Z.prog Z.w Z.K Z.mg Z.base fs H0 h0 CX k g fd ps sp) (S : Since Z fs H0 h0) (hr : Room k Z.A) (hgd : Z.A.guards = some []) (hg : Gl Z x) (hm : Z.mg x = some (.ref g)) (hk : PySem.W.keepIn Z.K (.ref g) = true) (hb : Binds Z.K fd ps []) (hx : Passes CX Z E) (ha : PA Z (e :: es) t)
    (hdb : (x == ("__debug__" : Str)) = false := by decide) (he : starEach (e :: es) Z.env = (false, eval e Z.env) :: starEach es Z.env := by rfl) (hpl : (backTo pos (starEach es Z.env)).any (·.1) = false := by rfl) :
    PE Z (.Call (.Name x p) (e :: es) [] pos) (tCall sp [] E t) := by
  refine ⟨fun pins s σ H Q I h => ?_⟩
  refine wpAny_Call_Name_kw (ld_glob I hg hm ?_ hdb)
  refine PySem.W.callWith_K (h₀ := Z.base) I.ok.mod.kin hk (thn (ha.run pos pins s σ H _ I h) fun us s1 ⟨vs, H1, I1, r, q⟩ => ⟨I1.kIn, ?_⟩) he hpl
  have q : sp (vs ++ []) H1 Q E := q
  rw [List.append_nil] at q
  have hl : us.length = ps.length := by rw [← r.length]; exact F.len _ _ _ _ q
  have bt := hb s1 us I1.kIn (by simpa using hl)
  rw [List.append_nil] at bt
  refine wpAny_call (codeAny_mono (F.run Z.A Z.stack s1 H1 ⟨us, []⟩ us vs Q E hr hgd I1.env0 (S.now I1) (S.stk I1) bt r q) fun rr s' hq => ?_)
  match rr, hq with
  | .error e, hq => exact hx pins σ H1 s1 e s' I1 hq
  | .ok (.ret u), hq => exact I1.after hq
  | .ok .next, hq => exact False.elim hq
  | .ok .brk, hq => exact False.elim hq
  | .ok .cont, hq => exact False.elim hq
end
section
variable {X : Cx} {T : List (Addr × Str)} {CX : CXT} {kb k : Nat} {g c P : Addr} {fd : FuncData} {ps : List Str} {E : XK} {x : Str} {params : Arguments} {body : Expr} {scope : Scope} {t : XK → TE} {p lpos pos : Pos} {es : List Expr} {ta : TA} {sp : Addr → Addr → (XK → Hp → VK → Prop) → Sp}
/-- x(lambda: body, ..), x a def that hands it on -/
theorem pe_lamW (FW : ∀ (H0 : Hp) (h0 : Heap) (f c' : Addr) (t' : XK → Hp → VK → Prop), Work X.prog X.w X.K X.mg X.base kb (frs X.stack) H0 h0 f c' (X.env.qual ++ "<lambda>") t' → FnW X.prog X.w X.K X.mg X.base (frs X.stack) H0 h0 CX k g fd ps (sp f c' t'))
    (hg : Gl X x) (hm : X.mg x = some (.ref g)) (hk : PySem.W.keepIn X.K (.ref g) = true) (hb : Binds X.K fd ps []) (hx : Passes CX X E) (hr : Room k X.A) (hgd : X.A.guards = some []) (TB : TabB X.base X.mg c P) (hcode : X.env.code = .ref c) (hmT : (P, X.env.qual ++ "<lambda>") ∈ T) (hu : ∀ p ∈ T, p.1 = P → p.2 = X.env.qual ++ "<lambda>")
    (L : LamS X.env.scope scope) (hdef : defaultsOf params X.env = ([], [])) (hbind : ∀ (q : Str) (cl : List (Str × Addr)) (pm cv ctv : Value), bindArgs (PySem.W.kla_fn "<lambda>" q params body scope cl pm cv ctv) ⟨[], []⟩ = pure [])
    (hbody : ∀ (A : Around) (outer : List Env) (s : Shared) (H : Hp) (E : XK) (f c' : Addr), Room kb (A.deeper (lamEnv X scope s.heap.objs.size f c')) → PE (lamCx X A outer s H E scope f c') body (t E)) (ha : PA X es ta)
    (hdb : (x == ("__debug__" : Str)) = false := by decide) (he : starEach (.Lambda params body scope lpos :: es) X.env = (false, eval (.Lambda params body scope lpos) X.env) :: starEach es X.env := by rfl) (hpl : (backTo pos (starEach es X.env)).any (·.1) = false := by rfl) :
    PE X (.Call (.Name x p) (.Lambda params body scope lpos :: es) [] pos) (fun σ H Q => Tabs T H ∧ ∀ H1, ExtN H H1 → Tabs T H1 → ∀ f c' : Addr, H1 c' = some (CodeO c' (X.env.qual ++ "<lambda>")) →
      ta σ H1 fun vs H2 => sp f c' (fun E H Q => t E σ H Q) (.ref f :: vs) H2 Q E) := by
  refine ⟨fun pins s σ H Q I h => ?_⟩
  obtain ⟨hT, h⟩ := h
  refine wpAny_Call_Name_kw (ld_glob I hg hm ?_ hdb)
  refine PySem.W.callWith_K (h₀ := X.base) I.ok.mod.kin hk ?_ he hpl
  rw [he]
  show wpAny _ _ (spliced ((false, eval (.Lambda params body scope lpos) X.env) :: backTo pos (starEach es X.env))) _ _ s
  refine Calls.spliced_cons (lam_make2 I TB hcode hmT hu hT hdef (L.has I.ok) fun f c' pm' ctv H1 s' I1 eN T1 hf hfn hfr hco => ?_)
  have fl : f ≠ X.env.locals := fun z => by
    obtain ⟨m, ⟨o, es', ep, e1, e2, _⟩, _⟩ := I1.loc
    rw [← z, hf] at e1
    cases e1
    cases e2
  have ff : f ∉ X.fs := fun z => hfr (by
    rcases I1.ok.stk with q | ⟨q, _⟩
    · rw [q]
      exact z
    · rw [q]
      obtain ⟨e, he', q'⟩ := List.mem_filterMap.mp z
      exact List.mem_filterMap.mpr ⟨e, List.mem_cons_of_mem _ he', q'⟩)
  have J1 : Inv X ((f, PySem.W.kla_obj "<lambda>" (X.env.qual ++ "<lambda>") params body scope (cloFrom X.env.cells scope.names []) pm' c' ctv) :: pins) σ H1 s' := I1.pins_of fun q hq => by
    rcases List.mem_cons.mp hq with z | z
    · rw [z]
      exact ⟨hf, hfn, fl, ff, fun v y => by cases y⟩
    · exact I1.pin q (List.mem_append_right _ z)
  refine thn (ha.run pos _ s' σ H1 _ J1 (h H1 eN T1 f c' hco)) fun us s2 ⟨vs, H2, J2, r, q⟩ => ⟨J2.kIn, ?_⟩
  have at2 := J2.pin (f, _) (List.mem_append_right _ List.mem_cons_self)
  have I2 : Inv X pins σ H2 s2 := J2.pins_of fun q hq => J2.pin q (List.mem_append_right _ (List.mem_cons_of_mem _ hq))
  have Wk := work_of (tb := t) I2 L at2.1 at2.2.1 hfr (hbind _ _ _ _ _) (fun A outer s1 HZ E hr2 => hbody A outer s1 HZ E f c' hr2)
  have F := FW H2 s2.heap f c' _ Wk
  have r2 : Vals (.ref f :: vs) (.ref f :: us) := .cons rfl r
  have hl : (Value.ref f :: us).length = ps.length := by rw [← r2.length]; exact F.len _ _ _ _ q
  have bt := hb s2 (.ref f :: us) I2.kIn (by simpa using hl)
  rw [List.append_nil] at bt
  refine wpAny_call (codeAny_mono (F.run X.A X.stack s2 H2 ⟨.ref f :: us, []⟩ (.ref f :: us) (.ref f :: vs) Q E hr hgd I2.env0 (Un.kept fun _ _ z => z) (fun b hb => .inl hb) bt r2 q) fun rr s3 hq => ?_)
  match rr, hq with
  | .error e, hq => exact hx pins σ H2 s2 e s3 I2 hq
  | .ok (.ret u), hq => exact I2.after hq
  | .ok .next, hq => exact False.elim hq
  | .ok .brk, hq => exact False.elim hq
  | .ok .cont, hq => exact False.elim hq
end
end KW
namespace KA
open PySem PySem.Spec PyProof.Rows L2 PySem.W LamX KW
/-- isinstance of an exception that is kept as a value, with fields of its own -/
def rIsD (K : PySem.W.Frag) : List V → Hp → VK → Prop := fun xs H Q => ∃ (a D d : Addr) (fs : List (Str × V)) (c : V) (cv : Value) (b : Bool), xs = [.ref a, c] ∧ H a = some (ExV (.ref D) (some d) a) ∧ H d = some (.xd fs) ∧ ExcC K D ∧ ClsV c cv ∧ PySem.W.kitOne K (.ref D) cv = some b ∧ Q (.bl b) H
def rIs3 (K : PySem.W.Frag) : List V → Hp → VK → Prop := fun xs H Q => rIs2 K xs H Q ∨ rIsD K xs H Q
section
variable {X : Cx}
theorem call_isD : CallR X (.builtin "isinstance") (rIsD X.K) := by
  intro pins s σ H xs us Q I r h
  obtain ⟨a, D, d, fs, c, cv, b, rfl, ha, hd, C, k, e, q⟩ := h
  obtain ⟨u1, u2, rfl, r1, r2⟩ := vals2 r
  cases k.eq r2
  obtain rfl : u1 = Value.ref a := r1
  obtain ⟨⟨oe, at1, z, vs, dat⟩, _⟩ := I.hok a _ ha
  obtain ⟨mA, ns, _⟩ := I.hok d _ hd
  obtain ⟨od, at2, _⟩ := lookIn_ns ns
  have J : PySem.W.InstAt s.heap a oe D (some od) := ⟨at1, z.1, by unfold PySem.W.notCls; rw [dat] <;> rfl, by rw [z.2]; exact at2⟩
  obtain ⟨cd, hc, _⟩ := any_some C.hd
  exact PySem.W.kia_one (kitx_exc (by rw [hc]; rfl) C.hg C.hk C.hs C.ha C.hn C.ht C.hm) I.kIn J e (fun z => nomatch z) fun tk => ⟨.bl b, H, I.tok tk, rfl, q⟩
theorem call_is3 : CallR X (.builtin "isinstance") (rIs3 X.K) := by
  intro pins s σ H xs us Q I r h
  rcases h with h | h
  · exact call_is2 pins s σ H xs us Q I r h
  · exact call_isD pins s σ H xs us Q I r h
end
/-- caught, of a work that was handed on: at f, its code object at c' -/
def spCaughtW (K : PySem.W.Frag) (CS : Addr) (f c' : Addr) (q : Str) (t : XK → Hp → VK → Prop) : Sp := fun vs H Q _ => vs = [.ref f] ∧ H c' = some (CodeO c' q) ∧ TCaught K CS t H Q
theorem caught_work {P : Program} {w : World} {K : PySem.W.Frag} {mg : Str → Option Value} {base : Heap} {fs : List Addr} {H0 : Hp} {h0 : Heap} {k : Nat} {f c' : Addr} {q : Str} {t : XK → Hp → VK → Prop} {g : Addr} {fd : FuncData} {x a e n m : Str} {st : Stmt} {CS : Addr} {j1 : Nat} {p1 p2 p3 p4 p5 p6 p7 p8 p9 pa pb pc pd pe : Pos}
    (Wk : Work P w K mg base k fs H0 h0 f c' q t) (F : Fun K x x st g fd) (S : FnScope [a, m, n] [a] (defScope st))
    (hb : defBody st = [.Assign [.Name m p1] (.Constant .none j1 p2) p3,
       .Try [.Expr (.Call (.Name a p4) [] [] p5) p6] [.ExceptHandler (some (.Name e p7)) (some n) [.Assign [.Name m p8] (.Name n p9) pa] pb] [] [] pc,
       .Return (some (.Name m pd)) pe])
    (la : (defScope st).names.lookup a = some .local) (lm : (defScope st).names.lookup m = some .local) (ln : (defScope st).names.lookup n = some .local) (he : (defScope st).names.lookup e = some .globalImplicit) (hme : mg e = some (.ref CS)) (hde : (e == ("__debug__" : Str)) = false)
    (d0 : (a == ("__debug__" : Str)) = false) (d00 : (a == ("__classdict__" : Str)) = false) (d1 : (n == ("__debug__" : Str)) = false) (d2 : (n == ("__classdict__" : Str)) = false) (d3 : (m == ("__debug__" : Str)) = false) (d4 : (m == ("__classdict__" : Str)) = false) :
    FnW P w K mg base fs H0 h0 (L2.CX P w) (k + 2) g fd [a] (spCaughtW K CS f c' q t) := by
  refine fnW_of F S (fun vs H Q E h => by rw [h.1]; rfl) (fun cdv A outer s H vs Q E hr _ Sn h => ?_)
  obtain ⟨rfl, hc, hT⟩ := h
  rw [hb]
  refine ⟨_, pss_cons (ps_set (i := 1) S.nd rfl (.inl lm) pe_non) (pss_cons (ps_try_keep (c := .ref CS) (i := 2) (j := 1)
      (tb := fun W D σ H => ∃ Eb : XK, (∀ cls d σ' H', Eb cls d H' → W cls d σ' H') ∧ σ[0]? = some (some (.ref f)) ∧ H c' = some (CodeO c' q) ∧ t Eb H (fun _ H' => D.nx σ H'))
      rfl rfl rfl S.nd rfl rfl ln lm ⟨he, hde, .inl hme⟩ d1 d2 (fun W pn xe tk _ => ?_))
    (pss_one (ps_ret (pe_var (i := 1) rfl (.inl lm) d3 d4)))), ?_⟩
  · refine ⟨fun pins s' σ H' D I h' => ?_⟩
    obtain ⟨Eb, wish, h1, h2, h3⟩ := h'
    exact (pss_one (ps_expr (pe_work (Z := (cxOf (L2.CX P w) P w K mg base [a, m, n] x (defScope st) g cdv A outer s H E).tr pn xe) (i := 0) Wk ⟨Sn.un, Sn.sub, Sn.ex⟩ (passes_call tk wish) hr rfl (.inl la) d0 d00))).run pins s' σ H' D I ⟨h1, h2, h3⟩
  · refine ⟨fun cls d H' => PySem.W.exmOne K cls (.ref CS) = some true ∧ ∀ b, H' b = none → Q (.ref b) (upd H' b (ExV cls d b)), fun cls d σ' H' ⟨e1, e2⟩ => ⟨e1, fun b hb hl => ?_⟩, rfl, hc, ?_⟩
    · match σ', hl with
      | [u, v, z], _ => exact ⟨_, rfl, e2 b hb⟩
    · exact hT _ fun v H' z => ⟨_, rfl, z⟩
end KA
namespace K0U
open PySem PySem.W PySem.Calls PyProof.Rows PySem.HandSPX KU
/-! ### an own error of a value that its text has to read from the heap -/
/-- how the __init__ takes what it is called with -/
def BindsUp (f : Str) (ar : Value → Value → Args) : Prop := ∀ (qual : Str) (e : Expr) (doc pm : Value) (an : Option Addr) (ct : Value) (cda cc : Addr) (r1 r2 p0 p1 p2 p3 pe q1 q2 q3 q4 : Pos) (a b : Value),
  bindArgs (ksFn "__init__" qual (upArgs f r1 r2) (upBody f e p0 p1 p2 p3 pe q1 q2 q3 q4) (upScope f) .none .none doc pm an (.ref cda) ct cc) (ar a b) = pure [(PySem.Str.ofString "self", a), (f, b)]
section
variable {prog : Program} {w : World} {A : Around} {R : Result → Shared → Prop} {s : Shared} {K : Frag} {mg mb : Str → Option Value} {C fI cda cc : Addr} {qual f : Str} {e : Expr}
theorem up_init2 (T : UpTxt prog K C fI cda cc qual f e) {ar : Value → Value → Args} (hB : BindsUp f ar) {x t0 : Addr} {v : Value} (X : K.In s.heap) (hlim : s.heap.NoLimit) (hg : s.heap.Ns mainGlobals mg) (hb : s.heap.Ns builtinsNs mb) (hbb : ∀ y : Str, y ≠ "__name__" → mb y = bootBuiltins y)
    (hx : s.heap.get? x = some (excO C t0)) (hnx : K.lookup x = none) (hroom : A.depth < recursionLimit)
    (text : ∀ (A' : Around) (E : Value → Shared → Prop) (s' : Shared) (L : Addr) (m : Str → Option Value) (Q : Value → Shared → Prop), A'.guards = A.guards → A'.units ≤ A.units + 8 → (∀ b o, s.heap.get? b = some o → s'.heap.get? b = some o) → s'.heap.Ns L m → m f = some v → (∀ (z : Str) (t : Tok) (h' : Heap) (t' : Tok), (∀ b o, s'.heap.get? b = some o → h'.get? b = some o) → Q (.str z t) { s' with heap := h', toks := t' }) → wpAny (model prog w) A' (eval e (ksEnv qual (upScope f) L fI (.ref cda) cc)) Q E s')
    (hq : ∀ h' tk dx t1, UpEnd s.heap h' x C dx t1 f v → R (.ok (.ret .none)) { s with heap := h', toks := tk }) :
    codeAny (model prog w) A (.call (.ref fI) (ar (.ref x) v)) R s := by
  obtain ⟨hp, g, dr, tk, os⟩ := s
  dsimp only at X hlim hg hb hx
  obtain ⟨oc, od, doc, pm, an, ct, osl, r1, r2, p0, p1, p2, p3, pe, q1, q2, q3, q4, ho, hbd, hswap, pl, hcall⟩ := T.fn
  obtain ⟨n1, n2, n3, n4⟩ := T.nf
  have lf : (upScope f).names.lookup f = some .local := by
    show List.lookup f ((PySem.Str.ofString "self", NameKind.local) :: _) = _
    rw [List.lookup_cons]
    cases f == PySem.Str.ofString "self" with
    | true => rfl
    | false =>
      show List.lookup f ((f, NameKind.local) :: _) = _
      rw [List.lookup_cons, beq_self_eq_true]
  refine ks_codeAny_call_defAt (binds := [(PySem.Str.ofString "self", .ref x), (f, v)]) (body := upBody f e p0 p1 p2 p3 pe q1 q2 q3 q4) hroom (X _ _ ho) rfl hlim (codeRec_of X T.code) rfl ?bind ?cells ?locs (fun h₁ hns keep => ?_) rfl rfl rfl
  case bind => exact .of_eq (hB _ _ _ _ _ _ _ _ _ _ _ _ _ _ _ _ _ _ _ _ _)
  case cells =>
    intro y hy
    simp only [List.mem_cons, List.not_mem_nil, or_false] at hy
    rcases hy with z | z | z | z <;> (subst z; exact fun q => by cases q)
  case locs =>
    intro y hy
    simp only [List.mem_cons, List.not_mem_nil, or_false] at hy
    rcases hy with z | z <;> subst z
    · rfl
    · exact lf
  have X1 : K.In h₁ := X.keeps keep
  have ms : (List.lookup (PySem.Str.ofString "self") [(PySem.Str.ofString "self", Value.ref x), (f, v)].reverse) = some (.ref x) := by
    show List.lookup (PySem.Str.ofString "self") [(f, v), (PySem.Str.ofString "self", Value.ref x)] = _
    rw [List.lookup_cons, beq_false_of_ne (Ne.symm n1)]
    rfl
  have mf : (List.lookup f [(PySem.Str.ofString "self", Value.ref x), (f, v)].reverse) = some v := by
    show List.lookup f [(f, v), (PySem.Str.ofString "self", Value.ref x)] = _
    rw [List.lookup_cons, beq_self_eq_true]
  obtain ⟨cd, hcd, hmro, hdict⟩ := T.cls
  obtain ⟨cl, cdd, vs, ccs, fl, tf, hcode, hvs, hfile⟩ := T.file
  obtain ⟨ccl, cld, csl, hcell⟩ := T.cell
  have hx1 := keep _ _ hx
  generalize hm : (fun y => List.lookup y [(PySem.Str.ofString "self", Value.ref x), (f, v)].reverse) = m at hns
  have ms' : m "self" = some (.ref x) := by rw [← hm]; exact ms
  have mf' : m f = some v := by rw [← hm]; exact mf
  clear ms mf hm
  show PySem.wpAt _ _ _ (execs (upBody f e p0 p1 p2 p3 pe q1 q2 q3 q4) (ksEnv qual (upScope f) hp.objs.size fI (.ref cda) cc)) _ _ _
  refine ks_wpAt_execs_cons (ks_wpAt_Expr_any (ks_wpAt_MethodCall (pl := pl) ?_ (hcall _)))
  obtain ⟨oC, hC1, hC2⟩ : ∃ oC, h₁.get? C = some oC ∧ oC.data = .cls cd := by
    unfold clsIn at hcd
    split at hcd
    · rename_i c d cd' sl z
      cases hcd
      exact ⟨_, X1 _ _ z, rfl⟩
    · cases hcd
  have k1 : (upScope f).names.lookup ("super" : Str) = some .globalImplicit := by
    show List.lookup (PySem.Str.ofString "super") ((f, NameKind.local) :: _) = _
    rw [List.lookup_cons, beq_false_of_ne (Ne.symm n3)]
    rfl
  have k2 : (upScope f).names.lookup ("__class__" : Str) = some .free := by
    show List.lookup (PySem.Str.ofString "__class__") ((f, NameKind.local) :: _) = _
    rw [List.lookup_cons, beq_false_of_ne (Ne.symm n2)]
    rfl
  refine ks_wpAt_super_base (env := ksEnv qual (upScope f) hp.objs.size fI (.ref cda) cc) k1 k2 rfl rfl (X1 _ _ ho) rfl rfl rfl (X1 _ _ hcode) rfl hvs hfile T.top ?_
  refine ks_loadName_global rfl k1 (loadGlobal_builtin (env := ksEnv qual (upScope f) hp.objs.size fI (.ref cda) cc) (hg.keeps keep) (mg_none_of X hg T.noSuper) (hb.keeps keep) ((hbb _ (by decide +kernel)).trans (show bootBuiltins "super" = some (.type "super") by kernel_rfl)) ⟨rfl, ?_⟩)
  refine wpAny_loadName_free rfl k2 rfl ⟨_, X1 _ _ hcell, rfl⟩ ?_
  refine wpAny_loadName_local rfl rfl hns ms' ?_
  refine ks_wpAny_isType_cls hC1 hC2 ⟨rfl, ?_⟩
  refine ks_wpAny_call_super hC1 hC2 hx1 rfl (fun c z => by cases z) (looks_mroIn X1 T.self) (fun h2 so keep2 => ?_)
  have X2 : K.In h2 := X1.keeps keep2
  have hx2 := keep2 _ _ hx1
  have I2 : InstAt h2 x (excO C t0) C none := ⟨hx2, rfl, rfl, trivial⟩
  have along : alongIn K "__init__" ((cd.mro.dropWhile (· != .ref C)).drop 1) = some (some (.builtin "ValueError.__init__")) := by
    have z := T.up
    unfold ks_superIn at z
    rw [hcd] at z
    exact z
  refine kxs_getMethod kxs_ValueError so (looks_opaque X2 T.third) (l₀ := cd.mro) (fun A Q E s k q => wpAny_bind ((looks_clsIn X2 hcd) A _ E s k (wpAny_pure q))) rfl X2 along (I2.type.andThen (looks_subIn X2 T.val)) (ks_ne X2 I2 hcd) rfl ?_
  have push3 : ∀ b o, h2.get? b = some o → (h2.push (kxs_mw "ValueError.__init__" x)).get? b = some o := fun b o z => Heap.get?_push_of_some _ z
  generalize hh3 : h2.push (kxs_mw "ValueError.__init__" x) = h3 at push3
  have hu : h3.get? h2.objs.size = some (kxs_mw "ValueError.__init__" x) := by
    rw [← hh3]
    exact Heap.get?_push_at rfl rfl
  generalize h2.objs.size = u at hu
  have X3 : K.In h3 := X2.keeps push3
  have hx3 := push3 _ _ hx2
  have hns3 : h3.Ns hp.objs.size m := (hns.keeps keep2).keeps push3
  rw [T.star]
  refine kxs_callWith (i := "ValueError.__init__") (x := x) (u := u) rfl (evalArgs_plain (spliced_cons ?_))
  refine text _ _ _ _ _ _ rfl (by first | exact Nat.le_add_right _ _ | (show _ + _ ≤ _; omega) | (show _ + _ + _ ≤ _; omega)) (fun b o z => push3 b o (keep2 b o (keep b o z))) hns3 mf' fun z zt h3' t' k3 => ?_
  have X3 : K.In h3' := X3.keeps k3
  have hx3 := k3 _ _ hx3
  have hns3 : h3'.Ns hp.objs.size m := hns3.keeps k3
  have hu := k3 _ _ hu
  have push3 : ∀ b o, h2.get? b = some o → h3'.get? b = some o := fun b o z => k3 b o (push3 b o z)
  clear k3
  generalize h3' = h3 at X3 hx3 hns3 hu push3 ⊢
  refine spliced_nil ⟨hu, ?_⟩
  obtain ⟨nm, N', qn, bs, bm, hdct, sn, sub, ab, col, dd, kk0, kk1, kk2, kk3, kk5, hC, hT⟩ := excInit_of X3 T.own
  refine wpAny_call (codeAny_of_tree ?_)
  show wpAny _ (Around.in1 _) (callAny (.ref u) ⟨[.str z zt], []⟩) _ _ _
  simp only [callAny]
  refine wpAny_bind (wpAny_load hu ?_)
  simp only [kxs_mw, show (Value.type "method-wrapper" == Value.type "method" || Value.type "method-wrapper" == Value.type "builtin_function_or_method" || Value.type "method-wrapper" == Value.type "method-wrapper") = true by decide, if_true]
  have FB := F.excBase_ValueError
  refine KFB.if_so (by decide) (wpAny_bind (check_bound_init FB.toExcCallFacts hC hx3 rfl (wpAny_bind (wpAny_pure (wpAny_pure ⟨plainId_quiet FB.init.plain _, codeAny_builtin FB.initEntry ?_⟩)))))
  refine exc_init_tree (cls := .ref C) (t0 := t0) (dv := none) (c2 := .none) (c3 := .none) (b4 := .bool false) hx3 (by show 1 ≤ sizeLine; decide) fun h4 keep4 hx4 _ => ?_
  have X4 : K.In h4 := fun b o z => keep4 b o (fun q => by rw [q, hnx] at z; cases z) (X3 b o z)
  have hns4 : h4.Ns hp.objs.size m := by
    obtain ⟨oL, es, ep, hL, rest⟩ := hns3
    exact ⟨oL, es, ep, keep4 _ _ (Nat.ne_of_gt (Heap.lt_size hx)) hL, rest⟩
  refine wpAt_of_wpAny (wpAny_execs_cons (plainObj_wpAny_Assign_Attribute ?_ (hswap _)))
  have kf : (ksEnv qual (upScope f) hp.objs.size fI (.ref cda) cc).kindOf f = some .local := lf
  have ndb : (f == ("__debug__" : Str)) = false := beq_false_of_ne n4
  refine wpAny_Name (wpAny_loadName_local rfl kf hns4 mf' ?_) ndb
  refine wpAny_Name (wpAny_loadName_local rfl rfl hns4 ms' ?_) rfl
  refine set_plain X4 (ox := excO C h3.objs.size) (od := none) ⟨hx4, rfl, rfl, trivial⟩ T.set ?_
  refine exc_osa X4 hx4 hcd hmro hdict T.noF fun h5 tk5 dx keep5 big ne5 hx5 hn5 => ?_
  refine wpAny_execs_nil (hq h5 tk5 dx h3.objs.size ⟨fun b o hb z => keep5 b o hb (keep4 b o hb (push3 b o (keep2 b o (keep b o z)))), hx5, ?_, ne5, hn5⟩)
  exact Nat.le_of_lt (Nat.lt_of_lt_of_le hns4.lt big)
theorem up_made2 (T : UpTxt prog K C fI cda cc qual f e) (hB : BindsUp f fun a b => ⟨[a, b], []⟩) {v : Value} (X : K.In s.heap) (hlim : s.heap.NoLimit) (hg : s.heap.Ns mainGlobals mg) (hb : s.heap.Ns builtinsNs mb) (hbb : ∀ y : Str, y ≠ "__name__" → mb y = bootBuiltins y) (hroom : A.depth + 1 < recursionLimit)
    (text : ∀ (A' : Around) (E : Value → Shared → Prop) (s' : Shared) (L : Addr) (m : Str → Option Value) (Q : Value → Shared → Prop), A'.guards = A.guards → A'.units ≤ A.units + 16 → (∀ b o, s.heap.get? b = some o → s'.heap.get? b = some o) → s'.heap.Ns L m → m f = some v → (∀ (z : Str) (t : Tok) (h' : Heap) (t' : Tok), (∀ b o, s'.heap.get? b = some o → h'.get? b = some o) → Q (.str z t) { s' with heap := h', toks := t' }) → wpAny (model prog w) A' (eval e (ksEnv qual (upScope f) L fI (.ref cda) cc)) Q E s')
    (hq : ∀ h' tk a d, UpMade s.heap h' a C d f v → R (.ok (.ret (.ref a))) { s with heap := h', toks := tk }) : codeAny (model prog w) A (.call (.ref C) ⟨[v], []⟩) R s := by
  obtain ⟨nm, q, N, bs, bm, sn, sub, ab, col, dd, k0, k1, k2, k3, k5, hC, hbm⟩ := T.obj
  obtain ⟨hp, g, dr, tk, os⟩ := s
  dsimp only at X hlim hg hb
  generalize hh : (hp.push (kdv_tup [v])).push (excO C hp.objs.size) = h1
  have k : ∀ b o, hp.get? b = some o → h1.get? b = some o := fun b o z => by
    rw [← hh]
    exact Heap.get?_push_of_some _ (Heap.get?_push_of_some _ z)
  have got : h1.get? (hp.objs.size + 1) = some (excO C hp.objs.size) := by
    rw [← hh]
    heap_get
  have fresh : K.lookup (hp.objs.size + 1) = none := by
    cases z : K.lookup (hp.objs.size + 1) with
    | none => rfl
    | some o => exact absurd (show hp.objs.size + 1 < hp.objs.size from Heap.lt_size (X _ _ z)) (Nat.not_lt.mpr (Nat.le_succ _))
  refine call_own F.excBase_ValueError (fun Y => refsVE_contains Y bm hbm) (X _ _ hC) (looks_findIn X T.iC) (fun self => bind_fn X self T.tC) (by show 1 ≤ sizeLine; decide) ?_
  rw [hh]
  refine up_init2 (hB := hB) (s := ⟨h1, g, dr, tk, os⟩) T (X.keeps k) (hlim.keeps k) (hg.keeps k) (hb.keeps k) hbb got fresh hroom (fun A' E s' L m Q g1 g2 kk => text A' E s' L m Q g1 (Nat.le_trans g2 (by first | (show _ + 1 + 8 ≤ _; omega) | (show _ + 3 + 8 ≤ _; omega) | (show _ + 2 + 8 ≤ _; omega) | (show _ + 8 ≤ _; omega))) fun b o z => kk b o (k b o z)) fun h' tk' dx t1 Z => ?_
  have size1 : hp.objs.size ≤ h1.objs.size := Nat.le_of_lt (Nat.lt_of_succ_lt (Heap.lt_size got))
  exact ⟨rfl, hq h' tk' (hp.objs.size + 1) dx ⟨fun b o z => Z.keep b o (Nat.ne_of_lt (Nat.lt_succ_of_lt (Heap.lt_size z))) (k b o z), Nat.le_succ _, ⟨_, _, Z.obj, rfl, rfl, rfl, rfl⟩, Nat.le_trans size1 Z.big, Z.ne, Z.ns⟩⟩
end
end K0U
namespace K0U
open PySem PySem.W PySem.Calls PyProof.Rows PySem.HandSPX KU
/-! ### an own error class called by a name: C(f=v) -/
section
variable {M : Model} {A : Around} {E : Value → Shared → Prop} {hp : Heap} {gs : Array GenState} {dr : Drawn} {tk : Nat} {oS : OsState}
variable {nm q : Str} {C N : Addr} {bs bm bmB : List Value} {hdct : Bool} {sn : List Str} {sub : List Value} {ab : Bool} {col : Option Bool} {dd : Option Addr} {k0 k1 k2 k3 k5 : Option Value} {B newId initId : String} {kws : List (Str × Value)}
theorem chk_newK (F : ExcBaseFacts B newId initId bmB) (same : ∀ X : String, bm.contains (.type X) = bmB.contains (.type X)) {Q : Unit → Shared → Prop}
    (at_ : hp.get? C = some (excClassObj nm q C N bs bm hdct sn sub ab col dd k0 k1 k2 k3 k5 newId)) (k : Q () ⟨hp, gs, dr, tk, oS⟩) : wpAny M A (checkBuiltinCall newId ⟨[.ref C], kws⟩) Q E ⟨hp, gs, dr, tk, oS⟩ := by
  have c0 : (Value.ref C :: bm).contains (.type B) = true := by
    rw [List.contains_cons, same, F.hasB, Bool.or_true]
  have st := F.noStar
  simp only [checkBuiltinCall, F.newKind, F.newSplit, F.newRow]
  repeat (first
    | refine wpAny_loadPart_at at_ ?_
    | (refine wpAny_isSubtype_exc at_ ?_; rw [c0])
    | refine wpAny_staticBase_exc at_ ?_
    | refine wpAny_madeBy_exc at_ ?_
    | simp only [bne_self_eq_false, Bool.false_eq_true, if_false]
    | wp_step)
  exact k
end
section
variable {prog : Program} {w : World} {A : Around} {E : Value → Shared → Prop} {R : Result → Shared → Prop} {hp : Heap} {gs : Array GenState} {dr : Drawn} {tk : Nat} {oS : OsState}
variable {nm q : Str} {C N : Addr} {bs bm bmB : List Value} {hdct : Bool} {sn : List Str} {sub : List Value} {ab : Bool} {col : Option Bool} {dd : Option Addr} {k0 k1 k2 k3 k5 : Option Value} {B newId initId : String} {kws : List (Str × Value)}
theorem newK (F : ExcBaseFacts B newId initId bmB) (same : ∀ X : String, bm.contains (.type X) = bmB.contains (.type X))
    (at_ : hp.get? C = some (excClassObj nm q C N bs bm hdct sn sub ab col dd k0 k1 k2 k3 k5 newId))
    (k : R (.ok (.ret (.ref (hp.objs.size + 1)))) ⟨(hp.push { cls := .type "tuple", data := .seq #[] }).push (excO C hp.objs.size), gs, dr, tk, oS⟩) :
    codeAny (model prog w) A (.builtin newId ⟨[.ref C], kws⟩) R ⟨hp, gs, dr, tk, oS⟩ := by
  have en := F.ends
  have cB : (Value.ref C :: bm).contains (.type B) = true := by
    rw [List.contains_cons, same, F.hasB, Bool.or_true]
  have cA : (Value.ref C :: bm).contains (.type "AttributeError") = false := by
    rw [List.contains_cons, same, F.noAttr]
    rfl
  have cN : (Value.ref C :: bm).contains (.type "NameError") = false := by
    rw [List.contains_cons, same, F.noName]
    rfl
  refine codeAny_builtinAt F.entry ?_
  unfold Builtin.«BaseException.__new__»
  refine PySem.wpAt_bind ?_
  show PySem.wpAt _ _ _ (stack >>= _) _ _ _
  refine PySem.wpAt_bind (PySem.wpAt_stack fun p below => PySem.wpAt_of_wpAny ?_)
  wp_walk
  refine PySem.wpAt_of_wpAny ?_
  rw [F.owner]
  repeat (first
    | with_reducible refine wpAny_madeHere_exc F.canon at_ ?_
    | with_reducible refine wpAny_loadPart_at at_ ?_
    | (with_reducible refine wpAny_isSubtype_exc at_ ?_; first | rw [cB] | rw [cA] | rw [cN])
    | wp_step)
  show R _ _
  rw [Heap.size_push]
  exact k
theorem typeCallK (F : ExcBaseFacts B newId initId bmB) (same : ∀ X : String, bm.contains (.type X) = bmB.contains (.type X)) {fI : Addr} {Q : Fin → Shared → Prop}
    (at_ : hp.get? C = some (excClassObj nm q C N bs bm hdct sn sub ab col dd k0 k1 k2 k3 k5 newId))
    (lk : W.Looks (model prog w) hp (typeLookup (.ref C) "__init__") (some (.ref fI))) (bn : ∀ self, W.Looks (model prog w) hp (bindSpecial (.ref fI) self) (.ref fI, [self]))
    (k : codeAny (model prog w) A (.call (.ref fI) ⟨[.ref (hp.objs.size + 1)], kws⟩)
      (fun r s' => match r with | .ok (.ret v) => v = .none ∧ Q (.done (.ret (.ref (hp.objs.size + 1)))) s' | .ok _ => False | .error e => E e s')
      ⟨(hp.push (W.kdv_tup [])).push (excO C hp.objs.size), gs, dr, tk, oS⟩) :
    wpAny (model prog w) A (Builtin.«type.__call__» ⟨[.ref C], kws⟩) Q E ⟨hp, gs, dr, tk, oS⟩ := by
  repeat (first
    | with_reducible refine wpAny_loadPart_at at_ ?_
    | with_reducible refine wpAny_madeBy_exc at_ ?_
    | wp_step)
  refine codeAny_call_builtin_code (Code.quiet_builtin _ F.quiet) (chk_newK F same at_ ?_)
  refine newK F same at_ ?_
  show wpAny _ _ _ _ _ _
  have up : ∀ b o, hp.get? b = some o → ((hp.push (W.kdv_tup [])).push (excO C hp.objs.size)).get? b = some o := fun b o z => Heap.get?_push_of_some _ (Heap.get?_push_of_some _ z)
  have atC := up _ _ at_
  have got : ((hp.push (W.kdv_tup [])).push (excO C hp.objs.size)).get? (hp.objs.size + 1) = some (excO C hp.objs.size) := by heap_get
  have self : (Value.ref C :: bm).contains (.ref C) = true := by simp
  have lk1 := lk.keeps up
  have bn1 := (bn (.ref (hp.objs.size + 1))).keeps up
  unfold isInstance
  repeat (first
    | with_reducible refine wpAny_loadPart_at got ?_
    | (with_reducible refine wpAny_isSubtype_exc atC ?_; rw [self])
    | wp_step)
  show wpAny _ _ (typeLookup (.ref C) _) _ _ _
  refine lk1.at ?_
  refine wpAny_holding (wpAny_bind (bn1.at ?_))
  refine wpAny_bind (wpAny_call (codeAny_mono k fun r s' z => ?_))
  rcases r with e | (v | _ | _ | _) <;> first | exact z | exact z.elim | skip
  obtain ⟨rfl, z⟩ := z
  first
    | exact wpAny_pure (wpAny_pure z)
    | (wp_walk; exact z)
theorem callK (F : ExcBaseFacts B newId initId bmB) (same : ∀ X : String, bm.contains (.type X) = bmB.contains (.type X)) {fI : Addr}
    (at_ : hp.get? C = some (excClassObj nm q C N bs bm hdct sn sub ab col dd k0 k1 k2 k3 k5 newId))
    (lk : W.Looks (model prog w) hp (typeLookup (.ref C) "__init__") (some (.ref fI))) (bn : ∀ self, W.Looks (model prog w) hp (bindSpecial (.ref fI) self) (.ref fI, [self]))
    (k : codeAny (model prog w) (A.under (.builtin "type.__call__" ⟨[.ref C], kws⟩)) (.call (.ref fI) ⟨[.ref (hp.objs.size + 1)], kws⟩) (W.InitBack (hp.objs.size + 1) R)
      ⟨(hp.push (W.kdv_tup [])).push (excO C hp.objs.size), gs, dr, tk, oS⟩) :
    codeAny (model prog w) A (.call (.ref C) ⟨[], kws⟩) R ⟨hp, gs, dr, tk, oS⟩ := by
  have t1 := tc_lookup
  have t2 := tc_bind (.ref C)
  have isT : (⟨hp, gs, dr, tk, oS⟩ : Shared).TypeIs (.ref C) "type" := ⟨_, at_, rfl⟩
  refine codeAny_of_tree ?_
  show wpAny _ _ (callAny (.ref C) _) _ _ _
  repeat (any_goals (first
    | assumption
    | with_reducible refine wpAny_loadPart_at at_ ?_
    | wp_step))
  refine ⟨rfl, ?_⟩
  refine codeAny_call_builtin_at (Code.quiet_builtin _ (by decide +kernel)) entry_typeCall (wpAny_check_type_call_sub at_ (typeCallK F same at_ lk bn ?_))
  refine codeAny_mono k fun r s' z => ?_
  rcases r with e | (v | _ | _ | _) <;> exact z
end
/-! by name -/
section
variable {prog : Program} {w : World} {A : Around} {R : Result → Shared → Prop} {s : Shared} {K : Frag} {mg mb : Str → Option Value} {C fI cda cc : Addr} {qual f : Str} {e : Expr}
theorem up_made3 (T : UpTxt prog K C fI cda cc qual f e) (hB : BindsUp f fun a b => ⟨[a], [(f, b)]⟩) {v : Value} (X : K.In s.heap) (hlim : s.heap.NoLimit) (hg : s.heap.Ns mainGlobals mg) (hb : s.heap.Ns builtinsNs mb) (hbb : ∀ y : Str, y ≠ "__name__" → mb y = bootBuiltins y) (hroom : A.depth + 1 < recursionLimit)
    (text : ∀ (A' : Around) (E : Value → Shared → Prop) (s' : Shared) (L : Addr) (m : Str → Option Value) (Q : Value → Shared → Prop), A'.guards = A.guards → A'.units ≤ A.units + 16 → (∀ b o, s.heap.get? b = some o → s'.heap.get? b = some o) → s'.heap.Ns L m → m f = some v → (∀ (z : Str) (t : Tok) (h' : Heap) (t' : Tok), (∀ b o, s'.heap.get? b = some o → h'.get? b = some o) → Q (.str z t) { s' with heap := h', toks := t' }) → wpAny (model prog w) A' (eval e (ksEnv qual (upScope f) L fI (.ref cda) cc)) Q E s')
    (hq : ∀ h' tk a d, UpMade s.heap h' a C d f v → R (.ok (.ret (.ref a))) { s with heap := h', toks := tk }) : codeAny (model prog w) A (.call (.ref C) ⟨[], [(f, v)]⟩) R s := by
  obtain ⟨nm, q, N, bs, bm, sn, sub, ab, col, dd, k0, k1, k2, k3, k5, hC, hbm⟩ := T.obj
  obtain ⟨hp, g, dr, tk, os⟩ := s
  dsimp only at X hlim hg hb
  generalize hh : (hp.push (kdv_tup [])).push (excO C hp.objs.size) = h1
  have k : ∀ b o, hp.get? b = some o → h1.get? b = some o := fun b o z => by
    rw [← hh]
    exact Heap.get?_push_of_some _ (Heap.get?_push_of_some _ z)
  have got : h1.get? (hp.objs.size + 1) = some (excO C hp.objs.size) := by
    rw [← hh]
    heap_get
  have fresh : K.lookup (hp.objs.size + 1) = none := by
    cases z : K.lookup (hp.objs.size + 1) with
    | none => rfl
    | some o => exact absurd (show hp.objs.size + 1 < hp.objs.size from Heap.lt_size (X _ _ z)) (Nat.not_lt.mpr (Nat.le_succ _))
  refine callK F.excBase_ValueError (fun Y => refsVE_contains Y bm hbm) (X _ _ hC) (looks_findIn X T.iC) (fun self => bind_fn X self T.tC) ?_
  rw [hh]
  refine up_init2 (hB := hB) (s := ⟨h1, g, dr, tk, os⟩) T (X.keeps k) (hlim.keeps k) (hg.keeps k) (hb.keeps k) hbb got fresh hroom (fun A' E s' L m Q g1 g2 kk => text A' E s' L m Q g1 (Nat.le_trans g2 (by first | (show _ + 1 + 8 ≤ _; omega) | (show _ + 3 + 8 ≤ _; omega) | (show _ + 2 + 8 ≤ _; omega) | (show _ + 8 ≤ _; omega))) fun b o z => kk b o (k b o z)) fun h' tk' dx t1 Z => ?_
  have size1 : hp.objs.size ≤ h1.objs.size := Nat.le_of_lt (Nat.lt_of_succ_lt (Heap.lt_size got))
  exact ⟨rfl, hq h' tk' (hp.objs.size + 1) dx ⟨fun b o z => Z.keep b o (Nat.ne_of_lt (Nat.lt_succ_of_lt (Heap.lt_size z))) (k b o z), Nat.le_succ _, ⟨_, _, Z.obj, rfl, rfl, rfl, rfl⟩, Nat.le_trans size1 Z.big, Z.ne, Z.ns⟩⟩
end
end K0U
namespace K0U
open PySem PySem.Spec PyProof.Rows L2 PySem.W KU KA
/-! ### values that an error may hold, and what repr, and a text, make of them -/
inductive It (K : PySem.W.Frag) (H : Hp) : V → PyData → Prop
  | non : It K H .non .none
  | bl (b : Bool) : It K H (.bl b) (.bool b)
  | int (i : Int) (h : i.natAbs ≤ 1000000000000) : It K H (.int i) (.int i)
  | str (x : Str) (h : x.length ≤ 100) (h2 : (reprText x).length ≤ 1000) : It K H (.str x) (.str x)
  | dp {a : Addr} {d : PyData} (h : Dp K H (.ref a) d) (hs : d.showable = true) (hn : d.hasDict = false) (hz : d.depth ≤ 60) (hl : d.shown.length ≤ 1000) : It K H (.ref a) d
  | d0 {a : Addr} (e : H a = some (.dK [])) : It K H (.ref a) (.dict [])
  | d1 {a : Addr} (e : H a = some (.dK [(.inl 0, .int 0)])) : It K H (.ref a) (.dict [(.int 0, .int 0)])
def rp : PyData → Str
  | .none => "None"
  | .bool b => if b then "True" else "False"
  | .int i => (toString i : String)
  | .str x => reprText x
  | d => d.shown
/-- what is read of a value at an address -/
theorem It.reads {X : Cx} {pins : List (Addr × Obj)} {σ : L2.St} {H : Hp} {s : Shared} (I : Inv X pins σ H s) {a : Addr} {d : PyData} (h : It X.K H (.ref a) d) :
    ∃ as, Reads s.heap (.ref a) d as ∧ d.showable = true ∧ (d.hasDict = true → sysModules ∉ as) ∧ d.depth ≤ 60 ∧ d.shown.length ≤ 1000 ∧ rp d = d.shown := by
  cases h with
  | dp h hs hn hz hl =>
    obtain ⟨as, r⟩ := Dp.reads I d (.ref a) (.ref a) h rfl
    refine ⟨as, r, hs, (fun z => by rw [hn] at z; cases z), hz, hl, ?_⟩
    cases h <;> rfl
  | d0 e =>
    obtain ⟨_, sm, vs, kv, o, es, ep, ho, ed, hd, _, pr, _⟩ := dk_of I.hok e
    cases kv
    have es0 : es.toList = [] := by
      cases q : es.toList with
      | nil => rfl
      | cons _ _ => rw [q] at pr; cases pr
    refine ⟨_, Reads.dict ho ed.1 hd (as := []) (bs := []) (by rw [es0]; exact .nil) (by rw [es0]; exact .nil), by decide +kernel, fun _ z => ?_, by decide +kernel, by decide +kernel, rfl⟩
    simp at z
    rw [z] at sm
    simp at sm
  | d1 e =>
    obtain ⟨_, sm, vs, kv, o, es, ep, ho, ed, hd, _, pr, _⟩ := dk_of I.hok e
    cases kv with
    | @cons _ p2 _ vs2 h1 h2 =>
      obtain ⟨key, val⟩ := p2
      obtain ⟨e1, e2⟩ := h1
      dsimp only at e1 e2
      subst e1
      cases h2
      obtain ⟨t, rfl⟩ : ∃ t, val = .int 0 t := e2
      cases q : es.toList with
      | nil => rw [q] at pr; cases pr
      | cons x xs =>
        rw [q] at pr
        cases pr with
        | cons k1 k2 k3 =>
          cases k3
          obtain ⟨i, t', ei, ek⟩ | ⟨_, _, z, _⟩ := keyIs_shape (show keyIs (.inl 0) x.key = true from k1)
          · cases ei
            refine ⟨_, Reads.dict ho ed.1 hd (as := [] ++ []) (bs := [] ++ []) (by rw [q]; exact .cons (by show Reads s.heap x.key (.int 0) []; rw [ek]; exact Reads.int 0 t') .nil) (by rw [q]; exact .cons (by show Reads s.heap x.val (.int 0) []; rw [k2]; exact Reads.int 0 t) .nil), by decide +kernel, fun _ z => ?_, by decide +kernel, by decide +kernel, rfl⟩
            simp at z
            rw [z] at sm
            simp at sm
          · cases z
/-- str() of such a value, where it is put into a text -/
theorem fld_it {X : Cx} {pins : List (Addr × Obj)} {σ : L2.St} {H : Hp} {s : Shared} (I : Inv X pins σ H s) {v : V} {u : Value} {d : PyData} (h : It X.K H v d) (r : RelV v u) :
    ∃ y : Str, y.length ≤ 2000 ∧ ∀ (A' : Around) (E : Value → Shared → Prop) (s' : Shared) (Q : Value → Shared → Prop), A'.guards = some [] → A'.units + 100 < cLine → (∀ b o, s.heap.get? b = some o → s'.heap.get? b = some o) →
      (∀ (h' : Heap) (t t' : Tok), (∀ b o, s'.heap.get? b = some o → h'.get? b = some o) → Q (.str y t) { s' with heap := h', toks := t' }) → wpAny (model X.prog X.w) A' (formatField u Str.empty) Q E s' := by
  have atA : ∀ {a : Addr}, v = .ref a → ∃ y : Str, y.length ≤ 2000 ∧ ∀ (A' : Around) (E : Value → Shared → Prop) (s' : Shared) (Q : Value → Shared → Prop), A'.guards = some [] → A'.units + 100 < cLine → (∀ b o, s.heap.get? b = some o → s'.heap.get? b = some o) →
      (∀ (h' : Heap) (t t' : Tok), (∀ b o, s'.heap.get? b = some o → h'.get? b = some o) → Q (.str y t) { s' with heap := h', toks := t' }) → wpAny (model X.prog X.w) A' (formatField u Str.empty) Q E s' := fun {a} e => by
    subst e
    obtain rfl : u = Value.ref a := r
    obtain ⟨as, rd, hs, hsm, hz, hl, _⟩ := h.reads I
    refine ⟨d.shown, by omega, fun A' E s' Q g un kk k => ?_⟩
    exact formatField_of_reads rd hs hsm g (by omega) kk (fun h' u tk hk => k h' u tk hk) (Nat.le_trans hl (by decide))
  cases h with
  | non =>
    obtain rfl : u = .none := r
    exact ⟨"None", by decide, fun A' E s' Q _ _ _ k => wpAny_formatField_none (k _ _ _ fun _ _ z => z)⟩
  | bl b =>
    obtain rfl : u = .bool b := r
    exact ⟨if b then "True" else "False", by cases b <;> decide, fun A' E s' Q _ _ _ k => wpAny_formatField_bool (k _ _ _ fun _ _ z => z)⟩
  | int i hi =>
    obtain ⟨t, rfl⟩ := r
    have lg : i.natAbs.log2 < 1920 := by
      rcases Nat.eq_zero_or_pos i.natAbs with z | z
      · rw [z]; decide
      · exact (Nat.log2_lt (by omega)).mpr (Nat.lt_of_le_of_lt hi (by decide +kernel))
    exact ⟨(toString i : String), Nat.le_trans (int_text_len_1921 lg) (by decide), fun A' E s' Q _ _ _ k => wpAny_formatField_int lg (k _ _ _ fun _ _ z => z)⟩
  | str x h1 h2 =>
    obtain ⟨t, rfl⟩ := r
    exact ⟨x, by omega, fun A' E s' Q _ _ _ k => wpAny_formatField_str (k _ _ _ fun _ _ z => z) (k _ _ _ fun _ _ z => z) (Nat.le_trans h1 (by decide))⟩
  | dp _ _ _ _ _ => exact atA rfl
  | d0 _ => exact atA rfl
  | d1 _ => exact atA rfl
/-- what such an error says: f'z{f}' -/
abbrev SayE (f z : Str) (j : Nat) (pc pn pf pj : Pos) : Expr := .JoinedStr [.Constant (.str z) j pc, .FormattedValue (.Name f pn) (-1) none pf] pj
theorem text_it {X : Cx} {pins : List (Addr × Obj)} {σ : L2.St} {H : Hp} {s : Shared} {fI cda cc : Addr} {qual f z : Str} {j : Nat} {pc pn pf pj : Pos} (I : Inv X pins σ H s) {v : V} {u : Value} {d : PyData} (h : It X.K H v d) (r : RelV v u)
    (hd : f ≠ "__debug__") (hz : z.length ≤ 1000) (hg : X.A.guards = some []) (hu : X.A.units + 150 < cLine) :
    ∀ (A' : Around) (E : Value → Shared → Prop) (s' : Shared) (L : Addr) (m : Str → Option Value) (Q : Value → Shared → Prop), A'.guards = X.A.guards → A'.units ≤ X.A.units + 16 → (∀ b o, s.heap.get? b = some o → s'.heap.get? b = some o) → s'.heap.Ns L m → m f = some u →
      (∀ (z : Str) (t : Tok) (h' : Heap) (t' : Tok), (∀ b o, s'.heap.get? b = some o → h'.get? b = some o) → Q (.str z t) { s' with heap := h', toks := t' }) → wpAny (model X.prog X.w) A' (eval (SayE f z j pc pn pf pj) (ksEnv qual (upScope f) L fI (.ref cda) cc)) Q E s' := by
  obtain ⟨y, hy, fld⟩ := fld_it I h r
  intro A' E s' L m Q g un kk hn hm k
  refine wpAny_JoinedStr ?_
  have e0 : ∀ env : Env, evalEach [.Constant (.str z) j pc, .FormattedValue (.Name f pn) (-1) none pf] env = [eval (.Constant (.str z) j pc) env, eval (.FormattedValue (.Name f pn) (-1) none pf) env] := fun _ => by first | rfl | simp [evalEach]
  rw [e0]
  have e1 : Str.empty ++ z = z := by
    show (⟨#[] ++ z.cps⟩ : Str) = z
    rw [Array.empty_append]
  refine Calls.Constant_str ⟨z, _, rfl, by rw [e1]; exact Nat.le_trans hz (by decide), ?_⟩
  rw [e1]
  refine wpAny_FormattedValue_plain (wpAny_Name (wpAny_loadName_local rfl (show (ksEnv qual (upScope f) L fI (.ref cda) cc).kindOf f = some .local from kind_f) hn hm ?_) (beq_false_of_ne hd))
  have ln : (z ++ y).length ≤ sizeLine := by
    have e : (z ++ y).length = z.length + y.length := Array.size_append
    rw [e]
    exact Nat.le_trans (show _ ≤ 3000 by omega) (by decide)
  exact fld _ _ _ _ (g.trans hg) (by omega) kk fun h' t t' kh => ⟨y, t, rfl, ln, ln, k _ _ _ _ kh⟩
/-- what the top says of an own error class over ReelError whose __init__(self, f) says f'z{f}' and keeps f -/
structure HeldT (P : Program) (K : PySem.W.Frag) (mg : Str → Option Value) (x qual f : Str) (C : Addr) where
  fI : Addr
  cda : Addr
  cc : Addr
  z : Str
  j : Nat
  pc : Pos
  pn : Pos
  pf : Pos
  pj : Pos
  g : mg x = some (.ref C)
  u : UpTxt P K C fI cda cc qual f (SayE f z j pc pn pf pj)
  hz : z.length ≤ 1000
section
variable {X : Cx} {C : Addr} {x qual f : Str}
/-- x(a), a new error, as a value -/
def tUpV (K : PySem.W.Frag) (C : Addr) (f : Str) (ta : TA) : TE := fun σ H Q => ta σ H fun vs H1 => ∃ v d, vs = [v] ∧ It K H1 v d ∧ ∀ a b, H1 a = none → H1 b = none → a ≠ b → Q (.ref a) (upd (upd H1 b (.xd [(f, v)])) a (ExV (.ref C) (some b) a))
/-- the made one is laid and tracked -/
theorem made_inv {pins : List (Addr × Obj)} {σ : L2.St} {H1 : Hp} {hp h' : Heap} {g : Array GenState} {dr : Drawn} {tk tk' : Nat} {os : OsState} {a d : Addr} {v : V} {v' : Value} (I1 : Inv X pins σ H1 ⟨hp, g, dr, tk, os⟩) (M : UpMade hp h' a C d f v') (rv : RelV v v') :
    H1 a = none ∧ H1 d = none ∧ a ≠ d ∧ Inv X pins σ (upd (upd H1 d (.xd [(f, v)])) a (ExV (.ref C) (some d) a)) ⟨h', g, dr, tk', os⟩ := by
  obtain ⟨oe, fv, hoe, hc, hd, hdat, one⟩ := M.obj
  obtain ⟨G, in_, out⟩ := restrict h' fun b => decide (b ≠ a)
  have same : ∀ b, b ≠ a → G.get? b = h'.get? b := fun b hb => in_ b (decide_eq_true hb)
  have gone : G.get? a = none := out a (by simp)
  have stay : ∀ b o, hp.get? b = some o → G.get? b = some o := fun b o z => (same b (Nat.ne_of_lt (Nat.lt_of_lt_of_le (Heap.lt_size z) M.new))).trans (M.keep b o z)
  have own : ObjOk X.prog X.w (upd H1 d (.xd [(f, v)])) G d (.xd [(f, v)]) := ⟨_, M.ns.at (fun o z => (same d M.ne).trans z), fun y => relO_up rv y⟩
  have J : Inv X pins σ (upd H1 d (.xd [(f, v)])) ⟨G, g, dr, tk', os⟩ := I1.laid (t' := tk') stay M.big own
  have na : H1 a = none := I1.hok.fresh M.new
  have nd : H1 d = none := I1.hok.fresh M.big
  refine ⟨na, nd, Ne.symm M.ne, ?_⟩
  refine J.laidN (h' := h') (t' := tk') (fun b o z => ?_) gone ((upd_ne (Ne.symm M.ne)).trans na) (exV_ok hoe ⟨hc, hd⟩ hdat)
  have hb : b ≠ a := fun y => by
    rw [y] at z
    exact absurd (gone.symm.trans z) (by simp)
  exact (same b hb).symm.trans z
theorem pe_upV {a : Expr} {ta : TA} {p pos : Pos} {k : Nat} (T : HeldT X.prog X.K X.mg x qual f C) (hB : BindsUp f fun a b => ⟨[a, b], []⟩) (hr : Room k X.A) (hgd : X.A.guards = some []) (ha : PA X [a] ta) (hg : Gl X x) (hdb : (x == ("__debug__" : Str)) = false := by decide)
    (he : starEach (a :: []) X.env = (false, eval a X.env) :: starEach [] X.env := by rfl) (hpl : (backTo pos (starEach [] X.env)).any (·.1) = false := by rfl) :
    PE X (.Call (.Name x p) [a] [] pos) (tUpV X.K C f ta) := by
  refine ⟨fun pins s σ H Q I h => ?_⟩
  refine wpAny_Call_Name_kw (ld_glob I hg T.g ?_ hdb)
  refine PySem.W.callWith_K (h₀ := X.base) I.ok.mod.kin T.u.kC (thn (ha.run pos pins s σ H _ I h) fun us s1 hh => ?_) he hpl
  obtain ⟨vs, H1, I1, r1, v, d, rfl, it, q1⟩ := hh
  refine ⟨I1.kIn, ?_⟩
  cases r1 with
  | cons rv rn =>
    rename_i v' us'
    cases rn
    show wpAny _ _ (call (.ref C) [v']) _ _ _
    obtain ⟨mb, b1, b2⟩ := I1.mod.blt
    have lim := I1.nolimit
    have glob := I1.mod.glob.keeps I1.bk
    have blt := b1.keeps I1.bk
    have dp := hr.dp
    have un := hr.un
    have tx := text_it (fI := T.fI) (cda := T.cda) (cc := T.cc) (qual := qual) (j := T.j) (pc := T.pc) (pn := T.pn) (pf := T.pf) (pj := T.pj) I1 it rv T.u.nf.2.2.2 T.hz hgd (by omega)
    obtain ⟨hp, g, dr, tk, os⟩ := s1
    refine wpAny_call (up_made2 T.u hB I1.kIn lim glob blt b2 (by omega) tx fun h' tk' a' d' M => ?_)
    obtain ⟨na, nd, ne, J⟩ := made_inv (tk' := tk') I1 M rv
    exact ⟨.ref a', _, J, rfl, q1 a' d' na nd ne⟩
/-- x(f=a) -/
theorem pe_upVK {kws : List Keyword} {tk : TA} {p pos : Pos} {k : Nat} (T : HeldT X.prog X.K X.mg x qual f C) (hB : BindsUp f fun a b => ⟨[a], [(f, b)]⟩) (hr : Room k X.A) (hgd : X.A.guards = some []) (hkw : PK X kws tk) (hg : Gl X x)
    (named : (backToKw pos (keywordEach kws X.env)).all (·.1.isSome) = true := by rfl) (theirs : (backToKw pos (keywordEach kws X.env)).filterMap (·.1) = [f] := by rfl) (hdb : (x == ("__debug__" : Str)) = false := by decide)
    (noStars : ((backTo pos (starEach [] X.env)).any (·.1) || (backToKw pos (keywordEach kws X.env)).any (·.1.isNone)) = false := by rfl) :
    PE X (.Call (.Name x p) [] kws pos) (tUpV X.K C f tk) := by
  refine ⟨fun pins s σ H Q I h => ?_⟩
  refine wpAny_Call_Name_kw (ld_glob I hg T.g ?_ hdb)
  refine PySem.W.callWith_KW0 (h₀ := X.base) I.ok.mod.kin T.u.kC named (thn (hkw.run pos pins s σ H _ I h) fun ws s1 hh => ?_) noStars
  obtain ⟨zs, H1, I1, r1, v, d, rfl, it, q1⟩ := hh
  refine ⟨I1.kIn, ?_⟩
  rw [theirs]
  cases r1 with
  | cons rv rn =>
    rename_i v' us'
    cases rn
    obtain ⟨mb, b1, b2⟩ := I1.mod.blt
    have lim := I1.nolimit
    have glob := I1.mod.glob.keeps I1.bk
    have blt := b1.keeps I1.bk
    have dp := hr.dp
    have un := hr.un
    have tx := text_it (fI := T.fI) (cda := T.cda) (cc := T.cc) (qual := qual) (j := T.j) (pc := T.pc) (pn := T.pn) (pf := T.pf) (pj := T.pj) I1 it rv T.u.nf.2.2.2 T.hz hgd (by omega)
    obtain ⟨hp, g, dr, tk, os⟩ := s1
    refine wpAny_call (up_made3 T.u hB I1.kIn lim glob blt b2 (by omega) tx fun h' tk' a' d' M => ?_)
    obtain ⟨na, nd, ne, J⟩ := made_inv (tk' := tk') I1 M rv
    exact ⟨.ref a', _, J, rfl, q1 a' d' na nd ne⟩
end
end K0U
namespace K0U
open PySem PySem.Spec PyProof.Rows L2 PySem.W KU KA KW
/-! ### isinstance of an error that was made, repr of what it holds -/
inductive ExK (H : Hp) (D : Addr) : Addr → Prop
  | pl {a : Addr} (e : H a = some (ExO (.ref D) a)) : ExK H D a
  | up {a d : Addr} {fs : List (Str × V)} (e : H a = some (ExV (.ref D) (some d) a)) (g : H d = some (.xd fs)) : ExK H D a
theorem exO_lst {c : Value} {a : Addr} (xs : List V) : ExO c a ≠ .lst xs := fun z => by
  unfold ExO at z
  cases z
theorem exV_lst {c : Value} {d : Option Addr} {a : Addr} (xs : List V) : ExV c d a ≠ .lst xs := fun z => by
  unfold ExV at z
  cases z
theorem ExK.mono {H H' : Hp} {D a : Addr} (h : ExK H D a) (k : ∀ b o, H b = some o → (∀ xs, o ≠ .lst xs) → H' b = some o) : ExK H' D a := by
  cases h with
  | pl e => exact .pl (k _ _ e exO_lst)
  | up e g => exact .up (k _ _ e exV_lst) (k _ _ g (fun xs z => by cases z))
theorem ExK.same {H H' : Hp} {D a : Addr} (h : ExK H D a) (k : Same H H') : ExK H' D a := h.mono fun b o e _ => k b o e
def rIsX (K : PySem.W.Frag) : List V → Hp → VK → Prop := fun xs H Q => ∃ (a D : Addr) (c : V) (cv : Value) (b : Bool), xs = [.ref a, c] ∧ ExK H D a ∧ ExcC K D ∧ ClsV c cv ∧ PySem.W.kitOne K (.ref D) cv = some b ∧ Q (.bl b) H
section
variable {X : Cx}
theorem call_isX : CallR X (.builtin "isinstance") (rIsX X.K) := by
  intro pins s σ H xs us Q I r h
  obtain ⟨a, D, c, cv, b, rfl, ek, C, k, e, q⟩ := h
  cases ek with
  | up ha hd => exact call_isD pins s σ H _ us Q I r ⟨a, D, _, _, c, cv, b, rfl, ha, hd, C, k, e, q⟩
  | pl ha =>
    obtain ⟨u1, u2, rfl, r1, r2⟩ := vals2 r
    cases k.eq r2
    cases (show u1 = Value.ref a from r1)
    obtain ⟨⟨oe, vs, h1, ⟨z1, z2⟩, z3, _⟩, _⟩ := I.hok a _ ha
    obtain ⟨oc, od, dt, sl⟩ := oe
    dsimp only at z1 z2 z3
    subst z1 z2 z3
    have J : PySem.W.InstAt s.heap a ⟨.ref D, none, .fields vs, sl⟩ D none := ⟨h1, rfl, rfl, trivial⟩
    exact PySem.W.kia_one (PySem.W.handS_kitx_exc C.hg C.hk C.hs C.hd C.ha C.hn C.ht C.hm) I.kIn J e (fun z => nomatch z) fun tk => ⟨.bl b, H, I.tok tk, rfl, q⟩
def rReprI (K : PySem.W.Frag) : List V → Hp → VK → Prop := fun xs H Q => ∃ v d, xs = [v] ∧ It K H v d ∧ Q (.str (rp d)) H
theorem call_reprI {k : Nat} (hg : X.A.guards = some []) (hr : Room k X.A) : CallR X (.builtin "repr") (rReprI X.K) := by
  intro pins s σ H xs us Q I r h
  obtain ⟨v, d, rfl, it, q⟩ := h
  obtain ⟨u, rfl, ru⟩ := vals1 r
  have un := hr.un
  have atA : ∀ {a : Addr}, v = .ref a → wpAny (model X.prog X.w) X.A (call (.builtin "repr") [u]) (EP X pins σ Q) X.xe s := fun {a} e => by
    subst e
    obtain rfl : u = Value.ref a := ru
    obtain ⟨as, rd, hs, hsm, hz, hl, er⟩ := it.reads I
    refine repr_of_reads' rd hs hsm hg (by omega) (fun _ _ e => e) (fun h' u tk hk => ?_) (Nat.le_trans hl (by decide))
    exact ⟨.str d.shown, H, I.kept (t' := tk) hk, ⟨_, rfl⟩, er ▸ q⟩
  cases it with
  | non =>
    obtain rfl : u = .none := ru
    exact PySem.P.repr_of_none ⟨.str (rp .none), H, I.tok _, ⟨_, rfl⟩, q⟩
  | bl b =>
    obtain rfl : u = .bool b := ru
    exact PySem.P.repr_of_bool ⟨.str (rp (.bool b)), H, I.tok _, ⟨_, rfl⟩, q⟩
  | int i hi =>
    obtain ⟨t, rfl⟩ := ru
    have lg : i.natAbs.log2 < 1920 := by
      rcases Nat.eq_zero_or_pos i.natAbs with z | z
      · rw [z]; decide
      · exact (Nat.log2_lt (by omega)).mpr (Nat.lt_of_le_of_lt hi (by decide +kernel))
    exact PySem.P.repr_of_int lg ⟨.str (rp (.int i)), H, I.tok _, ⟨_, rfl⟩, q⟩
  | str x h1 h2 =>
    obtain ⟨t, rfl⟩ := ru
    exact PySem.P.repr_of_str ⟨.str (rp (.str x)), H, I.tok _, ⟨_, rfl⟩, q⟩ (Nat.le_trans h2 (by decide))
  | dp _ _ _ _ _ => exact atA rfl
  | d0 _ => exact atA rfl
  | d1 _ => exact atA rfl
end
end K0U
namespace K00
open PySem PySem.Spec PyProof.Rows L2 PySem.W LamX KA K0U
def top (i : Nat) : Stmt := PySem.Challenge.pw_pricedreels_k00_errors_apart.main.body.getD i (.Pass ⟨0, 0, 0, 0⟩)
abbrev s__law_begun : Stmt := top 79
theorem sc__law_begun : FnScope ["script", "cells_here", "large", "cell"] ["script"] (defScope s__law_begun) := ⟨rfl, rfl, rfl, by decide +kernel, rfl, by decide +kernel, by decide +kernel⟩
abbrev s__law_draw : Stmt := top 80
theorem sc__law_draw : FnScope ["state", "size_here", "found", "turn", "cell", "mixed"] ["state", "size_here"] (defScope s__law_draw) := ⟨rfl, rfl, rfl, by decide +kernel, rfl, by decide +kernel, by decide +kernel⟩
abbrev s__law_pick : Stmt := top 81
theorem sc__law_pick : FnScope ["state", "several"] ["state", "several"] (defScope s__law_pick) := ⟨rfl, rfl, rfl, by decide +kernel, rfl, by decide +kernel, by decide +kernel⟩
abbrev s__law_odd : Stmt := top 82
theorem sc__law_odd : FnScope ["state"] ["state"] (defScope s__law_odd) := ⟨rfl, rfl, rfl, by decide +kernel, rfl, by decide +kernel, by decide +kernel⟩
abbrev s__law_kinds_a : Stmt := top 83
theorem sc__law_kinds_a : FnScope ["caught", "found", "each"] ["caught"] (defScope s__law_kinds_a) := ⟨rfl, rfl, rfl, by decide +kernel, rfl, by decide +kernel, by decide +kernel⟩
abbrev s__law_kinds_b : Stmt := top 84
theorem sc__law_kinds_b : FnScope ["caught", "found", "each"] ["caught"] (defScope s__law_kinds_b) := ⟨rfl, rfl, rfl, by decide +kernel, rfl, by decide +kernel, by decide +kernel⟩
abbrev s__law_kinds_c : Stmt := top 85
theorem sc__law_kinds_c : FnScope ["caught", "found", "each"] ["caught"] (defScope s__law_kinds_c) := ⟨rfl, rfl, rfl, by decide +kernel, rfl, by decide +kernel, by decide +kernel⟩
abbrev s__law_kinds_d : Stmt := top 86
theorem sc__law_kinds_d : FnScope ["caught", "found", "each"] ["caught"] (defScope s__law_kinds_d) := ⟨rfl, rfl, rfl, by decide +kernel, rfl, by decide +kernel, by decide +kernel⟩
abbrev s__law_kinds_e : Stmt := top 87
theorem sc__law_kinds_e : FnScope ["caught", "found", "each"] ["caught"] (defScope s__law_kinds_e) := ⟨rfl, rfl, rfl, by decide +kernel, rfl, by decide +kernel, by decide +kernel⟩
abbrev s__law_plain_a : Stmt := top 88
theorem sc__law_plain_a : FnScope ["text_here", "found"] ["text_here"] (defScope s__law_plain_a) := ⟨rfl, rfl, rfl, by decide +kernel, rfl, by decide +kernel, by decide +kernel⟩
abbrev s__law_plain_b : Stmt := top 89
theorem sc__law_plain_b : FnScope ["text_here", "found"] ["text_here"] (defScope s__law_plain_b) := ⟨rfl, rfl, rfl, by decide +kernel, rfl, by decide +kernel, by decide +kernel⟩
abbrev s__law_plain_c : Stmt := top 90
theorem sc__law_plain_c : FnScope ["text_here", "found"] ["text_here"] (defScope s__law_plain_c) := ⟨rfl, rfl, rfl, by decide +kernel, rfl, by decide +kernel, by decide +kernel⟩
abbrev s__law_held : Stmt := top 91
theorem sc__law_held : FnScope ["item", "found", "caught"] ["item"] (defScope s__law_held) := ⟨rfl, rfl, rfl, by decide +kernel, rfl, by decide +kernel, by decide +kernel⟩
abbrev s__law_held_by_name : Stmt := top 92
theorem sc__law_held_by_name : FnScope ["item", "found", "caught"] ["item"] (defScope s__law_held_by_name) := ⟨rfl, rfl, rfl, by decide +kernel, rfl, by decide +kernel, by decide +kernel⟩
abbrev s__law_is_alone : Stmt := top 93
theorem sc__law_is_alone : FnScope ["caught", "name_here", "kinds_here"] ["caught", "name_here"] (defScope s__law_is_alone) := ⟨rfl, rfl, rfl, by decide +kernel, rfl, by decide +kernel, by decide +kernel⟩
abbrev s_law : Stmt := top 94
theorem sc_law : FnScope ["script", "state", "turn", "text_here", "item", "some", "name_here", "caught", "told", "spot"] ["script"] (defScope s_law) := ⟨rfl, rfl, rfl, by decide +kernel, rfl, by decide +kernel, by decide +kernel⟩
/-- what the top has written -/
structure Top (K : PySem.W.Frag) (mg : Str → Option Value) where
  reel : ReelT K mg
  C : Nat → Addr
  x : ∀ i, i < 76 → ExcC K (C i)
  kit : ∀ i j, i < 76 → j < 76 → PySem.W.kitOne K (.ref (C i)) (.ref (C j)) = some (decide (i = j))
  kitR : ∀ i, i < 76 → PySem.W.kitOne K (.ref (C i)) (.ref reel.C) = some true
  kitV : ∀ i, i < 76 → PySem.W.kitOne K (.ref (C i)) (.type "ValueError") = some true
  keep : ∀ i, i < 76 → PySem.W.keepIn K (.ref (C i)) = true
  q_BadAt : PySem.W.excIn K (C 0) veB "ValueError.__new__" = true
  q_BadBits : PySem.W.excIn K (C 1) veB "ValueError.__new__" = true
  q_BadBlock : PySem.W.excIn K (C 2) veB "ValueError.__new__" = true
  q_BadBook : PySem.W.excIn K (C 3) veB "ValueError.__new__" = true
  q_BadBounds : PySem.W.excIn K (C 4) veB "ValueError.__new__" = true
  q_BadChosen : PySem.W.excIn K (C 5) veB "ValueError.__new__" = true
  q_BadCut : PySem.W.excIn K (C 7) veB "ValueError.__new__" = true
  q_BadDelay : PySem.W.excIn K (C 8) veB "ValueError.__new__" = true
  q_BadError : PySem.W.excIn K (C 9) veB "ValueError.__new__" = true
  q_BadField : PySem.W.excIn K (C 10) veB "ValueError.__new__" = true
  q_BadFrame : PySem.W.excIn K (C 11) veB "ValueError.__new__" = true
  q_BadGains : PySem.W.excIn K (C 13) veB "ValueError.__new__" = true
  q_BadGrade : PySem.W.excIn K (C 14) veB "ValueError.__new__" = true
  q_BadGuess : PySem.W.excIn K (C 15) veB "ValueError.__new__" = true
  q_BadHold : PySem.W.excIn K (C 17) veB "ValueError.__new__" = true
  q_BadHurt : PySem.W.excIn K (C 18) veB "ValueError.__new__" = true
  q_BadIndex : PySem.W.excIn K (C 19) veB "ValueError.__new__" = true
  q_BadKind : PySem.W.excIn K (C 22) veB "ValueError.__new__" = true
  q_BadLeast : PySem.W.excIn K (C 23) veB "ValueError.__new__" = true
  q_BadLoss : PySem.W.excIn K (C 24) veB "ValueError.__new__" = true
  q_BadLosses : PySem.W.excIn K (C 25) veB "ValueError.__new__" = true
  q_BadLot : PySem.W.excIn K (C 26) veB "ValueError.__new__" = true
  q_BadLots : PySem.W.excIn K (C 27) veB "ValueError.__new__" = true
  q_BadMany : PySem.W.excIn K (C 28) veB "ValueError.__new__" = true
  q_BadMemory : PySem.W.excIn K (C 29) veB "ValueError.__new__" = true
  q_BadMost : PySem.W.excIn K (C 31) veB "ValueError.__new__" = true
  q_BadNumber : PySem.W.excIn K (C 32) veB "ValueError.__new__" = true
  q_BadOrder : PySem.W.excIn K (C 33) veB "ValueError.__new__" = true
  q_BadOther : PySem.W.excIn K (C 34) veB "ValueError.__new__" = true
  q_BadPlace : PySem.W.excIn K (C 35) veB "ValueError.__new__" = true
  q_BadPlan : PySem.W.excIn K (C 36) veB "ValueError.__new__" = true
  q_BadPlane : PySem.W.excIn K (C 37) veB "ValueError.__new__" = true
  q_BadPlanes : PySem.W.excIn K (C 38) veB "ValueError.__new__" = true
  q_BadPrice : PySem.W.excIn K (C 39) veB "ValueError.__new__" = true
  q_BadRate : PySem.W.excIn K (C 40) veB "ValueError.__new__" = true
  q_BadReach : PySem.W.excIn K (C 41) veB "ValueError.__new__" = true
  q_BadRectangle : PySem.W.excIn K (C 42) veB "ValueError.__new__" = true
  q_BadReferences : PySem.W.excIn K (C 44) veB "ValueError.__new__" = true
  q_BadRoom : PySem.W.excIn K (C 46) veB "ValueError.__new__" = true
  q_BadRow : PySem.W.excIn K (C 47) veB "ValueError.__new__" = true
  q_BadSet : PySem.W.excIn K (C 48) veB "ValueError.__new__" = true
  q_BadShares : PySem.W.excIn K (C 50) veB "ValueError.__new__" = true
  q_BadShift : PySem.W.excIn K (C 51) veB "ValueError.__new__" = true
  q_BadShows : PySem.W.excIn K (C 52) veB "ValueError.__new__" = true
  q_BadSize : PySem.W.excIn K (C 53) veB "ValueError.__new__" = true
  q_BadSizes : PySem.W.excIn K (C 54) veB "ValueError.__new__" = true
  q_BadSpans : PySem.W.excIn K (C 55) veB "ValueError.__new__" = true
  q_BadSpot : PySem.W.excIn K (C 56) veB "ValueError.__new__" = true
  q_BadState : PySem.W.excIn K (C 57) veB "ValueError.__new__" = true
  q_BadTelling : PySem.W.excIn K (C 62) veB "ValueError.__new__" = true
  q_BadUpper : PySem.W.excIn K (C 63) veB "ValueError.__new__" = true
  q_BadVector : PySem.W.excIn K (C 64) veB "ValueError.__new__" = true
  q_BadWait : PySem.W.excIn K (C 65) veB "ValueError.__new__" = true
  q_BadWanted : PySem.W.excIn K (C 66) veB "ValueError.__new__" = true
  q_BadWay : PySem.W.excIn K (C 67) veB "ValueError.__new__" = true
  q_BadWish : PySem.W.excIn K (C 69) veB "ValueError.__new__" = true
  q_BadWorths : PySem.W.excIn K (C 70) veB "ValueError.__new__" = true
  q_NothingDone : PySem.W.excIn K (C 72) veB "ValueError.__new__" = true
  q_OtherKinds : PySem.W.excIn K (C 73) veB "ValueError.__new__" = true
  q_OtherShapes : PySem.W.excIn K (C 74) veB "ValueError.__new__" = true
  g_BadAt : mg "BadAt" = some (.ref (C 0))
  g_BadBits : mg "BadBits" = some (.ref (C 1))
  g_BadBlock : mg "BadBlock" = some (.ref (C 2))
  g_BadBook : mg "BadBook" = some (.ref (C 3))
  g_BadBounds : mg "BadBounds" = some (.ref (C 4))
  g_BadChosen : mg "BadChosen" = some (.ref (C 5))
  g_BadCosts : mg "BadCosts" = some (.ref (C 6))
  g_BadCut : mg "BadCut" = some (.ref (C 7))
  g_BadDelay : mg "BadDelay" = some (.ref (C 8))
  g_BadError : mg "BadError" = some (.ref (C 9))
  g_BadField : mg "BadField" = some (.ref (C 10))
  g_BadFrame : mg "BadFrame" = some (.ref (C 11))
  g_BadFrames : mg "BadFrames" = some (.ref (C 12))
  g_BadGains : mg "BadGains" = some (.ref (C 13))
  g_BadGrade : mg "BadGrade" = some (.ref (C 14))
  g_BadGuess : mg "BadGuess" = some (.ref (C 15))
  g_BadHead : mg "BadHead" = some (.ref (C 16))
  g_BadHold : mg "BadHold" = some (.ref (C 17))
  g_BadHurt : mg "BadHurt" = some (.ref (C 18))
  g_BadIndex : mg "BadIndex" = some (.ref (C 19))
  g_BadItem : mg "BadItem" = some (.ref (C 20))
  g_BadJobs : mg "BadJobs" = some (.ref (C 21))
  g_BadKind : mg "BadKind" = some (.ref (C 22))
  g_BadLeast : mg "BadLeast" = some (.ref (C 23))
  g_BadLoss : mg "BadLoss" = some (.ref (C 24))
  g_BadLosses : mg "BadLosses" = some (.ref (C 25))
  g_BadLot : mg "BadLot" = some (.ref (C 26))
  g_BadLots : mg "BadLots" = some (.ref (C 27))
  g_BadMany : mg "BadMany" = some (.ref (C 28))
  g_BadMemory : mg "BadMemory" = some (.ref (C 29))
  g_BadMode : mg "BadMode" = some (.ref (C 30))
  g_BadMost : mg "BadMost" = some (.ref (C 31))
  g_BadNumber : mg "BadNumber" = some (.ref (C 32))
  g_BadOrder : mg "BadOrder" = some (.ref (C 33))
  g_BadOther : mg "BadOther" = some (.ref (C 34))
  g_BadPlace : mg "BadPlace" = some (.ref (C 35))
  g_BadPlan : mg "BadPlan" = some (.ref (C 36))
  g_BadPlane : mg "BadPlane" = some (.ref (C 37))
  g_BadPlanes : mg "BadPlanes" = some (.ref (C 38))
  g_BadPrice : mg "BadPrice" = some (.ref (C 39))
  g_BadRate : mg "BadRate" = some (.ref (C 40))
  g_BadReach : mg "BadReach" = some (.ref (C 41))
  g_BadRectangle : mg "BadRectangle" = some (.ref (C 42))
  g_BadReel : mg "BadReel" = some (.ref (C 43))
  g_BadReferences : mg "BadReferences" = some (.ref (C 44))
  g_BadRenewals : mg "BadRenewals" = some (.ref (C 45))
  g_BadRoom : mg "BadRoom" = some (.ref (C 46))
  g_BadRow : mg "BadRow" = some (.ref (C 47))
  g_BadSet : mg "BadSet" = some (.ref (C 48))
  g_BadShape : mg "BadShape" = some (.ref (C 49))
  g_BadShares : mg "BadShares" = some (.ref (C 50))
  g_BadShift : mg "BadShift" = some (.ref (C 51))
  g_BadShows : mg "BadShows" = some (.ref (C 52))
  g_BadSize : mg "BadSize" = some (.ref (C 53))
  g_BadSizes : mg "BadSizes" = some (.ref (C 54))
  g_BadSpans : mg "BadSpans" = some (.ref (C 55))
  g_BadSpot : mg "BadSpot" = some (.ref (C 56))
  g_BadState : mg "BadState" = some (.ref (C 57))
  g_BadStock : mg "BadStock" = some (.ref (C 58))
  g_BadStore : mg "BadStore" = some (.ref (C 59))
  g_BadStream : mg "BadStream" = some (.ref (C 60))
  g_BadStretch : mg "BadStretch" = some (.ref (C 61))
  g_BadTelling : mg "BadTelling" = some (.ref (C 62))
  g_BadUpper : mg "BadUpper" = some (.ref (C 63))
  g_BadVector : mg "BadVector" = some (.ref (C 64))
  g_BadWait : mg "BadWait" = some (.ref (C 65))
  g_BadWanted : mg "BadWanted" = some (.ref (C 66))
  g_BadWay : mg "BadWay" = some (.ref (C 67))
  g_BadWeb : mg "BadWeb" = some (.ref (C 68))
  g_BadWish : mg "BadWish" = some (.ref (C 69))
  g_BadWorths : mg "BadWorths" = some (.ref (C 70))
  g_NotNow : mg "NotNow" = some (.ref (C 71))
  g_NothingDone : mg "NothingDone" = some (.ref (C 72))
  g_OtherKinds : mg "OtherKinds" = some (.ref (C 73))
  g_OtherShapes : mg "OtherShapes" = some (.ref (C 74))
  g_TooMany : mg "TooMany" = some (.ref (C 75))
  _law_begun : DefT K mg "_law_begun" s__law_begun
  _law_draw : DefT K mg "_law_draw" s__law_draw
  _law_pick : DefT K mg "_law_pick" s__law_pick
  _law_odd : DefT K mg "_law_odd" s__law_odd
  _law_kinds_a : DefT K mg "_law_kinds_a" s__law_kinds_a
  _law_kinds_b : DefT K mg "_law_kinds_b" s__law_kinds_b
  _law_kinds_c : DefT K mg "_law_kinds_c" s__law_kinds_c
  _law_kinds_d : DefT K mg "_law_kinds_d" s__law_kinds_d
  _law_kinds_e : DefT K mg "_law_kinds_e" s__law_kinds_e
  _law_plain_a : DefT K mg "_law_plain_a" s__law_plain_a
  _law_plain_b : DefT K mg "_law_plain_b" s__law_plain_b
  _law_plain_c : DefT K mg "_law_plain_c" s__law_plain_c
  _law_held : DefT K mg "_law_held" s__law_held
  _law_held_by_name : DefT K mg "_law_held_by_name" s__law_held_by_name
  _law_is_alone : DefT K mg "_law_is_alone" s__law_is_alone
  law : DefT K mg "law" s_law
  b_isinstance : mg "isinstance" = none
  b_int : mg "int" = none
  b_len : mg "len" = none
  b_abs : mg "abs" = none
  b_range : mg "range" = none
  b_min : mg "min" = none
  b_repr : mg "repr" = none
  b_ValueError : mg "ValueError" = none
section
variable {K : PySem.W.Frag} {mg : Str → Option Value}
theorem bd__law_begun (T : Top K mg) : Binds K T._law_begun.d ["script"] [] := T._law_begun.f.binds fun _ _ _ _ _ _ us hl => match us, hl with | [_], _ => rfl
theorem bd__law_draw (T : Top K mg) : Binds K T._law_draw.d ["state", "size_here"] [] := T._law_draw.f.binds fun _ _ _ _ _ _ us hl => match us, hl with | [_, _], _ => rfl
theorem bd__law_pick (T : Top K mg) : Binds K T._law_pick.d ["state", "several"] [] := T._law_pick.f.binds fun _ _ _ _ _ _ us hl => match us, hl with | [_, _], _ => rfl
theorem bd__law_odd (T : Top K mg) : Binds K T._law_odd.d ["state"] [] := T._law_odd.f.binds fun _ _ _ _ _ _ us hl => match us, hl with | [_], _ => rfl
theorem bd__law_kinds_a (T : Top K mg) : Binds K T._law_kinds_a.d ["caught"] [] := T._law_kinds_a.f.binds fun _ _ _ _ _ _ us hl => match us, hl with | [_], _ => rfl
theorem bd__law_kinds_b (T : Top K mg) : Binds K T._law_kinds_b.d ["caught"] [] := T._law_kinds_b.f.binds fun _ _ _ _ _ _ us hl => match us, hl with | [_], _ => rfl
theorem bd__law_kinds_c (T : Top K mg) : Binds K T._law_kinds_c.d ["caught"] [] := T._law_kinds_c.f.binds fun _ _ _ _ _ _ us hl => match us, hl with | [_], _ => rfl
theorem bd__law_kinds_d (T : Top K mg) : Binds K T._law_kinds_d.d ["caught"] [] := T._law_kinds_d.f.binds fun _ _ _ _ _ _ us hl => match us, hl with | [_], _ => rfl
theorem bd__law_kinds_e (T : Top K mg) : Binds K T._law_kinds_e.d ["caught"] [] := T._law_kinds_e.f.binds fun _ _ _ _ _ _ us hl => match us, hl with | [_], _ => rfl
theorem bd__law_plain_a (T : Top K mg) : Binds K T._law_plain_a.d ["text_here"] [] := T._law_plain_a.f.binds fun _ _ _ _ _ _ us hl => match us, hl with | [_], _ => rfl
theorem bd__law_plain_b (T : Top K mg) : Binds K T._law_plain_b.d ["text_here"] [] := T._law_plain_b.f.binds fun _ _ _ _ _ _ us hl => match us, hl with | [_], _ => rfl
theorem bd__law_plain_c (T : Top K mg) : Binds K T._law_plain_c.d ["text_here"] [] := T._law_plain_c.f.binds fun _ _ _ _ _ _ us hl => match us, hl with | [_], _ => rfl
theorem bd__law_held (T : Top K mg) : Binds K T._law_held.d ["item"] [] := T._law_held.f.binds fun _ _ _ _ _ _ us hl => match us, hl with | [_], _ => rfl
theorem bd__law_held_by_name (T : Top K mg) : Binds K T._law_held_by_name.d ["item"] [] := T._law_held_by_name.f.binds fun _ _ _ _ _ _ us hl => match us, hl with | [_], _ => rfl
theorem bd__law_is_alone (T : Top K mg) : Binds K T._law_is_alone.d ["caught", "name_here"] [] := T._law_is_alone.f.binds fun _ _ _ _ _ _ us hl => match us, hl with | [_, _], _ => rfl
theorem bd_law (T : Top K mg) : Binds K T.law.d ["script"] [] := T.law.f.binds fun _ _ _ _ _ _ us hl => match us, hl with | [_], _ => rfl
end
/-- the own errors that hold something -/
structure Helds (P : Program) (K : PySem.W.Frag) (mg : Str → Option Value) (C : Nat → Addr) where
  BadCosts : HeldT P K mg "BadCosts" "BadCosts.__init__" "at" (C 6)
  BadFrames : HeldT P K mg "BadFrames" "BadFrames.__init__" "at" (C 12)
  BadHead : HeldT P K mg "BadHead" "BadHead.__init__" "part" (C 16)
  BadItem : HeldT P K mg "BadItem" "BadItem.__init__" "at" (C 20)
  BadJobs : HeldT P K mg "BadJobs" "BadJobs.__init__" "at" (C 21)
  BadMode : HeldT P K mg "BadMode" "BadMode.__init__" "mode" (C 30)
  BadReel : HeldT P K mg "BadReel" "BadReel.__init__" "part" (C 43)
  BadRenewals : HeldT P K mg "BadRenewals" "BadRenewals.__init__" "at" (C 45)
  BadShape : HeldT P K mg "BadShape" "BadShape.__init__" "part" (C 49)
  BadStock : HeldT P K mg "BadStock" "BadStock.__init__" "part" (C 58)
  BadStore : HeldT P K mg "BadStore" "BadStore.__init__" "at" (C 59)
  BadStream : HeldT P K mg "BadStream" "BadStream.__init__" "at" (C 60)
  BadStretch : HeldT P K mg "BadStretch" "BadStretch.__init__" "at" (C 61)
  BadWeb : HeldT P K mg "BadWeb" "BadWeb.__init__" "at" (C 68)
  NotNow : HeldT P K mg "NotNow" "NotNow.__init__" "word" (C 71)
  TooMany : HeldT P K mg "TooMany" "TooMany.__init__" "most" (C 75)
end K00
namespace K00
open PySem PySem.Spec PyProof.Rows L2 PySem.W LamX KA
theorem q_bl {Q : VK} {H : Hp} {a b : Bool} (k : Q (.bl b) H) (e : a = b) : Q (.bl a) H := e ▸ k
theorem q_int {Q : VK} {H : Hp} {a b : Int} (k : Q (.int b) H) (e : a = b) : Q (.int a) H := e ▸ k
theorem q_str {Q : VK} {H : Hp} {a b : Str} (k : Q (.str b) H) (e : a = b) : Q (.str a) H := e ▸ k
end K00
namespace K00
open PySem PySem.Spec PyProof.Rows L2 PySem.W LamX KA
open Evl (pss_cut tCut)
def spDraw : Sp := fun vs H Q _ => ∃ (st lg cl : Addr) (n m : Nat), vs = [.ref st, .int n] ∧ 0 < n ∧ n < 2 ^ 100 ∧ m ≤ 1000000 ∧ StAt H st lg cl m ∧
  ∀ (r : Nat) (H' : Hp), r < n → StAt H' st lg cl (m + 1) → Kp st lg H H' → Q (.int r) H'
section
variable {P : Program} {w : World} {K : PySem.W.Frag} {mg : Str → Option Value} {base : Heap} (T : Top K mg)
theorem draw_div {n : Nat} (h0 : 0 < n) (h : n < 2 ^ 100) {i : Int} : CDivW i (n : Int) := wide_div (b := 100) (by omega) (by simpa using h) (by decide) (by decide)
theorem ok_draw : FnOk P w K mg base (L2.CX P w) 1 T._law_draw.a T._law_draw.d ["state", "size_here"] spDraw := by
  refine T._law_draw.f.okX sc__law_draw (fun vs H Q E h => ?_) (fun cdv A outer s H vs Q E hr h => ?_)
  · obtain ⟨st, lg, cl, n, m, rfl, _⟩ := h
    rfl
  · obtain ⟨st, lg, cl, n, m, rfl, hn, hn2, hm, ⟨large, cells, left, turn, S, ht⟩, k⟩ := h
    have hu := hu_of hr
    refine ⟨_, pss_cut (ps_while (passes_of rfl) (PW.pt (pw_and (pt_cmpR op_eq (pe_dget hu (pv 0) pe_str (fun _ _ => rfl)) pe_int (nomark _)) (pw_and1 (pt_cmpR (op_neD hr.units) (pe_dget hu (pv 0) pe_str (fun _ _ => rfl)) (pe_lst pa_nil) (nomark _)))))
        (pss_one (ps_dput hu (pv 0) pe_str (pe_bm PySem.F.plainAttrs_list PySem.F.slot_list_pop PySem.F.type_list_pop mt_popAt (pe_dget hu (pv 0) pe_str (fun _ _ => rfl)) (pa_cons pe_int pa_nil)) rfl)))
      (pss_cons (ps_if (pt_cmpR op_gt (pe_dget hu (pv 0) pe_str (fun _ _ => rfl)) pe_int (nomark _))
        (pss_cons (ps_set (i := 2) sc__law_draw.nd rfl (.inl rfl) (pe_op op_mod (pe_callTy call_int1 (by rfl) T.b_int PyProof.Rows.boot_int (pa_cons (pe_dget hu (pv 0) pe_str (fun _ _ => rfl)) pa_nil)) (pv 1)))
        (pss_cons (ps_dput hu (pv 0) pe_str (pe_op op_fdivW (pe_dget hu (pv 0) pe_str (fun _ _ => rfl)) (pv 1)) rfl)
        (pss_one (ps_ret (pv 2))))) pss_nil)
      (pss_cons (ps_set (i := 3) sc__law_draw.nd rfl (.inl rfl) (pe_op op_add (pe_dget hu (pv 0) pe_str (fun _ _ => rfl)) pe_int))
      (pss_cons (ps_dput hu (pv 0) pe_str (pv 3) rfl)
      (pss_cut (ps_set (i := 4) sc__law_draw.nd rfl (.inl rfl) (pe_ifExp (pt_cmpR (op_neD hr.units) (pe_dget hu (pv 0) pe_str (fun _ _ => rfl)) (pe_lst pa_nil) (nomark _))
        (pe_ix ix_list (pe_dget hu (pv 0) pe_str (fun _ _ => rfl)) (pe_op op_mod (pe_callTy call_int1 (by rfl) T.b_int PyProof.Rows.boot_int (pa_cons (pv 3) pa_nil)) (pe_callB call_len_seq (by rfl) T.b_len PySem.boot_len (pa_cons (pe_dget hu (pv 0) pe_str (fun _ _ => rfl)) pa_nil))) (fun _ _ => rfl))
        pe_int))
      (pss_cons (ps_set (i := 5) sc__law_draw.nd rfl (.inl rfl) (pe_op op_mod (pe_callTy call_int1 (by rfl) T.b_int PyProof.Rows.boot_int (pa_cons (pe_op op_pow (pe_op op_add (pe_op op_add (pe_op op_mod (pe_callTy call_int1 (by rfl) T.b_int PyProof.Rows.boot_int (pa_cons (pv 4) pa_nil)) pe_int) (pe_op op_mul pe_int (pv 3))) pe_int) pe_int) pa_nil)) pe_int))
      (pss_one (ps_ret (pe_op op_mod (pe_callTy call_int1 (by rfl) T.b_int PyProof.Rows.boot_int (pa_cons (pe_op op_fdiv (pe_op op_mod (pe_callTy call_int1 (by rfl) T.b_int PyProof.Rows.boot_int (pa_cons (pe_op op_pow (pe_op op_add (pv 5) (pe_op op_mul pe_int (pv 3))) pe_int) pa_nil)) pe_int) pe_int) pa_nil)) (pv 1))))))))), ?_⟩
    -- the while
    refine ⟨fun σ' H' => σ' = [some (.ref st), some (.int n), none, none, none, none] ∧ ∃ large' left', StD H' st lg cl large' cells left' turn ∧ Kp st lg H H', ?_, ?_⟩
    · refine ⟨fun μ σ' H' => σ' = [some (.ref st), some (.int n), none, none, none, none] ∧ ∃ large' left', large'.length = μ ∧ StD H' st lg cl large' cells left' turn ∧ Kp st lg H H',
        ⟨large.length, rfl, large, left, rfl, S, Kp.refl⟩, ?_⟩
      rintro μ σ' H1 ⟨rfl, large', left', hμ, S1, kp1⟩
      refine ⟨_, rfl, st, _, rfl, (show DGet H1 st (kV kLeft) _ from st_left ▸ DGet.k S1.d), rfl, _, rfl, ?_⟩
      by_cases c1 : left' = 0
      · subst c1
        refine iteT ⟨_, rfl, st, _, rfl, (show DGet H1 st (kV kLarge) _ from st_large ▸ DGet.k S1.d), by decide, fun p hp => ?_⟩
        have S2 := S1.same (Same.new (o := .lst []) hp)
        have kp2 := kp1.trans (Kp.same (Same.new (o := .lst []) hp))
        refine ⟨_, _, dp_int_list S2.l, dp_nil upd_same, shaped_is _, shaped_nil, _, rfl, ?_⟩
        rw [eqv_ints_nil]
        cases large' with
        | nil => exact iteF ⟨rfl, [], 0, S2, kp2⟩
        | cons x rest =>
          refine iteT ⟨fun σ' H' => σ' = [some (.ref st), some (.int n), none, none, none, none] ∧ ∃ large' left', large'.length = rest.length ∧ StD H' st lg cl large' cells left' turn ∧ Kp st lg H H',
            fun σ' H' ⟨e, l', lf, e2, r⟩ => ⟨rest.length, by rw [← hμ]; exact Nat.lt_succ_self _, e, l', lf, e2, r⟩, ?_⟩
          refine ⟨_, rfl, st, .ref lg, rfl, (show DGet _ st (kV kLarge) _ from st_large ▸ DGet.k S2.d), .inl ⟨rfl, _, SqL.of S2.l⟩, lg, _, 0, 0, .int x, rfl, rfl, S2.l, by decide, by decide, by simp [seqIndex?], rfl, ?_⟩
          have S3 : StD (upd (upd H1 p (.lst [])) lg (.lst (rest.map V.int))) st lg cl rest cells 0 turn :=
            { d := (upd_ne S2.st_lg).trans S2.d, l := upd_same, c := (upd_ne S2.ne.symm).trans S2.c, ne := S2.ne, pl := fun y hy => S2.pl y (List.mem_cons_of_mem _ hy), p0 := S2.p0 }
          have hx : 0 ≤ x := S2.pl x List.mem_cons_self
          refine ⟨_, rfl, st, _, rfl, (show DPut _ st (kV kLeft) _ _ from DPut.k S3.d (by show 4 < sizeLine; decide)), ?_⟩
          rw [st_put_left]
          exact ⟨rfl, rest, x, rfl, S3.put hx, (kp2.trans Kp.put2).trans Kp.put⟩
      · rw [show decide (V.int left' = V.int 0) = false from decide_eq_false fun z => c1 (V.int.inj z)]
        exact iteF ⟨rfl, large', left', S1, kp1⟩
    · rintro σ' H1 ⟨rfl, large', left', S1, kp1⟩
      refine ⟨_, rfl, st, _, rfl, (show DGet H1 st (kV kLeft) _ from st_left ▸ DGet.k S1.d), _, _, rfl, rfl, _, rfl, ?_⟩
      by_cases c1 : 0 < left'
      · rw [show decide ((0 : Int) < left') = true from decide_eq_true c1]
        refine iteT ⟨_, rfl, st, _, rfl, (show DGet H1 st (kV kLeft) _ from st_left ▸ DGet.k S1.d), .inl ⟨_, rfl, _, rfl, _, _, rfl, rfl, (by show (0 : Int) < (n : Int); omega), ?_⟩⟩
        refine ⟨_, rfl, st, _, rfl, (show DGet H1 st (kV kLeft) _ from st_left ▸ DGet.k S1.d), _, rfl, _, _, rfl, rfl, draw_div hn hn2, _, rfl, st, _, rfl, (show DPut _ st (kV kLeft) _ _ from DPut.k S1.d (by show 4 < sizeLine; decide)), ?_⟩
        rw [st_put_left]
        have hr0 := Int.emod_nonneg left' (show (n : Int) ≠ 0 by omega)
        have hr1 := Int.emod_lt_of_pos left' (show (0 : Int) < n by omega)
        have S3 := S1.put (t := turn) (l := left' / (n : Int)) (Int.ediv_nonneg (by omega) (by omega))
        exact ⟨_, rfl, q_int (k (left' % (n : Int)).toNat _ (by omega) ⟨_, _, _, _, S3, by omega⟩ (kp1.trans Kp.put)) (by omega)⟩
      · rw [show decide ((0 : Int) < left') = false from decide_eq_false c1]
        refine iteF ⟨_, rfl, st, _, rfl, (show DGet H1 st (kV kTurn) _ from st_turn ▸ DGet.k S1.d), _, _, rfl, rfl, _, rfl, _, rfl, st, _, rfl, (show DPut _ st (kV kTurn) _ _ from DPut.k S1.d (by show 4 < sizeLine; decide)), ?_⟩
        rw [st_put_turn]
        have S2 : StD (upd H1 st (.dK (stKv lg cl left' ((turn + 1 : Nat) : Int)))) st lg cl large' cells left' (turn + 1) := S1.put S1.p0
        have kp2 : Kp st lg H (upd H1 st (.dK (stKv lg cl left' ((turn + 1 : Nat) : Int)))) := kp1.trans Kp.put
        have e1 : ((turn : Int) + 1) = ((turn + 1 : Nat) : Int) := by omega
        rw [e1]
        generalize upd H1 st (.dK (stKv lg cl left' ((turn + 1 : Nat) : Int))) = H2 at S2 kp2 ⊢
        refine ⟨fun σ' H' => ∃ c : Int, σ' = [some (.ref st), some (.int n), none, some (.int ((turn + 1 : Nat) : Int)), some (.int c), none] ∧ StD H' st lg cl large' cells left' (turn + 1) ∧ Kp st lg H H', ?_, ?_⟩
        · refine ⟨_, rfl, st, .ref cl, rfl, (show DGet H2 st (kV kCells) _ from st_cells ▸ DGet.k S2.d), by decide, fun p hp => ?_⟩
          have S3 := S2.same (Same.new (o := .lst []) hp)
          have kp3 := kp2.trans (Kp.same (Same.new (o := .lst []) hp))
          refine ⟨_, _, dp_int_list S3.c, dp_nil upd_same, shaped_is _, shaped_nil, _, rfl, ?_⟩
          rw [eqv_ints_nil]
          generalize upd H2 p (.lst []) = H3 at S3 kp3 ⊢
          cases cells with
          | nil => exact iteF ⟨0, rfl, S3, kp3⟩
          | cons y ys =>
            refine iteT ⟨_, rfl, st, .ref cl, rfl, (show DGet H3 st (kV kCells) _ from st_cells ▸ DGet.k S3.d), _, rfl, .inl ⟨_, rfl, _, rfl, st, .ref cl, rfl, (show DGet H3 st (kV kCells) _ from st_cells ▸ DGet.k S3.d), cl, _, rfl, .inl (SqL.of S3.c), _, _, rfl, rfl, ?_, ?_⟩⟩
            · show (0 : Int) < ((((y :: ys).map V.int).length : Nat) : Int)
              simp
            · have hlen : ((y :: ys).map V.int).length = (y :: ys).length := List.length_map _
              have hz : (turn + 1) % (y :: ys).length < (y :: ys).length := Nat.mod_lt _ (by simp)
              obtain ⟨c, hc⟩ : ∃ c, (y :: ys)[(turn + 1) % (y :: ys).length]? = some c := ⟨_, List.getElem?_eq_getElem hz⟩
              refine ⟨cl, _, _, .int c, rfl, rfl, SqL.of S3.c, ?_, c, rfl, S3, kp3⟩
              rw [hlen, show (((turn : Int) + 1) % (((y :: ys).length : Nat) : Int)) = (((turn + 1) % (y :: ys).length : Nat) : Int) from rfl]
              exact atI_nat (by rw [List.getElem?_map, hc]; rfl)
        · rintro σ' H3 ⟨c, rfl, S3, kp3⟩
          have h1 := Int.emod_nonneg c (show (2147483563 : Int) ≠ 0 by decide)
          have h2 := Int.emod_lt_of_pos c (show (0 : Int) < 2147483563 by decide)
          refine ⟨_, rfl, .inl ⟨_, rfl, _, _, rfl, rfl, (by show (0 : Int) < 2147483563; decide), _, rfl, _, _, rfl, rfl, .inl ⟨by decide, by decide⟩, _, _, rfl, rfl, _, _, rfl, rfl, _, _, rfl, rfl, ⟨by decide, by decide, ?_⟩, .inl ⟨_, rfl, _, _, rfl, rfl, (by show (0 : Int) < 2147483629; decide), ?_⟩⟩⟩
          · generalize c % 2147483563 = c' at h1 h2 ⊢
            omega
          generalize (c % 2147483563 + 40692 * ((turn + 1 : Nat) : Int) + 24681) ^ (3 : Int).toNat = z
          have h3 := Int.emod_nonneg z (show (2147483629 : Int) ≠ 0 by decide)
          have h4 := Int.emod_lt_of_pos z (show (0 : Int) < 2147483629 by decide)
          dsimp only
          generalize z % 2147483629 = y at h3 h4 ⊢
          refine ⟨_, rfl, _, rfl, _, _, rfl, rfl, .inl ⟨by decide, by decide⟩, _, _, rfl, rfl, _, _, rfl, rfl, ⟨by decide, by decide, by omega⟩, .inl ⟨_, rfl, _, _, rfl, rfl, (by show (0 : Int) < 2147483579; decide), _, _, rfl, rfl, ⟨by decide, by decide⟩, .inl ⟨_, rfl, _, rfl, _, _, rfl, rfl, (by show (0 : Int) < (n : Int); omega), ?_⟩⟩⟩
          generalize (y + 104917 * ((turn + 1 : Nat) : Int)) ^ (5 : Int).toNat % 2147483579 / 29 = x
          have h5 := Int.emod_nonneg x (show (n : Int) ≠ 0 by omega)
          have h6 := Int.emod_lt_of_pos x (show (0 : Int) < n by omega)
          exact q_int (k (x % (n : Int)).toNat _ (by omega) ⟨_, _, _, _, S3, by omega⟩ kp3) (by omega)
end
end K00
namespace K00
open PySem PySem.Spec PyProof.Rows L2 PySem.W LamX KA
open Evl (pss_cut tCut)
def spPick : Sp := fun vs H Q _ => ∃ (st lg cl a : Addr) (xs : List V) (m : Nat), vs = [.ref st, .ref a] ∧ H a = some (.lst xs) ∧ a ≠ lg ∧ 0 < xs.length ∧ xs.length ≤ 1000 ∧ m ≤ 1000000 ∧ StAt H st lg cl m ∧
  ∀ (x : V) (H' : Hp), x ∈ xs → StAt H' st lg cl (m + 1) → Kp st lg H H' → Q x H'
section
variable {P : Program} {w : World} {K : PySem.W.Frag} {mg : Str → Option Value} {base : Heap} (T : Top K mg)
theorem ok_pick : FnOk P w K mg base (L2.CX P w) 2 T._law_pick.a T._law_pick.d ["state", "several"] spPick := by
  refine T._law_pick.f.okX sc__law_pick (fun vs H Q E h => ?_) (fun cdv A outer s H vs Q E hr h => ?_)
  · obtain ⟨st, lg, cl, a, xs, m, rfl, _⟩ := h
    rfl
  · obtain ⟨st, lg, cl, a, xs, m, rfl, ha, hal, h0, h1, hm, S, k⟩ := h
    have has : a ≠ st := by
      obtain ⟨_, _, _, _, S', _⟩ := S
      exact ne_of ha S'.d (by intro z; cases z)
    refine ⟨_, pss_one (ps_ret (pe_ix ix_list (pv 1) (pe_call (ok_draw T) hr (by rfl) T._law_draw.m T._law_draw.f.kp (bd__law_draw T) .nil passE (pa_cons (pv 0) (pa_cons (pe_callB call_len_seq (by rfl) T.b_len PySem.boot_len (pa_cons (pv 1) pa_nil)) pa_nil))) (fun _ _ => rfl))), ?_⟩
    refine ⟨_, rfl, _, rfl, _, rfl, a, xs, rfl, .inl (SqL.of ha), st, lg, cl, xs.length, m, rfl, h0, ?_, hm, S, fun r H' hr' S' kp => ?_⟩
    · exact Nat.lt_of_le_of_lt h1 (by decide)
    · obtain ⟨x, hx⟩ : ∃ x, xs[r]? = some x := ⟨_, List.getElem?_eq_getElem hr'⟩
      exact ⟨a, xs, _, x, rfl, rfl, SqL.of (kp a _ ha has hal), atI_nat hx, k x H' (List.mem_of_getElem? hx) S' kp⟩
def spBegun (K : PySem.W.Frag) : Sp := fun vs H Q _ => ∃ (a : Addr) (ns : List Int), vs = [.ref a] ∧ SqL K H a (ns.map V.int) ∧ ns.length ≤ 63 ∧
  ∀ (st lg cl : Addr) (H' : Hp), StAt H' st lg cl 0 → Same H H' → H st = none → H lg = none → Q (.ref st) H'
theorem ok_begun : FnOk P w K mg base (L2.CX P w) 1 T._law_begun.a T._law_begun.d ["script"] (spBegun K) := by
  refine T._law_begun.f.okX sc__law_begun (fun vs H Q E h => ?_) (fun cdv A outer s H vs Q E hr h => ?_)
  · obtain ⟨a, ns, rfl, _⟩ := h
    rfl
  · obtain ⟨a, ns, rfl, hS, hl, k⟩ := h
    refine ⟨_, pss_cons (ps_setLc (i := 1) (own := [("cell", 3)]) (g := gName 3) (tt := tYes) rfl sc__law_begun.nd rfl rfl (sw_true rfl rfl rfl (by decide +kernel)) (pi_list (pv 0)) (blkOk_by (own := [("cell", 3)]) (N := ["script", "cells_here", "large", "cell"]) (sc := defScope s__law_begun) (by decide +kernel))
        (fun _ _ _ _ _ => pg_name (i := 3) sc__law_begun.nd rfl (Or.inl rfl)) (fun _ _ _ _ _ => pts_nil) (fun _ _ _ _ _ => pe_callB call_abs (by rfl) T.b_abs (by decide +kernel) (pa_cons (pv 3) pa_nil)))
      (pss_cons (ps_setLc (i := 2) (own := [("cell", 3)]) (g := gName 3) rfl sc__law_begun.nd rfl rfl (sw_true rfl rfl rfl (by decide +kernel)) (pi_list (pv 1)) (blkOk_by (own := [("cell", 3)]) (N := ["script", "cells_here", "large", "cell"]) (sc := defScope s__law_begun) (by decide +kernel))
        (fun _ _ _ _ _ => pg_name (i := 3) sc__law_begun.nd rfl (Or.inl rfl)) (fun _ _ _ _ _ => pts_one (pt_cmpR op_ge (pv 3) (pe_op op_pow pe_int pe_int) (nomark _))) (fun _ _ _ _ _ => pe_op op_sub (pv 3) (pe_op op_pow pe_int pe_int)))
      (pss_one (ps_ret (pe_disp (pps_cons pe_str (pv 2) (pps_cons pe_str (pv 1) (pps_cons pe_str pe_int (pps_cons pe_str pe_int pps_nil)))) (by rfl) (by rfl) (fun z => by cases z) (by decide))))), ?_⟩
    refine ⟨_, rfl, a, rfl, ⟨_, hS⟩, fun cl hcl => lc_list (K := K) (a := a) (xs := ns.map V.int) (fun i H' => H' cl = some (.lst ((ns.take i).map fun n => V.int (if n < 0 then -n else n))) ∧ Same H H') ⟨upd_same, Same.new hcl⟩ (fun i H' _ h => h.2.seq hS) ?_ ?_⟩
    · rintro i x H' hx ⟨h1, h2⟩
      obtain ⟨n, hn, rfl⟩ : ∃ n, ns[i]? = some n ∧ x = V.int n := by
        rw [List.getElem?_map] at hx
        cases e : ns[i]? with
        | none => rw [e] at hx; cases hx
        | some n => rw [e] at hx; exact ⟨n, rfl, (Option.some.inj hx).symm⟩
      refine ⟨rfl, ?_⟩
      dsimp only [tYes]
      rw [if_pos rfl]
      refine ⟨_, rfl, n, rfl, _, h1, ?_, ?_, ?_⟩
      · rw [List.length_map, List.length_take]
        exact Nat.lt_of_le_of_lt (Nat.min_le_right _ _) (Nat.lt_of_le_of_lt hl (by decide))
      · rw [upd_same, take_map_snoc _ _ _ _ hn]
      · intro b o e
        rw [upd_ne (ne_of_none e hcl)]
        exact h2 b o e
    rintro H1 ⟨h1, h2⟩
    rw [List.length_map, List.take_length] at h1
    have h1 : H1 cl = some (.lst ((ns.map fun n => if n < 0 then -n else n).map V.int)) := by rw [h1, List.map_map]; rfl
    have hlc : (ns.map fun n => if n < 0 then -n else n).length ≤ 63 := by rw [List.length_map]; exact hl
    generalize (ns.map fun n => if n < 0 then -n else n) = cells at h1 hlc
    refine ⟨_, rfl, cl, rfl, ⟨_, SqL.of h1⟩, fun lg hlg => lc_list (K := K) (a := cl) (xs := cells.map V.int) (fun i H' => H' lg = some (.lst ((((cells.take i).filter fun c => decide ((1000000000000000000 : Int) ≤ c)).map fun c => c - 1000000000000000000).map V.int)) ∧ Same H1 H') ⟨upd_same, Same.new hlg⟩ (fun i H' _ h => h.2.seq (SqL.of h1)) ?_ ?_⟩
    · rintro i x H' hx ⟨h3, h4⟩
      obtain ⟨n, hn, rfl⟩ : ∃ n, cells[i]? = some n ∧ x = V.int n := by
        rw [List.getElem?_map] at hx
        cases e : cells[i]? with
        | none => rw [e] at hx; cases hx
        | some n => rw [e] at hx; exact ⟨n, rfl, (Option.some.inj hx).symm⟩
      have et : cells.take (i + 1) = cells.take i ++ [n] := by rw [List.take_add_one, hn]; rfl
      refine ⟨rfl, _, rfl, _, _, rfl, rfl, ⟨by decide, by decide, by decide⟩, _, _, rfl, rfl, _, rfl, ?_⟩
      rw [show ((10 : Int) ^ (18 : Int).toNat) = 1000000000000000000 by decide, et, List.filter_append]
      by_cases c : (1000000000000000000 : Int) ≤ n
      · rw [show decide ((1000000000000000000 : Int) ≤ n) = true from decide_eq_true c]
        dsimp only
        rw [if_pos rfl]
        refine ⟨_, rfl, _, _, rfl, rfl, ⟨by decide, by decide, by decide⟩, _, _, rfl, rfl, _, h3, ?_, ?_, ?_⟩
        · rw [List.length_map, List.length_map]
          refine Nat.lt_of_le_of_lt (Nat.le_trans (List.length_filter_le _ _) ?_) (show 63 < sizeLine by decide)
          rw [List.length_take]
          omega
        · rw [upd_same]
          simp [c]
        · intro b o e
          rw [upd_ne (ne_of_none e hlg)]
          exact h4 b o e
      · rw [show decide ((1000000000000000000 : Int) ≤ n) = false from decide_eq_false c]
        dsimp only
        rw [if_neg Bool.false_ne_true]
        refine ⟨?_, h4⟩
        simpa [c] using h3
    rintro H2 ⟨h3, h4⟩
    intro st hst
    refine ⟨_, rfl, _, rfl, upd_same, stKv lg cl 0 0, rfl, (by show 4 ≤ 15; decide), ?_⟩
    rw [st_merge]
    have hne : cl ≠ lg := ne_of_none h1 hlg
    have h5 := h4 cl _ h1
    rw [List.length_map, List.take_length] at h3
    have hp : ∀ x ∈ (cells.filter fun c => decide ((1000000000000000000 : Int) ≤ c)).map (fun c => c - 1000000000000000000), 0 ≤ x := by
      intro x hx
      obtain ⟨c, hc, rfl⟩ := List.mem_map.mp hx
      have := (List.mem_filter.mp hc).2
      simp at this
      omega
    generalize (cells.filter fun c => decide ((1000000000000000000 : Int) ≤ c)).map (fun c => c - 1000000000000000000) = large at h3 hp
    have n1 : lg ≠ st := ne_of_none h3 hst
    have n2 : cl ≠ st := ne_of_none h5 hst
    have same : Same H (upd (upd H2 st (.dK [])) st (.dK (stKv lg cl 0 0))) := fun b o e => by
      have e2 := h4 b o (h2 b o e)
      rw [upd_upd, upd_ne (ne_of_none e2 hst)]
      exact e2
    refine k st lg cl _ ⟨large, cells, 0, 0, ⟨upd_same, ?_, ?_, hne.symm, hp, Int.le_refl _⟩, Nat.le_refl _⟩ same ((h2.trans h4).free hst) (h2.free hlg)
    · rw [upd_upd, upd_ne n1]
      exact h3
    · rw [upd_upd, upd_ne n2]
      exact h5
end
end K00
namespace K00
open PySem PySem.Spec PyProof.Rows L2 PySem.W LamX KA K0U
open Evl (pss_cut tCut)
/-! ### of which classes an error is -/
def nm (n : Nat) (q : Nat × Str) : Str := if n = q.1 then q.2 else ""
def kinds (n : Nat) (is : List (Nat × Str)) : List Str := (is.map (nm n)).filter fun s => !decide (s = "")
def spKinds (C : Nat → Addr) (is : List (Nat × Str)) : Sp := fun vs H Q _ => ∃ a n, vs = [.ref a] ∧ n < 76 ∧ ExK H (C n) a ∧ ∀ p H', H p = none → Same H H' → H' p = some (.lst ((kinds n is).map V.str)) → Q (.ref p) H'
/-- what stands behind the first i of them -/
structure Kd (C : Nat → Addr) (H0 : Hp) (a fa n i : Nat) (is : List (Nat × Str)) (H : Hp) : Prop where
  k : ExK H (C n) a
  l : H fa = some (.lst (((is.take i).map (nm n)).map V.str))
  s : Same H0 H
theorem Kd.step {C : Nat → Addr} {H0 H : Hp} {a fa n i : Nat} {is : List (Nat × Str)} {q : Nat × Str} (h : Kd C H0 a fa n i is H) (f : H0 fa = none) (e : is[i]? = some q) :
    Kd C H0 a fa n (i + 1) is (upd H fa (.lst (((is.take i).map (nm n)).map V.str ++ [.str (nm n q)]))) := by
  refine ⟨h.k.mono fun b o z nl => ?_, ?_, fun b o z => ?_⟩
  · rw [upd_ne (fun y => by rw [y, h.l] at z; exact nl _ (Option.some.inj z).symm)]
    exact z
  · rw [upd_same, List.take_add_one, e]
    simp
  · rw [upd_ne (ne_of_none z f)]
    exact h.s b o z
theorem Kd.sz {C : Nat → Addr} {H0 H : Hp} {a fa n i : Nat} {is : List (Nat × Str)} (h : Kd C H0 a fa n i is H) (l : is.length ≤ 100) : (((is.take i).map (nm n)).map V.str).length < sizeLine := by
  rw [List.length_map, List.length_map, List.length_take]
  exact Nat.lt_of_le_of_lt (Nat.min_le_right _ _) (Nat.lt_of_le_of_lt l (by decide))
theorem kinds_end {K : PySem.W.Frag} {H0 H1 : Hp} {a fa n : Nat} {is : List (Nat × Str)} {Q : VK} (ln : is.length ≤ 100) (hl : H1 fa = some (.lst ((is.map (nm n)).map V.str))) (sm : Same H0 H1) (hfa : H0 fa = none)
    (k : ∀ p H', H0 p = none → Same H0 H' → H' p = some (.lst ((kinds n is).map V.str)) → Q (.ref p) H') :
    tLc (iList K (tVar 1)) (gName 2) (tTest (tOp rNe (tVar 2) (tC (.str "")))) (tVar 2) [2] [some (.ref a), some (.ref fa), none] H1 Q := by
  refine ⟨_, rfl, fa, rfl, ⟨_, SqL.of hl⟩, fun cl hcl => lc_list (K := K) (a := fa) (xs := (is.map (nm n)).map V.str) (fun i H' => H' cl = some (.lst ((((is.map (nm n)).take i).filter fun s => !decide (s = ("" : Str))).map V.str)) ∧ Same H1 H') ⟨upd_same, Same.new hcl⟩ (fun i H' _ h => SqL.of (h.2 _ _ hl)) ?_ ?_⟩
  · rintro i x H' hx ⟨h3, h4⟩
    obtain ⟨s, hs, rfl⟩ : ∃ s, (is.map (nm n))[i]? = some s ∧ x = V.str s := by
      rw [List.getElem?_map] at hx
      cases e : (is.map (nm n))[i]? with
      | none => rw [e] at hx; cases hx
      | some s => rw [e] at hx; exact ⟨s, rfl, (Option.some.inj hx).symm⟩
    have et : (is.map (nm n)).take (i + 1) = (is.map (nm n)).take i ++ [s] := by rw [List.take_add_one, hs]; rfl
    refine ⟨rfl, _, rfl, rfl, _, rfl, ?_⟩
    rw [et, List.filter_append]
    by_cases c : s = ("" : Str)
    · rw [show (!decide (V.str s = V.str ("" : Str))) = false by rw [c]; simp]
      dsimp only
      rw [if_neg Bool.false_ne_true]
      refine ⟨?_, h4⟩
      simpa [c] using h3
    · rw [show (!decide (V.str s = V.str ("" : Str))) = true by simp [c]]
      dsimp only
      rw [if_pos rfl]
      refine ⟨_, rfl, _, h3, ?_, ?_, ?_⟩
      · rw [List.length_map]
        refine Nat.lt_of_le_of_lt (Nat.le_trans (List.length_filter_le _ _) ?_) (show 100 < sizeLine by decide)
        rw [List.length_take, List.length_map]
        omega
      · rw [upd_same]
        simp [c]
      · intro b o e
        rw [upd_ne (ne_of_none e hcl)]
        exact h4 b o e
  · rintro H' ⟨h3, h4⟩
    rw [List.length_map, List.take_length] at h3
    exact k cl H' (sm.free hcl) (sm.trans h4) h3
section
variable {P : Program} {w : World} {K : PySem.W.Frag} {mg : Str → Option Value} {base : Heap} (T : Top K mg)
def is_a : List (Nat × Str) := [(0, "BadAt"), (1, "BadBits"), (2, "BadBlock"), (3, "BadBook"), (4, "BadBounds"), (5, "BadChosen"), (6, "BadCosts"), (7, "BadCut"), (8, "BadDelay"), (9, "BadError"), (10, "BadField"), (11, "BadFrame"), (12, "BadFrames"), (13, "BadGains"), (14, "BadGrade"), (15, "BadGuess"), (16, "BadHead"), (17, "BadHold")]
theorem ok__law_kinds_a : FnOk P w K mg base (L2.CX P w) 1 T._law_kinds_a.a T._law_kinds_a.d ["caught"] (spKinds T.C is_a) := by
  refine T._law_kinds_a.f.okX sc__law_kinds_a (fun vs H Q E h => ?_) (fun cdv A outer s H vs Q E hr h => ?_)
  · obtain ⟨a, n, rfl, _⟩ := h
    rfl
  · obtain ⟨a, n, rfl, hn, ek, k⟩ := h
    refine ⟨_, pss_cut (ps_set (i := 1) sc__law_kinds_a.nd rfl (.inl rfl) (pe_lst pa_nil))
      (pss_cut (ps_expr (pe_bm PySem.F.plainAttrs_list PySem.F.slot_list_append PySem.F.type_list_append mt_append (pv 1) (pa_cons (pe_ifExp (pt_val (pe_callB (show CallR _ _ (rIsX K) from call_isX) (by rfl) T.b_isinstance PyProof.Rows.boot_isinstance (pa_cons (pv 0) (pa_cons (pe_glob (v := .ref (T.C 0)) (by rfl) T.g_BadAt rfl) pa_nil)))) pe_str pe_str) pa_nil)))
      (pss_cut (ps_expr (pe_bm PySem.F.plainAttrs_list PySem.F.slot_list_append PySem.F.type_list_append mt_append (pv 1) (pa_cons (pe_ifExp (pt_val (pe_callB (show CallR _ _ (rIsX K) from call_isX) (by rfl) T.b_isinstance PyProof.Rows.boot_isinstance (pa_cons (pv 0) (pa_cons (pe_glob (v := .ref (T.C 1)) (by rfl) T.g_BadBits rfl) pa_nil)))) pe_str pe_str) pa_nil)))
      (pss_cut (ps_expr (pe_bm PySem.F.plainAttrs_list PySem.F.slot_list_append PySem.F.type_list_append mt_append (pv 1) (pa_cons (pe_ifExp (pt_val (pe_callB (show CallR _ _ (rIsX K) from call_isX) (by rfl) T.b_isinstance PyProof.Rows.boot_isinstance (pa_cons (pv 0) (pa_cons (pe_glob (v := .ref (T.C 2)) (by rfl) T.g_BadBlock rfl) pa_nil)))) pe_str pe_str) pa_nil)))
      (pss_cut (ps_expr (pe_bm PySem.F.plainAttrs_list PySem.F.slot_list_append PySem.F.type_list_append mt_append (pv 1) (pa_cons (pe_ifExp (pt_val (pe_callB (show CallR _ _ (rIsX K) from call_isX) (by rfl) T.b_isinstance PyProof.Rows.boot_isinstance (pa_cons (pv 0) (pa_cons (pe_glob (v := .ref (T.C 3)) (by rfl) T.g_BadBook rfl) pa_nil)))) pe_str pe_str) pa_nil)))
      (pss_cut (ps_expr (pe_bm PySem.F.plainAttrs_list PySem.F.slot_list_append PySem.F.type_list_append mt_append (pv 1) (pa_cons (pe_ifExp (pt_val (pe_callB (show CallR _ _ (rIsX K) from call_isX) (by rfl) T.b_isinstance PyProof.Rows.boot_isinstance (pa_cons (pv 0) (pa_cons (pe_glob (v := .ref (T.C 4)) (by rfl) T.g_BadBounds rfl) pa_nil)))) pe_str pe_str) pa_nil)))
      (pss_cut (ps_expr (pe_bm PySem.F.plainAttrs_list PySem.F.slot_list_append PySem.F.type_list_append mt_append (pv 1) (pa_cons (pe_ifExp (pt_val (pe_callB (show CallR _ _ (rIsX K) from call_isX) (by rfl) T.b_isinstance PyProof.Rows.boot_isinstance (pa_cons (pv 0) (pa_cons (pe_glob (v := .ref (T.C 5)) (by rfl) T.g_BadChosen rfl) pa_nil)))) pe_str pe_str) pa_nil)))
      (pss_cut (ps_expr (pe_bm PySem.F.plainAttrs_list PySem.F.slot_list_append PySem.F.type_list_append mt_append (pv 1) (pa_cons (pe_ifExp (pt_val (pe_callB (show CallR _ _ (rIsX K) from call_isX) (by rfl) T.b_isinstance PyProof.Rows.boot_isinstance (pa_cons (pv 0) (pa_cons (pe_glob (v := .ref (T.C 6)) (by rfl) T.g_BadCosts rfl) pa_nil)))) pe_str pe_str) pa_nil)))
      (pss_cut (ps_expr (pe_bm PySem.F.plainAttrs_list PySem.F.slot_list_append PySem.F.type_list_append mt_append (pv 1) (pa_cons (pe_ifExp (pt_val (pe_callB (show CallR _ _ (rIsX K) from call_isX) (by rfl) T.b_isinstance PyProof.Rows.boot_isinstance (pa_cons (pv 0) (pa_cons (pe_glob (v := .ref (T.C 7)) (by rfl) T.g_BadCut rfl) pa_nil)))) pe_str pe_str) pa_nil)))
      (pss_cut (ps_expr (pe_bm PySem.F.plainAttrs_list PySem.F.slot_list_append PySem.F.type_list_append mt_append (pv 1) (pa_cons (pe_ifExp (pt_val (pe_callB (show CallR _ _ (rIsX K) from call_isX) (by rfl) T.b_isinstance PyProof.Rows.boot_isinstance (pa_cons (pv 0) (pa_cons (pe_glob (v := .ref (T.C 8)) (by rfl) T.g_BadDelay rfl) pa_nil)))) pe_str pe_str) pa_nil)))
      (pss_cut (ps_expr (pe_bm PySem.F.plainAttrs_list PySem.F.slot_list_append PySem.F.type_list_append mt_append (pv 1) (pa_cons (pe_ifExp (pt_val (pe_callB (show CallR _ _ (rIsX K) from call_isX) (by rfl) T.b_isinstance PyProof.Rows.boot_isinstance (pa_cons (pv 0) (pa_cons (pe_glob (v := .ref (T.C 9)) (by rfl) T.g_BadError rfl) pa_nil)))) pe_str pe_str) pa_nil)))
      (pss_cut (ps_expr (pe_bm PySem.F.plainAttrs_list PySem.F.slot_list_append PySem.F.type_list_append mt_append (pv 1) (pa_cons (pe_ifExp (pt_val (pe_callB (show CallR _ _ (rIsX K) from call_isX) (by rfl) T.b_isinstance PyProof.Rows.boot_isinstance (pa_cons (pv 0) (pa_cons (pe_glob (v := .ref (T.C 10)) (by rfl) T.g_BadField rfl) pa_nil)))) pe_str pe_str) pa_nil)))
      (pss_cut (ps_expr (pe_bm PySem.F.plainAttrs_list PySem.F.slot_list_append PySem.F.type_list_append mt_append (pv 1) (pa_cons (pe_ifExp (pt_val (pe_callB (show CallR _ _ (rIsX K) from call_isX) (by rfl) T.b_isinstance PyProof.Rows.boot_isinstance (pa_cons (pv 0) (pa_cons (pe_glob (v := .ref (T.C 11)) (by rfl) T.g_BadFrame rfl) pa_nil)))) pe_str pe_str) pa_nil)))
      (pss_cut (ps_expr (pe_bm PySem.F.plainAttrs_list PySem.F.slot_list_append PySem.F.type_list_append mt_append (pv 1) (pa_cons (pe_ifExp (pt_val (pe_callB (show CallR _ _ (rIsX K) from call_isX) (by rfl) T.b_isinstance PyProof.Rows.boot_isinstance (pa_cons (pv 0) (pa_cons (pe_glob (v := .ref (T.C 12)) (by rfl) T.g_BadFrames rfl) pa_nil)))) pe_str pe_str) pa_nil)))
      (pss_cut (ps_expr (pe_bm PySem.F.plainAttrs_list PySem.F.slot_list_append PySem.F.type_list_append mt_append (pv 1) (pa_cons (pe_ifExp (pt_val (pe_callB (show CallR _ _ (rIsX K) from call_isX) (by rfl) T.b_isinstance PyProof.Rows.boot_isinstance (pa_cons (pv 0) (pa_cons (pe_glob (v := .ref (T.C 13)) (by rfl) T.g_BadGains rfl) pa_nil)))) pe_str pe_str) pa_nil)))
      (pss_cut (ps_expr (pe_bm PySem.F.plainAttrs_list PySem.F.slot_list_append PySem.F.type_list_append mt_append (pv 1) (pa_cons (pe_ifExp (pt_val (pe_callB (show CallR _ _ (rIsX K) from call_isX) (by rfl) T.b_isinstance PyProof.Rows.boot_isinstance (pa_cons (pv 0) (pa_cons (pe_glob (v := .ref (T.C 14)) (by rfl) T.g_BadGrade rfl) pa_nil)))) pe_str pe_str) pa_nil)))
      (pss_cut (ps_expr (pe_bm PySem.F.plainAttrs_list PySem.F.slot_list_append PySem.F.type_list_append mt_append (pv 1) (pa_cons (pe_ifExp (pt_val (pe_callB (show CallR _ _ (rIsX K) from call_isX) (by rfl) T.b_isinstance PyProof.Rows.boot_isinstance (pa_cons (pv 0) (pa_cons (pe_glob (v := .ref (T.C 15)) (by rfl) T.g_BadGuess rfl) pa_nil)))) pe_str pe_str) pa_nil)))
      (pss_cut (ps_expr (pe_bm PySem.F.plainAttrs_list PySem.F.slot_list_append PySem.F.type_list_append mt_append (pv 1) (pa_cons (pe_ifExp (pt_val (pe_callB (show CallR _ _ (rIsX K) from call_isX) (by rfl) T.b_isinstance PyProof.Rows.boot_isinstance (pa_cons (pv 0) (pa_cons (pe_glob (v := .ref (T.C 16)) (by rfl) T.g_BadHead rfl) pa_nil)))) pe_str pe_str) pa_nil)))
      (pss_cut (ps_expr (pe_bm PySem.F.plainAttrs_list PySem.F.slot_list_append PySem.F.type_list_append mt_append (pv 1) (pa_cons (pe_ifExp (pt_val (pe_callB (show CallR _ _ (rIsX K) from call_isX) (by rfl) T.b_isinstance PyProof.Rows.boot_isinstance (pa_cons (pv 0) (pa_cons (pe_glob (v := .ref (T.C 17)) (by rfl) T.g_BadHold rfl) pa_nil)))) pe_str pe_str) pa_nil)))
      (pss_one (ps_ret (pe_lc (own := [("each", 2)]) (g := gName 2) rfl sc__law_kinds_a.nd (pi_list (pv 1)) (blkOk_by (own := [("each", 2)]) (N := ["caught", "found", "each"]) (sc := defScope s__law_kinds_a) (by decide +kernel)) (fun _ _ _ _ _ => pg_name (i := 2) sc__law_kinds_a.nd rfl (Or.inl rfl)) (fun _ _ _ _ _ => pts_one (pt_cmpR op_ne (pv 2) pe_str (nomark _))) (fun _ _ _ _ _ => pv 2)))))))))))))))))))))), ?_⟩
    refine ⟨fun σ' H' => ∃ fa, σ' = [some (.ref a), some (.ref fa), none] ∧ H fa = none ∧ Kd T.C H a fa n 0 is_a H', ⟨(by decide), fun fa hfa => ⟨fa, rfl, hfa, ek.same (Same.new hfa), upd_same, Same.new hfa⟩⟩, ?_⟩
    rintro σ H1 ⟨fa, rfl, hfa, B⟩
    refine ⟨fun σ' H' => σ' = [some (.ref a), some (.ref fa), none] ∧ Kd T.C H a fa n 1 is_a H', ?_, ?_⟩
    · refine ⟨_, rfl, .inl ⟨rfl, _, SqL.of B.l⟩, _, rfl, a, T.C n, _, _, _, rfl, B.k, T.x n hn, .own _, T.kit n 0 hn (by decide), _, rfl, ?_⟩
      have st := B.step (q := (0, "BadAt")) hfa rfl
      unfold nm at st
      by_cases c : n = 0
      · rw [decide_eq_true c]
        rw [if_pos (show n = (0, ("BadAt" : Str)).1 from c)] at st
        exact iteT ⟨fa, _, _, rfl, rfl, B.l, B.sz (by decide), rfl, st⟩
      · rw [decide_eq_false c]
        rw [if_neg (show ¬n = (0, ("BadAt" : Str)).1 from c)] at st
        exact iteF ⟨fa, _, _, rfl, rfl, B.l, B.sz (by decide), rfl, st⟩
    clear B
    rintro σ H1 ⟨rfl, B⟩
    refine ⟨fun σ' H' => σ' = [some (.ref a), some (.ref fa), none] ∧ Kd T.C H a fa n 2 is_a H', ?_, ?_⟩
    · refine ⟨_, rfl, .inl ⟨rfl, _, SqL.of B.l⟩, _, rfl, a, T.C n, _, _, _, rfl, B.k, T.x n hn, .own _, T.kit n 1 hn (by decide), _, rfl, ?_⟩
      have st := B.step (q := (1, "BadBits")) hfa rfl
      unfold nm at st
      by_cases c : n = 1
      · rw [decide_eq_true c]
        rw [if_pos (show n = (1, ("BadBits" : Str)).1 from c)] at st
        exact iteT ⟨fa, _, _, rfl, rfl, B.l, B.sz (by decide), rfl, st⟩
      · rw [decide_eq_false c]
        rw [if_neg (show ¬n = (1, ("BadBits" : Str)).1 from c)] at st
        exact iteF ⟨fa, _, _, rfl, rfl, B.l, B.sz (by decide), rfl, st⟩
    clear B
    rintro σ H1 ⟨rfl, B⟩
    refine ⟨fun σ' H' => σ' = [some (.ref a), some (.ref fa), none] ∧ Kd T.C H a fa n 3 is_a H', ?_, ?_⟩
    · refine ⟨_, rfl, .inl ⟨rfl, _, SqL.of B.l⟩, _, rfl, a, T.C n, _, _, _, rfl, B.k, T.x n hn, .own _, T.kit n 2 hn (by decide), _, rfl, ?_⟩
      have st := B.step (q := (2, "BadBlock")) hfa rfl
      unfold nm at st
      by_cases c : n = 2
      · rw [decide_eq_true c]
        rw [if_pos (show n = (2, ("BadBlock" : Str)).1 from c)] at st
        exact iteT ⟨fa, _, _, rfl, rfl, B.l, B.sz (by decide), rfl, st⟩
      · rw [decide_eq_false c]
        rw [if_neg (show ¬n = (2, ("BadBlock" : Str)).1 from c)] at st
        exact iteF ⟨fa, _, _, rfl, rfl, B.l, B.sz (by decide), rfl, st⟩
    clear B
    rintro σ H1 ⟨rfl, B⟩
    refine ⟨fun σ' H' => σ' = [some (.ref a), some (.ref fa), none] ∧ Kd T.C H a fa n 4 is_a H', ?_, ?_⟩
    · refine ⟨_, rfl, .inl ⟨rfl, _, SqL.of B.l⟩, _, rfl, a, T.C n, _, _, _, rfl, B.k, T.x n hn, .own _, T.kit n 3 hn (by decide), _, rfl, ?_⟩
      have st := B.step (q := (3, "BadBook")) hfa rfl
      unfold nm at st
      by_cases c : n = 3
      · rw [decide_eq_true c]
        rw [if_pos (show n = (3, ("BadBook" : Str)).1 from c)] at st
        exact iteT ⟨fa, _, _, rfl, rfl, B.l, B.sz (by decide), rfl, st⟩
      · rw [decide_eq_false c]
        rw [if_neg (show ¬n = (3, ("BadBook" : Str)).1 from c)] at st
        exact iteF ⟨fa, _, _, rfl, rfl, B.l, B.sz (by decide), rfl, st⟩
    clear B
    rintro σ H1 ⟨rfl, B⟩
    refine ⟨fun σ' H' => σ' = [some (.ref a), some (.ref fa), none] ∧ Kd T.C H a fa n 5 is_a H', ?_, ?_⟩
    · refine ⟨_, rfl, .inl ⟨rfl, _, SqL.of B.l⟩, _, rfl, a, T.C n, _, _, _, rfl, B.k, T.x n hn, .own _, T.kit n 4 hn (by decide), _, rfl, ?_⟩
      have st := B.step (q := (4, "BadBounds")) hfa rfl
      unfold nm at st
      by_cases c : n = 4
      · rw [decide_eq_true c]
        rw [if_pos (show n = (4, ("BadBounds" : Str)).1 from c)] at st
        exact iteT ⟨fa, _, _, rfl, rfl, B.l, B.sz (by decide), rfl, st⟩
      · rw [decide_eq_false c]
        rw [if_neg (show ¬n = (4, ("BadBounds" : Str)).1 from c)] at st
        exact iteF ⟨fa, _, _, rfl, rfl, B.l, B.sz (by decide), rfl, st⟩
    clear B
    rintro σ H1 ⟨rfl, B⟩
    refine ⟨fun σ' H' => σ' = [some (.ref a), some (.ref fa), none] ∧ Kd T.C H a fa n 6 is_a H', ?_, ?_⟩
    · refine ⟨_, rfl, .inl ⟨rfl, _, SqL.of B.l⟩, _, rfl, a, T.C n, _, _, _, rfl, B.k, T.x n hn, .own _, T.kit n 5 hn (by decide), _, rfl, ?_⟩
      have st := B.step (q := (5, "BadChosen")) hfa rfl
      unfold nm at st
      by_cases c : n = 5
      · rw [decide_eq_true c]
        rw [if_pos (show n = (5, ("BadChosen" : Str)).1 from c)] at st
        exact iteT ⟨fa, _, _, rfl, rfl, B.l, B.sz (by decide), rfl, st⟩
      · rw [decide_eq_false c]
        rw [if_neg (show ¬n = (5, ("BadChosen" : Str)).1 from c)] at st
        exact iteF ⟨fa, _, _, rfl, rfl, B.l, B.sz (by decide), rfl, st⟩
    clear B
    rintro σ H1 ⟨rfl, B⟩
    refine ⟨fun σ' H' => σ' = [some (.ref a), some (.ref fa), none] ∧ Kd T.C H a fa n 7 is_a H', ?_, ?_⟩
    · refine ⟨_, rfl, .inl ⟨rfl, _, SqL.of B.l⟩, _, rfl, a, T.C n, _, _, _, rfl, B.k, T.x n hn, .own _, T.kit n 6 hn (by decide), _, rfl, ?_⟩
      have st := B.step (q := (6, "BadCosts")) hfa rfl
      unfold nm at st
      by_cases c : n = 6
      · rw [decide_eq_true c]
        rw [if_pos (show n = (6, ("BadCosts" : Str)).1 from c)] at st
        exact iteT ⟨fa, _, _, rfl, rfl, B.l, B.sz (by decide), rfl, st⟩
      · rw [decide_eq_false c]
        rw [if_neg (show ¬n = (6, ("BadCosts" : Str)).1 from c)] at st
        exact iteF ⟨fa, _, _, rfl, rfl, B.l, B.sz (by decide), rfl, st⟩
    clear B
    rintro σ H1 ⟨rfl, B⟩
    refine ⟨fun σ' H' => σ' = [some (.ref a), some (.ref fa), none] ∧ Kd T.C H a fa n 8 is_a H', ?_, ?_⟩
    · refine ⟨_, rfl, .inl ⟨rfl, _, SqL.of B.l⟩, _, rfl, a, T.C n, _, _, _, rfl, B.k, T.x n hn, .own _, T.kit n 7 hn (by decide), _, rfl, ?_⟩
      have st := B.step (q := (7, "BadCut")) hfa rfl
      unfold nm at st
      by_cases c : n = 7
      · rw [decide_eq_true c]
        rw [if_pos (show n = (7, ("BadCut" : Str)).1 from c)] at st
        exact iteT ⟨fa, _, _, rfl, rfl, B.l, B.sz (by decide), rfl, st⟩
      · rw [decide_eq_false c]
        rw [if_neg (show ¬n = (7, ("BadCut" : Str)).1 from c)] at st
        exact iteF ⟨fa, _, _, rfl, rfl, B.l, B.sz (by decide), rfl, st⟩
    clear B
    rintro σ H1 ⟨rfl, B⟩
    refine ⟨fun σ' H' => σ' = [some (.ref a), some (.ref fa), none] ∧ Kd T.C H a fa n 9 is_a H', ?_, ?_⟩
    · refine ⟨_, rfl, .inl ⟨rfl, _, SqL.of B.l⟩, _, rfl, a, T.C n, _, _, _, rfl, B.k, T.x n hn, .own _, T.kit n 8 hn (by decide), _, rfl, ?_⟩
      have st := B.step (q := (8, "BadDelay")) hfa rfl
      unfold nm at st
      by_cases c : n = 8
      · rw [decide_eq_true c]
        rw [if_pos (show n = (8, ("BadDelay" : Str)).1 from c)] at st
        exact iteT ⟨fa, _, _, rfl, rfl, B.l, B.sz (by decide), rfl, st⟩
      · rw [decide_eq_false c]
        rw [if_neg (show ¬n = (8, ("BadDelay" : Str)).1 from c)] at st
        exact iteF ⟨fa, _, _, rfl, rfl, B.l, B.sz (by decide), rfl, st⟩
    clear B
    rintro σ H1 ⟨rfl, B⟩
    refine ⟨fun σ' H' => σ' = [some (.ref a), some (.ref fa), none] ∧ Kd T.C H a fa n 10 is_a H', ?_, ?_⟩
    · refine ⟨_, rfl, .inl ⟨rfl, _, SqL.of B.l⟩, _, rfl, a, T.C n, _, _, _, rfl, B.k, T.x n hn, .own _, T.kit n 9 hn (by decide), _, rfl, ?_⟩
      have st := B.step (q := (9, "BadError")) hfa rfl
      unfold nm at st
      by_cases c : n = 9
      · rw [decide_eq_true c]
        rw [if_pos (show n = (9, ("BadError" : Str)).1 from c)] at st
        exact iteT ⟨fa, _, _, rfl, rfl, B.l, B.sz (by decide), rfl, st⟩
      · rw [decide_eq_false c]
        rw [if_neg (show ¬n = (9, ("BadError" : Str)).1 from c)] at st
        exact iteF ⟨fa, _, _, rfl, rfl, B.l, B.sz (by decide), rfl, st⟩
    clear B
    rintro σ H1 ⟨rfl, B⟩
    refine ⟨fun σ' H' => σ' = [some (.ref a), some (.ref fa), none] ∧ Kd T.C H a fa n 11 is_a H', ?_, ?_⟩
    · refine ⟨_, rfl, .inl ⟨rfl, _, SqL.of B.l⟩, _, rfl, a, T.C n, _, _, _, rfl, B.k, T.x n hn, .own _, T.kit n 10 hn (by decide), _, rfl, ?_⟩
      have st := B.step (q := (10, "BadField")) hfa rfl
      unfold nm at st
      by_cases c : n = 10
      · rw [decide_eq_true c]
        rw [if_pos (show n = (10, ("BadField" : Str)).1 from c)] at st
        exact iteT ⟨fa, _, _, rfl, rfl, B.l, B.sz (by decide), rfl, st⟩
      · rw [decide_eq_false c]
        rw [if_neg (show ¬n = (10, ("BadField" : Str)).1 from c)] at st
        exact iteF ⟨fa, _, _, rfl, rfl, B.l, B.sz (by decide), rfl, st⟩
    clear B
    rintro σ H1 ⟨rfl, B⟩
    refine ⟨fun σ' H' => σ' = [some (.ref a), some (.ref fa), none] ∧ Kd T.C H a fa n 12 is_a H', ?_, ?_⟩
    · refine ⟨_, rfl, .inl ⟨rfl, _, SqL.of B.l⟩, _, rfl, a, T.C n, _, _, _, rfl, B.k, T.x n hn, .own _, T.kit n 11 hn (by decide), _, rfl, ?_⟩
      have st := B.step (q := (11, "BadFrame")) hfa rfl
      unfold nm at st
      by_cases c : n = 11
      · rw [decide_eq_true c]
        rw [if_pos (show n = (11, ("BadFrame" : Str)).1 from c)] at st
        exact iteT ⟨fa, _, _, rfl, rfl, B.l, B.sz (by decide), rfl, st⟩
      · rw [decide_eq_false c]
        rw [if_neg (show ¬n = (11, ("BadFrame" : Str)).1 from c)] at st
        exact iteF ⟨fa, _, _, rfl, rfl, B.l, B.sz (by decide), rfl, st⟩
    clear B
    rintro σ H1 ⟨rfl, B⟩
    refine ⟨fun σ' H' => σ' = [some (.ref a), some (.ref fa), none] ∧ Kd T.C H a fa n 13 is_a H', ?_, ?_⟩
    · refine ⟨_, rfl, .inl ⟨rfl, _, SqL.of B.l⟩, _, rfl, a, T.C n, _, _, _, rfl, B.k, T.x n hn, .own _, T.kit n 12 hn (by decide), _, rfl, ?_⟩
      have st := B.step (q := (12, "BadFrames")) hfa rfl
      unfold nm at st
      by_cases c : n = 12
      · rw [decide_eq_true c]
        rw [if_pos (show n = (12, ("BadFrames" : Str)).1 from c)] at st
        exact iteT ⟨fa, _, _, rfl, rfl, B.l, B.sz (by decide), rfl, st⟩
      · rw [decide_eq_false c]
        rw [if_neg (show ¬n = (12, ("BadFrames" : Str)).1 from c)] at st
        exact iteF ⟨fa, _, _, rfl, rfl, B.l, B.sz (by decide), rfl, st⟩
    clear B
    rintro σ H1 ⟨rfl, B⟩
    refine ⟨fun σ' H' => σ' = [some (.ref a), some (.ref fa), none] ∧ Kd T.C H a fa n 14 is_a H', ?_, ?_⟩
    · refine ⟨_, rfl, .inl ⟨rfl, _, SqL.of B.l⟩, _, rfl, a, T.C n, _, _, _, rfl, B.k, T.x n hn, .own _, T.kit n 13 hn (by decide), _, rfl, ?_⟩
      have st := B.step (q := (13, "BadGains")) hfa rfl
      unfold nm at st
      by_cases c : n = 13
      · rw [decide_eq_true c]
        rw [if_pos (show n = (13, ("BadGains" : Str)).1 from c)] at st
        exact iteT ⟨fa, _, _, rfl, rfl, B.l, B.sz (by decide), rfl, st⟩
      · rw [decide_eq_false c]
        rw [if_neg (show ¬n = (13, ("BadGains" : Str)).1 from c)] at st
        exact iteF ⟨fa, _, _, rfl, rfl, B.l, B.sz (by decide), rfl, st⟩
    clear B
    rintro σ H1 ⟨rfl, B⟩
    refine ⟨fun σ' H' => σ' = [some (.ref a), some (.ref fa), none] ∧ Kd T.C H a fa n 15 is_a H', ?_, ?_⟩
    · refine ⟨_, rfl, .inl ⟨rfl, _, SqL.of B.l⟩, _, rfl, a, T.C n, _, _, _, rfl, B.k, T.x n hn, .own _, T.kit n 14 hn (by decide), _, rfl, ?_⟩
      have st := B.step (q := (14, "BadGrade")) hfa rfl
      unfold nm at st
      by_cases c : n = 14
      · rw [decide_eq_true c]
        rw [if_pos (show n = (14, ("BadGrade" : Str)).1 from c)] at st
        exact iteT ⟨fa, _, _, rfl, rfl, B.l, B.sz (by decide), rfl, st⟩
      · rw [decide_eq_false c]
        rw [if_neg (show ¬n = (14, ("BadGrade" : Str)).1 from c)] at st
        exact iteF ⟨fa, _, _, rfl, rfl, B.l, B.sz (by decide), rfl, st⟩
    clear B
    rintro σ H1 ⟨rfl, B⟩
    refine ⟨fun σ' H' => σ' = [some (.ref a), some (.ref fa), none] ∧ Kd T.C H a fa n 16 is_a H', ?_, ?_⟩
    · refine ⟨_, rfl, .inl ⟨rfl, _, SqL.of B.l⟩, _, rfl, a, T.C n, _, _, _, rfl, B.k, T.x n hn, .own _, T.kit n 15 hn (by decide), _, rfl, ?_⟩
      have st := B.step (q := (15, "BadGuess")) hfa rfl
      unfold nm at st
      by_cases c : n = 15
      · rw [decide_eq_true c]
        rw [if_pos (show n = (15, ("BadGuess" : Str)).1 from c)] at st
        exact iteT ⟨fa, _, _, rfl, rfl, B.l, B.sz (by decide), rfl, st⟩
      · rw [decide_eq_false c]
        rw [if_neg (show ¬n = (15, ("BadGuess" : Str)).1 from c)] at st
        exact iteF ⟨fa, _, _, rfl, rfl, B.l, B.sz (by decide), rfl, st⟩
    clear B
    rintro σ H1 ⟨rfl, B⟩
    refine ⟨fun σ' H' => σ' = [some (.ref a), some (.ref fa), none] ∧ Kd T.C H a fa n 17 is_a H', ?_, ?_⟩
    · refine ⟨_, rfl, .inl ⟨rfl, _, SqL.of B.l⟩, _, rfl, a, T.C n, _, _, _, rfl, B.k, T.x n hn, .own _, T.kit n 16 hn (by decide), _, rfl, ?_⟩
      have st := B.step (q := (16, "BadHead")) hfa rfl
      unfold nm at st
      by_cases c : n = 16
      · rw [decide_eq_true c]
        rw [if_pos (show n = (16, ("BadHead" : Str)).1 from c)] at st
        exact iteT ⟨fa, _, _, rfl, rfl, B.l, B.sz (by decide), rfl, st⟩
      · rw [decide_eq_false c]
        rw [if_neg (show ¬n = (16, ("BadHead" : Str)).1 from c)] at st
        exact iteF ⟨fa, _, _, rfl, rfl, B.l, B.sz (by decide), rfl, st⟩
    clear B
    rintro σ H1 ⟨rfl, B⟩
    refine ⟨fun σ' H' => σ' = [some (.ref a), some (.ref fa), none] ∧ Kd T.C H a fa n 18 is_a H', ?_, ?_⟩
    · refine ⟨_, rfl, .inl ⟨rfl, _, SqL.of B.l⟩, _, rfl, a, T.C n, _, _, _, rfl, B.k, T.x n hn, .own _, T.kit n 17 hn (by decide), _, rfl, ?_⟩
      have st := B.step (q := (17, "BadHold")) hfa rfl
      unfold nm at st
      by_cases c : n = 17
      · rw [decide_eq_true c]
        rw [if_pos (show n = (17, ("BadHold" : Str)).1 from c)] at st
        exact iteT ⟨fa, _, _, rfl, rfl, B.l, B.sz (by decide), rfl, st⟩
      · rw [decide_eq_false c]
        rw [if_neg (show ¬n = (17, ("BadHold" : Str)).1 from c)] at st
        exact iteF ⟨fa, _, _, rfl, rfl, B.l, B.sz (by decide), rfl, st⟩
    clear B
    rintro σ H1 ⟨rfl, B⟩
    have hl : H1 fa = some (.lst ((is_a.map (nm n)).map V.str)) := B.l
    have sm := B.s
    clear B
    exact kinds_end (is := is_a) (by decide) hl sm hfa k
def is_b : List (Nat × Str) := [(18, "BadHurt"), (19, "BadIndex"), (20, "BadItem"), (21, "BadJobs"), (22, "BadKind"), (23, "BadLeast"), (24, "BadLoss"), (25, "BadLosses"), (26, "BadLot"), (27, "BadLots"), (28, "BadMany"), (29, "BadMemory"), (30, "BadMode"), (31, "BadMost"), (32, "BadNumber"), (33, "BadOrder"), (34, "BadOther"), (35, "BadPlace")]
theorem ok__law_kinds_b : FnOk P w K mg base (L2.CX P w) 1 T._law_kinds_b.a T._law_kinds_b.d ["caught"] (spKinds T.C is_b) := by
  refine T._law_kinds_b.f.okX sc__law_kinds_b (fun vs H Q E h => ?_) (fun cdv A outer s H vs Q E hr h => ?_)
  · obtain ⟨a, n, rfl, _⟩ := h
    rfl
  · obtain ⟨a, n, rfl, hn, ek, k⟩ := h
    refine ⟨_, pss_cut (ps_set (i := 1) sc__law_kinds_b.nd rfl (.inl rfl) (pe_lst pa_nil))
      (pss_cut (ps_expr (pe_bm PySem.F.plainAttrs_list PySem.F.slot_list_append PySem.F.type_list_append mt_append (pv 1) (pa_cons (pe_ifExp (pt_val (pe_callB (show CallR _ _ (rIsX K) from call_isX) (by rfl) T.b_isinstance PyProof.Rows.boot_isinstance (pa_cons (pv 0) (pa_cons (pe_glob (v := .ref (T.C 18)) (by rfl) T.g_BadHurt rfl) pa_nil)))) pe_str pe_str) pa_nil)))
      (pss_cut (ps_expr (pe_bm PySem.F.plainAttrs_list PySem.F.slot_list_append PySem.F.type_list_append mt_append (pv 1) (pa_cons (pe_ifExp (pt_val (pe_callB (show CallR _ _ (rIsX K) from call_isX) (by rfl) T.b_isinstance PyProof.Rows.boot_isinstance (pa_cons (pv 0) (pa_cons (pe_glob (v := .ref (T.C 19)) (by rfl) T.g_BadIndex rfl) pa_nil)))) pe_str pe_str) pa_nil)))
      (pss_cut (ps_expr (pe_bm PySem.F.plainAttrs_list PySem.F.slot_list_append PySem.F.type_list_append mt_append (pv 1) (pa_cons (pe_ifExp (pt_val (pe_callB (show CallR _ _ (rIsX K) from call_isX) (by rfl) T.b_isinstance PyProof.Rows.boot_isinstance (pa_cons (pv 0) (pa_cons (pe_glob (v := .ref (T.C 20)) (by rfl) T.g_BadItem rfl) pa_nil)))) pe_str pe_str) pa_nil)))
      (pss_cut (ps_expr (pe_bm PySem.F.plainAttrs_list PySem.F.slot_list_append PySem.F.type_list_append mt_append (pv 1) (pa_cons (pe_ifExp (pt_val (pe_callB (show CallR _ _ (rIsX K) from call_isX) (by rfl) T.b_isinstance PyProof.Rows.boot_isinstance (pa_cons (pv 0) (pa_cons (pe_glob (v := .ref (T.C 21)) (by rfl) T.g_BadJobs rfl) pa_nil)))) pe_str pe_str) pa_nil)))
      (pss_cut (ps_expr (pe_bm PySem.F.plainAttrs_list PySem.F.slot_list_append PySem.F.type_list_append mt_append (pv 1) (pa_cons (pe_ifExp (pt_val (pe_callB (show CallR _ _ (rIsX K) from call_isX) (by rfl) T.b_isinstance PyProof.Rows.boot_isinstance (pa_cons (pv 0) (pa_cons (pe_glob (v := .ref (T.C 22)) (by rfl) T.g_BadKind rfl) pa_nil)))) pe_str pe_str) pa_nil)))
      (pss_cut (ps_expr (pe_bm PySem.F.plainAttrs_list PySem.F.slot_list_append PySem.F.type_list_append mt_append (pv 1) (pa_cons (pe_ifExp (pt_val (pe_callB (show CallR _ _ (rIsX K) from call_isX) (by rfl) T.b_isinstance PyProof.Rows.boot_isinstance (pa_cons (pv 0) (pa_cons (pe_glob (v := .ref (T.C 23)) (by rfl) T.g_BadLeast rfl) pa_nil)))) pe_str pe_str) pa_nil)))
      (pss_cut (ps_expr (pe_bm PySem.F.plainAttrs_list PySem.F.slot_list_append PySem.F.type_list_append mt_append (pv 1) (pa_cons (pe_ifExp (pt_val (pe_callB (show CallR _ _ (rIsX K) from call_isX) (by rfl) T.b_isinstance PyProof.Rows.boot_isinstance (pa_cons (pv 0) (pa_cons (pe_glob (v := .ref (T.C 24)) (by rfl) T.g_BadLoss rfl) pa_nil)))) pe_str pe_str) pa_nil)))
      (pss_cut (ps_expr (pe_bm PySem.F.plainAttrs_list PySem.F.slot_list_append PySem.F.type_list_append mt_append (pv 1) (pa_cons (pe_ifExp (pt_val (pe_callB (show CallR _ _ (rIsX K) from call_isX) (by rfl) T.b_isinstance PyProof.Rows.boot_isinstance (pa_cons (pv 0) (pa_cons (pe_glob (v := .ref (T.C 25)) (by rfl) T.g_BadLosses rfl) pa_nil)))) pe_str pe_str) pa_nil)))
      (pss_cut (ps_expr (pe_bm PySem.F.plainAttrs_list PySem.F.slot_list_append PySem.F.type_list_append mt_append (pv 1) (pa_cons (pe_ifExp (pt_val (pe_callB (show CallR _ _ (rIsX K) from call_isX) (by rfl) T.b_isinstance PyProof.Rows.boot_isinstance (pa_cons (pv 0) (pa_cons (pe_glob (v := .ref (T.C 26)) (by rfl) T.g_BadLot rfl) pa_nil)))) pe_str pe_str) pa_nil)))
      (pss_cut (ps_expr (pe_bm PySem.F.plainAttrs_list PySem.F.slot_list_append PySem.F.type_list_append mt_append (pv 1) (pa_cons (pe_ifExp (pt_val (pe_callB (show CallR _ _ (rIsX K) from call_isX) (by rfl) T.b_isinstance PyProof.Rows.boot_isinstance (pa_cons (pv 0) (pa_cons (pe_glob (v := .ref (T.C 27)) (by rfl) T.g_BadLots rfl) pa_nil)))) pe_str pe_str) pa_nil)))
      (pss_cut (ps_expr (pe_bm PySem.F.plainAttrs_list PySem.F.slot_list_append PySem.F.type_list_append mt_append (pv 1) (pa_cons (pe_ifExp (pt_val (pe_callB (show CallR _ _ (rIsX K) from call_isX) (by rfl) T.b_isinstance PyProof.Rows.boot_isinstance (pa_cons (pv 0) (pa_cons (pe_glob (v := .ref (T.C 28)) (by rfl) T.g_BadMany rfl) pa_nil)))) pe_str pe_str) pa_nil)))
      (pss_cut (ps_expr (pe_bm PySem.F.plainAttrs_list PySem.F.slot_list_append PySem.F.type_list_append mt_append (pv 1) (pa_cons (pe_ifExp (pt_val (pe_callB (show CallR _ _ (rIsX K) from call_isX) (by rfl) T.b_isinstance PyProof.Rows.boot_isinstance (pa_cons (pv 0) (pa_cons (pe_glob (v := .ref (T.C 29)) (by rfl) T.g_BadMemory rfl) pa_nil)))) pe_str pe_str) pa_nil)))
      (pss_cut (ps_expr (pe_bm PySem.F.plainAttrs_list PySem.F.slot_list_append PySem.F.type_list_append mt_append (pv 1) (pa_cons (pe_ifExp (pt_val (pe_callB (show CallR _ _ (rIsX K) from call_isX) (by rfl) T.b_isinstance PyProof.Rows.boot_isinstance (pa_cons (pv 0) (pa_cons (pe_glob (v := .ref (T.C 30)) (by rfl) T.g_BadMode rfl) pa_nil)))) pe_str pe_str) pa_nil)))
      (pss_cut (ps_expr (pe_bm PySem.F.plainAttrs_list PySem.F.slot_list_append PySem.F.type_list_append mt_append (pv 1) (pa_cons (pe_ifExp (pt_val (pe_callB (show CallR _ _ (rIsX K) from call_isX) (by rfl) T.b_isinstance PyProof.Rows.boot_isinstance (pa_cons (pv 0) (pa_cons (pe_glob (v := .ref (T.C 31)) (by rfl) T.g_BadMost rfl) pa_nil)))) pe_str pe_str) pa_nil)))
      (pss_cut (ps_expr (pe_bm PySem.F.plainAttrs_list PySem.F.slot_list_append PySem.F.type_list_append mt_append (pv 1) (pa_cons (pe_ifExp (pt_val (pe_callB (show CallR _ _ (rIsX K) from call_isX) (by rfl) T.b_isinstance PyProof.Rows.boot_isinstance (pa_cons (pv 0) (pa_cons (pe_glob (v := .ref (T.C 32)) (by rfl) T.g_BadNumber rfl) pa_nil)))) pe_str pe_str) pa_nil)))
      (pss_cut (ps_expr (pe_bm PySem.F.plainAttrs_list PySem.F.slot_list_append PySem.F.type_list_append mt_append (pv 1) (pa_cons (pe_ifExp (pt_val (pe_callB (show CallR _ _ (rIsX K) from call_isX) (by rfl) T.b_isinstance PyProof.Rows.boot_isinstance (pa_cons (pv 0) (pa_cons (pe_glob (v := .ref (T.C 33)) (by rfl) T.g_BadOrder rfl) pa_nil)))) pe_str pe_str) pa_nil)))
      (pss_cut (ps_expr (pe_bm PySem.F.plainAttrs_list PySem.F.slot_list_append PySem.F.type_list_append mt_append (pv 1) (pa_cons (pe_ifExp (pt_val (pe_callB (show CallR _ _ (rIsX K) from call_isX) (by rfl) T.b_isinstance PyProof.Rows.boot_isinstance (pa_cons (pv 0) (pa_cons (pe_glob (v := .ref (T.C 34)) (by rfl) T.g_BadOther rfl) pa_nil)))) pe_str pe_str) pa_nil)))
      (pss_cut (ps_expr (pe_bm PySem.F.plainAttrs_list PySem.F.slot_list_append PySem.F.type_list_append mt_append (pv 1) (pa_cons (pe_ifExp (pt_val (pe_callB (show CallR _ _ (rIsX K) from call_isX) (by rfl) T.b_isinstance PyProof.Rows.boot_isinstance (pa_cons (pv 0) (pa_cons (pe_glob (v := .ref (T.C 35)) (by rfl) T.g_BadPlace rfl) pa_nil)))) pe_str pe_str) pa_nil)))
      (pss_one (ps_ret (pe_lc (own := [("each", 2)]) (g := gName 2) rfl sc__law_kinds_b.nd (pi_list (pv 1)) (blkOk_by (own := [("each", 2)]) (N := ["caught", "found", "each"]) (sc := defScope s__law_kinds_b) (by decide +kernel)) (fun _ _ _ _ _ => pg_name (i := 2) sc__law_kinds_b.nd rfl (Or.inl rfl)) (fun _ _ _ _ _ => pts_one (pt_cmpR op_ne (pv 2) pe_str (nomark _))) (fun _ _ _ _ _ => pv 2)))))))))))))))))))))), ?_⟩
    refine ⟨fun σ' H' => ∃ fa, σ' = [some (.ref a), some (.ref fa), none] ∧ H fa = none ∧ Kd T.C H a fa n 0 is_b H', ⟨(by decide), fun fa hfa => ⟨fa, rfl, hfa, ek.same (Same.new hfa), upd_same, Same.new hfa⟩⟩, ?_⟩
    rintro σ H1 ⟨fa, rfl, hfa, B⟩
    refine ⟨fun σ' H' => σ' = [some (.ref a), some (.ref fa), none] ∧ Kd T.C H a fa n 1 is_b H', ?_, ?_⟩
    · refine ⟨_, rfl, .inl ⟨rfl, _, SqL.of B.l⟩, _, rfl, a, T.C n, _, _, _, rfl, B.k, T.x n hn, .own _, T.kit n 18 hn (by decide), _, rfl, ?_⟩
      have st := B.step (q := (18, "BadHurt")) hfa rfl
      unfold nm at st
      by_cases c : n = 18
      · rw [decide_eq_true c]
        rw [if_pos (show n = (18, ("BadHurt" : Str)).1 from c)] at st
        exact iteT ⟨fa, _, _, rfl, rfl, B.l, B.sz (by decide), rfl, st⟩
      · rw [decide_eq_false c]
        rw [if_neg (show ¬n = (18, ("BadHurt" : Str)).1 from c)] at st
        exact iteF ⟨fa, _, _, rfl, rfl, B.l, B.sz (by decide), rfl, st⟩
    clear B
    rintro σ H1 ⟨rfl, B⟩
    refine ⟨fun σ' H' => σ' = [some (.ref a), some (.ref fa), none] ∧ Kd T.C H a fa n 2 is_b H', ?_, ?_⟩
    · refine ⟨_, rfl, .inl ⟨rfl, _, SqL.of B.l⟩, _, rfl, a, T.C n, _, _, _, rfl, B.k, T.x n hn, .own _, T.kit n 19 hn (by decide), _, rfl, ?_⟩
      have st := B.step (q := (19, "BadIndex")) hfa rfl
      unfold nm at st
      by_cases c : n = 19
      · rw [decide_eq_true c]
        rw [if_pos (show n = (19, ("BadIndex" : Str)).1 from c)] at st
        exact iteT ⟨fa, _, _, rfl, rfl, B.l, B.sz (by decide), rfl, st⟩
      · rw [decide_eq_false c]
        rw [if_neg (show ¬n = (19, ("BadIndex" : Str)).1 from c)] at st
        exact iteF ⟨fa, _, _, rfl, rfl, B.l, B.sz (by decide), rfl, st⟩
    clear B
    rintro σ H1 ⟨rfl, B⟩
    refine ⟨fun σ' H' => σ' = [some (.ref a), some (.ref fa), none] ∧ Kd T.C H a fa n 3 is_b H', ?_, ?_⟩
    · refine ⟨_, rfl, .inl ⟨rfl, _, SqL.of B.l⟩, _, rfl, a, T.C n, _, _, _, rfl, B.k, T.x n hn, .own _, T.kit n 20 hn (by decide), _, rfl, ?_⟩
      have st := B.step (q := (20, "BadItem")) hfa rfl
      unfold nm at st
      by_cases c : n = 20
      · rw [decide_eq_true c]
        rw [if_pos (show n = (20, ("BadItem" : Str)).1 from c)] at st
        exact iteT ⟨fa, _, _, rfl, rfl, B.l, B.sz (by decide), rfl, st⟩
      · rw [decide_eq_false c]
        rw [if_neg (show ¬n = (20, ("BadItem" : Str)).1 from c)] at st
        exact iteF ⟨fa, _, _, rfl, rfl, B.l, B.sz (by decide), rfl, st⟩
    clear B
    rintro σ H1 ⟨rfl, B⟩
    refine ⟨fun σ' H' => σ' = [some (.ref a), some (.ref fa), none] ∧ Kd T.C H a fa n 4 is_b H', ?_, ?_⟩
    · refine ⟨_, rfl, .inl ⟨rfl, _, SqL.of B.l⟩, _, rfl, a, T.C n, _, _, _, rfl, B.k, T.x n hn, .own _, T.kit n 21 hn (by decide), _, rfl, ?_⟩
      have st := B.step (q := (21, "BadJobs")) hfa rfl
      unfold nm at st
      by_cases c : n = 21
      · rw [decide_eq_true c]
        rw [if_pos (show n = (21, ("BadJobs" : Str)).1 from c)] at st
        exact iteT ⟨fa, _, _, rfl, rfl, B.l, B.sz (by decide), rfl, st⟩
      · rw [decide_eq_false c]
        rw [if_neg (show ¬n = (21, ("BadJobs" : Str)).1 from c)] at st
        exact iteF ⟨fa, _, _, rfl, rfl, B.l, B.sz (by decide), rfl, st⟩
    clear B
    rintro σ H1 ⟨rfl, B⟩
    refine ⟨fun σ' H' => σ' = [some (.ref a), some (.ref fa), none] ∧ Kd T.C H a fa n 5 is_b H', ?_, ?_⟩
    · refine ⟨_, rfl, .inl ⟨rfl, _, SqL.of B.l⟩, _, rfl, a, T.C n, _, _, _, rfl, B.k, T.x n hn, .own _, T.kit n 22 hn (by decide), _, rfl, ?_⟩
      have st := B.step (q := (22, "BadKind")) hfa rfl
      unfold nm at st
      by_cases c : n = 22
      · rw [decide_eq_true c]
        rw [if_pos (show n = (22, ("BadKind" : Str)).1 from c)] at st
        exact iteT ⟨fa, _, _, rfl, rfl, B.l, B.sz (by decide), rfl, st⟩
      · rw [decide_eq_false c]
        rw [if_neg (show ¬n = (22, ("BadKind" : Str)).1 from c)] at st
        exact iteF ⟨fa, _, _, rfl, rfl, B.l, B.sz (by decide), rfl, st⟩
    clear B
    rintro σ H1 ⟨rfl, B⟩
    refine ⟨fun σ' H' => σ' = [some (.ref a), some (.ref fa), none] ∧ Kd T.C H a fa n 6 is_b H', ?_, ?_⟩
    · refine ⟨_, rfl, .inl ⟨rfl, _, SqL.of B.l⟩, _, rfl, a, T.C n, _, _, _, rfl, B.k, T.x n hn, .own _, T.kit n 23 hn (by decide), _, rfl, ?_⟩
      have st := B.step (q := (23, "BadLeast")) hfa rfl
      unfold nm at st
      by_cases c : n = 23
      · rw [decide_eq_true c]
        rw [if_pos (show n = (23, ("BadLeast" : Str)).1 from c)] at st
        exact iteT ⟨fa, _, _, rfl, rfl, B.l, B.sz (by decide), rfl, st⟩
      · rw [decide_eq_false c]
        rw [if_neg (show ¬n = (23, ("BadLeast" : Str)).1 from c)] at st
        exact iteF ⟨fa, _, _, rfl, rfl, B.l, B.sz (by decide), rfl, st⟩
    clear B
    rintro σ H1 ⟨rfl, B⟩
    refine ⟨fun σ' H' => σ' = [some (.ref a), some (.ref fa), none] ∧ Kd T.C H a fa n 7 is_b H', ?_, ?_⟩
    · refine ⟨_, rfl, .inl ⟨rfl, _, SqL.of B.l⟩, _, rfl, a, T.C n, _, _, _, rfl, B.k, T.x n hn, .own _, T.kit n 24 hn (by decide), _, rfl, ?_⟩
      have st := B.step (q := (24, "BadLoss")) hfa rfl
      unfold nm at st
      by_cases c : n = 24
      · rw [decide_eq_true c]
        rw [if_pos (show n = (24, ("BadLoss" : Str)).1 from c)] at st
        exact iteT ⟨fa, _, _, rfl, rfl, B.l, B.sz (by decide), rfl, st⟩
      · rw [decide_eq_false c]
        rw [if_neg (show ¬n = (24, ("BadLoss" : Str)).1 from c)] at st
        exact iteF ⟨fa, _, _, rfl, rfl, B.l, B.sz (by decide), rfl, st⟩
    clear B
    rintro σ H1 ⟨rfl, B⟩
    refine ⟨fun σ' H' => σ' = [some (.ref a), some (.ref fa), none] ∧ Kd T.C H a fa n 8 is_b H', ?_, ?_⟩
    · refine ⟨_, rfl, .inl ⟨rfl, _, SqL.of B.l⟩, _, rfl, a, T.C n, _, _, _, rfl, B.k, T.x n hn, .own _, T.kit n 25 hn (by decide), _, rfl, ?_⟩
      have st := B.step (q := (25, "BadLosses")) hfa rfl
      unfold nm at st
      by_cases c : n = 25
      · rw [decide_eq_true c]
        rw [if_pos (show n = (25, ("BadLosses" : Str)).1 from c)] at st
        exact iteT ⟨fa, _, _, rfl, rfl, B.l, B.sz (by decide), rfl, st⟩
      · rw [decide_eq_false c]
        rw [if_neg (show ¬n = (25, ("BadLosses" : Str)).1 from c)] at st
        exact iteF ⟨fa, _, _, rfl, rfl, B.l, B.sz (by decide), rfl, st⟩
    clear B
    rintro σ H1 ⟨rfl, B⟩
    refine ⟨fun σ' H' => σ' = [some (.ref a), some (.ref fa), none] ∧ Kd T.C H a fa n 9 is_b H', ?_, ?_⟩
    · refine ⟨_, rfl, .inl ⟨rfl, _, SqL.of B.l⟩, _, rfl, a, T.C n, _, _, _, rfl, B.k, T.x n hn, .own _, T.kit n 26 hn (by decide), _, rfl, ?_⟩
      have st := B.step (q := (26, "BadLot")) hfa rfl
      unfold nm at st
      by_cases c : n = 26
      · rw [decide_eq_true c]
        rw [if_pos (show n = (26, ("BadLot" : Str)).1 from c)] at st
        exact iteT ⟨fa, _, _, rfl, rfl, B.l, B.sz (by decide), rfl, st⟩
      · rw [decide_eq_false c]
        rw [if_neg (show ¬n = (26, ("BadLot" : Str)).1 from c)] at st
        exact iteF ⟨fa, _, _, rfl, rfl, B.l, B.sz (by decide), rfl, st⟩
    clear B
    rintro σ H1 ⟨rfl, B⟩
    refine ⟨fun σ' H' => σ' = [some (.ref a), some (.ref fa), none] ∧ Kd T.C H a fa n 10 is_b H', ?_, ?_⟩
    · refine ⟨_, rfl, .inl ⟨rfl, _, SqL.of B.l⟩, _, rfl, a, T.C n, _, _, _, rfl, B.k, T.x n hn, .own _, T.kit n 27 hn (by decide), _, rfl, ?_⟩
      have st := B.step (q := (27, "BadLots")) hfa rfl
      unfold nm at st
      by_cases c : n = 27
      · rw [decide_eq_true c]
        rw [if_pos (show n = (27, ("BadLots" : Str)).1 from c)] at st
        exact iteT ⟨fa, _, _, rfl, rfl, B.l, B.sz (by decide), rfl, st⟩
      · rw [decide_eq_false c]
        rw [if_neg (show ¬n = (27, ("BadLots" : Str)).1 from c)] at st
        exact iteF ⟨fa, _, _, rfl, rfl, B.l, B.sz (by decide), rfl, st⟩
    clear B
    rintro σ H1 ⟨rfl, B⟩
    refine ⟨fun σ' H' => σ' = [some (.ref a), some (.ref fa), none] ∧ Kd T.C H a fa n 11 is_b H', ?_, ?_⟩
    · refine ⟨_, rfl, .inl ⟨rfl, _, SqL.of B.l⟩, _, rfl, a, T.C n, _, _, _, rfl, B.k, T.x n hn, .own _, T.kit n 28 hn (by decide), _, rfl, ?_⟩
      have st := B.step (q := (28, "BadMany")) hfa rfl
      unfold nm at st
      by_cases c : n = 28
      · rw [decide_eq_true c]
        rw [if_pos (show n = (28, ("BadMany" : Str)).1 from c)] at st
        exact iteT ⟨fa, _, _, rfl, rfl, B.l, B.sz (by decide), rfl, st⟩
      · rw [decide_eq_false c]
        rw [if_neg (show ¬n = (28, ("BadMany" : Str)).1 from c)] at st
        exact iteF ⟨fa, _, _, rfl, rfl, B.l, B.sz (by decide), rfl, st⟩
    clear B
    rintro σ H1 ⟨rfl, B⟩
    refine ⟨fun σ' H' => σ' = [some (.ref a), some (.ref fa), none] ∧ Kd T.C H a fa n 12 is_b H', ?_, ?_⟩
    · refine ⟨_, rfl, .inl ⟨rfl, _, SqL.of B.l⟩, _, rfl, a, T.C n, _, _, _, rfl, B.k, T.x n hn, .own _, T.kit n 29 hn (by decide), _, rfl, ?_⟩
      have st := B.step (q := (29, "BadMemory")) hfa rfl
      unfold nm at st
      by_cases c : n = 29
      · rw [decide_eq_true c]
        rw [if_pos (show n = (29, ("BadMemory" : Str)).1 from c)] at st
        exact iteT ⟨fa, _, _, rfl, rfl, B.l, B.sz (by decide), rfl, st⟩
      · rw [decide_eq_false c]
        rw [if_neg (show ¬n = (29, ("BadMemory" : Str)).1 from c)] at st
        exact iteF ⟨fa, _, _, rfl, rfl, B.l, B.sz (by decide), rfl, st⟩
    clear B
    rintro σ H1 ⟨rfl, B⟩
    refine ⟨fun σ' H' => σ' = [some (.ref a), some (.ref fa), none] ∧ Kd T.C H a fa n 13 is_b H', ?_, ?_⟩
    · refine ⟨_, rfl, .inl ⟨rfl, _, SqL.of B.l⟩, _, rfl, a, T.C n, _, _, _, rfl, B.k, T.x n hn, .own _, T.kit n 30 hn (by decide), _, rfl, ?_⟩
      have st := B.step (q := (30, "BadMode")) hfa rfl
      unfold nm at st
      by_cases c : n = 30
      · rw [decide_eq_true c]
        rw [if_pos (show n = (30, ("BadMode" : Str)).1 from c)] at st
        exact iteT ⟨fa, _, _, rfl, rfl, B.l, B.sz (by decide), rfl, st⟩
      · rw [decide_eq_false c]
        rw [if_neg (show ¬n = (30, ("BadMode" : Str)).1 from c)] at st
        exact iteF ⟨fa, _, _, rfl, rfl, B.l, B.sz (by decide), rfl, st⟩
    clear B
    rintro σ H1 ⟨rfl, B⟩
    refine ⟨fun σ' H' => σ' = [some (.ref a), some (.ref fa), none] ∧ Kd T.C H a fa n 14 is_b H', ?_, ?_⟩
    · refine ⟨_, rfl, .inl ⟨rfl, _, SqL.of B.l⟩, _, rfl, a, T.C n, _, _, _, rfl, B.k, T.x n hn, .own _, T.kit n 31 hn (by decide), _, rfl, ?_⟩
      have st := B.step (q := (31, "BadMost")) hfa rfl
      unfold nm at st
      by_cases c : n = 31
      · rw [decide_eq_true c]
        rw [if_pos (show n = (31, ("BadMost" : Str)).1 from c)] at st
        exact iteT ⟨fa, _, _, rfl, rfl, B.l, B.sz (by decide), rfl, st⟩
      · rw [decide_eq_false c]
        rw [if_neg (show ¬n = (31, ("BadMost" : Str)).1 from c)] at st
        exact iteF ⟨fa, _, _, rfl, rfl, B.l, B.sz (by decide), rfl, st⟩
    clear B
    rintro σ H1 ⟨rfl, B⟩
    refine ⟨fun σ' H' => σ' = [some (.ref a), some (.ref fa), none] ∧ Kd T.C H a fa n 15 is_b H', ?_, ?_⟩
    · refine ⟨_, rfl, .inl ⟨rfl, _, SqL.of B.l⟩, _, rfl, a, T.C n, _, _, _, rfl, B.k, T.x n hn, .own _, T.kit n 32 hn (by decide), _, rfl, ?_⟩
      have st := B.step (q := (32, "BadNumber")) hfa rfl
      unfold nm at st
      by_cases c : n = 32
      · rw [decide_eq_true c]
        rw [if_pos (show n = (32, ("BadNumber" : Str)).1 from c)] at st
        exact iteT ⟨fa, _, _, rfl, rfl, B.l, B.sz (by decide), rfl, st⟩
      · rw [decide_eq_false c]
        rw [if_neg (show ¬n = (32, ("BadNumber" : Str)).1 from c)] at st
        exact iteF ⟨fa, _, _, rfl, rfl, B.l, B.sz (by decide), rfl, st⟩
    clear B
    rintro σ H1 ⟨rfl, B⟩
    refine ⟨fun σ' H' => σ' = [some (.ref a), some (.ref fa), none] ∧ Kd T.C H a fa n 16 is_b H', ?_, ?_⟩
    · refine ⟨_, rfl, .inl ⟨rfl, _, SqL.of B.l⟩, _, rfl, a, T.C n, _, _, _, rfl, B.k, T.x n hn, .own _, T.kit n 33 hn (by decide), _, rfl, ?_⟩
      have st := B.step (q := (33, "BadOrder")) hfa rfl
      unfold nm at st
      by_cases c : n = 33
      · rw [decide_eq_true c]
        rw [if_pos (show n = (33, ("BadOrder" : Str)).1 from c)] at st
        exact iteT ⟨fa, _, _, rfl, rfl, B.l, B.sz (by decide), rfl, st⟩
      · rw [decide_eq_false c]
        rw [if_neg (show ¬n = (33, ("BadOrder" : Str)).1 from c)] at st
        exact iteF ⟨fa, _, _, rfl, rfl, B.l, B.sz (by decide), rfl, st⟩
    clear B
    rintro σ H1 ⟨rfl, B⟩
    refine ⟨fun σ' H' => σ' = [some (.ref a), some (.ref fa), none] ∧ Kd T.C H a fa n 17 is_b H', ?_, ?_⟩
    · refine ⟨_, rfl, .inl ⟨rfl, _, SqL.of B.l⟩, _, rfl, a, T.C n, _, _, _, rfl, B.k, T.x n hn, .own _, T.kit n 34 hn (by decide), _, rfl, ?_⟩
      have st := B.step (q := (34, "BadOther")) hfa rfl
      unfold nm at st
      by_cases c : n = 34
      · rw [decide_eq_true c]
        rw [if_pos (show n = (34, ("BadOther" : Str)).1 from c)] at st
        exact iteT ⟨fa, _, _, rfl, rfl, B.l, B.sz (by decide), rfl, st⟩
      · rw [decide_eq_false c]
        rw [if_neg (show ¬n = (34, ("BadOther" : Str)).1 from c)] at st
        exact iteF ⟨fa, _, _, rfl, rfl, B.l, B.sz (by decide), rfl, st⟩
    clear B
    rintro σ H1 ⟨rfl, B⟩
    refine ⟨fun σ' H' => σ' = [some (.ref a), some (.ref fa), none] ∧ Kd T.C H a fa n 18 is_b H', ?_, ?_⟩
    · refine ⟨_, rfl, .inl ⟨rfl, _, SqL.of B.l⟩, _, rfl, a, T.C n, _, _, _, rfl, B.k, T.x n hn, .own _, T.kit n 35 hn (by decide), _, rfl, ?_⟩
      have st := B.step (q := (35, "BadPlace")) hfa rfl
      unfold nm at st
      by_cases c : n = 35
      · rw [decide_eq_true c]
        rw [if_pos (show n = (35, ("BadPlace" : Str)).1 from c)] at st
        exact iteT ⟨fa, _, _, rfl, rfl, B.l, B.sz (by decide), rfl, st⟩
      · rw [decide_eq_false c]
        rw [if_neg (show ¬n = (35, ("BadPlace" : Str)).1 from c)] at st
        exact iteF ⟨fa, _, _, rfl, rfl, B.l, B.sz (by decide), rfl, st⟩
    clear B
    rintro σ H1 ⟨rfl, B⟩
    have hl : H1 fa = some (.lst ((is_b.map (nm n)).map V.str)) := B.l
    have sm := B.s
    clear B
    exact kinds_end (is := is_b) (by decide) hl sm hfa k
def is_c : List (Nat × Str) := [(36, "BadPlan"), (37, "BadPlane"), (38, "BadPlanes"), (39, "BadPrice"), (40, "BadRate"), (41, "BadReach"), (42, "BadRectangle"), (43, "BadReel"), (44, "BadReferences"), (45, "BadRenewals"), (46, "BadRoom"), (47, "BadRow"), (48, "BadSet"), (49, "BadShape"), (50, "BadShares"), (51, "BadShift"), (52, "BadShows"), (53, "BadSize")]
theorem ok__law_kinds_c : FnOk P w K mg base (L2.CX P w) 1 T._law_kinds_c.a T._law_kinds_c.d ["caught"] (spKinds T.C is_c) := by
  refine T._law_kinds_c.f.okX sc__law_kinds_c (fun vs H Q E h => ?_) (fun cdv A outer s H vs Q E hr h => ?_)
  · obtain ⟨a, n, rfl, _⟩ := h
    rfl
  · obtain ⟨a, n, rfl, hn, ek, k⟩ := h
    refine ⟨_, pss_cut (ps_set (i := 1) sc__law_kinds_c.nd rfl (.inl rfl) (pe_lst pa_nil))
      (pss_cut (ps_expr (pe_bm PySem.F.plainAttrs_list PySem.F.slot_list_append PySem.F.type_list_append mt_append (pv 1) (pa_cons (pe_ifExp (pt_val (pe_callB (show CallR _ _ (rIsX K) from call_isX) (by rfl) T.b_isinstance PyProof.Rows.boot_isinstance (pa_cons (pv 0) (pa_cons (pe_glob (v := .ref (T.C 36)) (by rfl) T.g_BadPlan rfl) pa_nil)))) pe_str pe_str) pa_nil)))
      (pss_cut (ps_expr (pe_bm PySem.F.plainAttrs_list PySem.F.slot_list_append PySem.F.type_list_append mt_append (pv 1) (pa_cons (pe_ifExp (pt_val (pe_callB (show CallR _ _ (rIsX K) from call_isX) (by rfl) T.b_isinstance PyProof.Rows.boot_isinstance (pa_cons (pv 0) (pa_cons (pe_glob (v := .ref (T.C 37)) (by rfl) T.g_BadPlane rfl) pa_nil)))) pe_str pe_str) pa_nil)))
      (pss_cut (ps_expr (pe_bm PySem.F.plainAttrs_list PySem.F.slot_list_append PySem.F.type_list_append mt_append (pv 1) (pa_cons (pe_ifExp (pt_val (pe_callB (show CallR _ _ (rIsX K) from call_isX) (by rfl) T.b_isinstance PyProof.Rows.boot_isinstance (pa_cons (pv 0) (pa_cons (pe_glob (v := .ref (T.C 38)) (by rfl) T.g_BadPlanes rfl) pa_nil)))) pe_str pe_str) pa_nil)))
      (pss_cut (ps_expr (pe_bm PySem.F.plainAttrs_list PySem.F.slot_list_append PySem.F.type_list_append mt_append (pv 1) (pa_cons (pe_ifExp (pt_val (pe_callB (show CallR _ _ (rIsX K) from call_isX) (by rfl) T.b_isinstance PyProof.Rows.boot_isinstance (pa_cons (pv 0) (pa_cons (pe_glob (v := .ref (T.C 39)) (by rfl) T.g_BadPrice rfl) pa_nil)))) pe_str pe_str) pa_nil)))
      (pss_cut (ps_expr (pe_bm PySem.F.plainAttrs_list PySem.F.slot_list_append PySem.F.type_list_append mt_append (pv 1) (pa_cons (pe_ifExp (pt_val (pe_callB (show CallR _ _ (rIsX K) from call_isX) (by rfl) T.b_isinstance PyProof.Rows.boot_isinstance (pa_cons (pv 0) (pa_cons (pe_glob (v := .ref (T.C 40)) (by rfl) T.g_BadRate rfl) pa_nil)))) pe_str pe_str) pa_nil)))
      (pss_cut (ps_expr (pe_bm PySem.F.plainAttrs_list PySem.F.slot_list_append PySem.F.type_list_append mt_append (pv 1) (pa_cons (pe_ifExp (pt_val (pe_callB (show CallR _ _ (rIsX K) from call_isX) (by rfl) T.b_isinstance PyProof.Rows.boot_isinstance (pa_cons (pv 0) (pa_cons (pe_glob (v := .ref (T.C 41)) (by rfl) T.g_BadReach rfl) pa_nil)))) pe_str pe_str) pa_nil)))
      (pss_cut (ps_expr (pe_bm PySem.F.plainAttrs_list PySem.F.slot_list_append PySem.F.type_list_append mt_append (pv 1) (pa_cons (pe_ifExp (pt_val (pe_callB (show CallR _ _ (rIsX K) from call_isX) (by rfl) T.b_isinstance PyProof.Rows.boot_isinstance (pa_cons (pv 0) (pa_cons (pe_glob (v := .ref (T.C 42)) (by rfl) T.g_BadRectangle rfl) pa_nil)))) pe_str pe_str) pa_nil)))
      (pss_cut (ps_expr (pe_bm PySem.F.plainAttrs_list PySem.F.slot_list_append PySem.F.type_list_append mt_append (pv 1) (pa_cons (pe_ifExp (pt_val (pe_callB (show CallR _ _ (rIsX K) from call_isX) (by rfl) T.b_isinstance PyProof.Rows.boot_isinstance (pa_cons (pv 0) (pa_cons (pe_glob (v := .ref (T.C 43)) (by rfl) T.g_BadReel rfl) pa_nil)))) pe_str pe_str) pa_nil)))
      (pss_cut (ps_expr (pe_bm PySem.F.plainAttrs_list PySem.F.slot_list_append PySem.F.type_list_append mt_append (pv 1) (pa_cons (pe_ifExp (pt_val (pe_callB (show CallR _ _ (rIsX K) from call_isX) (by rfl) T.b_isinstance PyProof.Rows.boot_isinstance (pa_cons (pv 0) (pa_cons (pe_glob (v := .ref (T.C 44)) (by rfl) T.g_BadReferences rfl) pa_nil)))) pe_str pe_str) pa_nil)))
      (pss_cut (ps_expr (pe_bm PySem.F.plainAttrs_list PySem.F.slot_list_append PySem.F.type_list_append mt_append (pv 1) (pa_cons (pe_ifExp (pt_val (pe_callB (show CallR _ _ (rIsX K) from call_isX) (by rfl) T.b_isinstance PyProof.Rows.boot_isinstance (pa_cons (pv 0) (pa_cons (pe_glob (v := .ref (T.C 45)) (by rfl) T.g_BadRenewals rfl) pa_nil)))) pe_str pe_str) pa_nil)))
      (pss_cut (ps_expr (pe_bm PySem.F.plainAttrs_list PySem.F.slot_list_append PySem.F.type_list_append mt_append (pv 1) (pa_cons (pe_ifExp (pt_val (pe_callB (show CallR _ _ (rIsX K) from call_isX) (by rfl) T.b_isinstance PyProof.Rows.boot_isinstance (pa_cons (pv 0) (pa_cons (pe_glob (v := .ref (T.C 46)) (by rfl) T.g_BadRoom rfl) pa_nil)))) pe_str pe_str) pa_nil)))
      (pss_cut (ps_expr (pe_bm PySem.F.plainAttrs_list PySem.F.slot_list_append PySem.F.type_list_append mt_append (pv 1) (pa_cons (pe_ifExp (pt_val (pe_callB (show CallR _ _ (rIsX K) from call_isX) (by rfl) T.b_isinstance PyProof.Rows.boot_isinstance (pa_cons (pv 0) (pa_cons (pe_glob (v := .ref (T.C 47)) (by rfl) T.g_BadRow rfl) pa_nil)))) pe_str pe_str) pa_nil)))
      (pss_cut (ps_expr (pe_bm PySem.F.plainAttrs_list PySem.F.slot_list_append PySem.F.type_list_append mt_append (pv 1) (pa_cons (pe_ifExp (pt_val (pe_callB (show CallR _ _ (rIsX K) from call_isX) (by rfl) T.b_isinstance PyProof.Rows.boot_isinstance (pa_cons (pv 0) (pa_cons (pe_glob (v := .ref (T.C 48)) (by rfl) T.g_BadSet rfl) pa_nil)))) pe_str pe_str) pa_nil)))
      (pss_cut (ps_expr (pe_bm PySem.F.plainAttrs_list PySem.F.slot_list_append PySem.F.type_list_append mt_append (pv 1) (pa_cons (pe_ifExp (pt_val (pe_callB (show CallR _ _ (rIsX K) from call_isX) (by rfl) T.b_isinstance PyProof.Rows.boot_isinstance (pa_cons (pv 0) (pa_cons (pe_glob (v := .ref (T.C 49)) (by rfl) T.g_BadShape rfl) pa_nil)))) pe_str pe_str) pa_nil)))
      (pss_cut (ps_expr (pe_bm PySem.F.plainAttrs_list PySem.F.slot_list_append PySem.F.type_list_append mt_append (pv 1) (pa_cons (pe_ifExp (pt_val (pe_callB (show CallR _ _ (rIsX K) from call_isX) (by rfl) T.b_isinstance PyProof.Rows.boot_isinstance (pa_cons (pv 0) (pa_cons (pe_glob (v := .ref (T.C 50)) (by rfl) T.g_BadShares rfl) pa_nil)))) pe_str pe_str) pa_nil)))
      (pss_cut (ps_expr (pe_bm PySem.F.plainAttrs_list PySem.F.slot_list_append PySem.F.type_list_append mt_append (pv 1) (pa_cons (pe_ifExp (pt_val (pe_callB (show CallR _ _ (rIsX K) from call_isX) (by rfl) T.b_isinstance PyProof.Rows.boot_isinstance (pa_cons (pv 0) (pa_cons (pe_glob (v := .ref (T.C 51)) (by rfl) T.g_BadShift rfl) pa_nil)))) pe_str pe_str) pa_nil)))
      (pss_cut (ps_expr (pe_bm PySem.F.plainAttrs_list PySem.F.slot_list_append PySem.F.type_list_append mt_append (pv 1) (pa_cons (pe_ifExp (pt_val (pe_callB (show CallR _ _ (rIsX K) from call_isX) (by rfl) T.b_isinstance PyProof.Rows.boot_isinstance (pa_cons (pv 0) (pa_cons (pe_glob (v := .ref (T.C 52)) (by rfl) T.g_BadShows rfl) pa_nil)))) pe_str pe_str) pa_nil)))
      (pss_cut (ps_expr (pe_bm PySem.F.plainAttrs_list PySem.F.slot_list_append PySem.F.type_list_append mt_append (pv 1) (pa_cons (pe_ifExp (pt_val (pe_callB (show CallR _ _ (rIsX K) from call_isX) (by rfl) T.b_isinstance PyProof.Rows.boot_isinstance (pa_cons (pv 0) (pa_cons (pe_glob (v := .ref (T.C 53)) (by rfl) T.g_BadSize rfl) pa_nil)))) pe_str pe_str) pa_nil)))
      (pss_one (ps_ret (pe_lc (own := [("each", 2)]) (g := gName 2) rfl sc__law_kinds_c.nd (pi_list (pv 1)) (blkOk_by (own := [("each", 2)]) (N := ["caught", "found", "each"]) (sc := defScope s__law_kinds_c) (by decide +kernel)) (fun _ _ _ _ _ => pg_name (i := 2) sc__law_kinds_c.nd rfl (Or.inl rfl)) (fun _ _ _ _ _ => pts_one (pt_cmpR op_ne (pv 2) pe_str (nomark _))) (fun _ _ _ _ _ => pv 2)))))))))))))))))))))), ?_⟩
    refine ⟨fun σ' H' => ∃ fa, σ' = [some (.ref a), some (.ref fa), none] ∧ H fa = none ∧ Kd T.C H a fa n 0 is_c H', ⟨(by decide), fun fa hfa => ⟨fa, rfl, hfa, ek.same (Same.new hfa), upd_same, Same.new hfa⟩⟩, ?_⟩
    rintro σ H1 ⟨fa, rfl, hfa, B⟩
    refine ⟨fun σ' H' => σ' = [some (.ref a), some (.ref fa), none] ∧ Kd T.C H a fa n 1 is_c H', ?_, ?_⟩
    · refine ⟨_, rfl, .inl ⟨rfl, _, SqL.of B.l⟩, _, rfl, a, T.C n, _, _, _, rfl, B.k, T.x n hn, .own _, T.kit n 36 hn (by decide), _, rfl, ?_⟩
      have st := B.step (q := (36, "BadPlan")) hfa rfl
      unfold nm at st
      by_cases c : n = 36
      · rw [decide_eq_true c]
        rw [if_pos (show n = (36, ("BadPlan" : Str)).1 from c)] at st
        exact iteT ⟨fa, _, _, rfl, rfl, B.l, B.sz (by decide), rfl, st⟩
      · rw [decide_eq_false c]
        rw [if_neg (show ¬n = (36, ("BadPlan" : Str)).1 from c)] at st
        exact iteF ⟨fa, _, _, rfl, rfl, B.l, B.sz (by decide), rfl, st⟩
    clear B
    rintro σ H1 ⟨rfl, B⟩
    refine ⟨fun σ' H' => σ' = [some (.ref a), some (.ref fa), none] ∧ Kd T.C H a fa n 2 is_c H', ?_, ?_⟩
    · refine ⟨_, rfl, .inl ⟨rfl, _, SqL.of B.l⟩, _, rfl, a, T.C n, _, _, _, rfl, B.k, T.x n hn, .own _, T.kit n 37 hn (by decide), _, rfl, ?_⟩
      have st := B.step (q := (37, "BadPlane")) hfa rfl
      unfold nm at st
      by_cases c : n = 37
      · rw [decide_eq_true c]
        rw [if_pos (show n = (37, ("BadPlane" : Str)).1 from c)] at st
        exact iteT ⟨fa, _, _, rfl, rfl, B.l, B.sz (by decide), rfl, st⟩
      · rw [decide_eq_false c]
        rw [if_neg (show ¬n = (37, ("BadPlane" : Str)).1 from c)] at st
        exact iteF ⟨fa, _, _, rfl, rfl, B.l, B.sz (by decide), rfl, st⟩
    clear B
    rintro σ H1 ⟨rfl, B⟩
    refine ⟨fun σ' H' => σ' = [some (.ref a), some (.ref fa), none] ∧ Kd T.C H a fa n 3 is_c H', ?_, ?_⟩
    · refine ⟨_, rfl, .inl ⟨rfl, _, SqL.of B.l⟩, _, rfl, a, T.C n, _, _, _, rfl, B.k, T.x n hn, .own _, T.kit n 38 hn (by decide), _, rfl, ?_⟩
      have st := B.step (q := (38, "BadPlanes")) hfa rfl
      unfold nm at st
      by_cases c : n = 38
      · rw [decide_eq_true c]
        rw [if_pos (show n = (38, ("BadPlanes" : Str)).1 from c)] at st
        exact iteT ⟨fa, _, _, rfl, rfl, B.l, B.sz (by decide), rfl, st⟩
      · rw [decide_eq_false c]
        rw [if_neg (show ¬n = (38, ("BadPlanes" : Str)).1 from c)] at st
        exact iteF ⟨fa, _, _, rfl, rfl, B.l, B.sz (by decide), rfl, st⟩
    clear B
    rintro σ H1 ⟨rfl, B⟩
    refine ⟨fun σ' H' => σ' = [some (.ref a), some (.ref fa), none] ∧ Kd T.C H a fa n 4 is_c H', ?_, ?_⟩
    · refine ⟨_, rfl, .inl ⟨rfl, _, SqL.of B.l⟩, _, rfl, a, T.C n, _, _, _, rfl, B.k, T.x n hn, .own _, T.kit n 39 hn (by decide), _, rfl, ?_⟩
      have st := B.step (q := (39, "BadPrice")) hfa rfl
      unfold nm at st
      by_cases c : n = 39
      · rw [decide_eq_true c]
        rw [if_pos (show n = (39, ("BadPrice" : Str)).1 from c)] at st
        exact iteT ⟨fa, _, _, rfl, rfl, B.l, B.sz (by decide), rfl, st⟩
      · rw [decide_eq_false c]
        rw [if_neg (show ¬n = (39, ("BadPrice" : Str)).1 from c)] at st
        exact iteF ⟨fa, _, _, rfl, rfl, B.l, B.sz (by decide), rfl, st⟩
    clear B
    rintro σ H1 ⟨rfl, B⟩
    refine ⟨fun σ' H' => σ' = [some (.ref a), some (.ref fa), none] ∧ Kd T.C H a fa n 5 is_c H', ?_, ?_⟩
    · refine ⟨_, rfl, .inl ⟨rfl, _, SqL.of B.l⟩, _, rfl, a, T.C n, _, _, _, rfl, B.k, T.x n hn, .own _, T.kit n 40 hn (by decide), _, rfl, ?_⟩
      have st := B.step (q := (40, "BadRate")) hfa rfl
      unfold nm at st
      by_cases c : n = 40
      · rw [decide_eq_true c]
        rw [if_pos (show n = (40, ("BadRate" : Str)).1 from c)] at st
        exact iteT ⟨fa, _, _, rfl, rfl, B.l, B.sz (by decide), rfl, st⟩
      · rw [decide_eq_false c]
        rw [if_neg (show ¬n = (40, ("BadRate" : Str)).1 from c)] at st
        exact iteF ⟨fa, _, _, rfl, rfl, B.l, B.sz (by decide), rfl, st⟩
    clear B
    rintro σ H1 ⟨rfl, B⟩
    refine ⟨fun σ' H' => σ' = [some (.ref a), some (.ref fa), none] ∧ Kd T.C H a fa n 6 is_c H', ?_, ?_⟩
    · refine ⟨_, rfl, .inl ⟨rfl, _, SqL.of B.l⟩, _, rfl, a, T.C n, _, _, _, rfl, B.k, T.x n hn, .own _, T.kit n 41 hn (by decide), _, rfl, ?_⟩
      have st := B.step (q := (41, "BadReach")) hfa rfl
      unfold nm at st
      by_cases c : n = 41
      · rw [decide_eq_true c]
        rw [if_pos (show n = (41, ("BadReach" : Str)).1 from c)] at st
        exact iteT ⟨fa, _, _, rfl, rfl, B.l, B.sz (by decide), rfl, st⟩
      · rw [decide_eq_false c]
        rw [if_neg (show ¬n = (41, ("BadReach" : Str)).1 from c)] at st
        exact iteF ⟨fa, _, _, rfl, rfl, B.l, B.sz (by decide), rfl, st⟩
    clear B
    rintro σ H1 ⟨rfl, B⟩
    refine ⟨fun σ' H' => σ' = [some (.ref a), some (.ref fa), none] ∧ Kd T.C H a fa n 7 is_c H', ?_, ?_⟩
    · refine ⟨_, rfl, .inl ⟨rfl, _, SqL.of B.l⟩, _, rfl, a, T.C n, _, _, _, rfl, B.k, T.x n hn, .own _, T.kit n 42 hn (by decide), _, rfl, ?_⟩
      have st := B.step (q := (42, "BadRectangle")) hfa rfl
      unfold nm at st
      by_cases c : n = 42
      · rw [decide_eq_true c]
        rw [if_pos (show n = (42, ("BadRectangle" : Str)).1 from c)] at st
        exact iteT ⟨fa, _, _, rfl, rfl, B.l, B.sz (by decide), rfl, st⟩
      · rw [decide_eq_false c]
        rw [if_neg (show ¬n = (42, ("BadRectangle" : Str)).1 from c)] at st
        exact iteF ⟨fa, _, _, rfl, rfl, B.l, B.sz (by decide), rfl, st⟩
    clear B
    rintro σ H1 ⟨rfl, B⟩
    refine ⟨fun σ' H' => σ' = [some (.ref a), some (.ref fa), none] ∧ Kd T.C H a fa n 8 is_c H', ?_, ?_⟩
    · refine ⟨_, rfl, .inl ⟨rfl, _, SqL.of B.l⟩, _, rfl, a, T.C n, _, _, _, rfl, B.k, T.x n hn, .own _, T.kit n 43 hn (by decide), _, rfl, ?_⟩
      have st := B.step (q := (43, "BadReel")) hfa rfl
      unfold nm at st
      by_cases c : n = 43
      · rw [decide_eq_true c]
        rw [if_pos (show n = (43, ("BadReel" : Str)).1 from c)] at st
        exact iteT ⟨fa, _, _, rfl, rfl, B.l, B.sz (by decide), rfl, st⟩
      · rw [decide_eq_false c]
        rw [if_neg (show ¬n = (43, ("BadReel" : Str)).1 from c)] at st
        exact iteF ⟨fa, _, _, rfl, rfl, B.l, B.sz (by decide), rfl, st⟩
    clear B
    rintro σ H1 ⟨rfl, B⟩
    refine ⟨fun σ' H' => σ' = [some (.ref a), some (.ref fa), none] ∧ Kd T.C H a fa n 9 is_c H', ?_, ?_⟩
    · refine ⟨_, rfl, .inl ⟨rfl, _, SqL.of B.l⟩, _, rfl, a, T.C n, _, _, _, rfl, B.k, T.x n hn, .own _, T.kit n 44 hn (by decide), _, rfl, ?_⟩
      have st := B.step (q := (44, "BadReferences")) hfa rfl
      unfold nm at st
      by_cases c : n = 44
      · rw [decide_eq_true c]
        rw [if_pos (show n = (44, ("BadReferences" : Str)).1 from c)] at st
        exact iteT ⟨fa, _, _, rfl, rfl, B.l, B.sz (by decide), rfl, st⟩
      · rw [decide_eq_false c]
        rw [if_neg (show ¬n = (44, ("BadReferences" : Str)).1 from c)] at st
        exact iteF ⟨fa, _, _, rfl, rfl, B.l, B.sz (by decide), rfl, st⟩
    clear B
    rintro σ H1 ⟨rfl, B⟩
    refine ⟨fun σ' H' => σ' = [some (.ref a), some (.ref fa), none] ∧ Kd T.C H a fa n 10 is_c H', ?_, ?_⟩
    · refine ⟨_, rfl, .inl ⟨rfl, _, SqL.of B.l⟩, _, rfl, a, T.C n, _, _, _, rfl, B.k, T.x n hn, .own _, T.kit n 45 hn (by decide), _, rfl, ?_⟩
      have st := B.step (q := (45, "BadRenewals")) hfa rfl
      unfold nm at st
      by_cases c : n = 45
      · rw [decide_eq_true c]
        rw [if_pos (show n = (45, ("BadRenewals" : Str)).1 from c)] at st
        exact iteT ⟨fa, _, _, rfl, rfl, B.l, B.sz (by decide), rfl, st⟩
      · rw [decide_eq_false c]
        rw [if_neg (show ¬n = (45, ("BadRenewals" : Str)).1 from c)] at st
        exact iteF ⟨fa, _, _, rfl, rfl, B.l, B.sz (by decide), rfl, st⟩
    clear B
    rintro σ H1 ⟨rfl, B⟩
    refine ⟨fun σ' H' => σ' = [some (.ref a), some (.ref fa), none] ∧ Kd T.C H a fa n 11 is_c H', ?_, ?_⟩
    · refine ⟨_, rfl, .inl ⟨rfl, _, SqL.of B.l⟩, _, rfl, a, T.C n, _, _, _, rfl, B.k, T.x n hn, .own _, T.kit n 46 hn (by decide), _, rfl, ?_⟩
      have st := B.step (q := (46, "BadRoom")) hfa rfl
      unfold nm at st
      by_cases c : n = 46
      · rw [decide_eq_true c]
        rw [if_pos (show n = (46, ("BadRoom" : Str)).1 from c)] at st
        exact iteT ⟨fa, _, _, rfl, rfl, B.l, B.sz (by decide), rfl, st⟩
      · rw [decide_eq_false c]
        rw [if_neg (show ¬n = (46, ("BadRoom" : Str)).1 from c)] at st
        exact iteF ⟨fa, _, _, rfl, rfl, B.l, B.sz (by decide), rfl, st⟩
    clear B
    rintro σ H1 ⟨rfl, B⟩
    refine ⟨fun σ' H' => σ' = [some (.ref a), some (.ref fa), none] ∧ Kd T.C H a fa n 12 is_c H', ?_, ?_⟩
    · refine ⟨_, rfl, .inl ⟨rfl, _, SqL.of B.l⟩, _, rfl, a, T.C n, _, _, _, rfl, B.k, T.x n hn, .own _, T.kit n 47 hn (by decide), _, rfl, ?_⟩
      have st := B.step (q := (47, "BadRow")) hfa rfl
      unfold nm at st
      by_cases c : n = 47
      · rw [decide_eq_true c]
        rw [if_pos (show n = (47, ("BadRow" : Str)).1 from c)] at st
        exact iteT ⟨fa, _, _, rfl, rfl, B.l, B.sz (by decide), rfl, st⟩
      · rw [decide_eq_false c]
        rw [if_neg (show ¬n = (47, ("BadRow" : Str)).1 from c)] at st
        exact iteF ⟨fa, _, _, rfl, rfl, B.l, B.sz (by decide), rfl, st⟩
    clear B
    rintro σ H1 ⟨rfl, B⟩
    refine ⟨fun σ' H' => σ' = [some (.ref a), some (.ref fa), none] ∧ Kd T.C H a fa n 13 is_c H', ?_, ?_⟩
    · refine ⟨_, rfl, .inl ⟨rfl, _, SqL.of B.l⟩, _, rfl, a, T.C n, _, _, _, rfl, B.k, T.x n hn, .own _, T.kit n 48 hn (by decide), _, rfl, ?_⟩
      have st := B.step (q := (48, "BadSet")) hfa rfl
      unfold nm at st
      by_cases c : n = 48
      · rw [decide_eq_true c]
        rw [if_pos (show n = (48, ("BadSet" : Str)).1 from c)] at st
        exact iteT ⟨fa, _, _, rfl, rfl, B.l, B.sz (by decide), rfl, st⟩
      · rw [decide_eq_false c]
        rw [if_neg (show ¬n = (48, ("BadSet" : Str)).1 from c)] at st
        exact iteF ⟨fa, _, _, rfl, rfl, B.l, B.sz (by decide), rfl, st⟩
    clear B
    rintro σ H1 ⟨rfl, B⟩
    refine ⟨fun σ' H' => σ' = [some (.ref a), some (.ref fa), none] ∧ Kd T.C H a fa n 14 is_c H', ?_, ?_⟩
    · refine ⟨_, rfl, .inl ⟨rfl, _, SqL.of B.l⟩, _, rfl, a, T.C n, _, _, _, rfl, B.k, T.x n hn, .own _, T.kit n 49 hn (by decide), _, rfl, ?_⟩
      have st := B.step (q := (49, "BadShape")) hfa rfl
      unfold nm at st
      by_cases c : n = 49
      · rw [decide_eq_true c]
        rw [if_pos (show n = (49, ("BadShape" : Str)).1 from c)] at st
        exact iteT ⟨fa, _, _, rfl, rfl, B.l, B.sz (by decide), rfl, st⟩
      · rw [decide_eq_false c]
        rw [if_neg (show ¬n = (49, ("BadShape" : Str)).1 from c)] at st
        exact iteF ⟨fa, _, _, rfl, rfl, B.l, B.sz (by decide), rfl, st⟩
    clear B
    rintro σ H1 ⟨rfl, B⟩
    refine ⟨fun σ' H' => σ' = [some (.ref a), some (.ref fa), none] ∧ Kd T.C H a fa n 15 is_c H', ?_, ?_⟩
    · refine ⟨_, rfl, .inl ⟨rfl, _, SqL.of B.l⟩, _, rfl, a, T.C n, _, _, _, rfl, B.k, T.x n hn, .own _, T.kit n 50 hn (by decide), _, rfl, ?_⟩
      have st := B.step (q := (50, "BadShares")) hfa rfl
      unfold nm at st
      by_cases c : n = 50
      · rw [decide_eq_true c]
        rw [if_pos (show n = (50, ("BadShares" : Str)).1 from c)] at st
        exact iteT ⟨fa, _, _, rfl, rfl, B.l, B.sz (by decide), rfl, st⟩
      · rw [decide_eq_false c]
        rw [if_neg (show ¬n = (50, ("BadShares" : Str)).1 from c)] at st
        exact iteF ⟨fa, _, _, rfl, rfl, B.l, B.sz (by decide), rfl, st⟩
    clear B
    rintro σ H1 ⟨rfl, B⟩
    refine ⟨fun σ' H' => σ' = [some (.ref a), some (.ref fa), none] ∧ Kd T.C H a fa n 16 is_c H', ?_, ?_⟩
    · refine ⟨_, rfl, .inl ⟨rfl, _, SqL.of B.l⟩, _, rfl, a, T.C n, _, _, _, rfl, B.k, T.x n hn, .own _, T.kit n 51 hn (by decide), _, rfl, ?_⟩
      have st := B.step (q := (51, "BadShift")) hfa rfl
      unfold nm at st
      by_cases c : n = 51
      · rw [decide_eq_true c]
        rw [if_pos (show n = (51, ("BadShift" : Str)).1 from c)] at st
        exact iteT ⟨fa, _, _, rfl, rfl, B.l, B.sz (by decide), rfl, st⟩
      · rw [decide_eq_false c]
        rw [if_neg (show ¬n = (51, ("BadShift" : Str)).1 from c)] at st
        exact iteF ⟨fa, _, _, rfl, rfl, B.l, B.sz (by decide), rfl, st⟩
    clear B
    rintro σ H1 ⟨rfl, B⟩
    refine ⟨fun σ' H' => σ' = [some (.ref a), some (.ref fa), none] ∧ Kd T.C H a fa n 17 is_c H', ?_, ?_⟩
    · refine ⟨_, rfl, .inl ⟨rfl, _, SqL.of B.l⟩, _, rfl, a, T.C n, _, _, _, rfl, B.k, T.x n hn, .own _, T.kit n 52 hn (by decide), _, rfl, ?_⟩
      have st := B.step (q := (52, "BadShows")) hfa rfl
      unfold nm at st
      by_cases c : n = 52
      · rw [decide_eq_true c]
        rw [if_pos (show n = (52, ("BadShows" : Str)).1 from c)] at st
        exact iteT ⟨fa, _, _, rfl, rfl, B.l, B.sz (by decide), rfl, st⟩
      · rw [decide_eq_false c]
        rw [if_neg (show ¬n = (52, ("BadShows" : Str)).1 from c)] at st
        exact iteF ⟨fa, _, _, rfl, rfl, B.l, B.sz (by decide), rfl, st⟩
    clear B
    rintro σ H1 ⟨rfl, B⟩
    refine ⟨fun σ' H' => σ' = [some (.ref a), some (.ref fa), none] ∧ Kd T.C H a fa n 18 is_c H', ?_, ?_⟩
    · refine ⟨_, rfl, .inl ⟨rfl, _, SqL.of B.l⟩, _, rfl, a, T.C n, _, _, _, rfl, B.k, T.x n hn, .own _, T.kit n 53 hn (by decide), _, rfl, ?_⟩
      have st := B.step (q := (53, "BadSize")) hfa rfl
      unfold nm at st
      by_cases c : n = 53
      · rw [decide_eq_true c]
        rw [if_pos (show n = (53, ("BadSize" : Str)).1 from c)] at st
        exact iteT ⟨fa, _, _, rfl, rfl, B.l, B.sz (by decide), rfl, st⟩
      · rw [decide_eq_false c]
        rw [if_neg (show ¬n = (53, ("BadSize" : Str)).1 from c)] at st
        exact iteF ⟨fa, _, _, rfl, rfl, B.l, B.sz (by decide), rfl, st⟩
    clear B
    rintro σ H1 ⟨rfl, B⟩
    have hl : H1 fa = some (.lst ((is_c.map (nm n)).map V.str)) := B.l
    have sm := B.s
    clear B
    exact kinds_end (is := is_c) (by decide) hl sm hfa k
def is_d : List (Nat × Str) := [(54, "BadSizes"), (55, "BadSpans"), (56, "BadSpot"), (57, "BadState"), (58, "BadStock"), (59, "BadStore"), (60, "BadStream"), (61, "BadStretch"), (62, "BadTelling"), (63, "BadUpper"), (64, "BadVector"), (65, "BadWait"), (66, "BadWanted"), (67, "BadWay"), (68, "BadWeb"), (69, "BadWish"), (70, "BadWorths"), (71, "NotNow")]
theorem ok__law_kinds_d : FnOk P w K mg base (L2.CX P w) 1 T._law_kinds_d.a T._law_kinds_d.d ["caught"] (spKinds T.C is_d) := by
  refine T._law_kinds_d.f.okX sc__law_kinds_d (fun vs H Q E h => ?_) (fun cdv A outer s H vs Q E hr h => ?_)
  · obtain ⟨a, n, rfl, _⟩ := h
    rfl
  · obtain ⟨a, n, rfl, hn, ek, k⟩ := h
    refine ⟨_, pss_cut (ps_set (i := 1) sc__law_kinds_d.nd rfl (.inl rfl) (pe_lst pa_nil))
      (pss_cut (ps_expr (pe_bm PySem.F.plainAttrs_list PySem.F.slot_list_append PySem.F.type_list_append mt_append (pv 1) (pa_cons (pe_ifExp (pt_val (pe_callB (show CallR _ _ (rIsX K) from call_isX) (by rfl) T.b_isinstance PyProof.Rows.boot_isinstance (pa_cons (pv 0) (pa_cons (pe_glob (v := .ref (T.C 54)) (by rfl) T.g_BadSizes rfl) pa_nil)))) pe_str pe_str) pa_nil)))
      (pss_cut (ps_expr (pe_bm PySem.F.plainAttrs_list PySem.F.slot_list_append PySem.F.type_list_append mt_append (pv 1) (pa_cons (pe_ifExp (pt_val (pe_callB (show CallR _ _ (rIsX K) from call_isX) (by rfl) T.b_isinstance PyProof.Rows.boot_isinstance (pa_cons (pv 0) (pa_cons (pe_glob (v := .ref (T.C 55)) (by rfl) T.g_BadSpans rfl) pa_nil)))) pe_str pe_str) pa_nil)))
      (pss_cut (ps_expr (pe_bm PySem.F.plainAttrs_list PySem.F.slot_list_append PySem.F.type_list_append mt_append (pv 1) (pa_cons (pe_ifExp (pt_val (pe_callB (show CallR _ _ (rIsX K) from call_isX) (by rfl) T.b_isinstance PyProof.Rows.boot_isinstance (pa_cons (pv 0) (pa_cons (pe_glob (v := .ref (T.C 56)) (by rfl) T.g_BadSpot rfl) pa_nil)))) pe_str pe_str) pa_nil)))
      (pss_cut (ps_expr (pe_bm PySem.F.plainAttrs_list PySem.F.slot_list_append PySem.F.type_list_append mt_append (pv 1) (pa_cons (pe_ifExp (pt_val (pe_callB (show CallR _ _ (rIsX K) from call_isX) (by rfl) T.b_isinstance PyProof.Rows.boot_isinstance (pa_cons (pv 0) (pa_cons (pe_glob (v := .ref (T.C 57)) (by rfl) T.g_BadState rfl) pa_nil)))) pe_str pe_str) pa_nil)))
      (pss_cut (ps_expr (pe_bm PySem.F.plainAttrs_list PySem.F.slot_list_append PySem.F.type_list_append mt_append (pv 1) (pa_cons (pe_ifExp (pt_val (pe_callB (show CallR _ _ (rIsX K) from call_isX) (by rfl) T.b_isinstance PyProof.Rows.boot_isinstance (pa_cons (pv 0) (pa_cons (pe_glob (v := .ref (T.C 58)) (by rfl) T.g_BadStock rfl) pa_nil)))) pe_str pe_str) pa_nil)))
      (pss_cut (ps_expr (pe_bm PySem.F.plainAttrs_list PySem.F.slot_list_append PySem.F.type_list_append mt_append (pv 1) (pa_cons (pe_ifExp (pt_val (pe_callB (show CallR _ _ (rIsX K) from call_isX) (by rfl) T.b_isinstance PyProof.Rows.boot_isinstance (pa_cons (pv 0) (pa_cons (pe_glob (v := .ref (T.C 59)) (by rfl) T.g_BadStore rfl) pa_nil)))) pe_str pe_str) pa_nil)))
      (pss_cut (ps_expr (pe_bm PySem.F.plainAttrs_list PySem.F.slot_list_append PySem.F.type_list_append mt_append (pv 1) (pa_cons (pe_ifExp (pt_val (pe_callB (show CallR _ _ (rIsX K) from call_isX) (by rfl) T.b_isinstance PyProof.Rows.boot_isinstance (pa_cons (pv 0) (pa_cons (pe_glob (v := .ref (T.C 60)) (by rfl) T.g_BadStream rfl) pa_nil)))) pe_str pe_str) pa_nil)))
      (pss_cut (ps_expr (pe_bm PySem.F.plainAttrs_list PySem.F.slot_list_append PySem.F.type_list_append mt_append (pv 1) (pa_cons (pe_ifExp (pt_val (pe_callB (show CallR _ _ (rIsX K) from call_isX) (by rfl) T.b_isinstance PyProof.Rows.boot_isinstance (pa_cons (pv 0) (pa_cons (pe_glob (v := .ref (T.C 61)) (by rfl) T.g_BadStretch rfl) pa_nil)))) pe_str pe_str) pa_nil)))
      (pss_cut (ps_expr (pe_bm PySem.F.plainAttrs_list PySem.F.slot_list_append PySem.F.type_list_append mt_append (pv 1) (pa_cons (pe_ifExp (pt_val (pe_callB (show CallR _ _ (rIsX K) from call_isX) (by rfl) T.b_isinstance PyProof.Rows.boot_isinstance (pa_cons (pv 0) (pa_cons (pe_glob (v := .ref (T.C 62)) (by rfl) T.g_BadTelling rfl) pa_nil)))) pe_str pe_str) pa_nil)))
      (pss_cut (ps_expr (pe_bm PySem.F.plainAttrs_list PySem.F.slot_list_append PySem.F.type_list_append mt_append (pv 1) (pa_cons (pe_ifExp (pt_val (pe_callB (show CallR _ _ (rIsX K) from call_isX) (by rfl) T.b_isinstance PyProof.Rows.boot_isinstance (pa_cons (pv 0) (pa_cons (pe_glob (v := .ref (T.C 63)) (by rfl) T.g_BadUpper rfl) pa_nil)))) pe_str pe_str) pa_nil)))
      (pss_cut (ps_expr (pe_bm PySem.F.plainAttrs_list PySem.F.slot_list_append PySem.F.type_list_append mt_append (pv 1) (pa_cons (pe_ifExp (pt_val (pe_callB (show CallR _ _ (rIsX K) from call_isX) (by rfl) T.b_isinstance PyProof.Rows.boot_isinstance (pa_cons (pv 0) (pa_cons (pe_glob (v := .ref (T.C 64)) (by rfl) T.g_BadVector rfl) pa_nil)))) pe_str pe_str) pa_nil)))
      (pss_cut (ps_expr (pe_bm PySem.F.plainAttrs_list PySem.F.slot_list_append PySem.F.type_list_append mt_append (pv 1) (pa_cons (pe_ifExp (pt_val (pe_callB (show CallR _ _ (rIsX K) from call_isX) (by rfl) T.b_isinstance PyProof.Rows.boot_isinstance (pa_cons (pv 0) (pa_cons (pe_glob (v := .ref (T.C 65)) (by rfl) T.g_BadWait rfl) pa_nil)))) pe_str pe_str) pa_nil)))
      (pss_cut (ps_expr (pe_bm PySem.F.plainAttrs_list PySem.F.slot_list_append PySem.F.type_list_append mt_append (pv 1) (pa_cons (pe_ifExp (pt_val (pe_callB (show CallR _ _ (rIsX K) from call_isX) (by rfl) T.b_isinstance PyProof.Rows.boot_isinstance (pa_cons (pv 0) (pa_cons (pe_glob (v := .ref (T.C 66)) (by rfl) T.g_BadWanted rfl) pa_nil)))) pe_str pe_str) pa_nil)))
      (pss_cut (ps_expr (pe_bm PySem.F.plainAttrs_list PySem.F.slot_list_append PySem.F.type_list_append mt_append (pv 1) (pa_cons (pe_ifExp (pt_val (pe_callB (show CallR _ _ (rIsX K) from call_isX) (by rfl) T.b_isinstance PyProof.Rows.boot_isinstance (pa_cons (pv 0) (pa_cons (pe_glob (v := .ref (T.C 67)) (by rfl) T.g_BadWay rfl) pa_nil)))) pe_str pe_str) pa_nil)))
      (pss_cut (ps_expr (pe_bm PySem.F.plainAttrs_list PySem.F.slot_list_append PySem.F.type_list_append mt_append (pv 1) (pa_cons (pe_ifExp (pt_val (pe_callB (show CallR _ _ (rIsX K) from call_isX) (by rfl) T.b_isinstance PyProof.Rows.boot_isinstance (pa_cons (pv 0) (pa_cons (pe_glob (v := .ref (T.C 68)) (by rfl) T.g_BadWeb rfl) pa_nil)))) pe_str pe_str) pa_nil)))
      (pss_cut (ps_expr (pe_bm PySem.F.plainAttrs_list PySem.F.slot_list_append PySem.F.type_list_append mt_append (pv 1) (pa_cons (pe_ifExp (pt_val (pe_callB (show CallR _ _ (rIsX K) from call_isX) (by rfl) T.b_isinstance PyProof.Rows.boot_isinstance (pa_cons (pv 0) (pa_cons (pe_glob (v := .ref (T.C 69)) (by rfl) T.g_BadWish rfl) pa_nil)))) pe_str pe_str) pa_nil)))
      (pss_cut (ps_expr (pe_bm PySem.F.plainAttrs_list PySem.F.slot_list_append PySem.F.type_list_append mt_append (pv 1) (pa_cons (pe_ifExp (pt_val (pe_callB (show CallR _ _ (rIsX K) from call_isX) (by rfl) T.b_isinstance PyProof.Rows.boot_isinstance (pa_cons (pv 0) (pa_cons (pe_glob (v := .ref (T.C 70)) (by rfl) T.g_BadWorths rfl) pa_nil)))) pe_str pe_str) pa_nil)))
      (pss_cut (ps_expr (pe_bm PySem.F.plainAttrs_list PySem.F.slot_list_append PySem.F.type_list_append mt_append (pv 1) (pa_cons (pe_ifExp (pt_val (pe_callB (show CallR _ _ (rIsX K) from call_isX) (by rfl) T.b_isinstance PyProof.Rows.boot_isinstance (pa_cons (pv 0) (pa_cons (pe_glob (v := .ref (T.C 71)) (by rfl) T.g_NotNow rfl) pa_nil)))) pe_str pe_str) pa_nil)))
      (pss_one (ps_ret (pe_lc (own := [("each", 2)]) (g := gName 2) rfl sc__law_kinds_d.nd (pi_list (pv 1)) (blkOk_by (own := [("each", 2)]) (N := ["caught", "found", "each"]) (sc := defScope s__law_kinds_d) (by decide +kernel)) (fun _ _ _ _ _ => pg_name (i := 2) sc__law_kinds_d.nd rfl (Or.inl rfl)) (fun _ _ _ _ _ => pts_one (pt_cmpR op_ne (pv 2) pe_str (nomark _))) (fun _ _ _ _ _ => pv 2)))))))))))))))))))))), ?_⟩
    refine ⟨fun σ' H' => ∃ fa, σ' = [some (.ref a), some (.ref fa), none] ∧ H fa = none ∧ Kd T.C H a fa n 0 is_d H', ⟨(by decide), fun fa hfa => ⟨fa, rfl, hfa, ek.same (Same.new hfa), upd_same, Same.new hfa⟩⟩, ?_⟩
    rintro σ H1 ⟨fa, rfl, hfa, B⟩
    refine ⟨fun σ' H' => σ' = [some (.ref a), some (.ref fa), none] ∧ Kd T.C H a fa n 1 is_d H', ?_, ?_⟩
    · refine ⟨_, rfl, .inl ⟨rfl, _, SqL.of B.l⟩, _, rfl, a, T.C n, _, _, _, rfl, B.k, T.x n hn, .own _, T.kit n 54 hn (by decide), _, rfl, ?_⟩
      have st := B.step (q := (54, "BadSizes")) hfa rfl
      unfold nm at st
      by_cases c : n = 54
      · rw [decide_eq_true c]
        rw [if_pos (show n = (54, ("BadSizes" : Str)).1 from c)] at st
        exact iteT ⟨fa, _, _, rfl, rfl, B.l, B.sz (by decide), rfl, st⟩
      · rw [decide_eq_false c]
        rw [if_neg (show ¬n = (54, ("BadSizes" : Str)).1 from c)] at st
        exact iteF ⟨fa, _, _, rfl, rfl, B.l, B.sz (by decide), rfl, st⟩
    clear B
    rintro σ H1 ⟨rfl, B⟩
    refine ⟨fun σ' H' => σ' = [some (.ref a), some (.ref fa), none] ∧ Kd T.C H a fa n 2 is_d H', ?_, ?_⟩
    · refine ⟨_, rfl, .inl ⟨rfl, _, SqL.of B.l⟩, _, rfl, a, T.C n, _, _, _, rfl, B.k, T.x n hn, .own _, T.kit n 55 hn (by decide), _, rfl, ?_⟩
      have st := B.step (q := (55, "BadSpans")) hfa rfl
      unfold nm at st
      by_cases c : n = 55
      · rw [decide_eq_true c]
        rw [if_pos (show n = (55, ("BadSpans" : Str)).1 from c)] at st
        exact iteT ⟨fa, _, _, rfl, rfl, B.l, B.sz (by decide), rfl, st⟩
      · rw [decide_eq_false c]
        rw [if_neg (show ¬n = (55, ("BadSpans" : Str)).1 from c)] at st
        exact iteF ⟨fa, _, _, rfl, rfl, B.l, B.sz (by decide), rfl, st⟩
    clear B
    rintro σ H1 ⟨rfl, B⟩
    refine ⟨fun σ' H' => σ' = [some (.ref a), some (.ref fa), none] ∧ Kd T.C H a fa n 3 is_d H', ?_, ?_⟩
    · refine ⟨_, rfl, .inl ⟨rfl, _, SqL.of B.l⟩, _, rfl, a, T.C n, _, _, _, rfl, B.k, T.x n hn, .own _, T.kit n 56 hn (by decide), _, rfl, ?_⟩
      have st := B.step (q := (56, "BadSpot")) hfa rfl
      unfold nm at st
      by_cases c : n = 56
      · rw [decide_eq_true c]
        rw [if_pos (show n = (56, ("BadSpot" : Str)).1 from c)] at st
        exact iteT ⟨fa, _, _, rfl, rfl, B.l, B.sz (by decide), rfl, st⟩
      · rw [decide_eq_false c]
        rw [if_neg (show ¬n = (56, ("BadSpot" : Str)).1 from c)] at st
        exact iteF ⟨fa, _, _, rfl, rfl, B.l, B.sz (by decide), rfl, st⟩
    clear B
    rintro σ H1 ⟨rfl, B⟩
    refine ⟨fun σ' H' => σ' = [some (.ref a), some (.ref fa), none] ∧ Kd T.C H a fa n 4 is_d H', ?_, ?_⟩
    · refine ⟨_, rfl, .inl ⟨rfl, _, SqL.of B.l⟩, _, rfl, a, T.C n, _, _, _, rfl, B.k, T.x n hn, .own _, T.kit n 57 hn (by decide), _, rfl, ?_⟩
      have st := B.step (q := (57, "BadState")) hfa rfl
      unfold nm at st
      by_cases c : n = 57
      · rw [decide_eq_true c]
        rw [if_pos (show n = (57, ("BadState" : Str)).1 from c)] at st
        exact iteT ⟨fa, _, _, rfl, rfl, B.l, B.sz (by decide), rfl, st⟩
      · rw [decide_eq_false c]
        rw [if_neg (show ¬n = (57, ("BadState" : Str)).1 from c)] at st
        exact iteF ⟨fa, _, _, rfl, rfl, B.l, B.sz (by decide), rfl, st⟩
    clear B
    rintro σ H1 ⟨rfl, B⟩
    refine ⟨fun σ' H' => σ' = [some (.ref a), some (.ref fa), none] ∧ Kd T.C H a fa n 5 is_d H', ?_, ?_⟩
    · refine ⟨_, rfl, .inl ⟨rfl, _, SqL.of B.l⟩, _, rfl, a, T.C n, _, _, _, rfl, B.k, T.x n hn, .own _, T.kit n 58 hn (by decide), _, rfl, ?_⟩
      have st := B.step (q := (58, "BadStock")) hfa rfl
      unfold nm at st
      by_cases c : n = 58
      · rw [decide_eq_true c]
        rw [if_pos (show n = (58, ("BadStock" : Str)).1 from c)] at st
        exact iteT ⟨fa, _, _, rfl, rfl, B.l, B.sz (by decide), rfl, st⟩
      · rw [decide_eq_false c]
        rw [if_neg (show ¬n = (58, ("BadStock" : Str)).1 from c)] at st
        exact iteF ⟨fa, _, _, rfl, rfl, B.l, B.sz (by decide), rfl, st⟩
    clear B
    rintro σ H1 ⟨rfl, B⟩
    refine ⟨fun σ' H' => σ' = [some (.ref a), some (.ref fa), none] ∧ Kd T.C H a fa n 6 is_d H', ?_, ?_⟩
    · refine ⟨_, rfl, .inl ⟨rfl, _, SqL.of B.l⟩, _, rfl, a, T.C n, _, _, _, rfl, B.k, T.x n hn, .own _, T.kit n 59 hn (by decide), _, rfl, ?_⟩
      have st := B.step (q := (59, "BadStore")) hfa rfl
      unfold nm at st
      by_cases c : n = 59
      · rw [decide_eq_true c]
        rw [if_pos (show n = (59, ("BadStore" : Str)).1 from c)] at st
        exact iteT ⟨fa, _, _, rfl, rfl, B.l, B.sz (by decide), rfl, st⟩
      · rw [decide_eq_false c]
        rw [if_neg (show ¬n = (59, ("BadStore" : Str)).1 from c)] at st
        exact iteF ⟨fa, _, _, rfl, rfl, B.l, B.sz (by decide), rfl, st⟩
    clear B
    rintro σ H1 ⟨rfl, B⟩
    refine ⟨fun σ' H' => σ' = [some (.ref a), some (.ref fa), none] ∧ Kd T.C H a fa n 7 is_d H', ?_, ?_⟩
    · refine ⟨_, rfl, .inl ⟨rfl, _, SqL.of B.l⟩, _, rfl, a, T.C n, _, _, _, rfl, B.k, T.x n hn, .own _, T.kit n 60 hn (by decide), _, rfl, ?_⟩
      have st := B.step (q := (60, "BadStream")) hfa rfl
      unfold nm at st
      by_cases c : n = 60
      · rw [decide_eq_true c]
        rw [if_pos (show n = (60, ("BadStream" : Str)).1 from c)] at st
        exact iteT ⟨fa, _, _, rfl, rfl, B.l, B.sz (by decide), rfl, st⟩
      · rw [decide_eq_false c]
        rw [if_neg (show ¬n = (60, ("BadStream" : Str)).1 from c)] at st
        exact iteF ⟨fa, _, _, rfl, rfl, B.l, B.sz (by decide), rfl, st⟩
    clear B
    rintro σ H1 ⟨rfl, B⟩
    refine ⟨fun σ' H' => σ' = [some (.ref a), some (.ref fa), none] ∧ Kd T.C H a fa n 8 is_d H', ?_, ?_⟩
    · refine ⟨_, rfl, .inl ⟨rfl, _, SqL.of B.l⟩, _, rfl, a, T.C n, _, _, _, rfl, B.k, T.x n hn, .own _, T.kit n 61 hn (by decide), _, rfl, ?_⟩
      have st := B.step (q := (61, "BadStretch")) hfa rfl
      unfold nm at st
      by_cases c : n = 61
      · rw [decide_eq_true c]
        rw [if_pos (show n = (61, ("BadStretch" : Str)).1 from c)] at st
        exact iteT ⟨fa, _, _, rfl, rfl, B.l, B.sz (by decide), rfl, st⟩
      · rw [decide_eq_false c]
        rw [if_neg (show ¬n = (61, ("BadStretch" : Str)).1 from c)] at st
        exact iteF ⟨fa, _, _, rfl, rfl, B.l, B.sz (by decide), rfl, st⟩
    clear B
    rintro σ H1 ⟨rfl, B⟩
    refine ⟨fun σ' H' => σ' = [some (.ref a), some (.ref fa), none] ∧ Kd T.C H a fa n 9 is_d H', ?_, ?_⟩
    · refine ⟨_, rfl, .inl ⟨rfl, _, SqL.of B.l⟩, _, rfl, a, T.C n, _, _, _, rfl, B.k, T.x n hn, .own _, T.kit n 62 hn (by decide), _, rfl, ?_⟩
      have st := B.step (q := (62, "BadTelling")) hfa rfl
      unfold nm at st
      by_cases c : n = 62
      · rw [decide_eq_true c]
        rw [if_pos (show n = (62, ("BadTelling" : Str)).1 from c)] at st
        exact iteT ⟨fa, _, _, rfl, rfl, B.l, B.sz (by decide), rfl, st⟩
      · rw [decide_eq_false c]
        rw [if_neg (show ¬n = (62, ("BadTelling" : Str)).1 from c)] at st
        exact iteF ⟨fa, _, _, rfl, rfl, B.l, B.sz (by decide), rfl, st⟩
    clear B
    rintro σ H1 ⟨rfl, B⟩
    refine ⟨fun σ' H' => σ' = [some (.ref a), some (.ref fa), none] ∧ Kd T.C H a fa n 10 is_d H', ?_, ?_⟩
    · refine ⟨_, rfl, .inl ⟨rfl, _, SqL.of B.l⟩, _, rfl, a, T.C n, _, _, _, rfl, B.k, T.x n hn, .own _, T.kit n 63 hn (by decide), _, rfl, ?_⟩
      have st := B.step (q := (63, "BadUpper")) hfa rfl
      unfold nm at st
      by_cases c : n = 63
      · rw [decide_eq_true c]
        rw [if_pos (show n = (63, ("BadUpper" : Str)).1 from c)] at st
        exact iteT ⟨fa, _, _, rfl, rfl, B.l, B.sz (by decide), rfl, st⟩
      · rw [decide_eq_false c]
        rw [if_neg (show ¬n = (63, ("BadUpper" : Str)).1 from c)] at st
        exact iteF ⟨fa, _, _, rfl, rfl, B.l, B.sz (by decide), rfl, st⟩
    clear B
    rintro σ H1 ⟨rfl, B⟩
    refine ⟨fun σ' H' => σ' = [some (.ref a), some (.ref fa), none] ∧ Kd T.C H a fa n 11 is_d H', ?_, ?_⟩
    · refine ⟨_, rfl, .inl ⟨rfl, _, SqL.of B.l⟩, _, rfl, a, T.C n, _, _, _, rfl, B.k, T.x n hn, .own _, T.kit n 64 hn (by decide), _, rfl, ?_⟩
      have st := B.step (q := (64, "BadVector")) hfa rfl
      unfold nm at st
      by_cases c : n = 64
      · rw [decide_eq_true c]
        rw [if_pos (show n = (64, ("BadVector" : Str)).1 from c)] at st
        exact iteT ⟨fa, _, _, rfl, rfl, B.l, B.sz (by decide), rfl, st⟩
      · rw [decide_eq_false c]
        rw [if_neg (show ¬n = (64, ("BadVector" : Str)).1 from c)] at st
        exact iteF ⟨fa, _, _, rfl, rfl, B.l, B.sz (by decide), rfl, st⟩
    clear B
    rintro σ H1 ⟨rfl, B⟩
    refine ⟨fun σ' H' => σ' = [some (.ref a), some (.ref fa), none] ∧ Kd T.C H a fa n 12 is_d H', ?_, ?_⟩
    · refine ⟨_, rfl, .inl ⟨rfl, _, SqL.of B.l⟩, _, rfl, a, T.C n, _, _, _, rfl, B.k, T.x n hn, .own _, T.kit n 65 hn (by decide), _, rfl, ?_⟩
      have st := B.step (q := (65, "BadWait")) hfa rfl
      unfold nm at st
      by_cases c : n = 65
      · rw [decide_eq_true c]
        rw [if_pos (show n = (65, ("BadWait" : Str)).1 from c)] at st
        exact iteT ⟨fa, _, _, rfl, rfl, B.l, B.sz (by decide), rfl, st⟩
      · rw [decide_eq_false c]
        rw [if_neg (show ¬n = (65, ("BadWait" : Str)).1 from c)] at st
        exact iteF ⟨fa, _, _, rfl, rfl, B.l, B.sz (by decide), rfl, st⟩
    clear B
    rintro σ H1 ⟨rfl, B⟩
    refine ⟨fun σ' H' => σ' = [some (.ref a), some (.ref fa), none] ∧ Kd T.C H a fa n 13 is_d H', ?_, ?_⟩
    · refine ⟨_, rfl, .inl ⟨rfl, _, SqL.of B.l⟩, _, rfl, a, T.C n, _, _, _, rfl, B.k, T.x n hn, .own _, T.kit n 66 hn (by decide), _, rfl, ?_⟩
      have st := B.step (q := (66, "BadWanted")) hfa rfl
      unfold nm at st
      by_cases c : n = 66
      · rw [decide_eq_true c]
        rw [if_pos (show n = (66, ("BadWanted" : Str)).1 from c)] at st
        exact iteT ⟨fa, _, _, rfl, rfl, B.l, B.sz (by decide), rfl, st⟩
      · rw [decide_eq_false c]
        rw [if_neg (show ¬n = (66, ("BadWanted" : Str)).1 from c)] at st
        exact iteF ⟨fa, _, _, rfl, rfl, B.l, B.sz (by decide), rfl, st⟩
    clear B
    rintro σ H1 ⟨rfl, B⟩
    refine ⟨fun σ' H' => σ' = [some (.ref a), some (.ref fa), none] ∧ Kd T.C H a fa n 14 is_d H', ?_, ?_⟩
    · refine ⟨_, rfl, .inl ⟨rfl, _, SqL.of B.l⟩, _, rfl, a, T.C n, _, _, _, rfl, B.k, T.x n hn, .own _, T.kit n 67 hn (by decide), _, rfl, ?_⟩
      have st := B.step (q := (67, "BadWay")) hfa rfl
      unfold nm at st
      by_cases c : n = 67
      · rw [decide_eq_true c]
        rw [if_pos (show n = (67, ("BadWay" : Str)).1 from c)] at st
        exact iteT ⟨fa, _, _, rfl, rfl, B.l, B.sz (by decide), rfl, st⟩
      · rw [decide_eq_false c]
        rw [if_neg (show ¬n = (67, ("BadWay" : Str)).1 from c)] at st
        exact iteF ⟨fa, _, _, rfl, rfl, B.l, B.sz (by decide), rfl, st⟩
    clear B
    rintro σ H1 ⟨rfl, B⟩
    refine ⟨fun σ' H' => σ' = [some (.ref a), some (.ref fa), none] ∧ Kd T.C H a fa n 15 is_d H', ?_, ?_⟩
    · refine ⟨_, rfl, .inl ⟨rfl, _, SqL.of B.l⟩, _, rfl, a, T.C n, _, _, _, rfl, B.k, T.x n hn, .own _, T.kit n 68 hn (by decide), _, rfl, ?_⟩
      have st := B.step (q := (68, "BadWeb")) hfa rfl
      unfold nm at st
      by_cases c : n = 68
      · rw [decide_eq_true c]
        rw [if_pos (show n = (68, ("BadWeb" : Str)).1 from c)] at st
        exact iteT ⟨fa, _, _, rfl, rfl, B.l, B.sz (by decide), rfl, st⟩
      · rw [decide_eq_false c]
        rw [if_neg (show ¬n = (68, ("BadWeb" : Str)).1 from c)] at st
        exact iteF ⟨fa, _, _, rfl, rfl, B.l, B.sz (by decide), rfl, st⟩
    clear B
    rintro σ H1 ⟨rfl, B⟩
    refine ⟨fun σ' H' => σ' = [some (.ref a), some (.ref fa), none] ∧ Kd T.C H a fa n 16 is_d H', ?_, ?_⟩
    · refine ⟨_, rfl, .inl ⟨rfl, _, SqL.of B.l⟩, _, rfl, a, T.C n, _, _, _, rfl, B.k, T.x n hn, .own _, T.kit n 69 hn (by decide), _, rfl, ?_⟩
      have st := B.step (q := (69, "BadWish")) hfa rfl
      unfold nm at st
      by_cases c : n = 69
      · rw [decide_eq_true c]
        rw [if_pos (show n = (69, ("BadWish" : Str)).1 from c)] at st
        exact iteT ⟨fa, _, _, rfl, rfl, B.l, B.sz (by decide), rfl, st⟩
      · rw [decide_eq_false c]
        rw [if_neg (show ¬n = (69, ("BadWish" : Str)).1 from c)] at st
        exact iteF ⟨fa, _, _, rfl, rfl, B.l, B.sz (by decide), rfl, st⟩
    clear B
    rintro σ H1 ⟨rfl, B⟩
    refine ⟨fun σ' H' => σ' = [some (.ref a), some (.ref fa), none] ∧ Kd T.C H a fa n 17 is_d H', ?_, ?_⟩
    · refine ⟨_, rfl, .inl ⟨rfl, _, SqL.of B.l⟩, _, rfl, a, T.C n, _, _, _, rfl, B.k, T.x n hn, .own _, T.kit n 70 hn (by decide), _, rfl, ?_⟩
      have st := B.step (q := (70, "BadWorths")) hfa rfl
      unfold nm at st
      by_cases c : n = 70
      · rw [decide_eq_true c]
        rw [if_pos (show n = (70, ("BadWorths" : Str)).1 from c)] at st
        exact iteT ⟨fa, _, _, rfl, rfl, B.l, B.sz (by decide), rfl, st⟩
      · rw [decide_eq_false c]
        rw [if_neg (show ¬n = (70, ("BadWorths" : Str)).1 from c)] at st
        exact iteF ⟨fa, _, _, rfl, rfl, B.l, B.sz (by decide), rfl, st⟩
    clear B
    rintro σ H1 ⟨rfl, B⟩
    refine ⟨fun σ' H' => σ' = [some (.ref a), some (.ref fa), none] ∧ Kd T.C H a fa n 18 is_d H', ?_, ?_⟩
    · refine ⟨_, rfl, .inl ⟨rfl, _, SqL.of B.l⟩, _, rfl, a, T.C n, _, _, _, rfl, B.k, T.x n hn, .own _, T.kit n 71 hn (by decide), _, rfl, ?_⟩
      have st := B.step (q := (71, "NotNow")) hfa rfl
      unfold nm at st
      by_cases c : n = 71
      · rw [decide_eq_true c]
        rw [if_pos (show n = (71, ("NotNow" : Str)).1 from c)] at st
        exact iteT ⟨fa, _, _, rfl, rfl, B.l, B.sz (by decide), rfl, st⟩
      · rw [decide_eq_false c]
        rw [if_neg (show ¬n = (71, ("NotNow" : Str)).1 from c)] at st
        exact iteF ⟨fa, _, _, rfl, rfl, B.l, B.sz (by decide), rfl, st⟩
    clear B
    rintro σ H1 ⟨rfl, B⟩
    have hl : H1 fa = some (.lst ((is_d.map (nm n)).map V.str)) := B.l
    have sm := B.s
    clear B
    exact kinds_end (is := is_d) (by decide) hl sm hfa k
def is_e : List (Nat × Str) := [(72, "NothingDone"), (73, "OtherKinds"), (74, "OtherShapes"), (75, "TooMany")]
theorem ok__law_kinds_e : FnOk P w K mg base (L2.CX P w) 1 T._law_kinds_e.a T._law_kinds_e.d ["caught"] (spKinds T.C is_e) := by
  refine T._law_kinds_e.f.okX sc__law_kinds_e (fun vs H Q E h => ?_) (fun cdv A outer s H vs Q E hr h => ?_)
  · obtain ⟨a, n, rfl, _⟩ := h
    rfl
  · obtain ⟨a, n, rfl, hn, ek, k⟩ := h
    refine ⟨_, pss_cut (ps_set (i := 1) sc__law_kinds_e.nd rfl (.inl rfl) (pe_lst pa_nil))
      (pss_cut (ps_expr (pe_bm PySem.F.plainAttrs_list PySem.F.slot_list_append PySem.F.type_list_append mt_append (pv 1) (pa_cons (pe_ifExp (pt_val (pe_callB (show CallR _ _ (rIsX K) from call_isX) (by rfl) T.b_isinstance PyProof.Rows.boot_isinstance (pa_cons (pv 0) (pa_cons (pe_glob (v := .ref (T.C 72)) (by rfl) T.g_NothingDone rfl) pa_nil)))) pe_str pe_str) pa_nil)))
      (pss_cut (ps_expr (pe_bm PySem.F.plainAttrs_list PySem.F.slot_list_append PySem.F.type_list_append mt_append (pv 1) (pa_cons (pe_ifExp (pt_val (pe_callB (show CallR _ _ (rIsX K) from call_isX) (by rfl) T.b_isinstance PyProof.Rows.boot_isinstance (pa_cons (pv 0) (pa_cons (pe_glob (v := .ref (T.C 73)) (by rfl) T.g_OtherKinds rfl) pa_nil)))) pe_str pe_str) pa_nil)))
      (pss_cut (ps_expr (pe_bm PySem.F.plainAttrs_list PySem.F.slot_list_append PySem.F.type_list_append mt_append (pv 1) (pa_cons (pe_ifExp (pt_val (pe_callB (show CallR _ _ (rIsX K) from call_isX) (by rfl) T.b_isinstance PyProof.Rows.boot_isinstance (pa_cons (pv 0) (pa_cons (pe_glob (v := .ref (T.C 74)) (by rfl) T.g_OtherShapes rfl) pa_nil)))) pe_str pe_str) pa_nil)))
      (pss_cut (ps_expr (pe_bm PySem.F.plainAttrs_list PySem.F.slot_list_append PySem.F.type_list_append mt_append (pv 1) (pa_cons (pe_ifExp (pt_val (pe_callB (show CallR _ _ (rIsX K) from call_isX) (by rfl) T.b_isinstance PyProof.Rows.boot_isinstance (pa_cons (pv 0) (pa_cons (pe_glob (v := .ref (T.C 75)) (by rfl) T.g_TooMany rfl) pa_nil)))) pe_str pe_str) pa_nil)))
      (pss_one (ps_ret (pe_lc (own := [("each", 2)]) (g := gName 2) rfl sc__law_kinds_e.nd (pi_list (pv 1)) (blkOk_by (own := [("each", 2)]) (N := ["caught", "found", "each"]) (sc := defScope s__law_kinds_e) (by decide +kernel)) (fun _ _ _ _ _ => pg_name (i := 2) sc__law_kinds_e.nd rfl (Or.inl rfl)) (fun _ _ _ _ _ => pts_one (pt_cmpR op_ne (pv 2) pe_str (nomark _))) (fun _ _ _ _ _ => pv 2)))))))), ?_⟩
    refine ⟨fun σ' H' => ∃ fa, σ' = [some (.ref a), some (.ref fa), none] ∧ H fa = none ∧ Kd T.C H a fa n 0 is_e H', ⟨(by decide), fun fa hfa => ⟨fa, rfl, hfa, ek.same (Same.new hfa), upd_same, Same.new hfa⟩⟩, ?_⟩
    rintro σ H1 ⟨fa, rfl, hfa, B⟩
    refine ⟨fun σ' H' => σ' = [some (.ref a), some (.ref fa), none] ∧ Kd T.C H a fa n 1 is_e H', ?_, ?_⟩
    · refine ⟨_, rfl, .inl ⟨rfl, _, SqL.of B.l⟩, _, rfl, a, T.C n, _, _, _, rfl, B.k, T.x n hn, .own _, T.kit n 72 hn (by decide), _, rfl, ?_⟩
      have st := B.step (q := (72, "NothingDone")) hfa rfl
      unfold nm at st
      by_cases c : n = 72
      · rw [decide_eq_true c]
        rw [if_pos (show n = (72, ("NothingDone" : Str)).1 from c)] at st
        exact iteT ⟨fa, _, _, rfl, rfl, B.l, B.sz (by decide), rfl, st⟩
      · rw [decide_eq_false c]
        rw [if_neg (show ¬n = (72, ("NothingDone" : Str)).1 from c)] at st
        exact iteF ⟨fa, _, _, rfl, rfl, B.l, B.sz (by decide), rfl, st⟩
    clear B
    rintro σ H1 ⟨rfl, B⟩
    refine ⟨fun σ' H' => σ' = [some (.ref a), some (.ref fa), none] ∧ Kd T.C H a fa n 2 is_e H', ?_, ?_⟩
    · refine ⟨_, rfl, .inl ⟨rfl, _, SqL.of B.l⟩, _, rfl, a, T.C n, _, _, _, rfl, B.k, T.x n hn, .own _, T.kit n 73 hn (by decide), _, rfl, ?_⟩
      have st := B.step (q := (73, "OtherKinds")) hfa rfl
      unfold nm at st
      by_cases c : n = 73
      · rw [decide_eq_true c]
        rw [if_pos (show n = (73, ("OtherKinds" : Str)).1 from c)] at st
        exact iteT ⟨fa, _, _, rfl, rfl, B.l, B.sz (by decide), rfl, st⟩
      · rw [decide_eq_false c]
        rw [if_neg (show ¬n = (73, ("OtherKinds" : Str)).1 from c)] at st
        exact iteF ⟨fa, _, _, rfl, rfl, B.l, B.sz (by decide), rfl, st⟩
    clear B
    rintro σ H1 ⟨rfl, B⟩
    refine ⟨fun σ' H' => σ' = [some (.ref a), some (.ref fa), none] ∧ Kd T.C H a fa n 3 is_e H', ?_, ?_⟩
    · refine ⟨_, rfl, .inl ⟨rfl, _, SqL.of B.l⟩, _, rfl, a, T.C n, _, _, _, rfl, B.k, T.x n hn, .own _, T.kit n 74 hn (by decide), _, rfl, ?_⟩
      have st := B.step (q := (74, "OtherShapes")) hfa rfl
      unfold nm at st
      by_cases c : n = 74
      · rw [decide_eq_true c]
        rw [if_pos (show n = (74, ("OtherShapes" : Str)).1 from c)] at st
        exact iteT ⟨fa, _, _, rfl, rfl, B.l, B.sz (by decide), rfl, st⟩
      · rw [decide_eq_false c]
        rw [if_neg (show ¬n = (74, ("OtherShapes" : Str)).1 from c)] at st
        exact iteF ⟨fa, _, _, rfl, rfl, B.l, B.sz (by decide), rfl, st⟩
    clear B
    rintro σ H1 ⟨rfl, B⟩
    refine ⟨fun σ' H' => σ' = [some (.ref a), some (.ref fa), none] ∧ Kd T.C H a fa n 4 is_e H', ?_, ?_⟩
    · refine ⟨_, rfl, .inl ⟨rfl, _, SqL.of B.l⟩, _, rfl, a, T.C n, _, _, _, rfl, B.k, T.x n hn, .own _, T.kit n 75 hn (by decide), _, rfl, ?_⟩
      have st := B.step (q := (75, "TooMany")) hfa rfl
      unfold nm at st
      by_cases c : n = 75
      · rw [decide_eq_true c]
        rw [if_pos (show n = (75, ("TooMany" : Str)).1 from c)] at st
        exact iteT ⟨fa, _, _, rfl, rfl, B.l, B.sz (by decide), rfl, st⟩
      · rw [decide_eq_false c]
        rw [if_neg (show ¬n = (75, ("TooMany" : Str)).1 from c)] at st
        exact iteF ⟨fa, _, _, rfl, rfl, B.l, B.sz (by decide), rfl, st⟩
    clear B
    rintro σ H1 ⟨rfl, B⟩
    have hl : H1 fa = some (.lst ((is_e.map (nm n)).map V.str)) := B.l
    have sm := B.s
    clear B
    exact kinds_end (is := is_e) (by decide) hl sm hfa k
end
end K00
namespace K00
open PySem PySem.Spec PyProof.Rows L2 PySem.W LamX KA K0U
open Evl (pss_cut tCut)
/-! ### it is of its own class alone -/
def names : List Str := (is_a ++ is_b ++ is_c ++ is_d ++ is_e).map fun q => q.2
def name (n : Nat) : Str := names.getD n ""
theorem kinds_all : ∀ n, n < 76 → kinds n is_a ++ kinds n is_b ++ kinds n is_c ++ kinds n is_d ++ kinds n is_e = [name n] := by
  have h : (List.range 76).all (fun n => decide (kinds n is_a ++ kinds n is_b ++ kinds n is_c ++ kinds n is_d ++ kinds n is_e = [name n])) = true := by decide +kernel
  intro n hn
  have := List.all_eq_true.mp h n (List.mem_range.mpr hn)
  exact of_decide_eq_true this
theorem name_ok : ∀ n, n < 76 → PyData.strOk (name n) = true := by
  have h : (List.range 76).all (fun n => PyData.strOk (name n)) = true := by decide +kernel
  exact fun n hn => List.all_eq_true.mp h n (List.mem_range.mpr hn)
theorem kinds_len {n : Nat} {is : List (Nat × Str)} (h : is.length ≤ 100) : ((kinds n is).map V.str).length ≤ 100 := by
  rw [List.length_map]
  refine Nat.le_trans (List.length_filter_le _ _) ?_
  rw [List.length_map]
  exact h
def spAlone (C : Nat → Addr) : Sp := fun vs H Q _ => ∃ a n, vs = [.ref a, .str (name n)] ∧ n < 76 ∧ ExK H (C n) a ∧ ∀ H', Same H H' → Q (.bl true) H'
theorem dp_strs {K : PySem.W.Frag} {H : Hp} : ∀ xs : List Str, DpAll K H (xs.map V.str) (xs.map PyData.str)
  | [] => .nil
  | x :: xs => .cons (.str x) (dp_strs xs)
section
variable {P : Program} {w : World} {K : PySem.W.Frag} {mg : Str → Option Value} {base : Heap} (T : Top K mg)
theorem ok_alone : FnOk P w K mg base (L2.CX P w) 2 T._law_is_alone.a T._law_is_alone.d ["caught", "name_here"] (spAlone T.C) := by
  refine T._law_is_alone.f.okX sc__law_is_alone (fun vs H Q E h => ?_) (fun cdv A outer s H vs Q E hr h => ?_)
  · obtain ⟨a, n, rfl, _⟩ := h
    rfl
  · obtain ⟨a, n, rfl, hn, ek, k⟩ := h
    refine ⟨_, pss_cut (ps_set (i := 2) sc__law_is_alone.nd rfl (.inl rfl) (pe_op op_cat (pe_call (ok__law_kinds_a T) (hr.mono (by decide)) (by rfl) T._law_kinds_a.m T._law_kinds_a.f.kp (bd__law_kinds_a T) .nil passE (pa_cons (pv 0) pa_nil)) (pe_call (ok__law_kinds_b T) (hr.mono (by decide)) (by rfl) T._law_kinds_b.m T._law_kinds_b.f.kp (bd__law_kinds_b T) .nil passE (pa_cons (pv 0) pa_nil))))
      (pss_cut (ps_set (i := 2) sc__law_is_alone.nd rfl (.inl rfl) (pe_op op_cat (pe_op op_cat (pv 2) (pe_call (ok__law_kinds_c T) (hr.mono (by decide)) (by rfl) T._law_kinds_c.m T._law_kinds_c.f.kp (bd__law_kinds_c T) .nil passE (pa_cons (pv 0) pa_nil))) (pe_call (ok__law_kinds_d T) (hr.mono (by decide)) (by rfl) T._law_kinds_d.m T._law_kinds_d.f.kp (bd__law_kinds_d T) .nil passE (pa_cons (pv 0) pa_nil))))
      (pss_cut (ps_set (i := 2) sc__law_is_alone.nd rfl (.inl rfl) (pe_op op_cat (pv 2) (pe_call (ok__law_kinds_e T) (hr.mono (by decide)) (by rfl) T._law_kinds_e.m T._law_kinds_e.f.kp (bd__law_kinds_e T) .nil passE (pa_cons (pv 0) pa_nil))))
      (pss_one (ps_ret (pe_and (pe_cmpR (op_eqD hr.units) (pv 2) (pe_lst (pa_cons (pv 1) pa_nil)) (nomark _)) (pe_and (pe_callB (show CallR _ _ (rIsX K) from call_isX) (by rfl) T.b_isinstance PyProof.Rows.boot_isinstance (pa_cons (pv 0) (pa_cons (pe_glob (v := .ref T.reel.C) (by rfl) T.reel.g rfl) pa_nil))) (pe_one (pe_callB (show CallR _ _ (rIsX K) from call_isX) (by rfl) T.b_isinstance PyProof.Rows.boot_isinstance (pa_cons (pv 0) (pa_cons (pe_bltn (v := .ty "ValueError") (by rfl) T.b_ValueError (by decide +kernel) rfl) pa_nil)))))))))), ?_⟩
    refine ⟨fun σ' H' => ∃ p, σ' = [some (.ref a), some (.str (name n)), some (.ref p)] ∧ Same H H' ∧ H' p = some (.lst ((kinds n is_a).map V.str ++ (kinds n is_b).map V.str)), ?_, ?_⟩
    · refine ⟨_, rfl, a, n, rfl, hn, ek, fun p1 H1 f1 s1 l1 => ?_⟩
      refine ⟨_, rfl, a, n, rfl, hn, ek.same s1, fun p2 H2 f2 s2 l2 => ?_⟩
      refine ⟨p1, p2, _, _, rfl, rfl, s2 _ _ l1, l2, ?_, fun p hp => ⟨p, rfl, (s1.trans s2).trans (Same.new hp), upd_same⟩⟩
      exact Nat.le_trans (Nat.add_le_add (kinds_len (by decide)) (kinds_len (by decide))) (by decide)
    rintro σ H1 ⟨p, rfl, sm, hp⟩
    refine ⟨fun σ' H' => ∃ p, σ' = [some (.ref a), some (.str (name n)), some (.ref p)] ∧ Same H H' ∧ H' p = some (.lst ((kinds n is_a).map V.str ++ (kinds n is_b).map V.str ++ (kinds n is_c).map V.str ++ (kinds n is_d).map V.str)), ?_, ?_⟩
    · refine ⟨_, rfl, _, rfl, a, n, rfl, hn, ek.same sm, fun p1 H2 f1 s1 l1 => ?_⟩
      refine ⟨p, p1, _, _, rfl, rfl, s1 _ _ hp, l1, ?_, fun p2 hp2 => ?_⟩
      · rw [List.length_append]
        exact Nat.le_trans (Nat.add_le_add (Nat.add_le_add (kinds_len (by decide)) (kinds_len (by decide))) (kinds_len (by decide))) (by decide)
      have s2 := Same.new (o := .lst ((kinds n is_a).map V.str ++ (kinds n is_b).map V.str ++ (kinds n is_c).map V.str)) hp2
      refine ⟨_, rfl, a, n, rfl, hn, ek.same ((sm.trans s1).trans s2), fun p3 H3 f3 s3 l3 => ?_⟩
      refine ⟨p2, p3, _, _, rfl, rfl, s3 _ _ upd_same, l3, ?_, fun p4 hp4 => ⟨p4, rfl, (((sm.trans s1).trans s2).trans s3).trans (Same.new hp4), upd_same⟩⟩
      rw [List.length_append, List.length_append]
      exact Nat.le_trans (Nat.add_le_add (Nat.add_le_add (Nat.add_le_add (kinds_len (by decide)) (kinds_len (by decide))) (kinds_len (by decide))) (kinds_len (by decide))) (by decide)
    clear sm hp H1
    rintro σ H1 ⟨p, rfl, sm, hp⟩
    refine ⟨fun σ' H' => ∃ p, σ' = [some (.ref a), some (.str (name n)), some (.ref p)] ∧ Same H H' ∧ H' p = some (.lst [.str (name n)]), ?_, ?_⟩
    · refine ⟨_, rfl, _, rfl, a, n, rfl, hn, ek.same sm, fun p1 H2 f1 s1 l1 => ?_⟩
      refine ⟨p, p1, _, _, rfl, rfl, s1 _ _ hp, l1, ?_, fun p4 hp4 => ⟨p4, rfl, (sm.trans s1).trans (Same.new hp4), ?_⟩⟩
      · rw [List.length_append, List.length_append, List.length_append]
        exact Nat.le_trans (Nat.add_le_add (Nat.add_le_add (Nat.add_le_add (Nat.add_le_add (kinds_len (by decide)) (kinds_len (by decide))) (kinds_len (by decide))) (kinds_len (by decide))) (kinds_len (by decide))) (by decide)
      rw [upd_same, ← List.map_append, ← List.map_append, ← List.map_append, ← List.map_append, kinds_all n hn]
      rfl
    clear sm hp H1
    rintro σ H1 ⟨p, rfl, sm, hp⟩
    refine ⟨_, rfl, _, rfl, (by show 1 ≤ sizeLine; decide), fun q hq => ?_⟩
    have s2 := Same.new (o := .lst [V.str (name n)]) hq
    have ek2 := ek.same (sm.trans s2)
    refine ⟨_, _, .lst (SqL.of (s2 _ _ hp)) (dp_strs [name n]), .lst (SqL.of upd_same) (dp_strs [name n]), ?_, ?_, ?_⟩
    · simp [SeqAt.shaped, PyData.canLay0, PyData.canLayAll0, PyData.depth, PyData.depthAll, name_ok n hn]
    · simp [SeqAt.shaped, PyData.canLay0, PyData.canLayAll0, PyData.depth, PyData.depthAll, name_ok n hn]
    rw [show PyData.eqv (.list ([name n].map PyData.str)) (.list ([name n].map PyData.str)) = true by simp [PyData.eqv, PyData.eqvAll]]
    exact ⟨_, rfl, iteT ⟨_, rfl, a, T.C n, _, _, true, rfl, ek2, T.x n hn, .own _, T.kitR n hn, _, rfl, iteT ⟨_, rfl, a, T.C n, _, _, true, rfl, ek2, T.x n hn, .ty "ValueError", T.kitV n hn, k _ (sm.trans s2)⟩⟩⟩
end
end K00
namespace K00
open PySem PySem.Spec PyProof.Rows L2 PySem.W LamX KA K0U
open Evl (pss_cut tCut)
/-! ### errors made of a text -/
/-- pairs of a name and an error of its class -/
inductive PL (C : Nat → Addr) (H : Hp) : List V → List Nat → Prop
  | nil : PL C H [] []
  | cons {t a : Addr} {n : Nat} {q : Str} {vs : List V} {ns : List Nat} (e : H t = some (.tup [.str q, .ref a])) (hq : q = name n) (hn : n < 76) (k : ExK H (C n) a) (r : PL C H vs ns) : PL C H (.ref t :: vs) (n :: ns)
theorem PL.mono {C : Nat → Addr} {H H' : Hp} {vs : List V} {ns : List Nat} (p : PL C H vs ns) (k : ∀ b o, H b = some o → (∀ xs, o ≠ .lst xs) → H' b = some o) : PL C H' vs ns := by
  induction p with
  | nil => exact .nil
  | cons e hq hn x _ ih => exact .cons (k _ _ e (fun xs z => by cases z)) hq hn (x.mono k) ih
theorem PL.append {C : Nat → Addr} {H : Hp} {vs vs' : List V} {ns ns' : List Nat} (p : PL C H vs ns) (q : PL C H vs' ns') : PL C H (vs ++ vs') (ns ++ ns') := by
  induction p with
  | nil => exact q
  | cons e hq hn x _ ih => exact .cons e hq hn x ih
theorem PL.len {C : Nat → Addr} {H : Hp} {vs : List V} {ns : List Nat} (p : PL C H vs ns) : vs.length = ns.length := by
  induction p with
  | nil => rfl
  | cons _ _ _ _ _ ih => simp [ih]
structure Pd (C : Nat → Addr) (H0 : Hp) (fa i : Nat) (ns : List Nat) (vs : List V) (H : Hp) : Prop where
  l : H fa = some (.lst vs)
  p : PL C H vs (ns.take i)
  s : Same H0 H
theorem Pd.sz {C : Nat → Addr} {H0 H : Hp} {fa i : Nat} {ns : List Nat} {vs : List V} (h : Pd C H0 fa i ns vs H) (l : ns.length ≤ 100) : vs.length < sizeLine := by
  rw [h.p.len, List.length_take]
  exact Nat.lt_of_le_of_lt (Nat.min_le_right _ _) (Nat.lt_of_le_of_lt l (by decide))
/-- one more: the error at a, the pair at t -/
theorem Pd.step {C : Nat → Addr} {H0 H : Hp} {fa i n : Nat} {ns : List Nat} {vs : List V} {a t : Addr} {q : Str} (h : Pd C H0 fa i ns vs H) (f : H0 fa = none) (e : ns[i]? = some n) (hq : q = name n) (hn : n < 76)
    (ha : H a = none) (ht : (upd H a (ExO (.ref (C n)) a)) t = none) :
    (upd (upd H a (ExO (.ref (C n)) a)) t (.tup [.str q, .ref a])) fa = some (.lst vs) ∧ Pd C H0 fa (i + 1) ns (vs ++ [.ref t]) (upd (upd (upd H a (ExO (.ref (C n)) a)) t (.tup [.str q, .ref a])) fa (.lst (vs ++ [.ref t]))) := by
  have s1 : Same H (upd H a (ExO (.ref (C n)) a)) := Same.new ha
  have s2 : Same (upd H a (ExO (.ref (C n)) a)) (upd (upd H a (ExO (.ref (C n)) a)) t (.tup [.str q, .ref a])) := Same.new ht
  have l2 := s2 _ _ (s1 _ _ h.l)
  have keep : ∀ b o, (upd (upd H a (ExO (.ref (C n)) a)) t (.tup [.str q, .ref a])) b = some o → (∀ xs, o ≠ .lst xs) → (upd (upd (upd H a (ExO (.ref (C n)) a)) t (.tup [.str q, .ref a])) fa (.lst (vs ++ [.ref t]))) b = some o := fun b o z nl => by
    rw [upd_ne (fun y => by rw [y, l2] at z; exact nl _ (Option.some.inj z).symm)]
    exact z
  refine ⟨l2, upd_same, ?_, fun b o z => ?_⟩
  · rw [List.take_add_one, e]
    refine PL.append ?_ ?_
    · exact h.p.mono fun b o z nl => keep b o (s2 _ _ (s1 _ _ z)) nl
    · exact .cons (keep _ _ upd_same (fun xs z => by cases z)) hq hn (.pl (keep _ _ (s2 _ _ upd_same) exO_lst)) .nil
  · rw [upd_ne (ne_of_none z f)]
    exact s2 _ _ (s1 _ _ (h.s b o z))
def spPlain (C : Nat → Addr) (ns : List Nat) : Sp := fun vs H Q _ => ∃ s, vs = [.str s] ∧ ∀ p us H', H p = none → Same H H' → H' p = some (.lst us) → PL C H' us ns → Q (.ref p) H'
section
variable {P : Program} {w : World} {K : PySem.W.Frag} {mg : Str → Option Value} {base : Heap} (T : Top K mg)
def ps_a : List Nat := [0, 1, 2, 3, 4, 5, 7, 8, 9, 10, 11, 13, 14, 15, 17, 18, 19, 22, 23, 24]
theorem ok__law_plain_a : FnOk P w K mg base (L2.CX P w) 1 T._law_plain_a.a T._law_plain_a.d ["text_here"] (spPlain T.C ps_a) := by
  refine T._law_plain_a.f.okX sc__law_plain_a (fun vs H Q E h => ?_) (fun cdv A outer s H vs Q E hr h => ?_)
  · obtain ⟨s, rfl, _⟩ := h
    rfl
  · obtain ⟨s, rfl, k⟩ := h
    refine ⟨_, pss_cut (ps_set (i := 1) sc__law_plain_a.nd rfl (.inl rfl) (pe_lst pa_nil))
      (pss_cut (ps_expr (pe_bm PySem.F.plainAttrs_list PySem.F.slot_list_append PySem.F.type_list_append mt_append (pv 1) (pa_cons (pe_tup (pa_cons pe_str (pa_cons (pe_exc1 PySem.F.excBase_ValueError T.q_BadAt T.g_BadAt (T.keep 0 (by decide)) (by rfl) (pv 0)) pa_nil))) pa_nil)))
      (pss_cut (ps_expr (pe_bm PySem.F.plainAttrs_list PySem.F.slot_list_append PySem.F.type_list_append mt_append (pv 1) (pa_cons (pe_tup (pa_cons pe_str (pa_cons (pe_exc1 PySem.F.excBase_ValueError T.q_BadBits T.g_BadBits (T.keep 1 (by decide)) (by rfl) (pv 0)) pa_nil))) pa_nil)))
      (pss_cut (ps_expr (pe_bm PySem.F.plainAttrs_list PySem.F.slot_list_append PySem.F.type_list_append mt_append (pv 1) (pa_cons (pe_tup (pa_cons pe_str (pa_cons (pe_exc1 PySem.F.excBase_ValueError T.q_BadBlock T.g_BadBlock (T.keep 2 (by decide)) (by rfl) (pv 0)) pa_nil))) pa_nil)))
      (pss_cut (ps_expr (pe_bm PySem.F.plainAttrs_list PySem.F.slot_list_append PySem.F.type_list_append mt_append (pv 1) (pa_cons (pe_tup (pa_cons pe_str (pa_cons (pe_exc1 PySem.F.excBase_ValueError T.q_BadBook T.g_BadBook (T.keep 3 (by decide)) (by rfl) (pv 0)) pa_nil))) pa_nil)))
      (pss_cut (ps_expr (pe_bm PySem.F.plainAttrs_list PySem.F.slot_list_append PySem.F.type_list_append mt_append (pv 1) (pa_cons (pe_tup (pa_cons pe_str (pa_cons (pe_exc1 PySem.F.excBase_ValueError T.q_BadBounds T.g_BadBounds (T.keep 4 (by decide)) (by rfl) (pv 0)) pa_nil))) pa_nil)))
      (pss_cut (ps_expr (pe_bm PySem.F.plainAttrs_list PySem.F.slot_list_append PySem.F.type_list_append mt_append (pv 1) (pa_cons (pe_tup (pa_cons pe_str (pa_cons (pe_exc1 PySem.F.excBase_ValueError T.q_BadChosen T.g_BadChosen (T.keep 5 (by decide)) (by rfl) (pv 0)) pa_nil))) pa_nil)))
      (pss_cut (ps_expr (pe_bm PySem.F.plainAttrs_list PySem.F.slot_list_append PySem.F.type_list_append mt_append (pv 1) (pa_cons (pe_tup (pa_cons pe_str (pa_cons (pe_exc1 PySem.F.excBase_ValueError T.q_BadCut T.g_BadCut (T.keep 7 (by decide)) (by rfl) (pv 0)) pa_nil))) pa_nil)))
      (pss_cut (ps_expr (pe_bm PySem.F.plainAttrs_list PySem.F.slot_list_append PySem.F.type_list_append mt_append (pv 1) (pa_cons (pe_tup (pa_cons pe_str (pa_cons (pe_exc1 PySem.F.excBase_ValueError T.q_BadDelay T.g_BadDelay (T.keep 8 (by decide)) (by rfl) (pv 0)) pa_nil))) pa_nil)))
      (pss_cut (ps_expr (pe_bm PySem.F.plainAttrs_list PySem.F.slot_list_append PySem.F.type_list_append mt_append (pv 1) (pa_cons (pe_tup (pa_cons pe_str (pa_cons (pe_exc1 PySem.F.excBase_ValueError T.q_BadError T.g_BadError (T.keep 9 (by decide)) (by rfl) (pv 0)) pa_nil))) pa_nil)))
      (pss_cut (ps_expr (pe_bm PySem.F.plainAttrs_list PySem.F.slot_list_append PySem.F.type_list_append mt_append (pv 1) (pa_cons (pe_tup (pa_cons pe_str (pa_cons (pe_exc1 PySem.F.excBase_ValueError T.q_BadField T.g_BadField (T.keep 10 (by decide)) (by rfl) (pv 0)) pa_nil))) pa_nil)))
      (pss_cut (ps_expr (pe_bm PySem.F.plainAttrs_list PySem.F.slot_list_append PySem.F.type_list_append mt_append (pv 1) (pa_cons (pe_tup (pa_cons pe_str (pa_cons (pe_exc1 PySem.F.excBase_ValueError T.q_BadFrame T.g_BadFrame (T.keep 11 (by decide)) (by rfl) (pv 0)) pa_nil))) pa_nil)))
      (pss_cut (ps_expr (pe_bm PySem.F.plainAttrs_list PySem.F.slot_list_append PySem.F.type_list_append mt_append (pv 1) (pa_cons (pe_tup (pa_cons pe_str (pa_cons (pe_exc1 PySem.F.excBase_ValueError T.q_BadGains T.g_BadGains (T.keep 13 (by decide)) (by rfl) (pv 0)) pa_nil))) pa_nil)))
      (pss_cut (ps_expr (pe_bm PySem.F.plainAttrs_list PySem.F.slot_list_append PySem.F.type_list_append mt_append (pv 1) (pa_cons (pe_tup (pa_cons pe_str (pa_cons (pe_exc1 PySem.F.excBase_ValueError T.q_BadGrade T.g_BadGrade (T.keep 14 (by decide)) (by rfl) (pv 0)) pa_nil))) pa_nil)))
      (pss_cut (ps_expr (pe_bm PySem.F.plainAttrs_list PySem.F.slot_list_append PySem.F.type_list_append mt_append (pv 1) (pa_cons (pe_tup (pa_cons pe_str (pa_cons (pe_exc1 PySem.F.excBase_ValueError T.q_BadGuess T.g_BadGuess (T.keep 15 (by decide)) (by rfl) (pv 0)) pa_nil))) pa_nil)))
      (pss_cut (ps_expr (pe_bm PySem.F.plainAttrs_list PySem.F.slot_list_append PySem.F.type_list_append mt_append (pv 1) (pa_cons (pe_tup (pa_cons pe_str (pa_cons (pe_exc1 PySem.F.excBase_ValueError T.q_BadHold T.g_BadHold (T.keep 17 (by decide)) (by rfl) (pv 0)) pa_nil))) pa_nil)))
      (pss_cut (ps_expr (pe_bm PySem.F.plainAttrs_list PySem.F.slot_list_append PySem.F.type_list_append mt_append (pv 1) (pa_cons (pe_tup (pa_cons pe_str (pa_cons (pe_exc1 PySem.F.excBase_ValueError T.q_BadHurt T.g_BadHurt (T.keep 18 (by decide)) (by rfl) (pv 0)) pa_nil))) pa_nil)))
      (pss_cut (ps_expr (pe_bm PySem.F.plainAttrs_list PySem.F.slot_list_append PySem.F.type_list_append mt_append (pv 1) (pa_cons (pe_tup (pa_cons pe_str (pa_cons (pe_exc1 PySem.F.excBase_ValueError T.q_BadIndex T.g_BadIndex (T.keep 19 (by decide)) (by rfl) (pv 0)) pa_nil))) pa_nil)))
      (pss_cut (ps_expr (pe_bm PySem.F.plainAttrs_list PySem.F.slot_list_append PySem.F.type_list_append mt_append (pv 1) (pa_cons (pe_tup (pa_cons pe_str (pa_cons (pe_exc1 PySem.F.excBase_ValueError T.q_BadKind T.g_BadKind (T.keep 22 (by decide)) (by rfl) (pv 0)) pa_nil))) pa_nil)))
      (pss_cut (ps_expr (pe_bm PySem.F.plainAttrs_list PySem.F.slot_list_append PySem.F.type_list_append mt_append (pv 1) (pa_cons (pe_tup (pa_cons pe_str (pa_cons (pe_exc1 PySem.F.excBase_ValueError T.q_BadLeast T.g_BadLeast (T.keep 23 (by decide)) (by rfl) (pv 0)) pa_nil))) pa_nil)))
      (pss_cut (ps_expr (pe_bm PySem.F.plainAttrs_list PySem.F.slot_list_append PySem.F.type_list_append mt_append (pv 1) (pa_cons (pe_tup (pa_cons pe_str (pa_cons (pe_exc1 PySem.F.excBase_ValueError T.q_BadLoss T.g_BadLoss (T.keep 24 (by decide)) (by rfl) (pv 0)) pa_nil))) pa_nil)))
      (pss_one (ps_ret (pv 1))))))))))))))))))))))), ?_⟩
    refine ⟨fun σ' H' => ∃ fa, σ' = [some (.str s), some (.ref fa)] ∧ H fa = none ∧ Pd T.C H fa 0 ps_a [] H', ⟨(by decide), fun fa hfa => ⟨fa, rfl, hfa, upd_same, .nil, Same.new hfa⟩⟩, ?_⟩
    rintro σ H1 ⟨fa, rfl, hfa, B⟩
    obtain ⟨vs, B⟩ : ∃ vs, Pd T.C H fa 0 ps_a vs H1 := ⟨_, B⟩
    refine ⟨fun σ' H' => ∃ vs, σ' = [some (.str s), some (.ref fa)] ∧ Pd T.C H fa 1 ps_a vs H', ⟨_, rfl, .inl ⟨rfl, _, SqL.of B.l⟩, _, rfl, fun a ha => ⟨(by show 2 ≤ sizeLine; decide), fun t ht => ⟨fa, vs, _, rfl, rfl, (B.step (n := 0) (q := "BadAt") hfa rfl rfl (by decide) ha ht).1, B.sz (by decide), _, rfl, (B.step (n := 0) (q := "BadAt") hfa rfl rfl (by decide) ha ht).2⟩⟩⟩, ?_⟩
    clear B
    rintro σ H1 ⟨vs, rfl, B⟩
    refine ⟨fun σ' H' => ∃ vs, σ' = [some (.str s), some (.ref fa)] ∧ Pd T.C H fa 2 ps_a vs H', ⟨_, rfl, .inl ⟨rfl, _, SqL.of B.l⟩, _, rfl, fun a ha => ⟨(by show 2 ≤ sizeLine; decide), fun t ht => ⟨fa, vs, _, rfl, rfl, (B.step (n := 1) (q := "BadBits") hfa rfl rfl (by decide) ha ht).1, B.sz (by decide), _, rfl, (B.step (n := 1) (q := "BadBits") hfa rfl rfl (by decide) ha ht).2⟩⟩⟩, ?_⟩
    clear B
    rintro σ H1 ⟨vs, rfl, B⟩
    refine ⟨fun σ' H' => ∃ vs, σ' = [some (.str s), some (.ref fa)] ∧ Pd T.C H fa 3 ps_a vs H', ⟨_, rfl, .inl ⟨rfl, _, SqL.of B.l⟩, _, rfl, fun a ha => ⟨(by show 2 ≤ sizeLine; decide), fun t ht => ⟨fa, vs, _, rfl, rfl, (B.step (n := 2) (q := "BadBlock") hfa rfl rfl (by decide) ha ht).1, B.sz (by decide), _, rfl, (B.step (n := 2) (q := "BadBlock") hfa rfl rfl (by decide) ha ht).2⟩⟩⟩, ?_⟩
    clear B
    rintro σ H1 ⟨vs, rfl, B⟩
    refine ⟨fun σ' H' => ∃ vs, σ' = [some (.str s), some (.ref fa)] ∧ Pd T.C H fa 4 ps_a vs H', ⟨_, rfl, .inl ⟨rfl, _, SqL.of B.l⟩, _, rfl, fun a ha => ⟨(by show 2 ≤ sizeLine; decide), fun t ht => ⟨fa, vs, _, rfl, rfl, (B.step (n := 3) (q := "BadBook") hfa rfl rfl (by decide) ha ht).1, B.sz (by decide), _, rfl, (B.step (n := 3) (q := "BadBook") hfa rfl rfl (by decide) ha ht).2⟩⟩⟩, ?_⟩
    clear B
    rintro σ H1 ⟨vs, rfl, B⟩
    refine ⟨fun σ' H' => ∃ vs, σ' = [some (.str s), some (.ref fa)] ∧ Pd T.C H fa 5 ps_a vs H', ⟨_, rfl, .inl ⟨rfl, _, SqL.of B.l⟩, _, rfl, fun a ha => ⟨(by show 2 ≤ sizeLine; decide), fun t ht => ⟨fa, vs, _, rfl, rfl, (B.step (n := 4) (q := "BadBounds") hfa rfl rfl (by decide) ha ht).1, B.sz (by decide), _, rfl, (B.step (n := 4) (q := "BadBounds") hfa rfl rfl (by decide) ha ht).2⟩⟩⟩, ?_⟩
    clear B
    rintro σ H1 ⟨vs, rfl, B⟩
    refine ⟨fun σ' H' => ∃ vs, σ' = [some (.str s), some (.ref fa)] ∧ Pd T.C H fa 6 ps_a vs H', ⟨_, rfl, .inl ⟨rfl, _, SqL.of B.l⟩, _, rfl, fun a ha => ⟨(by show 2 ≤ sizeLine; decide), fun t ht => ⟨fa, vs, _, rfl, rfl, (B.step (n := 5) (q := "BadChosen") hfa rfl rfl (by decide) ha ht).1, B.sz (by decide), _, rfl, (B.step (n := 5) (q := "BadChosen") hfa rfl rfl (by decide) ha ht).2⟩⟩⟩, ?_⟩
    clear B
    rintro σ H1 ⟨vs, rfl, B⟩
    refine ⟨fun σ' H' => ∃ vs, σ' = [some (.str s), some (.ref fa)] ∧ Pd T.C H fa 7 ps_a vs H', ⟨_, rfl, .inl ⟨rfl, _, SqL.of B.l⟩, _, rfl, fun a ha => ⟨(by show 2 ≤ sizeLine; decide), fun t ht => ⟨fa, vs, _, rfl, rfl, (B.step (n := 7) (q := "BadCut") hfa rfl rfl (by decide) ha ht).1, B.sz (by decide), _, rfl, (B.step (n := 7) (q := "BadCut") hfa rfl rfl (by decide) ha ht).2⟩⟩⟩, ?_⟩
    clear B
    rintro σ H1 ⟨vs, rfl, B⟩
    refine ⟨fun σ' H' => ∃ vs, σ' = [some (.str s), some (.ref fa)] ∧ Pd T.C H fa 8 ps_a vs H', ⟨_, rfl, .inl ⟨rfl, _, SqL.of B.l⟩, _, rfl, fun a ha => ⟨(by show 2 ≤ sizeLine; decide), fun t ht => ⟨fa, vs, _, rfl, rfl, (B.step (n := 8) (q := "BadDelay") hfa rfl rfl (by decide) ha ht).1, B.sz (by decide), _, rfl, (B.step (n := 8) (q := "BadDelay") hfa rfl rfl (by decide) ha ht).2⟩⟩⟩, ?_⟩
    clear B
    rintro σ H1 ⟨vs, rfl, B⟩
    refine ⟨fun σ' H' => ∃ vs, σ' = [some (.str s), some (.ref fa)] ∧ Pd T.C H fa 9 ps_a vs H', ⟨_, rfl, .inl ⟨rfl, _, SqL.of B.l⟩, _, rfl, fun a ha => ⟨(by show 2 ≤ sizeLine; decide), fun t ht => ⟨fa, vs, _, rfl, rfl, (B.step (n := 9) (q := "BadError") hfa rfl rfl (by decide) ha ht).1, B.sz (by decide), _, rfl, (B.step (n := 9) (q := "BadError") hfa rfl rfl (by decide) ha ht).2⟩⟩⟩, ?_⟩
    clear B
    rintro σ H1 ⟨vs, rfl, B⟩
    refine ⟨fun σ' H' => ∃ vs, σ' = [some (.str s), some (.ref fa)] ∧ Pd T.C H fa 10 ps_a vs H', ⟨_, rfl, .inl ⟨rfl, _, SqL.of B.l⟩, _, rfl, fun a ha => ⟨(by show 2 ≤ sizeLine; decide), fun t ht => ⟨fa, vs, _, rfl, rfl, (B.step (n := 10) (q := "BadField") hfa rfl rfl (by decide) ha ht).1, B.sz (by decide), _, rfl, (B.step (n := 10) (q := "BadField") hfa rfl rfl (by decide) ha ht).2⟩⟩⟩, ?_⟩
    clear B
    rintro σ H1 ⟨vs, rfl, B⟩
    refine ⟨fun σ' H' => ∃ vs, σ' = [some (.str s), some (.ref fa)] ∧ Pd T.C H fa 11 ps_a vs H', ⟨_, rfl, .inl ⟨rfl, _, SqL.of B.l⟩, _, rfl, fun a ha => ⟨(by show 2 ≤ sizeLine; decide), fun t ht => ⟨fa, vs, _, rfl, rfl, (B.step (n := 11) (q := "BadFrame") hfa rfl rfl (by decide) ha ht).1, B.sz (by decide), _, rfl, (B.step (n := 11) (q := "BadFrame") hfa rfl rfl (by decide) ha ht).2⟩⟩⟩, ?_⟩
    clear B
    rintro σ H1 ⟨vs, rfl, B⟩
    refine ⟨fun σ' H' => ∃ vs, σ' = [some (.str s), some (.ref fa)] ∧ Pd T.C H fa 12 ps_a vs H', ⟨_, rfl, .inl ⟨rfl, _, SqL.of B.l⟩, _, rfl, fun a ha => ⟨(by show 2 ≤ sizeLine; decide), fun t ht => ⟨fa, vs, _, rfl, rfl, (B.step (n := 13) (q := "BadGains") hfa rfl rfl (by decide) ha ht).1, B.sz (by decide), _, rfl, (B.step (n := 13) (q := "BadGains") hfa rfl rfl (by decide) ha ht).2⟩⟩⟩, ?_⟩
    clear B
    rintro σ H1 ⟨vs, rfl, B⟩
    refine ⟨fun σ' H' => ∃ vs, σ' = [some (.str s), some (.ref fa)] ∧ Pd T.C H fa 13 ps_a vs H', ⟨_, rfl, .inl ⟨rfl, _, SqL.of B.l⟩, _, rfl, fun a ha => ⟨(by show 2 ≤ sizeLine; decide), fun t ht => ⟨fa, vs, _, rfl, rfl, (B.step (n := 14) (q := "BadGrade") hfa rfl rfl (by decide) ha ht).1, B.sz (by decide), _, rfl, (B.step (n := 14) (q := "BadGrade") hfa rfl rfl (by decide) ha ht).2⟩⟩⟩, ?_⟩
    clear B
    rintro σ H1 ⟨vs, rfl, B⟩
    refine ⟨fun σ' H' => ∃ vs, σ' = [some (.str s), some (.ref fa)] ∧ Pd T.C H fa 14 ps_a vs H', ⟨_, rfl, .inl ⟨rfl, _, SqL.of B.l⟩, _, rfl, fun a ha => ⟨(by show 2 ≤ sizeLine; decide), fun t ht => ⟨fa, vs, _, rfl, rfl, (B.step (n := 15) (q := "BadGuess") hfa rfl rfl (by decide) ha ht).1, B.sz (by decide), _, rfl, (B.step (n := 15) (q := "BadGuess") hfa rfl rfl (by decide) ha ht).2⟩⟩⟩, ?_⟩
    clear B
    rintro σ H1 ⟨vs, rfl, B⟩
    refine ⟨fun σ' H' => ∃ vs, σ' = [some (.str s), some (.ref fa)] ∧ Pd T.C H fa 15 ps_a vs H', ⟨_, rfl, .inl ⟨rfl, _, SqL.of B.l⟩, _, rfl, fun a ha => ⟨(by show 2 ≤ sizeLine; decide), fun t ht => ⟨fa, vs, _, rfl, rfl, (B.step (n := 17) (q := "BadHold") hfa rfl rfl (by decide) ha ht).1, B.sz (by decide), _, rfl, (B.step (n := 17) (q := "BadHold") hfa rfl rfl (by decide) ha ht).2⟩⟩⟩, ?_⟩
    clear B
    rintro σ H1 ⟨vs, rfl, B⟩
    refine ⟨fun σ' H' => ∃ vs, σ' = [some (.str s), some (.ref fa)] ∧ Pd T.C H fa 16 ps_a vs H', ⟨_, rfl, .inl ⟨rfl, _, SqL.of B.l⟩, _, rfl, fun a ha => ⟨(by show 2 ≤ sizeLine; decide), fun t ht => ⟨fa, vs, _, rfl, rfl, (B.step (n := 18) (q := "BadHurt") hfa rfl rfl (by decide) ha ht).1, B.sz (by decide), _, rfl, (B.step (n := 18) (q := "BadHurt") hfa rfl rfl (by decide) ha ht).2⟩⟩⟩, ?_⟩
    clear B
    rintro σ H1 ⟨vs, rfl, B⟩
    refine ⟨fun σ' H' => ∃ vs, σ' = [some (.str s), some (.ref fa)] ∧ Pd T.C H fa 17 ps_a vs H', ⟨_, rfl, .inl ⟨rfl, _, SqL.of B.l⟩, _, rfl, fun a ha => ⟨(by show 2 ≤ sizeLine; decide), fun t ht => ⟨fa, vs, _, rfl, rfl, (B.step (n := 19) (q := "BadIndex") hfa rfl rfl (by decide) ha ht).1, B.sz (by decide), _, rfl, (B.step (n := 19) (q := "BadIndex") hfa rfl rfl (by decide) ha ht).2⟩⟩⟩, ?_⟩
    clear B
    rintro σ H1 ⟨vs, rfl, B⟩
    refine ⟨fun σ' H' => ∃ vs, σ' = [some (.str s), some (.ref fa)] ∧ Pd T.C H fa 18 ps_a vs H', ⟨_, rfl, .inl ⟨rfl, _, SqL.of B.l⟩, _, rfl, fun a ha => ⟨(by show 2 ≤ sizeLine; decide), fun t ht => ⟨fa, vs, _, rfl, rfl, (B.step (n := 22) (q := "BadKind") hfa rfl rfl (by decide) ha ht).1, B.sz (by decide), _, rfl, (B.step (n := 22) (q := "BadKind") hfa rfl rfl (by decide) ha ht).2⟩⟩⟩, ?_⟩
    clear B
    rintro σ H1 ⟨vs, rfl, B⟩
    refine ⟨fun σ' H' => ∃ vs, σ' = [some (.str s), some (.ref fa)] ∧ Pd T.C H fa 19 ps_a vs H', ⟨_, rfl, .inl ⟨rfl, _, SqL.of B.l⟩, _, rfl, fun a ha => ⟨(by show 2 ≤ sizeLine; decide), fun t ht => ⟨fa, vs, _, rfl, rfl, (B.step (n := 23) (q := "BadLeast") hfa rfl rfl (by decide) ha ht).1, B.sz (by decide), _, rfl, (B.step (n := 23) (q := "BadLeast") hfa rfl rfl (by decide) ha ht).2⟩⟩⟩, ?_⟩
    clear B
    rintro σ H1 ⟨vs, rfl, B⟩
    refine ⟨fun σ' H' => ∃ vs, σ' = [some (.str s), some (.ref fa)] ∧ Pd T.C H fa 20 ps_a vs H', ⟨_, rfl, .inl ⟨rfl, _, SqL.of B.l⟩, _, rfl, fun a ha => ⟨(by show 2 ≤ sizeLine; decide), fun t ht => ⟨fa, vs, _, rfl, rfl, (B.step (n := 24) (q := "BadLoss") hfa rfl rfl (by decide) ha ht).1, B.sz (by decide), _, rfl, (B.step (n := 24) (q := "BadLoss") hfa rfl rfl (by decide) ha ht).2⟩⟩⟩, ?_⟩
    clear B
    rintro σ H1 ⟨vs, rfl, B⟩
    exact ⟨_, rfl, k fa vs H1 hfa B.s B.l B.p⟩
def ps_b : List Nat := [25, 26, 27, 28, 29, 31, 32, 33, 34, 35, 36, 37, 38, 39, 40, 41, 42, 44, 46, 47]
theorem ok__law_plain_b : FnOk P w K mg base (L2.CX P w) 1 T._law_plain_b.a T._law_plain_b.d ["text_here"] (spPlain T.C ps_b) := by
  refine T._law_plain_b.f.okX sc__law_plain_b (fun vs H Q E h => ?_) (fun cdv A outer s H vs Q E hr h => ?_)
  · obtain ⟨s, rfl, _⟩ := h
    rfl
  · obtain ⟨s, rfl, k⟩ := h
    refine ⟨_, pss_cut (ps_set (i := 1) sc__law_plain_b.nd rfl (.inl rfl) (pe_lst pa_nil))
      (pss_cut (ps_expr (pe_bm PySem.F.plainAttrs_list PySem.F.slot_list_append PySem.F.type_list_append mt_append (pv 1) (pa_cons (pe_tup (pa_cons pe_str (pa_cons (pe_exc1 PySem.F.excBase_ValueError T.q_BadLosses T.g_BadLosses (T.keep 25 (by decide)) (by rfl) (pv 0)) pa_nil))) pa_nil)))
      (pss_cut (ps_expr (pe_bm PySem.F.plainAttrs_list PySem.F.slot_list_append PySem.F.type_list_append mt_append (pv 1) (pa_cons (pe_tup (pa_cons pe_str (pa_cons (pe_exc1 PySem.F.excBase_ValueError T.q_BadLot T.g_BadLot (T.keep 26 (by decide)) (by rfl) (pv 0)) pa_nil))) pa_nil)))
      (pss_cut (ps_expr (pe_bm PySem.F.plainAttrs_list PySem.F.slot_list_append PySem.F.type_list_append mt_append (pv 1) (pa_cons (pe_tup (pa_cons pe_str (pa_cons (pe_exc1 PySem.F.excBase_ValueError T.q_BadLots T.g_BadLots (T.keep 27 (by decide)) (by rfl) (pv 0)) pa_nil))) pa_nil)))
      (pss_cut (ps_expr (pe_bm PySem.F.plainAttrs_list PySem.F.slot_list_append PySem.F.type_list_append mt_append (pv 1) (pa_cons (pe_tup (pa_cons pe_str (pa_cons (pe_exc1 PySem.F.excBase_ValueError T.q_BadMany T.g_BadMany (T.keep 28 (by decide)) (by rfl) (pv 0)) pa_nil))) pa_nil)))
      (pss_cut (ps_expr (pe_bm PySem.F.plainAttrs_list PySem.F.slot_list_append PySem.F.type_list_append mt_append (pv 1) (pa_cons (pe_tup (pa_cons pe_str (pa_cons (pe_exc1 PySem.F.excBase_ValueError T.q_BadMemory T.g_BadMemory (T.keep 29 (by decide)) (by rfl) (pv 0)) pa_nil))) pa_nil)))
      (pss_cut (ps_expr (pe_bm PySem.F.plainAttrs_list PySem.F.slot_list_append PySem.F.type_list_append mt_append (pv 1) (pa_cons (pe_tup (pa_cons pe_str (pa_cons (pe_exc1 PySem.F.excBase_ValueError T.q_BadMost T.g_BadMost (T.keep 31 (by decide)) (by rfl) (pv 0)) pa_nil))) pa_nil)))
      (pss_cut (ps_expr (pe_bm PySem.F.plainAttrs_list PySem.F.slot_list_append PySem.F.type_list_append mt_append (pv 1) (pa_cons (pe_tup (pa_cons pe_str (pa_cons (pe_exc1 PySem.F.excBase_ValueError T.q_BadNumber T.g_BadNumber (T.keep 32 (by decide)) (by rfl) (pv 0)) pa_nil))) pa_nil)))
      (pss_cut (ps_expr (pe_bm PySem.F.plainAttrs_list PySem.F.slot_list_append PySem.F.type_list_append mt_append (pv 1) (pa_cons (pe_tup (pa_cons pe_str (pa_cons (pe_exc1 PySem.F.excBase_ValueError T.q_BadOrder T.g_BadOrder (T.keep 33 (by decide)) (by rfl) (pv 0)) pa_nil))) pa_nil)))
      (pss_cut (ps_expr (pe_bm PySem.F.plainAttrs_list PySem.F.slot_list_append PySem.F.type_list_append mt_append (pv 1) (pa_cons (pe_tup (pa_cons pe_str (pa_cons (pe_exc1 PySem.F.excBase_ValueError T.q_BadOther T.g_BadOther (T.keep 34 (by decide)) (by rfl) (pv 0)) pa_nil))) pa_nil)))
      (pss_cut (ps_expr (pe_bm PySem.F.plainAttrs_list PySem.F.slot_list_append PySem.F.type_list_append mt_append (pv 1) (pa_cons (pe_tup (pa_cons pe_str (pa_cons (pe_exc1 PySem.F.excBase_ValueError T.q_BadPlace T.g_BadPlace (T.keep 35 (by decide)) (by rfl) (pv 0)) pa_nil))) pa_nil)))
      (pss_cut (ps_expr (pe_bm PySem.F.plainAttrs_list PySem.F.slot_list_append PySem.F.type_list_append mt_append (pv 1) (pa_cons (pe_tup (pa_cons pe_str (pa_cons (pe_exc1 PySem.F.excBase_ValueError T.q_BadPlan T.g_BadPlan (T.keep 36 (by decide)) (by rfl) (pv 0)) pa_nil))) pa_nil)))
      (pss_cut (ps_expr (pe_bm PySem.F.plainAttrs_list PySem.F.slot_list_append PySem.F.type_list_append mt_append (pv 1) (pa_cons (pe_tup (pa_cons pe_str (pa_cons (pe_exc1 PySem.F.excBase_ValueError T.q_BadPlane T.g_BadPlane (T.keep 37 (by decide)) (by rfl) (pv 0)) pa_nil))) pa_nil)))
      (pss_cut (ps_expr (pe_bm PySem.F.plainAttrs_list PySem.F.slot_list_append PySem.F.type_list_append mt_append (pv 1) (pa_cons (pe_tup (pa_cons pe_str (pa_cons (pe_exc1 PySem.F.excBase_ValueError T.q_BadPlanes T.g_BadPlanes (T.keep 38 (by decide)) (by rfl) (pv 0)) pa_nil))) pa_nil)))
      (pss_cut (ps_expr (pe_bm PySem.F.plainAttrs_list PySem.F.slot_list_append PySem.F.type_list_append mt_append (pv 1) (pa_cons (pe_tup (pa_cons pe_str (pa_cons (pe_exc1 PySem.F.excBase_ValueError T.q_BadPrice T.g_BadPrice (T.keep 39 (by decide)) (by rfl) (pv 0)) pa_nil))) pa_nil)))
      (pss_cut (ps_expr (pe_bm PySem.F.plainAttrs_list PySem.F.slot_list_append PySem.F.type_list_append mt_append (pv 1) (pa_cons (pe_tup (pa_cons pe_str (pa_cons (pe_exc1 PySem.F.excBase_ValueError T.q_BadRate T.g_BadRate (T.keep 40 (by decide)) (by rfl) (pv 0)) pa_nil))) pa_nil)))
      (pss_cut (ps_expr (pe_bm PySem.F.plainAttrs_list PySem.F.slot_list_append PySem.F.type_list_append mt_append (pv 1) (pa_cons (pe_tup (pa_cons pe_str (pa_cons (pe_exc1 PySem.F.excBase_ValueError T.q_BadReach T.g_BadReach (T.keep 41 (by decide)) (by rfl) (pv 0)) pa_nil))) pa_nil)))
      (pss_cut (ps_expr (pe_bm PySem.F.plainAttrs_list PySem.F.slot_list_append PySem.F.type_list_append mt_append (pv 1) (pa_cons (pe_tup (pa_cons pe_str (pa_cons (pe_exc1 PySem.F.excBase_ValueError T.q_BadRectangle T.g_BadRectangle (T.keep 42 (by decide)) (by rfl) (pv 0)) pa_nil))) pa_nil)))
      (pss_cut (ps_expr (pe_bm PySem.F.plainAttrs_list PySem.F.slot_list_append PySem.F.type_list_append mt_append (pv 1) (pa_cons (pe_tup (pa_cons pe_str (pa_cons (pe_exc1 PySem.F.excBase_ValueError T.q_BadReferences T.g_BadReferences (T.keep 44 (by decide)) (by rfl) (pv 0)) pa_nil))) pa_nil)))
      (pss_cut (ps_expr (pe_bm PySem.F.plainAttrs_list PySem.F.slot_list_append PySem.F.type_list_append mt_append (pv 1) (pa_cons (pe_tup (pa_cons pe_str (pa_cons (pe_exc1 PySem.F.excBase_ValueError T.q_BadRoom T.g_BadRoom (T.keep 46 (by decide)) (by rfl) (pv 0)) pa_nil))) pa_nil)))
      (pss_cut (ps_expr (pe_bm PySem.F.plainAttrs_list PySem.F.slot_list_append PySem.F.type_list_append mt_append (pv 1) (pa_cons (pe_tup (pa_cons pe_str (pa_cons (pe_exc1 PySem.F.excBase_ValueError T.q_BadRow T.g_BadRow (T.keep 47 (by decide)) (by rfl) (pv 0)) pa_nil))) pa_nil)))
      (pss_one (ps_ret (pv 1))))))))))))))))))))))), ?_⟩
    refine ⟨fun σ' H' => ∃ fa, σ' = [some (.str s), some (.ref fa)] ∧ H fa = none ∧ Pd T.C H fa 0 ps_b [] H', ⟨(by decide), fun fa hfa => ⟨fa, rfl, hfa, upd_same, .nil, Same.new hfa⟩⟩, ?_⟩
    rintro σ H1 ⟨fa, rfl, hfa, B⟩
    obtain ⟨vs, B⟩ : ∃ vs, Pd T.C H fa 0 ps_b vs H1 := ⟨_, B⟩
    refine ⟨fun σ' H' => ∃ vs, σ' = [some (.str s), some (.ref fa)] ∧ Pd T.C H fa 1 ps_b vs H', ⟨_, rfl, .inl ⟨rfl, _, SqL.of B.l⟩, _, rfl, fun a ha => ⟨(by show 2 ≤ sizeLine; decide), fun t ht => ⟨fa, vs, _, rfl, rfl, (B.step (n := 25) (q := "BadLosses") hfa rfl rfl (by decide) ha ht).1, B.sz (by decide), _, rfl, (B.step (n := 25) (q := "BadLosses") hfa rfl rfl (by decide) ha ht).2⟩⟩⟩, ?_⟩
    clear B
    rintro σ H1 ⟨vs, rfl, B⟩
    refine ⟨fun σ' H' => ∃ vs, σ' = [some (.str s), some (.ref fa)] ∧ Pd T.C H fa 2 ps_b vs H', ⟨_, rfl, .inl ⟨rfl, _, SqL.of B.l⟩, _, rfl, fun a ha => ⟨(by show 2 ≤ sizeLine; decide), fun t ht => ⟨fa, vs, _, rfl, rfl, (B.step (n := 26) (q := "BadLot") hfa rfl rfl (by decide) ha ht).1, B.sz (by decide), _, rfl, (B.step (n := 26) (q := "BadLot") hfa rfl rfl (by decide) ha ht).2⟩⟩⟩, ?_⟩
    clear B
    rintro σ H1 ⟨vs, rfl, B⟩
    refine ⟨fun σ' H' => ∃ vs, σ' = [some (.str s), some (.ref fa)] ∧ Pd T.C H fa 3 ps_b vs H', ⟨_, rfl, .inl ⟨rfl, _, SqL.of B.l⟩, _, rfl, fun a ha => ⟨(by show 2 ≤ sizeLine; decide), fun t ht => ⟨fa, vs, _, rfl, rfl, (B.step (n := 27) (q := "BadLots") hfa rfl rfl (by decide) ha ht).1, B.sz (by decide), _, rfl, (B.step (n := 27) (q := "BadLots") hfa rfl rfl (by decide) ha ht).2⟩⟩⟩, ?_⟩
    clear B
    rintro σ H1 ⟨vs, rfl, B⟩
    refine ⟨fun σ' H' => ∃ vs, σ' = [some (.str s), some (.ref fa)] ∧ Pd T.C H fa 4 ps_b vs H', ⟨_, rfl, .inl ⟨rfl, _, SqL.of B.l⟩, _, rfl, fun a ha => ⟨(by show 2 ≤ sizeLine; decide), fun t ht => ⟨fa, vs, _, rfl, rfl, (B.step (n := 28) (q := "BadMany") hfa rfl rfl (by decide) ha ht).1, B.sz (by decide), _, rfl, (B.step (n := 28) (q := "BadMany") hfa rfl rfl (by decide) ha ht).2⟩⟩⟩, ?_⟩
    clear B
    rintro σ H1 ⟨vs, rfl, B⟩
    refine ⟨fun σ' H' => ∃ vs, σ' = [some (.str s), some (.ref fa)] ∧ Pd T.C H fa 5 ps_b vs H', ⟨_, rfl, .inl ⟨rfl, _, SqL.of B.l⟩, _, rfl, fun a ha => ⟨(by show 2 ≤ sizeLine; decide), fun t ht => ⟨fa, vs, _, rfl, rfl, (B.step (n := 29) (q := "BadMemory") hfa rfl rfl (by decide) ha ht).1, B.sz (by decide), _, rfl, (B.step (n := 29) (q := "BadMemory") hfa rfl rfl (by decide) ha ht).2⟩⟩⟩, ?_⟩
    clear B
    rintro σ H1 ⟨vs, rfl, B⟩
    refine ⟨fun σ' H' => ∃ vs, σ' = [some (.str s), some (.ref fa)] ∧ Pd T.C H fa 6 ps_b vs H', ⟨_, rfl, .inl ⟨rfl, _, SqL.of B.l⟩, _, rfl, fun a ha => ⟨(by show 2 ≤ sizeLine; decide), fun t ht => ⟨fa, vs, _, rfl, rfl, (B.step (n := 31) (q := "BadMost") hfa rfl rfl (by decide) ha ht).1, B.sz (by decide), _, rfl, (B.step (n := 31) (q := "BadMost") hfa rfl rfl (by decide) ha ht).2⟩⟩⟩, ?_⟩
    clear B
    rintro σ H1 ⟨vs, rfl, B⟩
    refine ⟨fun σ' H' => ∃ vs, σ' = [some (.str s), some (.ref fa)] ∧ Pd T.C H fa 7 ps_b vs H', ⟨_, rfl, .inl ⟨rfl, _, SqL.of B.l⟩, _, rfl, fun a ha => ⟨(by show 2 ≤ sizeLine; decide), fun t ht => ⟨fa, vs, _, rfl, rfl, (B.step (n := 32) (q := "BadNumber") hfa rfl rfl (by decide) ha ht).1, B.sz (by decide), _, rfl, (B.step (n := 32) (q := "BadNumber") hfa rfl rfl (by decide) ha ht).2⟩⟩⟩, ?_⟩
    clear B
    rintro σ H1 ⟨vs, rfl, B⟩
    refine ⟨fun σ' H' => ∃ vs, σ' = [some (.str s), some (.ref fa)] ∧ Pd T.C H fa 8 ps_b vs H', ⟨_, rfl, .inl ⟨rfl, _, SqL.of B.l⟩, _, rfl, fun a ha => ⟨(by show 2 ≤ sizeLine; decide), fun t ht => ⟨fa, vs, _, rfl, rfl, (B.step (n := 33) (q := "BadOrder") hfa rfl rfl (by decide) ha ht).1, B.sz (by decide), _, rfl, (B.step (n := 33) (q := "BadOrder") hfa rfl rfl (by decide) ha ht).2⟩⟩⟩, ?_⟩
    clear B
    rintro σ H1 ⟨vs, rfl, B⟩
    refine ⟨fun σ' H' => ∃ vs, σ' = [some (.str s), some (.ref fa)] ∧ Pd T.C H fa 9 ps_b vs H', ⟨_, rfl, .inl ⟨rfl, _, SqL.of B.l⟩, _, rfl, fun a ha => ⟨(by show 2 ≤ sizeLine; decide), fun t ht => ⟨fa, vs, _, rfl, rfl, (B.step (n := 34) (q := "BadOther") hfa rfl rfl (by decide) ha ht).1, B.sz (by decide), _, rfl, (B.step (n := 34) (q := "BadOther") hfa rfl rfl (by decide) ha ht).2⟩⟩⟩, ?_⟩
    clear B
    rintro σ H1 ⟨vs, rfl, B⟩
    refine ⟨fun σ' H' => ∃ vs, σ' = [some (.str s), some (.ref fa)] ∧ Pd T.C H fa 10 ps_b vs H', ⟨_, rfl, .inl ⟨rfl, _, SqL.of B.l⟩, _, rfl, fun a ha => ⟨(by show 2 ≤ sizeLine; decide), fun t ht => ⟨fa, vs, _, rfl, rfl, (B.step (n := 35) (q := "BadPlace") hfa rfl rfl (by decide) ha ht).1, B.sz (by decide), _, rfl, (B.step (n := 35) (q := "BadPlace") hfa rfl rfl (by decide) ha ht).2⟩⟩⟩, ?_⟩
    clear B
    rintro σ H1 ⟨vs, rfl, B⟩
    refine ⟨fun σ' H' => ∃ vs, σ' = [some (.str s), some (.ref fa)] ∧ Pd T.C H fa 11 ps_b vs H', ⟨_, rfl, .inl ⟨rfl, _, SqL.of B.l⟩, _, rfl, fun a ha => ⟨(by show 2 ≤ sizeLine; decide), fun t ht => ⟨fa, vs, _, rfl, rfl, (B.step (n := 36) (q := "BadPlan") hfa rfl rfl (by decide) ha ht).1, B.sz (by decide), _, rfl, (B.step (n := 36) (q := "BadPlan") hfa rfl rfl (by decide) ha ht).2⟩⟩⟩, ?_⟩
    clear B
    rintro σ H1 ⟨vs, rfl, B⟩
    refine ⟨fun σ' H' => ∃ vs, σ' = [some (.str s), some (.ref fa)] ∧ Pd T.C H fa 12 ps_b vs H', ⟨_, rfl, .inl ⟨rfl, _, SqL.of B.l⟩, _, rfl, fun a ha => ⟨(by show 2 ≤ sizeLine; decide), fun t ht => ⟨fa, vs, _, rfl, rfl, (B.step (n := 37) (q := "BadPlane") hfa rfl rfl (by decide) ha ht).1, B.sz (by decide), _, rfl, (B.step (n := 37) (q := "BadPlane") hfa rfl rfl (by decide) ha ht).2⟩⟩⟩, ?_⟩
    clear B
    rintro σ H1 ⟨vs, rfl, B⟩
    refine ⟨fun σ' H' => ∃ vs, σ' = [some (.str s), some (.ref fa)] ∧ Pd T.C H fa 13 ps_b vs H', ⟨_, rfl, .inl ⟨rfl, _, SqL.of B.l⟩, _, rfl, fun a ha => ⟨(by show 2 ≤ sizeLine; decide), fun t ht => ⟨fa, vs, _, rfl, rfl, (B.step (n := 38) (q := "BadPlanes") hfa rfl rfl (by decide) ha ht).1, B.sz (by decide), _, rfl, (B.step (n := 38) (q := "BadPlanes") hfa rfl rfl (by decide) ha ht).2⟩⟩⟩, ?_⟩
    clear B
    rintro σ H1 ⟨vs, rfl, B⟩
    refine ⟨fun σ' H' => ∃ vs, σ' = [some (.str s), some (.ref fa)] ∧ Pd T.C H fa 14 ps_b vs H', ⟨_, rfl, .inl ⟨rfl, _, SqL.of B.l⟩, _, rfl, fun a ha => ⟨(by show 2 ≤ sizeLine; decide), fun t ht => ⟨fa, vs, _, rfl, rfl, (B.step (n := 39) (q := "BadPrice") hfa rfl rfl (by decide) ha ht).1, B.sz (by decide), _, rfl, (B.step (n := 39) (q := "BadPrice") hfa rfl rfl (by decide) ha ht).2⟩⟩⟩, ?_⟩
    clear B
    rintro σ H1 ⟨vs, rfl, B⟩
    refine ⟨fun σ' H' => ∃ vs, σ' = [some (.str s), some (.ref fa)] ∧ Pd T.C H fa 15 ps_b vs H', ⟨_, rfl, .inl ⟨rfl, _, SqL.of B.l⟩, _, rfl, fun a ha => ⟨(by show 2 ≤ sizeLine; decide), fun t ht => ⟨fa, vs, _, rfl, rfl, (B.step (n := 40) (q := "BadRate") hfa rfl rfl (by decide) ha ht).1, B.sz (by decide), _, rfl, (B.step (n := 40) (q := "BadRate") hfa rfl rfl (by decide) ha ht).2⟩⟩⟩, ?_⟩
    clear B
    rintro σ H1 ⟨vs, rfl, B⟩
    refine ⟨fun σ' H' => ∃ vs, σ' = [some (.str s), some (.ref fa)] ∧ Pd T.C H fa 16 ps_b vs H', ⟨_, rfl, .inl ⟨rfl, _, SqL.of B.l⟩, _, rfl, fun a ha => ⟨(by show 2 ≤ sizeLine; decide), fun t ht => ⟨fa, vs, _, rfl, rfl, (B.step (n := 41) (q := "BadReach") hfa rfl rfl (by decide) ha ht).1, B.sz (by decide), _, rfl, (B.step (n := 41) (q := "BadReach") hfa rfl rfl (by decide) ha ht).2⟩⟩⟩, ?_⟩
    clear B
    rintro σ H1 ⟨vs, rfl, B⟩
    refine ⟨fun σ' H' => ∃ vs, σ' = [some (.str s), some (.ref fa)] ∧ Pd T.C H fa 17 ps_b vs H', ⟨_, rfl, .inl ⟨rfl, _, SqL.of B.l⟩, _, rfl, fun a ha => ⟨(by show 2 ≤ sizeLine; decide), fun t ht => ⟨fa, vs, _, rfl, rfl, (B.step (n := 42) (q := "BadRectangle") hfa rfl rfl (by decide) ha ht).1, B.sz (by decide), _, rfl, (B.step (n := 42) (q := "BadRectangle") hfa rfl rfl (by decide) ha ht).2⟩⟩⟩, ?_⟩
    clear B
    rintro σ H1 ⟨vs, rfl, B⟩
    refine ⟨fun σ' H' => ∃ vs, σ' = [some (.str s), some (.ref fa)] ∧ Pd T.C H fa 18 ps_b vs H', ⟨_, rfl, .inl ⟨rfl, _, SqL.of B.l⟩, _, rfl, fun a ha => ⟨(by show 2 ≤ sizeLine; decide), fun t ht => ⟨fa, vs, _, rfl, rfl, (B.step (n := 44) (q := "BadReferences") hfa rfl rfl (by decide) ha ht).1, B.sz (by decide), _, rfl, (B.step (n := 44) (q := "BadReferences") hfa rfl rfl (by decide) ha ht).2⟩⟩⟩, ?_⟩
    clear B
    rintro σ H1 ⟨vs, rfl, B⟩
    refine ⟨fun σ' H' => ∃ vs, σ' = [some (.str s), some (.ref fa)] ∧ Pd T.C H fa 19 ps_b vs H', ⟨_, rfl, .inl ⟨rfl, _, SqL.of B.l⟩, _, rfl, fun a ha => ⟨(by show 2 ≤ sizeLine; decide), fun t ht => ⟨fa, vs, _, rfl, rfl, (B.step (n := 46) (q := "BadRoom") hfa rfl rfl (by decide) ha ht).1, B.sz (by decide), _, rfl, (B.step (n := 46) (q := "BadRoom") hfa rfl rfl (by decide) ha ht).2⟩⟩⟩, ?_⟩
    clear B
    rintro σ H1 ⟨vs, rfl, B⟩
    refine ⟨fun σ' H' => ∃ vs, σ' = [some (.str s), some (.ref fa)] ∧ Pd T.C H fa 20 ps_b vs H', ⟨_, rfl, .inl ⟨rfl, _, SqL.of B.l⟩, _, rfl, fun a ha => ⟨(by show 2 ≤ sizeLine; decide), fun t ht => ⟨fa, vs, _, rfl, rfl, (B.step (n := 47) (q := "BadRow") hfa rfl rfl (by decide) ha ht).1, B.sz (by decide), _, rfl, (B.step (n := 47) (q := "BadRow") hfa rfl rfl (by decide) ha ht).2⟩⟩⟩, ?_⟩
    clear B
    rintro σ H1 ⟨vs, rfl, B⟩
    exact ⟨_, rfl, k fa vs H1 hfa B.s B.l B.p⟩
def ps_c : List Nat := [48, 50, 51, 52, 53, 54, 55, 56, 57, 62, 63, 64, 65, 66, 67, 69, 70, 72, 73, 74]
theorem ok__law_plain_c : FnOk P w K mg base (L2.CX P w) 1 T._law_plain_c.a T._law_plain_c.d ["text_here"] (spPlain T.C ps_c) := by
  refine T._law_plain_c.f.okX sc__law_plain_c (fun vs H Q E h => ?_) (fun cdv A outer s H vs Q E hr h => ?_)
  · obtain ⟨s, rfl, _⟩ := h
    rfl
  · obtain ⟨s, rfl, k⟩ := h
    refine ⟨_, pss_cut (ps_set (i := 1) sc__law_plain_c.nd rfl (.inl rfl) (pe_lst pa_nil))
      (pss_cut (ps_expr (pe_bm PySem.F.plainAttrs_list PySem.F.slot_list_append PySem.F.type_list_append mt_append (pv 1) (pa_cons (pe_tup (pa_cons pe_str (pa_cons (pe_exc1 PySem.F.excBase_ValueError T.q_BadSet T.g_BadSet (T.keep 48 (by decide)) (by rfl) (pv 0)) pa_nil))) pa_nil)))
      (pss_cut (ps_expr (pe_bm PySem.F.plainAttrs_list PySem.F.slot_list_append PySem.F.type_list_append mt_append (pv 1) (pa_cons (pe_tup (pa_cons pe_str (pa_cons (pe_exc1 PySem.F.excBase_ValueError T.q_BadShares T.g_BadShares (T.keep 50 (by decide)) (by rfl) (pv 0)) pa_nil))) pa_nil)))
      (pss_cut (ps_expr (pe_bm PySem.F.plainAttrs_list PySem.F.slot_list_append PySem.F.type_list_append mt_append (pv 1) (pa_cons (pe_tup (pa_cons pe_str (pa_cons (pe_exc1 PySem.F.excBase_ValueError T.q_BadShift T.g_BadShift (T.keep 51 (by decide)) (by rfl) (pv 0)) pa_nil))) pa_nil)))
      (pss_cut (ps_expr (pe_bm PySem.F.plainAttrs_list PySem.F.slot_list_append PySem.F.type_list_append mt_append (pv 1) (pa_cons (pe_tup (pa_cons pe_str (pa_cons (pe_exc1 PySem.F.excBase_ValueError T.q_BadShows T.g_BadShows (T.keep 52 (by decide)) (by rfl) (pv 0)) pa_nil))) pa_nil)))
      (pss_cut (ps_expr (pe_bm PySem.F.plainAttrs_list PySem.F.slot_list_append PySem.F.type_list_append mt_append (pv 1) (pa_cons (pe_tup (pa_cons pe_str (pa_cons (pe_exc1 PySem.F.excBase_ValueError T.q_BadSize T.g_BadSize (T.keep 53 (by decide)) (by rfl) (pv 0)) pa_nil))) pa_nil)))
      (pss_cut (ps_expr (pe_bm PySem.F.plainAttrs_list PySem.F.slot_list_append PySem.F.type_list_append mt_append (pv 1) (pa_cons (pe_tup (pa_cons pe_str (pa_cons (pe_exc1 PySem.F.excBase_ValueError T.q_BadSizes T.g_BadSizes (T.keep 54 (by decide)) (by rfl) (pv 0)) pa_nil))) pa_nil)))
      (pss_cut (ps_expr (pe_bm PySem.F.plainAttrs_list PySem.F.slot_list_append PySem.F.type_list_append mt_append (pv 1) (pa_cons (pe_tup (pa_cons pe_str (pa_cons (pe_exc1 PySem.F.excBase_ValueError T.q_BadSpans T.g_BadSpans (T.keep 55 (by decide)) (by rfl) (pv 0)) pa_nil))) pa_nil)))
      (pss_cut (ps_expr (pe_bm PySem.F.plainAttrs_list PySem.F.slot_list_append PySem.F.type_list_append mt_append (pv 1) (pa_cons (pe_tup (pa_cons pe_str (pa_cons (pe_exc1 PySem.F.excBase_ValueError T.q_BadSpot T.g_BadSpot (T.keep 56 (by decide)) (by rfl) (pv 0)) pa_nil))) pa_nil)))
      (pss_cut (ps_expr (pe_bm PySem.F.plainAttrs_list PySem.F.slot_list_append PySem.F.type_list_append mt_append (pv 1) (pa_cons (pe_tup (pa_cons pe_str (pa_cons (pe_exc1 PySem.F.excBase_ValueError T.q_BadState T.g_BadState (T.keep 57 (by decide)) (by rfl) (pv 0)) pa_nil))) pa_nil)))
      (pss_cut (ps_expr (pe_bm PySem.F.plainAttrs_list PySem.F.slot_list_append PySem.F.type_list_append mt_append (pv 1) (pa_cons (pe_tup (pa_cons pe_str (pa_cons (pe_exc1 PySem.F.excBase_ValueError T.q_BadTelling T.g_BadTelling (T.keep 62 (by decide)) (by rfl) (pv 0)) pa_nil))) pa_nil)))
      (pss_cut (ps_expr (pe_bm PySem.F.plainAttrs_list PySem.F.slot_list_append PySem.F.type_list_append mt_append (pv 1) (pa_cons (pe_tup (pa_cons pe_str (pa_cons (pe_exc1 PySem.F.excBase_ValueError T.q_BadUpper T.g_BadUpper (T.keep 63 (by decide)) (by rfl) (pv 0)) pa_nil))) pa_nil)))
      (pss_cut (ps_expr (pe_bm PySem.F.plainAttrs_list PySem.F.slot_list_append PySem.F.type_list_append mt_append (pv 1) (pa_cons (pe_tup (pa_cons pe_str (pa_cons (pe_exc1 PySem.F.excBase_ValueError T.q_BadVector T.g_BadVector (T.keep 64 (by decide)) (by rfl) (pv 0)) pa_nil))) pa_nil)))
      (pss_cut (ps_expr (pe_bm PySem.F.plainAttrs_list PySem.F.slot_list_append PySem.F.type_list_append mt_append (pv 1) (pa_cons (pe_tup (pa_cons pe_str (pa_cons (pe_exc1 PySem.F.excBase_ValueError T.q_BadWait T.g_BadWait (T.keep 65 (by decide)) (by rfl) (pv 0)) pa_nil))) pa_nil)))
      (pss_cut (ps_expr (pe_bm PySem.F.plainAttrs_list PySem.F.slot_list_append PySem.F.type_list_append mt_append (pv 1) (pa_cons (pe_tup (pa_cons pe_str (pa_cons (pe_exc1 PySem.F.excBase_ValueError T.q_BadWanted T.g_BadWanted (T.keep 66 (by decide)) (by rfl) (pv 0)) pa_nil))) pa_nil)))
      (pss_cut (ps_expr (pe_bm PySem.F.plainAttrs_list PySem.F.slot_list_append PySem.F.type_list_append mt_append (pv 1) (pa_cons (pe_tup (pa_cons pe_str (pa_cons (pe_exc1 PySem.F.excBase_ValueError T.q_BadWay T.g_BadWay (T.keep 67 (by decide)) (by rfl) (pv 0)) pa_nil))) pa_nil)))
      (pss_cut (ps_expr (pe_bm PySem.F.plainAttrs_list PySem.F.slot_list_append PySem.F.type_list_append mt_append (pv 1) (pa_cons (pe_tup (pa_cons pe_str (pa_cons (pe_exc1 PySem.F.excBase_ValueError T.q_BadWish T.g_BadWish (T.keep 69 (by decide)) (by rfl) (pv 0)) pa_nil))) pa_nil)))
      (pss_cut (ps_expr (pe_bm PySem.F.plainAttrs_list PySem.F.slot_list_append PySem.F.type_list_append mt_append (pv 1) (pa_cons (pe_tup (pa_cons pe_str (pa_cons (pe_exc1 PySem.F.excBase_ValueError T.q_BadWorths T.g_BadWorths (T.keep 70 (by decide)) (by rfl) (pv 0)) pa_nil))) pa_nil)))
      (pss_cut (ps_expr (pe_bm PySem.F.plainAttrs_list PySem.F.slot_list_append PySem.F.type_list_append mt_append (pv 1) (pa_cons (pe_tup (pa_cons pe_str (pa_cons (pe_exc1 PySem.F.excBase_ValueError T.q_NothingDone T.g_NothingDone (T.keep 72 (by decide)) (by rfl) (pv 0)) pa_nil))) pa_nil)))
      (pss_cut (ps_expr (pe_bm PySem.F.plainAttrs_list PySem.F.slot_list_append PySem.F.type_list_append mt_append (pv 1) (pa_cons (pe_tup (pa_cons pe_str (pa_cons (pe_exc1 PySem.F.excBase_ValueError T.q_OtherKinds T.g_OtherKinds (T.keep 73 (by decide)) (by rfl) (pv 0)) pa_nil))) pa_nil)))
      (pss_cut (ps_expr (pe_bm PySem.F.plainAttrs_list PySem.F.slot_list_append PySem.F.type_list_append mt_append (pv 1) (pa_cons (pe_tup (pa_cons pe_str (pa_cons (pe_exc1 PySem.F.excBase_ValueError T.q_OtherShapes T.g_OtherShapes (T.keep 74 (by decide)) (by rfl) (pv 0)) pa_nil))) pa_nil)))
      (pss_one (ps_ret (pv 1))))))))))))))))))))))), ?_⟩
    refine ⟨fun σ' H' => ∃ fa, σ' = [some (.str s), some (.ref fa)] ∧ H fa = none ∧ Pd T.C H fa 0 ps_c [] H', ⟨(by decide), fun fa hfa => ⟨fa, rfl, hfa, upd_same, .nil, Same.new hfa⟩⟩, ?_⟩
    rintro σ H1 ⟨fa, rfl, hfa, B⟩
    obtain ⟨vs, B⟩ : ∃ vs, Pd T.C H fa 0 ps_c vs H1 := ⟨_, B⟩
    refine ⟨fun σ' H' => ∃ vs, σ' = [some (.str s), some (.ref fa)] ∧ Pd T.C H fa 1 ps_c vs H', ⟨_, rfl, .inl ⟨rfl, _, SqL.of B.l⟩, _, rfl, fun a ha => ⟨(by show 2 ≤ sizeLine; decide), fun t ht => ⟨fa, vs, _, rfl, rfl, (B.step (n := 48) (q := "BadSet") hfa rfl rfl (by decide) ha ht).1, B.sz (by decide), _, rfl, (B.step (n := 48) (q := "BadSet") hfa rfl rfl (by decide) ha ht).2⟩⟩⟩, ?_⟩
    clear B
    rintro σ H1 ⟨vs, rfl, B⟩
    refine ⟨fun σ' H' => ∃ vs, σ' = [some (.str s), some (.ref fa)] ∧ Pd T.C H fa 2 ps_c vs H', ⟨_, rfl, .inl ⟨rfl, _, SqL.of B.l⟩, _, rfl, fun a ha => ⟨(by show 2 ≤ sizeLine; decide), fun t ht => ⟨fa, vs, _, rfl, rfl, (B.step (n := 50) (q := "BadShares") hfa rfl rfl (by decide) ha ht).1, B.sz (by decide), _, rfl, (B.step (n := 50) (q := "BadShares") hfa rfl rfl (by decide) ha ht).2⟩⟩⟩, ?_⟩
    clear B
    rintro σ H1 ⟨vs, rfl, B⟩
    refine ⟨fun σ' H' => ∃ vs, σ' = [some (.str s), some (.ref fa)] ∧ Pd T.C H fa 3 ps_c vs H', ⟨_, rfl, .inl ⟨rfl, _, SqL.of B.l⟩, _, rfl, fun a ha => ⟨(by show 2 ≤ sizeLine; decide), fun t ht => ⟨fa, vs, _, rfl, rfl, (B.step (n := 51) (q := "BadShift") hfa rfl rfl (by decide) ha ht).1, B.sz (by decide), _, rfl, (B.step (n := 51) (q := "BadShift") hfa rfl rfl (by decide) ha ht).2⟩⟩⟩, ?_⟩
    clear B
    rintro σ H1 ⟨vs, rfl, B⟩
    refine ⟨fun σ' H' => ∃ vs, σ' = [some (.str s), some (.ref fa)] ∧ Pd T.C H fa 4 ps_c vs H', ⟨_, rfl, .inl ⟨rfl, _, SqL.of B.l⟩, _, rfl, fun a ha => ⟨(by show 2 ≤ sizeLine; decide), fun t ht => ⟨fa, vs, _, rfl, rfl, (B.step (n := 52) (q := "BadShows") hfa rfl rfl (by decide) ha ht).1, B.sz (by decide), _, rfl, (B.step (n := 52) (q := "BadShows") hfa rfl rfl (by decide) ha ht).2⟩⟩⟩, ?_⟩
    clear B
    rintro σ H1 ⟨vs, rfl, B⟩
    refine ⟨fun σ' H' => ∃ vs, σ' = [some (.str s), some (.ref fa)] ∧ Pd T.C H fa 5 ps_c vs H', ⟨_, rfl, .inl ⟨rfl, _, SqL.of B.l⟩, _, rfl, fun a ha => ⟨(by show 2 ≤ sizeLine; decide), fun t ht => ⟨fa, vs, _, rfl, rfl, (B.step (n := 53) (q := "BadSize") hfa rfl rfl (by decide) ha ht).1, B.sz (by decide), _, rfl, (B.step (n := 53) (q := "BadSize") hfa rfl rfl (by decide) ha ht).2⟩⟩⟩, ?_⟩
    clear B
    rintro σ H1 ⟨vs, rfl, B⟩
    refine ⟨fun σ' H' => ∃ vs, σ' = [some (.str s), some (.ref fa)] ∧ Pd T.C H fa 6 ps_c vs H', ⟨_, rfl, .inl ⟨rfl, _, SqL.of B.l⟩, _, rfl, fun a ha => ⟨(by show 2 ≤ sizeLine; decide), fun t ht => ⟨fa, vs, _, rfl, rfl, (B.step (n := 54) (q := "BadSizes") hfa rfl rfl (by decide) ha ht).1, B.sz (by decide), _, rfl, (B.step (n := 54) (q := "BadSizes") hfa rfl rfl (by decide) ha ht).2⟩⟩⟩, ?_⟩
    clear B
    rintro σ H1 ⟨vs, rfl, B⟩
    refine ⟨fun σ' H' => ∃ vs, σ' = [some (.str s), some (.ref fa)] ∧ Pd T.C H fa 7 ps_c vs H', ⟨_, rfl, .inl ⟨rfl, _, SqL.of B.l⟩, _, rfl, fun a ha => ⟨(by show 2 ≤ sizeLine; decide), fun t ht => ⟨fa, vs, _, rfl, rfl, (B.step (n := 55) (q := "BadSpans") hfa rfl rfl (by decide) ha ht).1, B.sz (by decide), _, rfl, (B.step (n := 55) (q := "BadSpans") hfa rfl rfl (by decide) ha ht).2⟩⟩⟩, ?_⟩
    clear B
    rintro σ H1 ⟨vs, rfl, B⟩
    refine ⟨fun σ' H' => ∃ vs, σ' = [some (.str s), some (.ref fa)] ∧ Pd T.C H fa 8 ps_c vs H', ⟨_, rfl, .inl ⟨rfl, _, SqL.of B.l⟩, _, rfl, fun a ha => ⟨(by show 2 ≤ sizeLine; decide), fun t ht => ⟨fa, vs, _, rfl, rfl, (B.step (n := 56) (q := "BadSpot") hfa rfl rfl (by decide) ha ht).1, B.sz (by decide), _, rfl, (B.step (n := 56) (q := "BadSpot") hfa rfl rfl (by decide) ha ht).2⟩⟩⟩, ?_⟩
    clear B
    rintro σ H1 ⟨vs, rfl, B⟩
    refine ⟨fun σ' H' => ∃ vs, σ' = [some (.str s), some (.ref fa)] ∧ Pd T.C H fa 9 ps_c vs H', ⟨_, rfl, .inl ⟨rfl, _, SqL.of B.l⟩, _, rfl, fun a ha => ⟨(by show 2 ≤ sizeLine; decide), fun t ht => ⟨fa, vs, _, rfl, rfl, (B.step (n := 57) (q := "BadState") hfa rfl rfl (by decide) ha ht).1, B.sz (by decide), _, rfl, (B.step (n := 57) (q := "BadState") hfa rfl rfl (by decide) ha ht).2⟩⟩⟩, ?_⟩
    clear B
    rintro σ H1 ⟨vs, rfl, B⟩
    refine ⟨fun σ' H' => ∃ vs, σ' = [some (.str s), some (.ref fa)] ∧ Pd T.C H fa 10 ps_c vs H', ⟨_, rfl, .inl ⟨rfl, _, SqL.of B.l⟩, _, rfl, fun a ha => ⟨(by show 2 ≤ sizeLine; decide), fun t ht => ⟨fa, vs, _, rfl, rfl, (B.step (n := 62) (q := "BadTelling") hfa rfl rfl (by decide) ha ht).1, B.sz (by decide), _, rfl, (B.step (n := 62) (q := "BadTelling") hfa rfl rfl (by decide) ha ht).2⟩⟩⟩, ?_⟩
    clear B
    rintro σ H1 ⟨vs, rfl, B⟩
    refine ⟨fun σ' H' => ∃ vs, σ' = [some (.str s), some (.ref fa)] ∧ Pd T.C H fa 11 ps_c vs H', ⟨_, rfl, .inl ⟨rfl, _, SqL.of B.l⟩, _, rfl, fun a ha => ⟨(by show 2 ≤ sizeLine; decide), fun t ht => ⟨fa, vs, _, rfl, rfl, (B.step (n := 63) (q := "BadUpper") hfa rfl rfl (by decide) ha ht).1, B.sz (by decide), _, rfl, (B.step (n := 63) (q := "BadUpper") hfa rfl rfl (by decide) ha ht).2⟩⟩⟩, ?_⟩
    clear B
    rintro σ H1 ⟨vs, rfl, B⟩
    refine ⟨fun σ' H' => ∃ vs, σ' = [some (.str s), some (.ref fa)] ∧ Pd T.C H fa 12 ps_c vs H', ⟨_, rfl, .inl ⟨rfl, _, SqL.of B.l⟩, _, rfl, fun a ha => ⟨(by show 2 ≤ sizeLine; decide), fun t ht => ⟨fa, vs, _, rfl, rfl, (B.step (n := 64) (q := "BadVector") hfa rfl rfl (by decide) ha ht).1, B.sz (by decide), _, rfl, (B.step (n := 64) (q := "BadVector") hfa rfl rfl (by decide) ha ht).2⟩⟩⟩, ?_⟩
    clear B
    rintro σ H1 ⟨vs, rfl, B⟩
    refine ⟨fun σ' H' => ∃ vs, σ' = [some (.str s), some (.ref fa)] ∧ Pd T.C H fa 13 ps_c vs H', ⟨_, rfl, .inl ⟨rfl, _, SqL.of B.l⟩, _, rfl, fun a ha => ⟨(by show 2 ≤ sizeLine; decide), fun t ht => ⟨fa, vs, _, rfl, rfl, (B.step (n := 65) (q := "BadWait") hfa rfl rfl (by decide) ha ht).1, B.sz (by decide), _, rfl, (B.step (n := 65) (q := "BadWait") hfa rfl rfl (by decide) ha ht).2⟩⟩⟩, ?_⟩
    clear B
    rintro σ H1 ⟨vs, rfl, B⟩
    refine ⟨fun σ' H' => ∃ vs, σ' = [some (.str s), some (.ref fa)] ∧ Pd T.C H fa 14 ps_c vs H', ⟨_, rfl, .inl ⟨rfl, _, SqL.of B.l⟩, _, rfl, fun a ha => ⟨(by show 2 ≤ sizeLine; decide), fun t ht => ⟨fa, vs, _, rfl, rfl, (B.step (n := 66) (q := "BadWanted") hfa rfl rfl (by decide) ha ht).1, B.sz (by decide), _, rfl, (B.step (n := 66) (q := "BadWanted") hfa rfl rfl (by decide) ha ht).2⟩⟩⟩, ?_⟩
    clear B
    rintro σ H1 ⟨vs, rfl, B⟩
    refine ⟨fun σ' H' => ∃ vs, σ' = [some (.str s), some (.ref fa)] ∧ Pd T.C H fa 15 ps_c vs H', ⟨_, rfl, .inl ⟨rfl, _, SqL.of B.l⟩, _, rfl, fun a ha => ⟨(by show 2 ≤ sizeLine; decide), fun t ht => ⟨fa, vs, _, rfl, rfl, (B.step (n := 67) (q := "BadWay") hfa rfl rfl (by decide) ha ht).1, B.sz (by decide), _, rfl, (B.step (n := 67) (q := "BadWay") hfa rfl rfl (by decide) ha ht).2⟩⟩⟩, ?_⟩
    clear B
    rintro σ H1 ⟨vs, rfl, B⟩
    refine ⟨fun σ' H' => ∃ vs, σ' = [some (.str s), some (.ref fa)] ∧ Pd T.C H fa 16 ps_c vs H', ⟨_, rfl, .inl ⟨rfl, _, SqL.of B.l⟩, _, rfl, fun a ha => ⟨(by show 2 ≤ sizeLine; decide), fun t ht => ⟨fa, vs, _, rfl, rfl, (B.step (n := 69) (q := "BadWish") hfa rfl rfl (by decide) ha ht).1, B.sz (by decide), _, rfl, (B.step (n := 69) (q := "BadWish") hfa rfl rfl (by decide) ha ht).2⟩⟩⟩, ?_⟩
    clear B
    rintro σ H1 ⟨vs, rfl, B⟩
    refine ⟨fun σ' H' => ∃ vs, σ' = [some (.str s), some (.ref fa)] ∧ Pd T.C H fa 17 ps_c vs H', ⟨_, rfl, .inl ⟨rfl, _, SqL.of B.l⟩, _, rfl, fun a ha => ⟨(by show 2 ≤ sizeLine; decide), fun t ht => ⟨fa, vs, _, rfl, rfl, (B.step (n := 70) (q := "BadWorths") hfa rfl rfl (by decide) ha ht).1, B.sz (by decide), _, rfl, (B.step (n := 70) (q := "BadWorths") hfa rfl rfl (by decide) ha ht).2⟩⟩⟩, ?_⟩
    clear B
    rintro σ H1 ⟨vs, rfl, B⟩
    refine ⟨fun σ' H' => ∃ vs, σ' = [some (.str s), some (.ref fa)] ∧ Pd T.C H fa 18 ps_c vs H', ⟨_, rfl, .inl ⟨rfl, _, SqL.of B.l⟩, _, rfl, fun a ha => ⟨(by show 2 ≤ sizeLine; decide), fun t ht => ⟨fa, vs, _, rfl, rfl, (B.step (n := 72) (q := "NothingDone") hfa rfl rfl (by decide) ha ht).1, B.sz (by decide), _, rfl, (B.step (n := 72) (q := "NothingDone") hfa rfl rfl (by decide) ha ht).2⟩⟩⟩, ?_⟩
    clear B
    rintro σ H1 ⟨vs, rfl, B⟩
    refine ⟨fun σ' H' => ∃ vs, σ' = [some (.str s), some (.ref fa)] ∧ Pd T.C H fa 19 ps_c vs H', ⟨_, rfl, .inl ⟨rfl, _, SqL.of B.l⟩, _, rfl, fun a ha => ⟨(by show 2 ≤ sizeLine; decide), fun t ht => ⟨fa, vs, _, rfl, rfl, (B.step (n := 73) (q := "OtherKinds") hfa rfl rfl (by decide) ha ht).1, B.sz (by decide), _, rfl, (B.step (n := 73) (q := "OtherKinds") hfa rfl rfl (by decide) ha ht).2⟩⟩⟩, ?_⟩
    clear B
    rintro σ H1 ⟨vs, rfl, B⟩
    refine ⟨fun σ' H' => ∃ vs, σ' = [some (.str s), some (.ref fa)] ∧ Pd T.C H fa 20 ps_c vs H', ⟨_, rfl, .inl ⟨rfl, _, SqL.of B.l⟩, _, rfl, fun a ha => ⟨(by show 2 ≤ sizeLine; decide), fun t ht => ⟨fa, vs, _, rfl, rfl, (B.step (n := 74) (q := "OtherShapes") hfa rfl rfl (by decide) ha ht).1, B.sz (by decide), _, rfl, (B.step (n := 74) (q := "OtherShapes") hfa rfl rfl (by decide) ha ht).2⟩⟩⟩, ?_⟩
    clear B
    rintro σ H1 ⟨vs, rfl, B⟩
    exact ⟨_, rfl, k fa vs H1 hfa B.s B.l B.p⟩
end
end K00
namespace K00
open PySem PySem.Spec PyProof.Rows L2 PySem.W LamX KA K0U
/-! ### what holds of a value holds on -/
mutual
theorem dp_same {K : PySem.W.Frag} {H H' : Hp} (s : Same H H') : ∀ (d : PyData) (v : V), Dp K H v d → Dp K H' v d
  | .none, _, h => by
    cases h
    exact .non
  | .bool b, _, h => by
    cases h
    exact .bl b
  | .int i, _, h => by
    cases h
    exact .int i
  | .str x, _, h => by
    cases h
    exact .str x
  | .list ds, _, h => by
    cases h with
    | lst hs ha => exact .lst (s.seq hs) (dp_sames s ds _ ha)
  | .tuple ds, _, h => by
    cases h with
    | tup hs ha => exact .tup (hs.imp (fun q => q.imp (s _ _) fun ⟨o, z⟩ => ⟨o, s _ _ z⟩) id) (dp_sames s ds _ ha)
  | .dict _, _, h => by cases h
theorem dp_sames {K : PySem.W.Frag} {H H' : Hp} (s : Same H H') : ∀ (ds : List PyData) (vs : List V), DpAll K H vs ds → DpAll K H' vs ds
  | [], _, h => by
    cases h
    exact .nil
  | d :: ds, _, h => by
    cases h with
    | cons h1 h2 => exact .cons (dp_same s d _ h1) (dp_sames s ds _ h2)
end
theorem it_same {K : PySem.W.Frag} {H H' : Hp} {v : V} {d : PyData} (h : It K H v d) (s : Same H H') : It K H' v d := by
  cases h with
  | non => exact .non
  | bl b => exact .bl b
  | int i hi => exact .int i hi
  | str x h1 h2 => exact .str x h1 h2
  | dp h1 hs hn hz hl => exact .dp (dp_same s _ _ h1) hs hn hz hl
  | d0 e => exact .d0 (s _ _ e)
  | d1 e => exact .d1 (s _ _ e)
/-- triples of a name, an error of its class and what it holds -/
inductive TL (C : Nat → Addr) (v : V) (H : Hp) : List V → List Nat → Prop
  | nil : TL C v H [] []
  | cons {t a : Addr} {n : Nat} {q : Str} {vs : List V} {ns : List Nat} (e : H t = some (.tup [.str q, .ref a, v])) (hq : q = name n) (hn : n < 76) (k : ExK H (C n) a) (r : TL C v H vs ns) : TL C v H (.ref t :: vs) (n :: ns)
theorem TL.mono {C : Nat → Addr} {v : V} {H H' : Hp} {vs : List V} {ns : List Nat} (p : TL C v H vs ns) (k : ∀ b o, H b = some o → (∀ xs, o ≠ .lst xs) → H' b = some o) : TL C v H' vs ns := by
  induction p with
  | nil => exact .nil
  | cons e hq hn x _ ih => exact .cons (k _ _ e (fun xs z => by cases z)) hq hn (x.mono k) ih
theorem TL.append {C : Nat → Addr} {v : V} {H : Hp} {vs vs' : List V} {ns ns' : List Nat} (p : TL C v H vs ns) (q : TL C v H vs' ns') : TL C v H (vs ++ vs') (ns ++ ns') := by
  induction p with
  | nil => exact q
  | cons e hq hn x _ ih => exact .cons e hq hn x ih
theorem TL.len {C : Nat → Addr} {v : V} {H : Hp} {vs : List V} {ns : List Nat} (p : TL C v H vs ns) : vs.length = ns.length := by
  induction p with
  | nil => rfl
  | cons _ _ _ _ _ ih => simp [ih]
structure Td (C : Nat → Addr) (H0 : Hp) (v : V) (fa i : Nat) (ns : List Nat) (vs : List V) (H : Hp) : Prop where
  l : H fa = some (.lst vs)
  p : TL C v H vs (ns.take i)
  s : Same H0 H
theorem Td.sz {C : Nat → Addr} {v : V} {H0 H : Hp} {fa i : Nat} {ns : List Nat} {vs : List V} (h : Td C H0 v fa i ns vs H) (l : ns.length ≤ 100) : vs.length < sizeLine := by
  rw [h.p.len, List.length_take]
  exact Nat.lt_of_le_of_lt (Nat.min_le_right _ _) (Nat.lt_of_le_of_lt l (by decide))
theorem Td.same {C : Nat → Addr} {v : V} {H0 H H' : Hp} {fa i : Nat} {ns : List Nat} {vs : List V} (h : Td C H0 v fa i ns vs H) (e : Same H H') : Td C H0 v fa i ns vs H' := ⟨e _ _ h.l, h.p.mono fun b o z _ => e _ _ z, h.s.trans e⟩
theorem Td.step {C : Nat → Addr} {v : V} {H0 H : Hp} {fa i n : Nat} {ns : List Nat} {vs : List V} {a t : Addr} {q : Str} (h : Td C H0 v fa i ns vs H) (f : H0 fa = none) (e : ns[i]? = some n) (hq : q = name n) (hn : n < 76) (x : ExK H (C n) a) (ht : H t = none) :
    (upd H t (.tup [.str q, .ref a, v])) fa = some (.lst vs) ∧ Td C H0 v fa (i + 1) ns (vs ++ [.ref t]) (upd (upd H t (.tup [.str q, .ref a, v])) fa (.lst (vs ++ [.ref t]))) := by
  have s2 : Same H (upd H t (.tup [.str q, .ref a, v])) := Same.new ht
  have l2 := s2 _ _ h.l
  have keep : ∀ b o, (upd H t (.tup [.str q, .ref a, v])) b = some o → (∀ xs, o ≠ .lst xs) → (upd (upd H t (.tup [.str q, .ref a, v])) fa (.lst (vs ++ [.ref t]))) b = some o := fun b o z nl => by
    rw [upd_ne (fun y => by rw [y, l2] at z; exact nl _ (Option.some.inj z).symm)]
    exact z
  refine ⟨l2, upd_same, ?_, fun b o z => ?_⟩
  · rw [List.take_add_one, e]
    refine TL.append ?_ ?_
    · exact h.p.mono fun b o z nl => keep b o (s2 _ _ z) nl
    · exact .cons (keep _ _ upd_same (fun xs z => by cases z)) hq hn ((x.same s2).mono keep) .nil
  · rw [upd_ne (ne_of_none z f)]
    exact s2 _ _ (h.s b o z)
def spHeld (K : PySem.W.Frag) (C : Nat → Addr) (ns : List Nat) : Sp := fun vs H Q _ => ∃ v d, vs = [v] ∧ It K H v d ∧ ∀ p us H', H p = none → Same H H' → H' p = some (.lst us) → TL C v H' us ns → Q (.ref p) H'
end K00
namespace K00
open PySem PySem.Spec PyProof.Rows L2 PySem.W LamX KA K0U KU
open Evl (pss_cut tCut)
/-! ### errors that hold something -/
theorem bu_at : BindsUp "at" (fun a b => ⟨[a, b], []⟩) := fun _ _ _ _ _ _ _ _ _ _ _ _ _ _ _ _ _ _ _ _ _ => rfl
theorem bk_at : BindsUp "at" (fun a b => ⟨[a], [("at", b)]⟩) := fun _ _ _ _ _ _ _ _ _ _ _ _ _ _ _ _ _ _ _ _ _ => rfl
theorem bu_part : BindsUp "part" (fun a b => ⟨[a, b], []⟩) := fun _ _ _ _ _ _ _ _ _ _ _ _ _ _ _ _ _ _ _ _ _ => rfl
theorem bk_part : BindsUp "part" (fun a b => ⟨[a], [("part", b)]⟩) := fun _ _ _ _ _ _ _ _ _ _ _ _ _ _ _ _ _ _ _ _ _ => rfl
theorem bu_mode : BindsUp "mode" (fun a b => ⟨[a, b], []⟩) := fun _ _ _ _ _ _ _ _ _ _ _ _ _ _ _ _ _ _ _ _ _ => rfl
theorem bk_mode : BindsUp "mode" (fun a b => ⟨[a], [("mode", b)]⟩) := fun _ _ _ _ _ _ _ _ _ _ _ _ _ _ _ _ _ _ _ _ _ => rfl
theorem bu_word : BindsUp "word" (fun a b => ⟨[a, b], []⟩) := fun _ _ _ _ _ _ _ _ _ _ _ _ _ _ _ _ _ _ _ _ _ => rfl
theorem bk_word : BindsUp "word" (fun a b => ⟨[a], [("word", b)]⟩) := fun _ _ _ _ _ _ _ _ _ _ _ _ _ _ _ _ _ _ _ _ _ => rfl
theorem bu_most : BindsUp "most" (fun a b => ⟨[a, b], []⟩) := fun _ _ _ _ _ _ _ _ _ _ _ _ _ _ _ _ _ _ _ _ _ => rfl
theorem bk_most : BindsUp "most" (fun a b => ⟨[a], [("most", b)]⟩) := fun _ _ _ _ _ _ _ _ _ _ _ _ _ _ _ _ _ _ _ _ _ => rfl
def hs : List Nat := [6, 12, 16, 20, 21, 30, 43, 45, 49, 58, 59, 60, 61, 68, 71, 75]
section
variable {P : Program} {w : World} {K : PySem.W.Frag} {mg : Str → Option Value} {base : Heap} (T : Top K mg) (Hd : Helds P K mg T.C)
include Hd
theorem ok__law_held : FnG P w K mg base (L2.CX P w) 1 T._law_held.a T._law_held.d ["item"] (spHeld K T.C hs) := by
  refine fnG_of T._law_held.f sc__law_held (fun vs H Q E h => ?_) (fun cdv A outer s0 H vs Q E hr hg h => ?_)
  · obtain ⟨v, d, rfl, _⟩ := h
    rfl
  · obtain ⟨v, d, rfl, it, k⟩ := h
    refine ⟨_, pss_cut (ps_set (i := 1) sc__law_held.nd rfl (.inl rfl) (pe_lst pa_nil))
      (pss_cut (ps_set (i := 2) sc__law_held.nd rfl (.inl rfl) (pe_upV Hd.BadCosts bu_at hr hg (pa_cons (pv 0) pa_nil) (by rfl)))
      (pss_cut (ps_expr (pe_bm PySem.F.plainAttrs_list PySem.F.slot_list_append PySem.F.type_list_append mt_append (pv 1) (pa_cons (pe_tup (pa_cons pe_str (pa_cons (pv 2) (pa_cons (pe_upGet Hd.BadCosts.u (pv 2)) pa_nil)))) pa_nil)))
      (pss_cut (ps_set (i := 2) sc__law_held.nd rfl (.inl rfl) (pe_upV Hd.BadFrames bu_at hr hg (pa_cons (pv 0) pa_nil) (by rfl)))
      (pss_cut (ps_expr (pe_bm PySem.F.plainAttrs_list PySem.F.slot_list_append PySem.F.type_list_append mt_append (pv 1) (pa_cons (pe_tup (pa_cons pe_str (pa_cons (pv 2) (pa_cons (pe_upGet Hd.BadFrames.u (pv 2)) pa_nil)))) pa_nil)))
      (pss_cut (ps_set (i := 2) sc__law_held.nd rfl (.inl rfl) (pe_upV Hd.BadHead bu_part hr hg (pa_cons (pv 0) pa_nil) (by rfl)))
      (pss_cut (ps_expr (pe_bm PySem.F.plainAttrs_list PySem.F.slot_list_append PySem.F.type_list_append mt_append (pv 1) (pa_cons (pe_tup (pa_cons pe_str (pa_cons (pv 2) (pa_cons (pe_upGet Hd.BadHead.u (pv 2)) pa_nil)))) pa_nil)))
      (pss_cut (ps_set (i := 2) sc__law_held.nd rfl (.inl rfl) (pe_upV Hd.BadItem bu_at hr hg (pa_cons (pv 0) pa_nil) (by rfl)))
      (pss_cut (ps_expr (pe_bm PySem.F.plainAttrs_list PySem.F.slot_list_append PySem.F.type_list_append mt_append (pv 1) (pa_cons (pe_tup (pa_cons pe_str (pa_cons (pv 2) (pa_cons (pe_upGet Hd.BadItem.u (pv 2)) pa_nil)))) pa_nil)))
      (pss_cut (ps_set (i := 2) sc__law_held.nd rfl (.inl rfl) (pe_upV Hd.BadJobs bu_at hr hg (pa_cons (pv 0) pa_nil) (by rfl)))
      (pss_cut (ps_expr (pe_bm PySem.F.plainAttrs_list PySem.F.slot_list_append PySem.F.type_list_append mt_append (pv 1) (pa_cons (pe_tup (pa_cons pe_str (pa_cons (pv 2) (pa_cons (pe_upGet Hd.BadJobs.u (pv 2)) pa_nil)))) pa_nil)))
      (pss_cut (ps_set (i := 2) sc__law_held.nd rfl (.inl rfl) (pe_upV Hd.BadMode bu_mode hr hg (pa_cons (pv 0) pa_nil) (by rfl)))
      (pss_cut (ps_expr (pe_bm PySem.F.plainAttrs_list PySem.F.slot_list_append PySem.F.type_list_append mt_append (pv 1) (pa_cons (pe_tup (pa_cons pe_str (pa_cons (pv 2) (pa_cons (pe_upGet Hd.BadMode.u (pv 2)) pa_nil)))) pa_nil)))
      (pss_cut (ps_set (i := 2) sc__law_held.nd rfl (.inl rfl) (pe_upV Hd.BadReel bu_part hr hg (pa_cons (pv 0) pa_nil) (by rfl)))
      (pss_cut (ps_expr (pe_bm PySem.F.plainAttrs_list PySem.F.slot_list_append PySem.F.type_list_append mt_append (pv 1) (pa_cons (pe_tup (pa_cons pe_str (pa_cons (pv 2) (pa_cons (pe_upGet Hd.BadReel.u (pv 2)) pa_nil)))) pa_nil)))
      (pss_cut (ps_set (i := 2) sc__law_held.nd rfl (.inl rfl) (pe_upV Hd.BadRenewals bu_at hr hg (pa_cons (pv 0) pa_nil) (by rfl)))
      (pss_cut (ps_expr (pe_bm PySem.F.plainAttrs_list PySem.F.slot_list_append PySem.F.type_list_append mt_append (pv 1) (pa_cons (pe_tup (pa_cons pe_str (pa_cons (pv 2) (pa_cons (pe_upGet Hd.BadRenewals.u (pv 2)) pa_nil)))) pa_nil)))
      (pss_cut (ps_set (i := 2) sc__law_held.nd rfl (.inl rfl) (pe_upV Hd.BadShape bu_part hr hg (pa_cons (pv 0) pa_nil) (by rfl)))
      (pss_cut (ps_expr (pe_bm PySem.F.plainAttrs_list PySem.F.slot_list_append PySem.F.type_list_append mt_append (pv 1) (pa_cons (pe_tup (pa_cons pe_str (pa_cons (pv 2) (pa_cons (pe_upGet Hd.BadShape.u (pv 2)) pa_nil)))) pa_nil)))
      (pss_cut (ps_set (i := 2) sc__law_held.nd rfl (.inl rfl) (pe_upV Hd.BadStock bu_part hr hg (pa_cons (pv 0) pa_nil) (by rfl)))
      (pss_cut (ps_expr (pe_bm PySem.F.plainAttrs_list PySem.F.slot_list_append PySem.F.type_list_append mt_append (pv 1) (pa_cons (pe_tup (pa_cons pe_str (pa_cons (pv 2) (pa_cons (pe_upGet Hd.BadStock.u (pv 2)) pa_nil)))) pa_nil)))
      (pss_cut (ps_set (i := 2) sc__law_held.nd rfl (.inl rfl) (pe_upV Hd.BadStore bu_at hr hg (pa_cons (pv 0) pa_nil) (by rfl)))
      (pss_cut (ps_expr (pe_bm PySem.F.plainAttrs_list PySem.F.slot_list_append PySem.F.type_list_append mt_append (pv 1) (pa_cons (pe_tup (pa_cons pe_str (pa_cons (pv 2) (pa_cons (pe_upGet Hd.BadStore.u (pv 2)) pa_nil)))) pa_nil)))
      (pss_cut (ps_set (i := 2) sc__law_held.nd rfl (.inl rfl) (pe_upV Hd.BadStream bu_at hr hg (pa_cons (pv 0) pa_nil) (by rfl)))
      (pss_cut (ps_expr (pe_bm PySem.F.plainAttrs_list PySem.F.slot_list_append PySem.F.type_list_append mt_append (pv 1) (pa_cons (pe_tup (pa_cons pe_str (pa_cons (pv 2) (pa_cons (pe_upGet Hd.BadStream.u (pv 2)) pa_nil)))) pa_nil)))
      (pss_cut (ps_set (i := 2) sc__law_held.nd rfl (.inl rfl) (pe_upV Hd.BadStretch bu_at hr hg (pa_cons (pv 0) pa_nil) (by rfl)))
      (pss_cut (ps_expr (pe_bm PySem.F.plainAttrs_list PySem.F.slot_list_append PySem.F.type_list_append mt_append (pv 1) (pa_cons (pe_tup (pa_cons pe_str (pa_cons (pv 2) (pa_cons (pe_upGet Hd.BadStretch.u (pv 2)) pa_nil)))) pa_nil)))
      (pss_cut (ps_set (i := 2) sc__law_held.nd rfl (.inl rfl) (pe_upV Hd.BadWeb bu_at hr hg (pa_cons (pv 0) pa_nil) (by rfl)))
      (pss_cut (ps_expr (pe_bm PySem.F.plainAttrs_list PySem.F.slot_list_append PySem.F.type_list_append mt_append (pv 1) (pa_cons (pe_tup (pa_cons pe_str (pa_cons (pv 2) (pa_cons (pe_upGet Hd.BadWeb.u (pv 2)) pa_nil)))) pa_nil)))
      (pss_cut (ps_set (i := 2) sc__law_held.nd rfl (.inl rfl) (pe_upV Hd.NotNow bu_word hr hg (pa_cons (pv 0) pa_nil) (by rfl)))
      (pss_cut (ps_expr (pe_bm PySem.F.plainAttrs_list PySem.F.slot_list_append PySem.F.type_list_append mt_append (pv 1) (pa_cons (pe_tup (pa_cons pe_str (pa_cons (pv 2) (pa_cons (pe_upGet Hd.NotNow.u (pv 2)) pa_nil)))) pa_nil)))
      (pss_cut (ps_set (i := 2) sc__law_held.nd rfl (.inl rfl) (pe_upV Hd.TooMany bu_most hr hg (pa_cons (pv 0) pa_nil) (by rfl)))
      (pss_cut (ps_expr (pe_bm PySem.F.plainAttrs_list PySem.F.slot_list_append PySem.F.type_list_append mt_append (pv 1) (pa_cons (pe_tup (pa_cons pe_str (pa_cons (pv 2) (pa_cons (pe_upGet Hd.TooMany.u (pv 2)) pa_nil)))) pa_nil)))
      (pss_one (ps_ret (pv 1))))))))))))))))))))))))))))))))))), ?_⟩
    refine ⟨fun σ' H' => ∃ fa, (∃ v2, σ' = [some v, some (.ref fa), v2]) ∧ H fa = none ∧ Td T.C H v fa 0 hs [] H', ⟨(by decide), fun fa hfa => ⟨fa, ⟨_, rfl⟩, hfa, upd_same, .nil, Same.new hfa⟩⟩, ?_⟩
    rintro σ H1 ⟨fa, ⟨v2, rfl⟩, hfa, B⟩
    obtain ⟨vs, B⟩ : ∃ vs, Td T.C H v fa 0 hs vs H1 := ⟨_, B⟩
    refine ⟨fun σ' H' => ∃ a b, σ' = [some v, some (.ref fa), some (.ref a)] ∧ Td T.C H v fa 0 hs vs H' ∧ H' a = some (ExV (.ref (T.C 6)) (some b) a) ∧ H' b = some (.xd [("at", v)]), ?_, ?_⟩
    · refine ⟨_, rfl, v, d, rfl, it_same it B.s, fun a b ha hb ne => ?_⟩
      have s1 : Same H1 (upd H1 b (.xd [("at", v)])) := Same.new hb
      have s2 : Same (upd H1 b (.xd [("at", v)])) (upd (upd H1 b (.xd [("at", v)])) a (ExV (.ref (T.C 6)) (some b) a)) := Same.new ((upd_ne ne).trans ha)
      exact ⟨a, b, rfl, B.same (s1.trans s2), upd_same, s2 _ _ upd_same⟩
    clear B
    rintro σ H1 ⟨a, b, rfl, B, ha, hb⟩
    refine ⟨fun σ' H' => ∃ vs v2, σ' = [some v, some (.ref fa), v2] ∧ Td T.C H v fa 1 hs vs H', ?_, ?_⟩
    · refine ⟨_, rfl, .inl ⟨rfl, _, SqL.of B.l⟩, _, rfl, _, rfl, a, b, v, rfl, ha, hb, (by show 3 ≤ sizeLine; decide), fun t ht => ?_⟩
      have st := B.step (n := 6) (q := "BadCosts") hfa rfl rfl (by decide) (.up ha hb) ht
      exact ⟨fa, vs, _, rfl, rfl, st.1, B.sz (by decide), _, _, rfl, st.2⟩
    clear B ha hb a b vs
    rintro σ H1 ⟨vs, v2, rfl, B⟩
    refine ⟨fun σ' H' => ∃ a b, σ' = [some v, some (.ref fa), some (.ref a)] ∧ Td T.C H v fa 1 hs vs H' ∧ H' a = some (ExV (.ref (T.C 12)) (some b) a) ∧ H' b = some (.xd [("at", v)]), ?_, ?_⟩
    · refine ⟨_, rfl, v, d, rfl, it_same it B.s, fun a b ha hb ne => ?_⟩
      have s1 : Same H1 (upd H1 b (.xd [("at", v)])) := Same.new hb
      have s2 : Same (upd H1 b (.xd [("at", v)])) (upd (upd H1 b (.xd [("at", v)])) a (ExV (.ref (T.C 12)) (some b) a)) := Same.new ((upd_ne ne).trans ha)
      exact ⟨a, b, rfl, B.same (s1.trans s2), upd_same, s2 _ _ upd_same⟩
    clear B
    rintro σ H1 ⟨a, b, rfl, B, ha, hb⟩
    refine ⟨fun σ' H' => ∃ vs v2, σ' = [some v, some (.ref fa), v2] ∧ Td T.C H v fa 2 hs vs H', ?_, ?_⟩
    · refine ⟨_, rfl, .inl ⟨rfl, _, SqL.of B.l⟩, _, rfl, _, rfl, a, b, v, rfl, ha, hb, (by show 3 ≤ sizeLine; decide), fun t ht => ?_⟩
      have st := B.step (n := 12) (q := "BadFrames") hfa rfl rfl (by decide) (.up ha hb) ht
      exact ⟨fa, vs, _, rfl, rfl, st.1, B.sz (by decide), _, _, rfl, st.2⟩
    clear B ha hb a b vs
    rintro σ H1 ⟨vs, v2, rfl, B⟩
    refine ⟨fun σ' H' => ∃ a b, σ' = [some v, some (.ref fa), some (.ref a)] ∧ Td T.C H v fa 2 hs vs H' ∧ H' a = some (ExV (.ref (T.C 16)) (some b) a) ∧ H' b = some (.xd [("part", v)]), ?_, ?_⟩
    · refine ⟨_, rfl, v, d, rfl, it_same it B.s, fun a b ha hb ne => ?_⟩
      have s1 : Same H1 (upd H1 b (.xd [("part", v)])) := Same.new hb
      have s2 : Same (upd H1 b (.xd [("part", v)])) (upd (upd H1 b (.xd [("part", v)])) a (ExV (.ref (T.C 16)) (some b) a)) := Same.new ((upd_ne ne).trans ha)
      exact ⟨a, b, rfl, B.same (s1.trans s2), upd_same, s2 _ _ upd_same⟩
    clear B
    rintro σ H1 ⟨a, b, rfl, B, ha, hb⟩
    refine ⟨fun σ' H' => ∃ vs v2, σ' = [some v, some (.ref fa), v2] ∧ Td T.C H v fa 3 hs vs H', ?_, ?_⟩
    · refine ⟨_, rfl, .inl ⟨rfl, _, SqL.of B.l⟩, _, rfl, _, rfl, a, b, v, rfl, ha, hb, (by show 3 ≤ sizeLine; decide), fun t ht => ?_⟩
      have st := B.step (n := 16) (q := "BadHead") hfa rfl rfl (by decide) (.up ha hb) ht
      exact ⟨fa, vs, _, rfl, rfl, st.1, B.sz (by decide), _, _, rfl, st.2⟩
    clear B ha hb a b vs
    rintro σ H1 ⟨vs, v2, rfl, B⟩
    refine ⟨fun σ' H' => ∃ a b, σ' = [some v, some (.ref fa), some (.ref a)] ∧ Td T.C H v fa 3 hs vs H' ∧ H' a = some (ExV (.ref (T.C 20)) (some b) a) ∧ H' b = some (.xd [("at", v)]), ?_, ?_⟩
    · refine ⟨_, rfl, v, d, rfl, it_same it B.s, fun a b ha hb ne => ?_⟩
      have s1 : Same H1 (upd H1 b (.xd [("at", v)])) := Same.new hb
      have s2 : Same (upd H1 b (.xd [("at", v)])) (upd (upd H1 b (.xd [("at", v)])) a (ExV (.ref (T.C 20)) (some b) a)) := Same.new ((upd_ne ne).trans ha)
      exact ⟨a, b, rfl, B.same (s1.trans s2), upd_same, s2 _ _ upd_same⟩
    clear B
    rintro σ H1 ⟨a, b, rfl, B, ha, hb⟩
    refine ⟨fun σ' H' => ∃ vs v2, σ' = [some v, some (.ref fa), v2] ∧ Td T.C H v fa 4 hs vs H', ?_, ?_⟩
    · refine ⟨_, rfl, .inl ⟨rfl, _, SqL.of B.l⟩, _, rfl, _, rfl, a, b, v, rfl, ha, hb, (by show 3 ≤ sizeLine; decide), fun t ht => ?_⟩
      have st := B.step (n := 20) (q := "BadItem") hfa rfl rfl (by decide) (.up ha hb) ht
      exact ⟨fa, vs, _, rfl, rfl, st.1, B.sz (by decide), _, _, rfl, st.2⟩
    clear B ha hb a b vs
    rintro σ H1 ⟨vs, v2, rfl, B⟩
    refine ⟨fun σ' H' => ∃ a b, σ' = [some v, some (.ref fa), some (.ref a)] ∧ Td T.C H v fa 4 hs vs H' ∧ H' a = some (ExV (.ref (T.C 21)) (some b) a) ∧ H' b = some (.xd [("at", v)]), ?_, ?_⟩
    · refine ⟨_, rfl, v, d, rfl, it_same it B.s, fun a b ha hb ne => ?_⟩
      have s1 : Same H1 (upd H1 b (.xd [("at", v)])) := Same.new hb
      have s2 : Same (upd H1 b (.xd [("at", v)])) (upd (upd H1 b (.xd [("at", v)])) a (ExV (.ref (T.C 21)) (some b) a)) := Same.new ((upd_ne ne).trans ha)
      exact ⟨a, b, rfl, B.same (s1.trans s2), upd_same, s2 _ _ upd_same⟩
    clear B
    rintro σ H1 ⟨a, b, rfl, B, ha, hb⟩
    refine ⟨fun σ' H' => ∃ vs v2, σ' = [some v, some (.ref fa), v2] ∧ Td T.C H v fa 5 hs vs H', ?_, ?_⟩
    · refine ⟨_, rfl, .inl ⟨rfl, _, SqL.of B.l⟩, _, rfl, _, rfl, a, b, v, rfl, ha, hb, (by show 3 ≤ sizeLine; decide), fun t ht => ?_⟩
      have st := B.step (n := 21) (q := "BadJobs") hfa rfl rfl (by decide) (.up ha hb) ht
      exact ⟨fa, vs, _, rfl, rfl, st.1, B.sz (by decide), _, _, rfl, st.2⟩
    clear B ha hb a b vs
    rintro σ H1 ⟨vs, v2, rfl, B⟩
    refine ⟨fun σ' H' => ∃ a b, σ' = [some v, some (.ref fa), some (.ref a)] ∧ Td T.C H v fa 5 hs vs H' ∧ H' a = some (ExV (.ref (T.C 30)) (some b) a) ∧ H' b = some (.xd [("mode", v)]), ?_, ?_⟩
    · refine ⟨_, rfl, v, d, rfl, it_same it B.s, fun a b ha hb ne => ?_⟩
      have s1 : Same H1 (upd H1 b (.xd [("mode", v)])) := Same.new hb
      have s2 : Same (upd H1 b (.xd [("mode", v)])) (upd (upd H1 b (.xd [("mode", v)])) a (ExV (.ref (T.C 30)) (some b) a)) := Same.new ((upd_ne ne).trans ha)
      exact ⟨a, b, rfl, B.same (s1.trans s2), upd_same, s2 _ _ upd_same⟩
    clear B
    rintro σ H1 ⟨a, b, rfl, B, ha, hb⟩
    refine ⟨fun σ' H' => ∃ vs v2, σ' = [some v, some (.ref fa), v2] ∧ Td T.C H v fa 6 hs vs H', ?_, ?_⟩
    · refine ⟨_, rfl, .inl ⟨rfl, _, SqL.of B.l⟩, _, rfl, _, rfl, a, b, v, rfl, ha, hb, (by show 3 ≤ sizeLine; decide), fun t ht => ?_⟩
      have st := B.step (n := 30) (q := "BadMode") hfa rfl rfl (by decide) (.up ha hb) ht
      exact ⟨fa, vs, _, rfl, rfl, st.1, B.sz (by decide), _, _, rfl, st.2⟩
    clear B ha hb a b vs
    rintro σ H1 ⟨vs, v2, rfl, B⟩
    refine ⟨fun σ' H' => ∃ a b, σ' = [some v, some (.ref fa), some (.ref a)] ∧ Td T.C H v fa 6 hs vs H' ∧ H' a = some (ExV (.ref (T.C 43)) (some b) a) ∧ H' b = some (.xd [("part", v)]), ?_, ?_⟩
    · refine ⟨_, rfl, v, d, rfl, it_same it B.s, fun a b ha hb ne => ?_⟩
      have s1 : Same H1 (upd H1 b (.xd [("part", v)])) := Same.new hb
      have s2 : Same (upd H1 b (.xd [("part", v)])) (upd (upd H1 b (.xd [("part", v)])) a (ExV (.ref (T.C 43)) (some b) a)) := Same.new ((upd_ne ne).trans ha)
      exact ⟨a, b, rfl, B.same (s1.trans s2), upd_same, s2 _ _ upd_same⟩
    clear B
    rintro σ H1 ⟨a, b, rfl, B, ha, hb⟩
    refine ⟨fun σ' H' => ∃ vs v2, σ' = [some v, some (.ref fa), v2] ∧ Td T.C H v fa 7 hs vs H', ?_, ?_⟩
    · refine ⟨_, rfl, .inl ⟨rfl, _, SqL.of B.l⟩, _, rfl, _, rfl, a, b, v, rfl, ha, hb, (by show 3 ≤ sizeLine; decide), fun t ht => ?_⟩
      have st := B.step (n := 43) (q := "BadReel") hfa rfl rfl (by decide) (.up ha hb) ht
      exact ⟨fa, vs, _, rfl, rfl, st.1, B.sz (by decide), _, _, rfl, st.2⟩
    clear B ha hb a b vs
    rintro σ H1 ⟨vs, v2, rfl, B⟩
    refine ⟨fun σ' H' => ∃ a b, σ' = [some v, some (.ref fa), some (.ref a)] ∧ Td T.C H v fa 7 hs vs H' ∧ H' a = some (ExV (.ref (T.C 45)) (some b) a) ∧ H' b = some (.xd [("at", v)]), ?_, ?_⟩
    · refine ⟨_, rfl, v, d, rfl, it_same it B.s, fun a b ha hb ne => ?_⟩
      have s1 : Same H1 (upd H1 b (.xd [("at", v)])) := Same.new hb
      have s2 : Same (upd H1 b (.xd [("at", v)])) (upd (upd H1 b (.xd [("at", v)])) a (ExV (.ref (T.C 45)) (some b) a)) := Same.new ((upd_ne ne).trans ha)
      exact ⟨a, b, rfl, B.same (s1.trans s2), upd_same, s2 _ _ upd_same⟩
    clear B
    rintro σ H1 ⟨a, b, rfl, B, ha, hb⟩
    refine ⟨fun σ' H' => ∃ vs v2, σ' = [some v, some (.ref fa), v2] ∧ Td T.C H v fa 8 hs vs H', ?_, ?_⟩
    · refine ⟨_, rfl, .inl ⟨rfl, _, SqL.of B.l⟩, _, rfl, _, rfl, a, b, v, rfl, ha, hb, (by show 3 ≤ sizeLine; decide), fun t ht => ?_⟩
      have st := B.step (n := 45) (q := "BadRenewals") hfa rfl rfl (by decide) (.up ha hb) ht
      exact ⟨fa, vs, _, rfl, rfl, st.1, B.sz (by decide), _, _, rfl, st.2⟩
    clear B ha hb a b vs
    rintro σ H1 ⟨vs, v2, rfl, B⟩
    refine ⟨fun σ' H' => ∃ a b, σ' = [some v, some (.ref fa), some (.ref a)] ∧ Td T.C H v fa 8 hs vs H' ∧ H' a = some (ExV (.ref (T.C 49)) (some b) a) ∧ H' b = some (.xd [("part", v)]), ?_, ?_⟩
    · refine ⟨_, rfl, v, d, rfl, it_same it B.s, fun a b ha hb ne => ?_⟩
      have s1 : Same H1 (upd H1 b (.xd [("part", v)])) := Same.new hb
      have s2 : Same (upd H1 b (.xd [("part", v)])) (upd (upd H1 b (.xd [("part", v)])) a (ExV (.ref (T.C 49)) (some b) a)) := Same.new ((upd_ne ne).trans ha)
      exact ⟨a, b, rfl, B.same (s1.trans s2), upd_same, s2 _ _ upd_same⟩
    clear B
    rintro σ H1 ⟨a, b, rfl, B, ha, hb⟩
    refine ⟨fun σ' H' => ∃ vs v2, σ' = [some v, some (.ref fa), v2] ∧ Td T.C H v fa 9 hs vs H', ?_, ?_⟩
    · refine ⟨_, rfl, .inl ⟨rfl, _, SqL.of B.l⟩, _, rfl, _, rfl, a, b, v, rfl, ha, hb, (by show 3 ≤ sizeLine; decide), fun t ht => ?_⟩
      have st := B.step (n := 49) (q := "BadShape") hfa rfl rfl (by decide) (.up ha hb) ht
      exact ⟨fa, vs, _, rfl, rfl, st.1, B.sz (by decide), _, _, rfl, st.2⟩
    clear B ha hb a b vs
    rintro σ H1 ⟨vs, v2, rfl, B⟩
    refine ⟨fun σ' H' => ∃ a b, σ' = [some v, some (.ref fa), some (.ref a)] ∧ Td T.C H v fa 9 hs vs H' ∧ H' a = some (ExV (.ref (T.C 58)) (some b) a) ∧ H' b = some (.xd [("part", v)]), ?_, ?_⟩
    · refine ⟨_, rfl, v, d, rfl, it_same it B.s, fun a b ha hb ne => ?_⟩
      have s1 : Same H1 (upd H1 b (.xd [("part", v)])) := Same.new hb
      have s2 : Same (upd H1 b (.xd [("part", v)])) (upd (upd H1 b (.xd [("part", v)])) a (ExV (.ref (T.C 58)) (some b) a)) := Same.new ((upd_ne ne).trans ha)
      exact ⟨a, b, rfl, B.same (s1.trans s2), upd_same, s2 _ _ upd_same⟩
    clear B
    rintro σ H1 ⟨a, b, rfl, B, ha, hb⟩
    refine ⟨fun σ' H' => ∃ vs v2, σ' = [some v, some (.ref fa), v2] ∧ Td T.C H v fa 10 hs vs H', ?_, ?_⟩
    · refine ⟨_, rfl, .inl ⟨rfl, _, SqL.of B.l⟩, _, rfl, _, rfl, a, b, v, rfl, ha, hb, (by show 3 ≤ sizeLine; decide), fun t ht => ?_⟩
      have st := B.step (n := 58) (q := "BadStock") hfa rfl rfl (by decide) (.up ha hb) ht
      exact ⟨fa, vs, _, rfl, rfl, st.1, B.sz (by decide), _, _, rfl, st.2⟩
    clear B ha hb a b vs
    rintro σ H1 ⟨vs, v2, rfl, B⟩
    refine ⟨fun σ' H' => ∃ a b, σ' = [some v, some (.ref fa), some (.ref a)] ∧ Td T.C H v fa 10 hs vs H' ∧ H' a = some (ExV (.ref (T.C 59)) (some b) a) ∧ H' b = some (.xd [("at", v)]), ?_, ?_⟩
    · refine ⟨_, rfl, v, d, rfl, it_same it B.s, fun a b ha hb ne => ?_⟩
      have s1 : Same H1 (upd H1 b (.xd [("at", v)])) := Same.new hb
      have s2 : Same (upd H1 b (.xd [("at", v)])) (upd (upd H1 b (.xd [("at", v)])) a (ExV (.ref (T.C 59)) (some b) a)) := Same.new ((upd_ne ne).trans ha)
      exact ⟨a, b, rfl, B.same (s1.trans s2), upd_same, s2 _ _ upd_same⟩
    clear B
    rintro σ H1 ⟨a, b, rfl, B, ha, hb⟩
    refine ⟨fun σ' H' => ∃ vs v2, σ' = [some v, some (.ref fa), v2] ∧ Td T.C H v fa 11 hs vs H', ?_, ?_⟩
    · refine ⟨_, rfl, .inl ⟨rfl, _, SqL.of B.l⟩, _, rfl, _, rfl, a, b, v, rfl, ha, hb, (by show 3 ≤ sizeLine; decide), fun t ht => ?_⟩
      have st := B.step (n := 59) (q := "BadStore") hfa rfl rfl (by decide) (.up ha hb) ht
      exact ⟨fa, vs, _, rfl, rfl, st.1, B.sz (by decide), _, _, rfl, st.2⟩
    clear B ha hb a b vs
    rintro σ H1 ⟨vs, v2, rfl, B⟩
    refine ⟨fun σ' H' => ∃ a b, σ' = [some v, some (.ref fa), some (.ref a)] ∧ Td T.C H v fa 11 hs vs H' ∧ H' a = some (ExV (.ref (T.C 60)) (some b) a) ∧ H' b = some (.xd [("at", v)]), ?_, ?_⟩
    · refine ⟨_, rfl, v, d, rfl, it_same it B.s, fun a b ha hb ne => ?_⟩
      have s1 : Same H1 (upd H1 b (.xd [("at", v)])) := Same.new hb
      have s2 : Same (upd H1 b (.xd [("at", v)])) (upd (upd H1 b (.xd [("at", v)])) a (ExV (.ref (T.C 60)) (some b) a)) := Same.new ((upd_ne ne).trans ha)
      exact ⟨a, b, rfl, B.same (s1.trans s2), upd_same, s2 _ _ upd_same⟩
    clear B
    rintro σ H1 ⟨a, b, rfl, B, ha, hb⟩
    refine ⟨fun σ' H' => ∃ vs v2, σ' = [some v, some (.ref fa), v2] ∧ Td T.C H v fa 12 hs vs H', ?_, ?_⟩
    · refine ⟨_, rfl, .inl ⟨rfl, _, SqL.of B.l⟩, _, rfl, _, rfl, a, b, v, rfl, ha, hb, (by show 3 ≤ sizeLine; decide), fun t ht => ?_⟩
      have st := B.step (n := 60) (q := "BadStream") hfa rfl rfl (by decide) (.up ha hb) ht
      exact ⟨fa, vs, _, rfl, rfl, st.1, B.sz (by decide), _, _, rfl, st.2⟩
    clear B ha hb a b vs
    rintro σ H1 ⟨vs, v2, rfl, B⟩
    refine ⟨fun σ' H' => ∃ a b, σ' = [some v, some (.ref fa), some (.ref a)] ∧ Td T.C H v fa 12 hs vs H' ∧ H' a = some (ExV (.ref (T.C 61)) (some b) a) ∧ H' b = some (.xd [("at", v)]), ?_, ?_⟩
    · refine ⟨_, rfl, v, d, rfl, it_same it B.s, fun a b ha hb ne => ?_⟩
      have s1 : Same H1 (upd H1 b (.xd [("at", v)])) := Same.new hb
      have s2 : Same (upd H1 b (.xd [("at", v)])) (upd (upd H1 b (.xd [("at", v)])) a (ExV (.ref (T.C 61)) (some b) a)) := Same.new ((upd_ne ne).trans ha)
      exact ⟨a, b, rfl, B.same (s1.trans s2), upd_same, s2 _ _ upd_same⟩
    clear B
    rintro σ H1 ⟨a, b, rfl, B, ha, hb⟩
    refine ⟨fun σ' H' => ∃ vs v2, σ' = [some v, some (.ref fa), v2] ∧ Td T.C H v fa 13 hs vs H', ?_, ?_⟩
    · refine ⟨_, rfl, .inl ⟨rfl, _, SqL.of B.l⟩, _, rfl, _, rfl, a, b, v, rfl, ha, hb, (by show 3 ≤ sizeLine; decide), fun t ht => ?_⟩
      have st := B.step (n := 61) (q := "BadStretch") hfa rfl rfl (by decide) (.up ha hb) ht
      exact ⟨fa, vs, _, rfl, rfl, st.1, B.sz (by decide), _, _, rfl, st.2⟩
    clear B ha hb a b vs
    rintro σ H1 ⟨vs, v2, rfl, B⟩
    refine ⟨fun σ' H' => ∃ a b, σ' = [some v, some (.ref fa), some (.ref a)] ∧ Td T.C H v fa 13 hs vs H' ∧ H' a = some (ExV (.ref (T.C 68)) (some b) a) ∧ H' b = some (.xd [("at", v)]), ?_, ?_⟩
    · refine ⟨_, rfl, v, d, rfl, it_same it B.s, fun a b ha hb ne => ?_⟩
      have s1 : Same H1 (upd H1 b (.xd [("at", v)])) := Same.new hb
      have s2 : Same (upd H1 b (.xd [("at", v)])) (upd (upd H1 b (.xd [("at", v)])) a (ExV (.ref (T.C 68)) (some b) a)) := Same.new ((upd_ne ne).trans ha)
      exact ⟨a, b, rfl, B.same (s1.trans s2), upd_same, s2 _ _ upd_same⟩
    clear B
    rintro σ H1 ⟨a, b, rfl, B, ha, hb⟩
    refine ⟨fun σ' H' => ∃ vs v2, σ' = [some v, some (.ref fa), v2] ∧ Td T.C H v fa 14 hs vs H', ?_, ?_⟩
    · refine ⟨_, rfl, .inl ⟨rfl, _, SqL.of B.l⟩, _, rfl, _, rfl, a, b, v, rfl, ha, hb, (by show 3 ≤ sizeLine; decide), fun t ht => ?_⟩
      have st := B.step (n := 68) (q := "BadWeb") hfa rfl rfl (by decide) (.up ha hb) ht
      exact ⟨fa, vs, _, rfl, rfl, st.1, B.sz (by decide), _, _, rfl, st.2⟩
    clear B ha hb a b vs
    rintro σ H1 ⟨vs, v2, rfl, B⟩
    refine ⟨fun σ' H' => ∃ a b, σ' = [some v, some (.ref fa), some (.ref a)] ∧ Td T.C H v fa 14 hs vs H' ∧ H' a = some (ExV (.ref (T.C 71)) (some b) a) ∧ H' b = some (.xd [("word", v)]), ?_, ?_⟩
    · refine ⟨_, rfl, v, d, rfl, it_same it B.s, fun a b ha hb ne => ?_⟩
      have s1 : Same H1 (upd H1 b (.xd [("word", v)])) := Same.new hb
      have s2 : Same (upd H1 b (.xd [("word", v)])) (upd (upd H1 b (.xd [("word", v)])) a (ExV (.ref (T.C 71)) (some b) a)) := Same.new ((upd_ne ne).trans ha)
      exact ⟨a, b, rfl, B.same (s1.trans s2), upd_same, s2 _ _ upd_same⟩
    clear B
    rintro σ H1 ⟨a, b, rfl, B, ha, hb⟩
    refine ⟨fun σ' H' => ∃ vs v2, σ' = [some v, some (.ref fa), v2] ∧ Td T.C H v fa 15 hs vs H', ?_, ?_⟩
    · refine ⟨_, rfl, .inl ⟨rfl, _, SqL.of B.l⟩, _, rfl, _, rfl, a, b, v, rfl, ha, hb, (by show 3 ≤ sizeLine; decide), fun t ht => ?_⟩
      have st := B.step (n := 71) (q := "NotNow") hfa rfl rfl (by decide) (.up ha hb) ht
      exact ⟨fa, vs, _, rfl, rfl, st.1, B.sz (by decide), _, _, rfl, st.2⟩
    clear B ha hb a b vs
    rintro σ H1 ⟨vs, v2, rfl, B⟩
    refine ⟨fun σ' H' => ∃ a b, σ' = [some v, some (.ref fa), some (.ref a)] ∧ Td T.C H v fa 15 hs vs H' ∧ H' a = some (ExV (.ref (T.C 75)) (some b) a) ∧ H' b = some (.xd [("most", v)]), ?_, ?_⟩
    · refine ⟨_, rfl, v, d, rfl, it_same it B.s, fun a b ha hb ne => ?_⟩
      have s1 : Same H1 (upd H1 b (.xd [("most", v)])) := Same.new hb
      have s2 : Same (upd H1 b (.xd [("most", v)])) (upd (upd H1 b (.xd [("most", v)])) a (ExV (.ref (T.C 75)) (some b) a)) := Same.new ((upd_ne ne).trans ha)
      exact ⟨a, b, rfl, B.same (s1.trans s2), upd_same, s2 _ _ upd_same⟩
    clear B
    rintro σ H1 ⟨a, b, rfl, B, ha, hb⟩
    refine ⟨fun σ' H' => ∃ vs v2, σ' = [some v, some (.ref fa), v2] ∧ Td T.C H v fa 16 hs vs H', ?_, ?_⟩
    · refine ⟨_, rfl, .inl ⟨rfl, _, SqL.of B.l⟩, _, rfl, _, rfl, a, b, v, rfl, ha, hb, (by show 3 ≤ sizeLine; decide), fun t ht => ?_⟩
      have st := B.step (n := 75) (q := "TooMany") hfa rfl rfl (by decide) (.up ha hb) ht
      exact ⟨fa, vs, _, rfl, rfl, st.1, B.sz (by decide), _, _, rfl, st.2⟩
    clear B ha hb a b vs
    rintro σ H1 ⟨vs, v2, rfl, B⟩
    exact ⟨_, rfl, k fa vs H1 hfa B.s B.l B.p⟩
theorem ok__law_held_by_name : FnG P w K mg base (L2.CX P w) 1 T._law_held_by_name.a T._law_held_by_name.d ["item"] (spHeld K T.C hs) := by
  refine fnG_of T._law_held_by_name.f sc__law_held_by_name (fun vs H Q E h => ?_) (fun cdv A outer s0 H vs Q E hr hg h => ?_)
  · obtain ⟨v, d, rfl, _⟩ := h
    rfl
  · obtain ⟨v, d, rfl, it, k⟩ := h
    refine ⟨_, pss_cut (ps_set (i := 1) sc__law_held_by_name.nd rfl (.inl rfl) (pe_lst pa_nil))
      (pss_cut (ps_set (i := 2) sc__law_held_by_name.nd rfl (.inl rfl) (pe_upVK Hd.BadCosts bk_at hr hg (pk_cons (pv 0) pk_nil) (by rfl)))
      (pss_cut (ps_expr (pe_bm PySem.F.plainAttrs_list PySem.F.slot_list_append PySem.F.type_list_append mt_append (pv 1) (pa_cons (pe_tup (pa_cons pe_str (pa_cons (pv 2) (pa_cons (pe_upGet Hd.BadCosts.u (pv 2)) pa_nil)))) pa_nil)))
      (pss_cut (ps_set (i := 2) sc__law_held_by_name.nd rfl (.inl rfl) (pe_upVK Hd.BadFrames bk_at hr hg (pk_cons (pv 0) pk_nil) (by rfl)))
      (pss_cut (ps_expr (pe_bm PySem.F.plainAttrs_list PySem.F.slot_list_append PySem.F.type_list_append mt_append (pv 1) (pa_cons (pe_tup (pa_cons pe_str (pa_cons (pv 2) (pa_cons (pe_upGet Hd.BadFrames.u (pv 2)) pa_nil)))) pa_nil)))
      (pss_cut (ps_set (i := 2) sc__law_held_by_name.nd rfl (.inl rfl) (pe_upVK Hd.BadHead bk_part hr hg (pk_cons (pv 0) pk_nil) (by rfl)))
      (pss_cut (ps_expr (pe_bm PySem.F.plainAttrs_list PySem.F.slot_list_append PySem.F.type_list_append mt_append (pv 1) (pa_cons (pe_tup (pa_cons pe_str (pa_cons (pv 2) (pa_cons (pe_upGet Hd.BadHead.u (pv 2)) pa_nil)))) pa_nil)))
      (pss_cut (ps_set (i := 2) sc__law_held_by_name.nd rfl (.inl rfl) (pe_upVK Hd.BadItem bk_at hr hg (pk_cons (pv 0) pk_nil) (by rfl)))
      (pss_cut (ps_expr (pe_bm PySem.F.plainAttrs_list PySem.F.slot_list_append PySem.F.type_list_append mt_append (pv 1) (pa_cons (pe_tup (pa_cons pe_str (pa_cons (pv 2) (pa_cons (pe_upGet Hd.BadItem.u (pv 2)) pa_nil)))) pa_nil)))
      (pss_cut (ps_set (i := 2) sc__law_held_by_name.nd rfl (.inl rfl) (pe_upVK Hd.BadJobs bk_at hr hg (pk_cons (pv 0) pk_nil) (by rfl)))
      (pss_cut (ps_expr (pe_bm PySem.F.plainAttrs_list PySem.F.slot_list_append PySem.F.type_list_append mt_append (pv 1) (pa_cons (pe_tup (pa_cons pe_str (pa_cons (pv 2) (pa_cons (pe_upGet Hd.BadJobs.u (pv 2)) pa_nil)))) pa_nil)))
      (pss_cut (ps_set (i := 2) sc__law_held_by_name.nd rfl (.inl rfl) (pe_upVK Hd.BadMode bk_mode hr hg (pk_cons (pv 0) pk_nil) (by rfl)))
      (pss_cut (ps_expr (pe_bm PySem.F.plainAttrs_list PySem.F.slot_list_append PySem.F.type_list_append mt_append (pv 1) (pa_cons (pe_tup (pa_cons pe_str (pa_cons (pv 2) (pa_cons (pe_upGet Hd.BadMode.u (pv 2)) pa_nil)))) pa_nil)))
      (pss_cut (ps_set (i := 2) sc__law_held_by_name.nd rfl (.inl rfl) (pe_upVK Hd.BadReel bk_part hr hg (pk_cons (pv 0) pk_nil) (by rfl)))
      (pss_cut (ps_expr (pe_bm PySem.F.plainAttrs_list PySem.F.slot_list_append PySem.F.type_list_append mt_append (pv 1) (pa_cons (pe_tup (pa_cons pe_str (pa_cons (pv 2) (pa_cons (pe_upGet Hd.BadReel.u (pv 2)) pa_nil)))) pa_nil)))
      (pss_cut (ps_set (i := 2) sc__law_held_by_name.nd rfl (.inl rfl) (pe_upVK Hd.BadRenewals bk_at hr hg (pk_cons (pv 0) pk_nil) (by rfl)))
      (pss_cut (ps_expr (pe_bm PySem.F.plainAttrs_list PySem.F.slot_list_append PySem.F.type_list_append mt_append (pv 1) (pa_cons (pe_tup (pa_cons pe_str (pa_cons (pv 2) (pa_cons (pe_upGet Hd.BadRenewals.u (pv 2)) pa_nil)))) pa_nil)))
      (pss_cut (ps_set (i := 2) sc__law_held_by_name.nd rfl (.inl rfl) (pe_upVK Hd.BadShape bk_part hr hg (pk_cons (pv 0) pk_nil) (by rfl)))
      (pss_cut (ps_expr (pe_bm PySem.F.plainAttrs_list PySem.F.slot_list_append PySem.F.type_list_append mt_append (pv 1) (pa_cons (pe_tup (pa_cons pe_str (pa_cons (pv 2) (pa_cons (pe_upGet Hd.BadShape.u (pv 2)) pa_nil)))) pa_nil)))
      (pss_cut (ps_set (i := 2) sc__law_held_by_name.nd rfl (.inl rfl) (pe_upVK Hd.BadStock bk_part hr hg (pk_cons (pv 0) pk_nil) (by rfl)))
      (pss_cut (ps_expr (pe_bm PySem.F.plainAttrs_list PySem.F.slot_list_append PySem.F.type_list_append mt_append (pv 1) (pa_cons (pe_tup (pa_cons pe_str (pa_cons (pv 2) (pa_cons (pe_upGet Hd.BadStock.u (pv 2)) pa_nil)))) pa_nil)))
      (pss_cut (ps_set (i := 2) sc__law_held_by_name.nd rfl (.inl rfl) (pe_upVK Hd.BadStore bk_at hr hg (pk_cons (pv 0) pk_nil) (by rfl)))
      (pss_cut (ps_expr (pe_bm PySem.F.plainAttrs_list PySem.F.slot_list_append PySem.F.type_list_append mt_append (pv 1) (pa_cons (pe_tup (pa_cons pe_str (pa_cons (pv 2) (pa_cons (pe_upGet Hd.BadStore.u (pv 2)) pa_nil)))) pa_nil)))
      (pss_cut (ps_set (i := 2) sc__law_held_by_name.nd rfl (.inl rfl) (pe_upVK Hd.BadStream bk_at hr hg (pk_cons (pv 0) pk_nil) (by rfl)))
      (pss_cut (ps_expr (pe_bm PySem.F.plainAttrs_list PySem.F.slot_list_append PySem.F.type_list_append mt_append (pv 1) (pa_cons (pe_tup (pa_cons pe_str (pa_cons (pv 2) (pa_cons (pe_upGet Hd.BadStream.u (pv 2)) pa_nil)))) pa_nil)))
      (pss_cut (ps_set (i := 2) sc__law_held_by_name.nd rfl (.inl rfl) (pe_upVK Hd.BadStretch bk_at hr hg (pk_cons (pv 0) pk_nil) (by rfl)))
      (pss_cut (ps_expr (pe_bm PySem.F.plainAttrs_list PySem.F.slot_list_append PySem.F.type_list_append mt_append (pv 1) (pa_cons (pe_tup (pa_cons pe_str (pa_cons (pv 2) (pa_cons (pe_upGet Hd.BadStretch.u (pv 2)) pa_nil)))) pa_nil)))
      (pss_cut (ps_set (i := 2) sc__law_held_by_name.nd rfl (.inl rfl) (pe_upVK Hd.BadWeb bk_at hr hg (pk_cons (pv 0) pk_nil) (by rfl)))
      (pss_cut (ps_expr (pe_bm PySem.F.plainAttrs_list PySem.F.slot_list_append PySem.F.type_list_append mt_append (pv 1) (pa_cons (pe_tup (pa_cons pe_str (pa_cons (pv 2) (pa_cons (pe_upGet Hd.BadWeb.u (pv 2)) pa_nil)))) pa_nil)))
      (pss_cut (ps_set (i := 2) sc__law_held_by_name.nd rfl (.inl rfl) (pe_upVK Hd.NotNow bk_word hr hg (pk_cons (pv 0) pk_nil) (by rfl)))
      (pss_cut (ps_expr (pe_bm PySem.F.plainAttrs_list PySem.F.slot_list_append PySem.F.type_list_append mt_append (pv 1) (pa_cons (pe_tup (pa_cons pe_str (pa_cons (pv 2) (pa_cons (pe_upGet Hd.NotNow.u (pv 2)) pa_nil)))) pa_nil)))
      (pss_cut (ps_set (i := 2) sc__law_held_by_name.nd rfl (.inl rfl) (pe_upVK Hd.TooMany bk_most hr hg (pk_cons (pv 0) pk_nil) (by rfl)))
      (pss_cut (ps_expr (pe_bm PySem.F.plainAttrs_list PySem.F.slot_list_append PySem.F.type_list_append mt_append (pv 1) (pa_cons (pe_tup (pa_cons pe_str (pa_cons (pv 2) (pa_cons (pe_upGet Hd.TooMany.u (pv 2)) pa_nil)))) pa_nil)))
      (pss_one (ps_ret (pv 1))))))))))))))))))))))))))))))))))), ?_⟩
    refine ⟨fun σ' H' => ∃ fa, (∃ v2, σ' = [some v, some (.ref fa), v2]) ∧ H fa = none ∧ Td T.C H v fa 0 hs [] H', ⟨(by decide), fun fa hfa => ⟨fa, ⟨_, rfl⟩, hfa, upd_same, .nil, Same.new hfa⟩⟩, ?_⟩
    rintro σ H1 ⟨fa, ⟨v2, rfl⟩, hfa, B⟩
    obtain ⟨vs, B⟩ : ∃ vs, Td T.C H v fa 0 hs vs H1 := ⟨_, B⟩
    refine ⟨fun σ' H' => ∃ a b, σ' = [some v, some (.ref fa), some (.ref a)] ∧ Td T.C H v fa 0 hs vs H' ∧ H' a = some (ExV (.ref (T.C 6)) (some b) a) ∧ H' b = some (.xd [("at", v)]), ?_, ?_⟩
    · refine ⟨_, rfl, v, d, rfl, it_same it B.s, fun a b ha hb ne => ?_⟩
      have s1 : Same H1 (upd H1 b (.xd [("at", v)])) := Same.new hb
      have s2 : Same (upd H1 b (.xd [("at", v)])) (upd (upd H1 b (.xd [("at", v)])) a (ExV (.ref (T.C 6)) (some b) a)) := Same.new ((upd_ne ne).trans ha)
      exact ⟨a, b, rfl, B.same (s1.trans s2), upd_same, s2 _ _ upd_same⟩
    clear B
    rintro σ H1 ⟨a, b, rfl, B, ha, hb⟩
    refine ⟨fun σ' H' => ∃ vs v2, σ' = [some v, some (.ref fa), v2] ∧ Td T.C H v fa 1 hs vs H', ?_, ?_⟩
    · refine ⟨_, rfl, .inl ⟨rfl, _, SqL.of B.l⟩, _, rfl, _, rfl, a, b, v, rfl, ha, hb, (by show 3 ≤ sizeLine; decide), fun t ht => ?_⟩
      have st := B.step (n := 6) (q := "BadCosts") hfa rfl rfl (by decide) (.up ha hb) ht
      exact ⟨fa, vs, _, rfl, rfl, st.1, B.sz (by decide), _, _, rfl, st.2⟩
    clear B ha hb a b vs
    rintro σ H1 ⟨vs, v2, rfl, B⟩
    refine ⟨fun σ' H' => ∃ a b, σ' = [some v, some (.ref fa), some (.ref a)] ∧ Td T.C H v fa 1 hs vs H' ∧ H' a = some (ExV (.ref (T.C 12)) (some b) a) ∧ H' b = some (.xd [("at", v)]), ?_, ?_⟩
    · refine ⟨_, rfl, v, d, rfl, it_same it B.s, fun a b ha hb ne => ?_⟩
      have s1 : Same H1 (upd H1 b (.xd [("at", v)])) := Same.new hb
      have s2 : Same (upd H1 b (.xd [("at", v)])) (upd (upd H1 b (.xd [("at", v)])) a (ExV (.ref (T.C 12)) (some b) a)) := Same.new ((upd_ne ne).trans ha)
      exact ⟨a, b, rfl, B.same (s1.trans s2), upd_same, s2 _ _ upd_same⟩
    clear B
    rintro σ H1 ⟨a, b, rfl, B, ha, hb⟩
    refine ⟨fun σ' H' => ∃ vs v2, σ' = [some v, some (.ref fa), v2] ∧ Td T.C H v fa 2 hs vs H', ?_, ?_⟩
    · refine ⟨_, rfl, .inl ⟨rfl, _, SqL.of B.l⟩, _, rfl, _, rfl, a, b, v, rfl, ha, hb, (by show 3 ≤ sizeLine; decide), fun t ht => ?_⟩
      have st := B.step (n := 12) (q := "BadFrames") hfa rfl rfl (by decide) (.up ha hb) ht
      exact ⟨fa, vs, _, rfl, rfl, st.1, B.sz (by decide), _, _, rfl, st.2⟩
    clear B ha hb a b vs
    rintro σ H1 ⟨vs, v2, rfl, B⟩
    refine ⟨fun σ' H' => ∃ a b, σ' = [some v, some (.ref fa), some (.ref a)] ∧ Td T.C H v fa 2 hs vs H' ∧ H' a = some (ExV (.ref (T.C 16)) (some b) a) ∧ H' b = some (.xd [("part", v)]), ?_, ?_⟩
    · refine ⟨_, rfl, v, d, rfl, it_same it B.s, fun a b ha hb ne => ?_⟩
      have s1 : Same H1 (upd H1 b (.xd [("part", v)])) := Same.new hb
      have s2 : Same (upd H1 b (.xd [("part", v)])) (upd (upd H1 b (.xd [("part", v)])) a (ExV (.ref (T.C 16)) (some b) a)) := Same.new ((upd_ne ne).trans ha)
      exact ⟨a, b, rfl, B.same (s1.trans s2), upd_same, s2 _ _ upd_same⟩
    clear B
    rintro σ H1 ⟨a, b, rfl, B, ha, hb⟩
    refine ⟨fun σ' H' => ∃ vs v2, σ' = [some v, some (.ref fa), v2] ∧ Td T.C H v fa 3 hs vs H', ?_, ?_⟩
    · refine ⟨_, rfl, .inl ⟨rfl, _, SqL.of B.l⟩, _, rfl, _, rfl, a, b, v, rfl, ha, hb, (by show 3 ≤ sizeLine; decide), fun t ht => ?_⟩
      have st := B.step (n := 16) (q := "BadHead") hfa rfl rfl (by decide) (.up ha hb) ht
      exact ⟨fa, vs, _, rfl, rfl, st.1, B.sz (by decide), _, _, rfl, st.2⟩
    clear B ha hb a b vs
    rintro σ H1 ⟨vs, v2, rfl, B⟩
    refine ⟨fun σ' H' => ∃ a b, σ' = [some v, some (.ref fa), some (.ref a)] ∧ Td T.C H v fa 3 hs vs H' ∧ H' a = some (ExV (.ref (T.C 20)) (some b) a) ∧ H' b = some (.xd [("at", v)]), ?_, ?_⟩
    · refine ⟨_, rfl, v, d, rfl, it_same it B.s, fun a b ha hb ne => ?_⟩
      have s1 : Same H1 (upd H1 b (.xd [("at", v)])) := Same.new hb
      have s2 : Same (upd H1 b (.xd [("at", v)])) (upd (upd H1 b (.xd [("at", v)])) a (ExV (.ref (T.C 20)) (some b) a)) := Same.new ((upd_ne ne).trans ha)
      exact ⟨a, b, rfl, B.same (s1.trans s2), upd_same, s2 _ _ upd_same⟩
    clear B
    rintro σ H1 ⟨a, b, rfl, B, ha, hb⟩
    refine ⟨fun σ' H' => ∃ vs v2, σ' = [some v, some (.ref fa), v2] ∧ Td T.C H v fa 4 hs vs H', ?_, ?_⟩
    · refine ⟨_, rfl, .inl ⟨rfl, _, SqL.of B.l⟩, _, rfl, _, rfl, a, b, v, rfl, ha, hb, (by show 3 ≤ sizeLine; decide), fun t ht => ?_⟩
      have st := B.step (n := 20) (q := "BadItem") hfa rfl rfl (by decide) (.up ha hb) ht
      exact ⟨fa, vs, _, rfl, rfl, st.1, B.sz (by decide), _, _, rfl, st.2⟩
    clear B ha hb a b vs
    rintro σ H1 ⟨vs, v2, rfl, B⟩
    refine ⟨fun σ' H' => ∃ a b, σ' = [some v, some (.ref fa), some (.ref a)] ∧ Td T.C H v fa 4 hs vs H' ∧ H' a = some (ExV (.ref (T.C 21)) (some b) a) ∧ H' b = some (.xd [("at", v)]), ?_, ?_⟩
    · refine ⟨_, rfl, v, d, rfl, it_same it B.s, fun a b ha hb ne => ?_⟩
      have s1 : Same H1 (upd H1 b (.xd [("at", v)])) := Same.new hb
      have s2 : Same (upd H1 b (.xd [("at", v)])) (upd (upd H1 b (.xd [("at", v)])) a (ExV (.ref (T.C 21)) (some b) a)) := Same.new ((upd_ne ne).trans ha)
      exact ⟨a, b, rfl, B.same (s1.trans s2), upd_same, s2 _ _ upd_same⟩
    clear B
    rintro σ H1 ⟨a, b, rfl, B, ha, hb⟩
    refine ⟨fun σ' H' => ∃ vs v2, σ' = [some v, some (.ref fa), v2] ∧ Td T.C H v fa 5 hs vs H', ?_, ?_⟩
    · refine ⟨_, rfl, .inl ⟨rfl, _, SqL.of B.l⟩, _, rfl, _, rfl, a, b, v, rfl, ha, hb, (by show 3 ≤ sizeLine; decide), fun t ht => ?_⟩
      have st := B.step (n := 21) (q := "BadJobs") hfa rfl rfl (by decide) (.up ha hb) ht
      exact ⟨fa, vs, _, rfl, rfl, st.1, B.sz (by decide), _, _, rfl, st.2⟩
    clear B ha hb a b vs
    rintro σ H1 ⟨vs, v2, rfl, B⟩
    refine ⟨fun σ' H' => ∃ a b, σ' = [some v, some (.ref fa), some (.ref a)] ∧ Td T.C H v fa 5 hs vs H' ∧ H' a = some (ExV (.ref (T.C 30)) (some b) a) ∧ H' b = some (.xd [("mode", v)]), ?_, ?_⟩
    · refine ⟨_, rfl, v, d, rfl, it_same it B.s, fun a b ha hb ne => ?_⟩
      have s1 : Same H1 (upd H1 b (.xd [("mode", v)])) := Same.new hb
      have s2 : Same (upd H1 b (.xd [("mode", v)])) (upd (upd H1 b (.xd [("mode", v)])) a (ExV (.ref (T.C 30)) (some b) a)) := Same.new ((upd_ne ne).trans ha)
      exact ⟨a, b, rfl, B.same (s1.trans s2), upd_same, s2 _ _ upd_same⟩
    clear B
    rintro σ H1 ⟨a, b, rfl, B, ha, hb⟩
    refine ⟨fun σ' H' => ∃ vs v2, σ' = [some v, some (.ref fa), v2] ∧ Td T.C H v fa 6 hs vs H', ?_, ?_⟩
    · refine ⟨_, rfl, .inl ⟨rfl, _, SqL.of B.l⟩, _, rfl, _, rfl, a, b, v, rfl, ha, hb, (by show 3 ≤ sizeLine; decide), fun t ht => ?_⟩
      have st := B.step (n := 30) (q := "BadMode") hfa rfl rfl (by decide) (.up ha hb) ht
      exact ⟨fa, vs, _, rfl, rfl, st.1, B.sz (by decide), _, _, rfl, st.2⟩
    clear B ha hb a b vs
    rintro σ H1 ⟨vs, v2, rfl, B⟩
    refine ⟨fun σ' H' => ∃ a b, σ' = [some v, some (.ref fa), some (.ref a)] ∧ Td T.C H v fa 6 hs vs H' ∧ H' a = some (ExV (.ref (T.C 43)) (some b) a) ∧ H' b = some (.xd [("part", v)]), ?_, ?_⟩
    · refine ⟨_, rfl, v, d, rfl, it_same it B.s, fun a b ha hb ne => ?_⟩
      have s1 : Same H1 (upd H1 b (.xd [("part", v)])) := Same.new hb
      have s2 : Same (upd H1 b (.xd [("part", v)])) (upd (upd H1 b (.xd [("part", v)])) a (ExV (.ref (T.C 43)) (some b) a)) := Same.new ((upd_ne ne).trans ha)
      exact ⟨a, b, rfl, B.same (s1.trans s2), upd_same, s2 _ _ upd_same⟩
    clear B
    rintro σ H1 ⟨a, b, rfl, B, ha, hb⟩
    refine ⟨fun σ' H' => ∃ vs v2, σ' = [some v, some (.ref fa), v2] ∧ Td T.C H v fa 7 hs vs H', ?_, ?_⟩
    · refine ⟨_, rfl, .inl ⟨rfl, _, SqL.of B.l⟩, _, rfl, _, rfl, a, b, v, rfl, ha, hb, (by show 3 ≤ sizeLine; decide), fun t ht => ?_⟩
      have st := B.step (n := 43) (q := "BadReel") hfa rfl rfl (by decide) (.up ha hb) ht
      exact ⟨fa, vs, _, rfl, rfl, st.1, B.sz (by decide), _, _, rfl, st.2⟩
    clear B ha hb a b vs
    rintro σ H1 ⟨vs, v2, rfl, B⟩
    refine ⟨fun σ' H' => ∃ a b, σ' = [some v, some (.ref fa), some (.ref a)] ∧ Td T.C H v fa 7 hs vs H' ∧ H' a = some (ExV (.ref (T.C 45)) (some b) a) ∧ H' b = some (.xd [("at", v)]), ?_, ?_⟩
    · refine ⟨_, rfl, v, d, rfl, it_same it B.s, fun a b ha hb ne => ?_⟩
      have s1 : Same H1 (upd H1 b (.xd [("at", v)])) := Same.new hb
      have s2 : Same (upd H1 b (.xd [("at", v)])) (upd (upd H1 b (.xd [("at", v)])) a (ExV (.ref (T.C 45)) (some b) a)) := Same.new ((upd_ne ne).trans ha)
      exact ⟨a, b, rfl, B.same (s1.trans s2), upd_same, s2 _ _ upd_same⟩
    clear B
    rintro σ H1 ⟨a, b, rfl, B, ha, hb⟩
    refine ⟨fun σ' H' => ∃ vs v2, σ' = [some v, some (.ref fa), v2] ∧ Td T.C H v fa 8 hs vs H', ?_, ?_⟩
    · refine ⟨_, rfl, .inl ⟨rfl, _, SqL.of B.l⟩, _, rfl, _, rfl, a, b, v, rfl, ha, hb, (by show 3 ≤ sizeLine; decide), fun t ht => ?_⟩
      have st := B.step (n := 45) (q := "BadRenewals") hfa rfl rfl (by decide) (.up ha hb) ht
      exact ⟨fa, vs, _, rfl, rfl, st.1, B.sz (by decide), _, _, rfl, st.2⟩
    clear B ha hb a b vs
    rintro σ H1 ⟨vs, v2, rfl, B⟩
    refine ⟨fun σ' H' => ∃ a b, σ' = [some v, some (.ref fa), some (.ref a)] ∧ Td T.C H v fa 8 hs vs H' ∧ H' a = some (ExV (.ref (T.C 49)) (some b) a) ∧ H' b = some (.xd [("part", v)]), ?_, ?_⟩
    · refine ⟨_, rfl, v, d, rfl, it_same it B.s, fun a b ha hb ne => ?_⟩
      have s1 : Same H1 (upd H1 b (.xd [("part", v)])) := Same.new hb
      have s2 : Same (upd H1 b (.xd [("part", v)])) (upd (upd H1 b (.xd [("part", v)])) a (ExV (.ref (T.C 49)) (some b) a)) := Same.new ((upd_ne ne).trans ha)
      exact ⟨a, b, rfl, B.same (s1.trans s2), upd_same, s2 _ _ upd_same⟩
    clear B
    rintro σ H1 ⟨a, b, rfl, B, ha, hb⟩
    refine ⟨fun σ' H' => ∃ vs v2, σ' = [some v, some (.ref fa), v2] ∧ Td T.C H v fa 9 hs vs H', ?_, ?_⟩
    · refine ⟨_, rfl, .inl ⟨rfl, _, SqL.of B.l⟩, _, rfl, _, rfl, a, b, v, rfl, ha, hb, (by show 3 ≤ sizeLine; decide), fun t ht => ?_⟩
      have st := B.step (n := 49) (q := "BadShape") hfa rfl rfl (by decide) (.up ha hb) ht
      exact ⟨fa, vs, _, rfl, rfl, st.1, B.sz (by decide), _, _, rfl, st.2⟩
    clear B ha hb a b vs
    rintro σ H1 ⟨vs, v2, rfl, B⟩
    refine ⟨fun σ' H' => ∃ a b, σ' = [some v, some (.ref fa), some (.ref a)] ∧ Td T.C H v fa 9 hs vs H' ∧ H' a = some (ExV (.ref (T.C 58)) (some b) a) ∧ H' b = some (.xd [("part", v)]), ?_, ?_⟩
    · refine ⟨_, rfl, v, d, rfl, it_same it B.s, fun a b ha hb ne => ?_⟩
      have s1 : Same H1 (upd H1 b (.xd [("part", v)])) := Same.new hb
      have s2 : Same (upd H1 b (.xd [("part", v)])) (upd (upd H1 b (.xd [("part", v)])) a (ExV (.ref (T.C 58)) (some b) a)) := Same.new ((upd_ne ne).trans ha)
      exact ⟨a, b, rfl, B.same (s1.trans s2), upd_same, s2 _ _ upd_same⟩
    clear B
    rintro σ H1 ⟨a, b, rfl, B, ha, hb⟩
    refine ⟨fun σ' H' => ∃ vs v2, σ' = [some v, some (.ref fa), v2] ∧ Td T.C H v fa 10 hs vs H', ?_, ?_⟩
    · refine ⟨_, rfl, .inl ⟨rfl, _, SqL.of B.l⟩, _, rfl, _, rfl, a, b, v, rfl, ha, hb, (by show 3 ≤ sizeLine; decide), fun t ht => ?_⟩
      have st := B.step (n := 58) (q := "BadStock") hfa rfl rfl (by decide) (.up ha hb) ht
      exact ⟨fa, vs, _, rfl, rfl, st.1, B.sz (by decide), _, _, rfl, st.2⟩
    clear B ha hb a b vs
    rintro σ H1 ⟨vs, v2, rfl, B⟩
    refine ⟨fun σ' H' => ∃ a b, σ' = [some v, some (.ref fa), some (.ref a)] ∧ Td T.C H v fa 10 hs vs H' ∧ H' a = some (ExV (.ref (T.C 59)) (some b) a) ∧ H' b = some (.xd [("at", v)]), ?_, ?_⟩
    · refine ⟨_, rfl, v, d, rfl, it_same it B.s, fun a b ha hb ne => ?_⟩
      have s1 : Same H1 (upd H1 b (.xd [("at", v)])) := Same.new hb
      have s2 : Same (upd H1 b (.xd [("at", v)])) (upd (upd H1 b (.xd [("at", v)])) a (ExV (.ref (T.C 59)) (some b) a)) := Same.new ((upd_ne ne).trans ha)
      exact ⟨a, b, rfl, B.same (s1.trans s2), upd_same, s2 _ _ upd_same⟩
    clear B
    rintro σ H1 ⟨a, b, rfl, B, ha, hb⟩
    refine ⟨fun σ' H' => ∃ vs v2, σ' = [some v, some (.ref fa), v2] ∧ Td T.C H v fa 11 hs vs H', ?_, ?_⟩
    · refine ⟨_, rfl, .inl ⟨rfl, _, SqL.of B.l⟩, _, rfl, _, rfl, a, b, v, rfl, ha, hb, (by show 3 ≤ sizeLine; decide), fun t ht => ?_⟩
      have st := B.step (n := 59) (q := "BadStore") hfa rfl rfl (by decide) (.up ha hb) ht
      exact ⟨fa, vs, _, rfl, rfl, st.1, B.sz (by decide), _, _, rfl, st.2⟩
    clear B ha hb a b vs
    rintro σ H1 ⟨vs, v2, rfl, B⟩
    refine ⟨fun σ' H' => ∃ a b, σ' = [some v, some (.ref fa), some (.ref a)] ∧ Td T.C H v fa 11 hs vs H' ∧ H' a = some (ExV (.ref (T.C 60)) (some b) a) ∧ H' b = some (.xd [("at", v)]), ?_, ?_⟩
    · refine ⟨_, rfl, v, d, rfl, it_same it B.s, fun a b ha hb ne => ?_⟩
      have s1 : Same H1 (upd H1 b (.xd [("at", v)])) := Same.new hb
      have s2 : Same (upd H1 b (.xd [("at", v)])) (upd (upd H1 b (.xd [("at", v)])) a (ExV (.ref (T.C 60)) (some b) a)) := Same.new ((upd_ne ne).trans ha)
      exact ⟨a, b, rfl, B.same (s1.trans s2), upd_same, s2 _ _ upd_same⟩
    clear B
    rintro σ H1 ⟨a, b, rfl, B, ha, hb⟩
    refine ⟨fun σ' H' => ∃ vs v2, σ' = [some v, some (.ref fa), v2] ∧ Td T.C H v fa 12 hs vs H', ?_, ?_⟩
    · refine ⟨_, rfl, .inl ⟨rfl, _, SqL.of B.l⟩, _, rfl, _, rfl, a, b, v, rfl, ha, hb, (by show 3 ≤ sizeLine; decide), fun t ht => ?_⟩
      have st := B.step (n := 60) (q := "BadStream") hfa rfl rfl (by decide) (.up ha hb) ht
      exact ⟨fa, vs, _, rfl, rfl, st.1, B.sz (by decide), _, _, rfl, st.2⟩
    clear B ha hb a b vs
    rintro σ H1 ⟨vs, v2, rfl, B⟩
    refine ⟨fun σ' H' => ∃ a b, σ' = [some v, some (.ref fa), some (.ref a)] ∧ Td T.C H v fa 12 hs vs H' ∧ H' a = some (ExV (.ref (T.C 61)) (some b) a) ∧ H' b = some (.xd [("at", v)]), ?_, ?_⟩
    · refine ⟨_, rfl, v, d, rfl, it_same it B.s, fun a b ha hb ne => ?_⟩
      have s1 : Same H1 (upd H1 b (.xd [("at", v)])) := Same.new hb
      have s2 : Same (upd H1 b (.xd [("at", v)])) (upd (upd H1 b (.xd [("at", v)])) a (ExV (.ref (T.C 61)) (some b) a)) := Same.new ((upd_ne ne).trans ha)
      exact ⟨a, b, rfl, B.same (s1.trans s2), upd_same, s2 _ _ upd_same⟩
    clear B
    rintro σ H1 ⟨a, b, rfl, B, ha, hb⟩
    refine ⟨fun σ' H' => ∃ vs v2, σ' = [some v, some (.ref fa), v2] ∧ Td T.C H v fa 13 hs vs H', ?_, ?_⟩
    · refine ⟨_, rfl, .inl ⟨rfl, _, SqL.of B.l⟩, _, rfl, _, rfl, a, b, v, rfl, ha, hb, (by show 3 ≤ sizeLine; decide), fun t ht => ?_⟩
      have st := B.step (n := 61) (q := "BadStretch") hfa rfl rfl (by decide) (.up ha hb) ht
      exact ⟨fa, vs, _, rfl, rfl, st.1, B.sz (by decide), _, _, rfl, st.2⟩
    clear B ha hb a b vs
    rintro σ H1 ⟨vs, v2, rfl, B⟩
    refine ⟨fun σ' H' => ∃ a b, σ' = [some v, some (.ref fa), some (.ref a)] ∧ Td T.C H v fa 13 hs vs H' ∧ H' a = some (ExV (.ref (T.C 68)) (some b) a) ∧ H' b = some (.xd [("at", v)]), ?_, ?_⟩
    · refine ⟨_, rfl, v, d, rfl, it_same it B.s, fun a b ha hb ne => ?_⟩
      have s1 : Same H1 (upd H1 b (.xd [("at", v)])) := Same.new hb
      have s2 : Same (upd H1 b (.xd [("at", v)])) (upd (upd H1 b (.xd [("at", v)])) a (ExV (.ref (T.C 68)) (some b) a)) := Same.new ((upd_ne ne).trans ha)
      exact ⟨a, b, rfl, B.same (s1.trans s2), upd_same, s2 _ _ upd_same⟩
    clear B
    rintro σ H1 ⟨a, b, rfl, B, ha, hb⟩
    refine ⟨fun σ' H' => ∃ vs v2, σ' = [some v, some (.ref fa), v2] ∧ Td T.C H v fa 14 hs vs H', ?_, ?_⟩
    · refine ⟨_, rfl, .inl ⟨rfl, _, SqL.of B.l⟩, _, rfl, _, rfl, a, b, v, rfl, ha, hb, (by show 3 ≤ sizeLine; decide), fun t ht => ?_⟩
      have st := B.step (n := 68) (q := "BadWeb") hfa rfl rfl (by decide) (.up ha hb) ht
      exact ⟨fa, vs, _, rfl, rfl, st.1, B.sz (by decide), _, _, rfl, st.2⟩
    clear B ha hb a b vs
    rintro σ H1 ⟨vs, v2, rfl, B⟩
    refine ⟨fun σ' H' => ∃ a b, σ' = [some v, some (.ref fa), some (.ref a)] ∧ Td T.C H v fa 14 hs vs H' ∧ H' a = some (ExV (.ref (T.C 71)) (some b) a) ∧ H' b = some (.xd [("word", v)]), ?_, ?_⟩
    · refine ⟨_, rfl, v, d, rfl, it_same it B.s, fun a b ha hb ne => ?_⟩
      have s1 : Same H1 (upd H1 b (.xd [("word", v)])) := Same.new hb
      have s2 : Same (upd H1 b (.xd [("word", v)])) (upd (upd H1 b (.xd [("word", v)])) a (ExV (.ref (T.C 71)) (some b) a)) := Same.new ((upd_ne ne).trans ha)
      exact ⟨a, b, rfl, B.same (s1.trans s2), upd_same, s2 _ _ upd_same⟩
    clear B
    rintro σ H1 ⟨a, b, rfl, B, ha, hb⟩
    refine ⟨fun σ' H' => ∃ vs v2, σ' = [some v, some (.ref fa), v2] ∧ Td T.C H v fa 15 hs vs H', ?_, ?_⟩
    · refine ⟨_, rfl, .inl ⟨rfl, _, SqL.of B.l⟩, _, rfl, _, rfl, a, b, v, rfl, ha, hb, (by show 3 ≤ sizeLine; decide), fun t ht => ?_⟩
      have st := B.step (n := 71) (q := "NotNow") hfa rfl rfl (by decide) (.up ha hb) ht
      exact ⟨fa, vs, _, rfl, rfl, st.1, B.sz (by decide), _, _, rfl, st.2⟩
    clear B ha hb a b vs
    rintro σ H1 ⟨vs, v2, rfl, B⟩
    refine ⟨fun σ' H' => ∃ a b, σ' = [some v, some (.ref fa), some (.ref a)] ∧ Td T.C H v fa 15 hs vs H' ∧ H' a = some (ExV (.ref (T.C 75)) (some b) a) ∧ H' b = some (.xd [("most", v)]), ?_, ?_⟩
    · refine ⟨_, rfl, v, d, rfl, it_same it B.s, fun a b ha hb ne => ?_⟩
      have s1 : Same H1 (upd H1 b (.xd [("most", v)])) := Same.new hb
      have s2 : Same (upd H1 b (.xd [("most", v)])) (upd (upd H1 b (.xd [("most", v)])) a (ExV (.ref (T.C 75)) (some b) a)) := Same.new ((upd_ne ne).trans ha)
      exact ⟨a, b, rfl, B.same (s1.trans s2), upd_same, s2 _ _ upd_same⟩
    clear B
    rintro σ H1 ⟨a, b, rfl, B, ha, hb⟩
    refine ⟨fun σ' H' => ∃ vs v2, σ' = [some v, some (.ref fa), v2] ∧ Td T.C H v fa 16 hs vs H', ?_, ?_⟩
    · refine ⟨_, rfl, .inl ⟨rfl, _, SqL.of B.l⟩, _, rfl, _, rfl, a, b, v, rfl, ha, hb, (by show 3 ≤ sizeLine; decide), fun t ht => ?_⟩
      have st := B.step (n := 75) (q := "TooMany") hfa rfl rfl (by decide) (.up ha hb) ht
      exact ⟨fa, vs, _, rfl, rfl, st.1, B.sz (by decide), _, _, rfl, st.2⟩
    clear B ha hb a b vs
    rintro σ H1 ⟨vs, v2, rfl, B⟩
    exact ⟨_, rfl, k fa vs H1 hfa B.s B.l B.p⟩
end
end K00
namespace K00
open PySem PySem.Spec PyProof.Rows L2 PySem.W LamX KA K0U KU
open Evl (pss_cut tCut)
/-! ### what is drawn -/
def off (st lg : Addr) (H : Hp) : Hp := fun b => if b = st ∨ b = lg then none else H b
theorem off_same {st lg : Addr} {H H' : Hp} (k : Kp st lg H H') : Same (off st lg H) (off st lg H') := fun b o e => by
  unfold off at e ⊢
  by_cases c : b = st ∨ b = lg
  · rw [if_pos c] at e
    cases e
  · rw [if_neg c] at e ⊢
    exact k b o e (fun z => c (.inl z)) (fun z => c (.inr z))
theorem off_le {st lg : Addr} {H : Hp} : Same (off st lg H) H := fun b o e => by
  unfold off at e
  by_cases c : b = st ∨ b = lg
  · rw [if_pos c] at e
    cases e
  · rw [if_neg c] at e
    exact e
theorem off_at {st lg b : Addr} {H : Hp} {o : HO} (e : H b = some o) (n : b ≠ st ∧ b ≠ lg) : off st lg H b = some o := by
  unfold off
  rw [if_neg (fun z => z.elim n.1 n.2)]
  exact e
def spOdd (K : PySem.W.Frag) : Sp := fun vs H Q _ => ∃ (st lg cl : Addr) (m : Nat), vs = [.ref st] ∧ m ≤ 999999 ∧ StAt H st lg cl m ∧
  ∀ (x : V) (d : PyData) (H' : Hp), It K (off st lg H') x d → StAt H' st lg cl (m + 1) → Kp st lg H H' → Q x H'
section
variable {P : Program} {w : World} {K : PySem.W.Frag} {mg : Str → Option Value} {base : Heap} (T : Top K mg)
theorem ok_odd : FnOk P w K mg base (L2.CX P w) 3 T._law_odd.a T._law_odd.d ["state"] (spOdd K) := by
  refine T._law_odd.f.okX sc__law_odd (fun vs H Q E h => ?_) (fun cdv A outer s H vs Q E hr h => ?_)
  · obtain ⟨st, lg, cl, m, rfl, _⟩ := h
    rfl
  · obtain ⟨st, lg, cl, m, rfl, hm, S, k⟩ := h
    refine ⟨_, pss_one (ps_ret (pe_call (ok_pick T) hr (by rfl) T._law_pick.m T._law_pick.f.kp (bd__law_pick T) .nil passE (pa_cons (pv 0) (pa_cons (pe_lst
      (pa_cons pe_non (pa_cons pe_bl (pa_cons pe_bl (pa_cons pe_str (pa_cons pe_str (pa_cons (pe_lst pa_nil) (pa_cons pe_dnewK (pa_cons (pe_tup (pa_cons pe_non pa_nil)) (pa_cons (pe_tup (pa_cons pe_str (pa_cons pe_int pa_nil))) (pa_cons (pe_lst (pa_cons (pe_lst (pa_cons pe_int pa_nil)) pa_nil))
        (pa_cons (pe_disp (pps_cons pe_int pe_int pps_nil) (by rfl) (by rfl) (fun z => by cases z) (by decide)) (pa_cons (pe_tup (pa_cons pe_bl pa_nil)) pa_nil))))))))))))) pa_nil)))), ?_⟩
    refine ⟨_, rfl, ⟨(by show 0 ≤ sizeLine; decide), fun p1 h1 => ?_⟩⟩
    intro p2 h2
    refine ⟨(by show 1 ≤ sizeLine; decide), fun p3 h3 => ⟨(by show 2 ≤ sizeLine; decide), fun p4 h4 => ⟨(by show 1 ≤ sizeLine; decide), fun p5 h5 => ⟨(by show 1 ≤ sizeLine; decide), fun p6 h6 => ?_⟩⟩⟩⟩
    intro p7 h7
    refine ⟨upd_same, [(.inl 0, .int 0)], rfl, (by decide), ?_⟩
    have s1 := Same.new (o := .lst []) h1
    have s2 := Same.new (o := .dK []) h2
    have s3 := Same.new (o := .tup [.non]) h3
    have s4 := Same.new (o := .tup [.str "a", .int 1]) h4
    have s5 := Same.new (o := .lst [.int 0]) h5
    have s6 := Same.new (o := .lst [.ref p5]) h6
    rw [upd_upd]
    have s7 := Same.new (o := .dK (mergeK [] [(.inl 0, V.int 0)])) h7
    refine ⟨(by show 1 ≤ sizeLine; decide), fun p8 h8 => ⟨(by show 12 ≤ sizeLine; decide), fun p9 h9 => ?_⟩⟩
    have s8 := Same.new (o := .tup [.bl true]) h8
    have s9 := Same.new (o := .lst [.non, .bl true, .bl false, .str "0", .str "", .ref p1, .ref p2, .ref p3, .ref p4, .ref p6, .ref p7, .ref p8]) h9
    have S1 := S.same s1
    have S2 := S1.same s2
    have S3 := S2.same s3
    have S4 := S3.same s4
    have S5 := S4.same s5
    have S6 := S5.same s6
    have S7 := S6.same s7
    have S8 := S7.same s8
    have S9 := S8.same s9
    refine ⟨st, lg, cl, p9, _, m, rfl, upd_same, (S8.off h9).2, (by show 0 < 12; decide), (by show 12 ≤ 1000; decide), by omega, S9, fun x H2 hx S' kp => ?_⟩
    have t8 := s9
    have t7 := s8.trans t8
    have t6 := s7.trans t7
    have t5 := s6.trans t6
    have t4 := s5.trans t5
    have t3 := s4.trans t4
    have t2 := s3.trans t3
    have t1 := s2.trans t2
    have e1 := off_at (kp p1 _ (t1 _ _ upd_same) (S.off h1).1 (S.off h1).2) (S.off h1)
    have e2 := off_at (kp p2 _ (t2 _ _ upd_same) (S1.off h2).1 (S1.off h2).2) (S1.off h2)
    have e3 := off_at (kp p3 _ (t3 _ _ upd_same) (S2.off h3).1 (S2.off h3).2) (S2.off h3)
    have e4 := off_at (kp p4 _ (t4 _ _ upd_same) (S3.off h4).1 (S3.off h4).2) (S3.off h4)
    have e5 := off_at (kp p5 _ (t5 _ _ upd_same) (S4.off h5).1 (S4.off h5).2) (S4.off h5)
    have e6 := off_at (kp p6 _ (t6 _ _ upd_same) (S5.off h6).1 (S5.off h6).2) (S5.off h6)
    have e7 := off_at (kp p7 _ (t7 _ _ upd_same) (S6.off h7).1 (S6.off h7).2) (S6.off h7)
    have e8 := off_at (kp p8 _ (t8 _ _ upd_same) (S7.off h8).1 (S7.off h8).2) (S7.off h8)
    have kk : Kp st lg H H2 := (Kp.same (s1.trans t1)).trans kp
    simp only [List.mem_cons, List.not_mem_nil, or_false] at hx
    rcases hx with h | h | h | h | h | h | h | h | h | h | h | h <;> subst h
    · exact k _ _ _ .non S' kk
    · exact k _ _ _ (.bl true) S' kk
    · exact k _ _ _ (.bl false) S' kk
    · exact k _ _ _ (.str "0" (by decide) (by decide +kernel)) S' kk
    · exact k _ _ _ (.str "" (by decide) (by decide +kernel)) S' kk
    · exact k _ (.list []) _ (.dp (.lst (SqL.of e1) .nil) (by decide +kernel) (by decide +kernel) (by decide +kernel) (by decide +kernel)) S' kk
    · exact k _ _ _ (.d0 e2) S' kk
    · exact k _ (.tuple [.none]) _ (.dp (.tup (SqT.of e3) (.cons .non .nil)) (by decide +kernel) (by decide +kernel) (by decide +kernel) (by decide +kernel)) S' kk
    · exact k _ (.tuple [.str "a", .int 1]) _ (.dp (.tup (SqT.of e4) (.cons (.str _) (.cons (.int _) .nil))) (by decide +kernel) (by decide +kernel) (by decide +kernel) (by decide +kernel)) S' kk
    · exact k _ (.list [.list [.int 0]]) _ (.dp (.lst (SqL.of e6) (.cons (.lst (SqL.of e5) (.cons (.int _) .nil)) .nil)) (by decide +kernel) (by decide +kernel) (by decide +kernel) (by decide +kernel)) S' kk
    · exact k _ _ _ (.d1 e7) S' kk
    · exact k _ (.tuple [.bool true]) _ (.dp (.tup (SqT.of e8) (.cons (.bl _) .nil)) (by decide +kernel) (by decide +kernel) (by decide +kernel) (by decide +kernel)) S' kk
end
end K00
namespace K00
open PySem PySem.Spec PyProof.Rows L2 PySem.W LamX KA K0U KU KW
open Evl (pss_cut tCut)
/-! ### the law -/
theorem FnG.w {P : Program} {w : World} {K : PySem.W.Frag} {mg : Str → Option Value} {base : Heap} {CX : CXT} {k : Nat} {f : Addr} {fd : FuncData} {ps : List Str} {sp : Sp} {fs : List Addr} {H0 : Hp} {h0 : Heap} (F : FnG P w K mg base CX k f fd ps sp) : FnW P w K mg base fs H0 h0 CX k f fd ps sp :=
  ⟨F.len, fun A outer s H args us vs Q E hr hg e0 _ _ b r h => F.run A outer s H args us vs Q E hr hg e0 b r h⟩
theorem since_self {Z : Cx} (h : Z.ex = []) : Since Z Z.fs Z.H_0 Z.s_0.heap := ⟨Un.kept fun _ _ z => z, fun _ hb => .inl hb, h⟩
theorem PL.get {C : Nat → Addr} {H : Hp} {vs : List V} {ns : List Nat} (p : PL C H vs ns) : ∀ {i : Nat} {x : V}, vs[i]? = some x → ∃ t a n q, x = .ref t ∧ H t = some (.tup [.str q, .ref a]) ∧ q = name n ∧ n < 76 ∧ ExK H (C n) a := by
  induction p with
  | nil => intro i x h; simp at h
  | cons e hq hn k r ih =>
    intro i x h
    cases i with
    | zero =>
      simp at h
      exact ⟨_, _, _, _, h.symm, e, hq, hn, k⟩
    | succ i => exact ih (by simpa using h)
theorem TL.get {C : Nat → Addr} {v : V} {H : Hp} {vs : List V} {ns : List Nat} (p : TL C v H vs ns) : ∀ {i : Nat} {x : V}, vs[i]? = some x → ∃ t a n q, x = .ref t ∧ H t = some (.tup [.str q, .ref a, v]) ∧ q = name n ∧ n < 76 ∧ ExK H (C n) a := by
  induction p with
  | nil => intro i x h; simp at h
  | cons e hq hn k r ih =>
    intro i x h
    cases i with
    | zero =>
      simp at h
      exact ⟨_, _, _, _, h.symm, e, hq, hn, k⟩
    | succ i => exact ih (by simpa using h)
theorem PL.same {C : Nat → Addr} {H H' : Hp} {vs : List V} {ns : List Nat} (p : PL C H vs ns) (e : Same H H') : PL C H' vs ns := p.mono fun b o z _ => e b o z
theorem TL.same {C : Nat → Addr} {v : V} {H H' : Hp} {vs : List V} {ns : List Nat} (p : TL C v H vs ns) (e : Same H H') : TL C v H' vs ns := p.mono fun b o z _ => e b o z
theorem ite_same {x : V} {A B : Prop} {d : Decidable (x = x)} (h : B) : if (!@decide (x = x) d) = true then A else B := by
  rw [if_neg (by simp)]
  exact h
def spLaw (K : PySem.W.Frag) : Sp := fun vs H Q _ => ∃ (a : Addr) (ns : List Int), vs = [.ref a] ∧ SqL K H a (ns.map V.int) ∧ ns.length ≤ 63 ∧ ∀ H', Q (.bl true) H'
section
variable {P : Program} {w : World} {K : PySem.W.Frag} {mg : Str → Option Value} {base : Heap} (T : Top K mg) (Hd : Helds P K mg T.C)
include Hd
theorem ok_law : FnG P w K mg base (L2.CX P w) 10 T.law.a T.law.d ["script"] (spLaw K) := by
  refine fnG_of T.law.f sc_law (fun vs H Q E h => ?_) (fun cdv A outer s H vs Q E hr hg h => ?_)
  · obtain ⟨a, ns, rfl, _⟩ := h
    rfl
  · obtain ⟨a, ns, rfl, hS, hl, k⟩ := h
    refine ⟨_, pss_cons (ps_set (i := 1) sc_law.nd rfl (.inr rfl) (pe_call (ok_begun T) (hr.mono (by decide)) (by rfl) T._law_begun.m T._law_begun.f.kp (bd__law_begun T) .nil passE (pa_cons (pv 0) pa_nil)))
      (pss_cons (ps_for (passes_of rfl) rfl (pi_range1 (by rfl) T.b_range (pa_cons (pe_op op_add pe_int (pe_callB (call_min2 rfl) (by rfl) T.b_min PyProof.Rows.boot_min (pa_cons (pe_callB call_len_seq (by rfl) T.b_len PySem.boot_len (pa_cons (pv 0) pa_nil)) (pa_cons pe_int pa_nil)))) pa_nil)) (pg_name (i := 2) sc_law.nd rfl (.inl rfl))
        (pss_cut (ps_set (i := 3) sc_law.nd rfl (.inl rfl) (pe_join pe_str (pe_lc (own := [("spot", 9)]) (g := gName 9) rfl sc_law.nd (pi_range1 (by rfl) T.b_range (pa_cons (pe_call (ok_draw T) (hr.mono (by decide)) (by rfl) T._law_draw.m T._law_draw.f.kp (bd__law_draw T) .nil passE (pa_cons (pv 1) (pa_cons pe_int pa_nil))) pa_nil))
          (blkOk_by (own := [("spot", 9)]) (N := ["script", "state", "turn", "text_here", "item", "some", "name_here", "caught", "told", "spot"]) (sc := defScope s_law) (by decide +kernel)) (fun _ _ _ _ _ => pg_name (i := 9) sc_law.nd rfl (Or.inl rfl)) (fun _ _ _ _ _ => pts_nil)
          (fun _ _ _ _ _ => (pe_call (ok_pick T) (hr.mono (by decide)) (by rfl) T._law_pick.m T._law_pick.f.kp (bd__law_pick T) .nil passE (pa_cons (pv 1) (pa_cons (pe_lst (pa_cons pe_str (pa_cons pe_str (pa_cons pe_str (pa_cons pe_str (pa_cons pe_str pa_nil)))))) pa_nil)))))))
        (pss_cut (ps_set (i := 4) sc_law.nd rfl (.inl rfl) (pe_call (ok_pick T) (hr.mono (by decide)) (by rfl) T._law_pick.m T._law_pick.f.kp (bd__law_pick T) .nil passE (pa_cons (pv 1) (pa_cons (pe_lst (pa_cons (pe_call (ok_odd T) (hr.mono (by decide)) (by rfl) T._law_odd.m T._law_odd.f.kp (bd__law_odd T) .nil passE (pa_cons (pv 1) pa_nil))
          (pa_cons (pe_op op_sub (pe_call (ok_draw T) (hr.mono (by decide)) (by rfl) T._law_draw.m T._law_draw.f.kp (bd__law_draw T) .nil passE (pa_cons (pv 1) (pa_cons pe_int pa_nil))) pe_int) (pa_cons (pe_tup (pa_cons pe_int (pa_cons pe_int pa_nil))) (pa_cons pe_str (pa_cons (pe_op op_pow pe_int pe_int) pa_nil)))))) pa_nil))))
        (pss_cut (ps_set (i := 5) sc_law.nd rfl (.inl rfl) (pe_op op_cat (pe_op op_cat (pe_call (ok__law_plain_a T) (hr.mono (by decide)) (by rfl) T._law_plain_a.m T._law_plain_a.f.kp (bd__law_plain_a T) .nil passE (pa_cons (pv 3) pa_nil)) (pe_call (ok__law_plain_b T) (hr.mono (by decide)) (by rfl) T._law_plain_b.m T._law_plain_b.f.kp (bd__law_plain_b T) .nil passE (pa_cons (pv 3) pa_nil)))
          (pe_call (ok__law_plain_c T) (hr.mono (by decide)) (by rfl) T._law_plain_c.m T._law_plain_c.f.kp (bd__law_plain_c T) .nil passE (pa_cons (pv 3) pa_nil))))
        (pss_cut (ps_if (pt_cmpR (op_neD hr.units) (pe_lc (own := [("name_here", 6), ("caught", 7)]) (g := gTup K 2 (gCons (gName 6) (gCons (gName 7) gNil))) rfl sc_law.nd (pi_list (pv 5)) (blkOk_by (own := [("name_here", 6), ("caught", 7)]) (N := ["script", "state", "turn", "text_here", "item", "some", "name_here", "caught", "told", "spot"]) (sc := defScope s_law) (by decide +kernel))
            (fun _ _ _ _ _ => pg_tup rfl (pgs_cons (pg_name (i := 6) sc_law.nd rfl (.inl rfl)) (pgs_cons (pg_name (i := 7) sc_law.nd rfl (.inl rfl)) pgs_nil)))
            (fun _ _ _ _ _ => pts_one (pt_not (pt_val (pe_call (ok_alone T) (hr.mono (by decide)) (by rfl) T._law_is_alone.m T._law_is_alone.f.kp (bd__law_is_alone T) .nil passE (pa_cons (pv 7) (pa_cons (pv 6) pa_nil)))))) (fun _ _ _ _ _ => pe_int)) (pe_lst pa_nil) (nomark _)) (pss_one (ps_ret pe_bl)) pss_nil)
        (pss_one (ps_for (passes_of rfl) rfl (pi_list (pe_op op_cat (pe_wcall (FnG.w (ok__law_held T Hd)) (since_self rfl) (hr.mono (by decide)) hg (by rfl) T._law_held.m T._law_held.f.kp (bd__law_held T) passE (pa_cons (pv 4) pa_nil)) (pe_wcall (FnG.w (ok__law_held_by_name T Hd)) (since_self rfl) (hr.mono (by decide)) hg (by rfl) T._law_held_by_name.m T._law_held_by_name.f.kp (bd__law_held_by_name T) passE (pa_cons (pv 4) pa_nil))))
          (pg_tup rfl (pgs_cons (pg_name (i := 6) sc_law.nd rfl (.inl rfl)) (pgs_cons (pg_name (i := 7) sc_law.nd rfl (.inl rfl)) (pgs_cons (pg_name (i := 8) sc_law.nd rfl (.inl rfl)) pgs_nil))))
          (pss_one (ps_if (PW.pt (pw_or (pt_not (pt_val (pe_call (ok_alone T) (hr.mono (by decide)) (by rfl) T._law_is_alone.m T._law_is_alone.f.kp (bd__law_is_alone T) .nil passE (pa_cons (pv 7) (pa_cons (pv 6) pa_nil))))) (pw_or1 (pt_cmpR op_ne (pe_callB (call_reprI hg hr) (by rfl) T.b_repr (by decide +kernel) (pa_cons (pv 8) pa_nil)) (pe_callB (call_reprI hg hr) (by rfl) T.b_repr (by decide +kernel) (pa_cons (pv 4) pa_nil)) (nomark _))))) (pss_one (ps_ret pe_bl)) pss_nil)))))))))
      (pss_one (ps_ret pe_bl))), ?_⟩
    refine ⟨_, rfl, a, ns, rfl, hS, hl, fun st lg cl H1 S1 sm1 n1 n2 => ?_⟩
    refine ⟨_, rfl, a, _, rfl, .inl (sm1.seq hS), _, _, rfl, _, _, rfl, rfl, _, rfl, by split <;> omega, by split <;> omega, for_range (n := _) (fun j σ H => StAt H st lg cl (50 * j) ∧ ∃ v2 v3 v4 v5 v6 v7 v8 v9, σ = [some (.ref a), some (.ref st), v2, v3, v4, v5, v6, v7, v8, v9]) ⟨S1, _, _, _, _, _, _, _, _, rfl⟩ ?_ fun σ H _ => k H⟩
    clear S1 sm1 hS n1 n2 H1
    rintro j σ H hj ⟨S, v2, v3, v4, v5, v6, v7, v8, v9, rfl⟩
    have hj : j < 12 := by
      refine Nat.lt_of_lt_of_le hj ?_
      split <;> omega
    -- the text
    refine ⟨fun σ' H' => ∃ z : Str, σ' = [some (.ref a), some (.ref st), some (.int (0 + j)), some (.str z), v4, v5, v6, v7, v8, v9] ∧ StAt H' st lg cl (50 * j + 20), ?_, ?_⟩
    · refine ⟨⟨_, rfl⟩, ?_⟩
      refine ⟨_, rfl, st, lg, cl, 9, 50 * j, rfl, by decide, by decide, by omega, S, fun c Hd hc Sd kpd => ⟨_, rfl, by omega, by omega, fun D hD => ?_⟩⟩
      have d1 := (Sd.off hD).1
      have d2 := (Sd.off hD).2
      refine lc_range (n := (c : Int).toNat) (fun j' H' => ∃ ys : List Str, ys.length = j' ∧ (∀ y ∈ ys, y.length = 1) ∧ H' D = some (.lst (ys.map V.str)) ∧ D ≠ cl ∧ StAt H' st lg cl (50 * j + 1 + j'))
        ⟨[], rfl, (fun _ hy => nomatch hy), upd_same, ?_, Sd.same (Same.new hD)⟩ ?_ ?_
      · obtain ⟨_, _, _, _, S', _⟩ := Sd
        exact (ne_of_none S'.c hD).symm
      · rintro j' H' hj' ⟨ys, hy1, hy2, hy3, d3, S3⟩
        refine ⟨rfl, ?_⟩
        dsimp only [tYes]
        rw [if_pos rfl]
        refine ⟨_, rfl, (by show 5 ≤ sizeLine; decide), fun p hp => ⟨st, lg, cl, p, _, 50 * j + 1 + j', rfl, upd_same, (S3.off hp).2, (by show 0 < 5; decide), (by show 5 ≤ 1000; decide), by omega, S3.same (Same.new hp), fun x H2 hx S4 kp4 => ?_⟩⟩
        have hD2 := kp4 D _ ((Same.new hp) _ _ hy3) d1 d2
        obtain ⟨y, hy, rfl⟩ : ∃ y : Str, y.length = 1 ∧ x = .str y := by
          simp only [List.mem_cons, List.not_mem_nil, or_false] at hx
          rcases hx with h | h | h | h | h <;> exact ⟨_, by decide, h⟩
        refine ⟨_, hD2, ?_, ys ++ [y], by simp [hy1], fun z hz => ?_, ?_, d3, ?_⟩
        · rw [List.length_map, hy1]
          exact Nat.lt_trans (show j' < 20 by omega) (by decide)
        · rcases List.mem_append.mp hz with h | h
          · exact hy2 z h
          · rw [List.mem_singleton.mp h]
            exact hy
        · rw [upd_same, List.map_append]
          rfl
        · obtain ⟨_, _, _, _, s', h'⟩ := S4
          exact ⟨_, _, _, _, { s' with d := (upd_ne d1.symm).trans s'.d, l := (upd_ne d2.symm).trans s'.l, c := (upd_ne d3.symm).trans s'.c }, h'⟩
      · rintro H' ⟨ys, hy1, hy2, hy3, d3, S3⟩
        have hs : (ys.map (·.length)).sum = ys.length := by
          clear hy1 hy3
          induction ys with
          | nil => rfl
          | cons y r ih =>
            rw [List.map_cons, List.sum_cons, ih fun z hz => hy2 z (List.mem_cons_of_mem _ hz), hy2 y List.mem_cons_self, List.length_cons]
            omega
        have e0' : ("" : Str).length = 0 := rfl
        refine ⟨_, D, ys, rfl, rfl, .inl (SqL.of hy3), ?_, ?_⟩
        · rw [hs, e0']
          omega
        exact ⟨_, rfl, S3.mono (by omega)⟩
    clear S H
    rintro σ H ⟨z, rfl, S⟩
    -- the item
    refine ⟨fun σ' H' => ∃ (x : V) (d : PyData), It K (off st lg H') x d ∧ σ' = [some (.ref a), some (.ref st), some (.int (0 + j)), some (.str z), some x, v5, v6, v7, v8, v9] ∧ StAt H' st lg cl (50 * j + 30), ?_, ?_⟩
    · refine ⟨_, rfl, _, rfl, st, lg, cl, 50 * j + 20, rfl, by omega, S, fun x0 d0 H1 i0 S1 kp1 => ?_⟩
      refine ⟨_, rfl, st, lg, cl, 41, 50 * j + 20 + 1, rfl, by decide, by decide, by omega, S1, fun r H2 hr' S2 kp2 => ?_⟩
      refine ⟨_, _, rfl, rfl, (by show 2 ≤ sizeLine; decide), fun p1 h1 => ?_⟩
      refine ⟨_, _, rfl, rfl, ⟨by decide, by decide, by decide⟩, (by show 5 ≤ sizeLine; decide), fun p2 h2 => ?_⟩
      have s1 := Same.new (o := .tup [.int 0, .int 1]) h1
      have S3 := S2.same s1
      refine ⟨st, lg, cl, p2, _, 50 * j + 20 + 1 + 1, rfl, upd_same, (S3.off h2).2, (by show 0 < 5; decide), (by show 5 ≤ 1000; decide), by omega, S3.same (Same.new h2), fun x H3 hx S4 kp4 => ?_⟩
      have q1 := off_at (kp4 p1 _ ((Same.new h2) _ _ upd_same) (S2.off h1).1 (S2.off h1).2) (S2.off h1)
      have i1 := it_same i0 (off_same (((kp2.trans (Kp.same s1)).trans (Kp.same (Same.new h2))).trans kp4))
      simp only [List.mem_cons, List.not_mem_nil, or_false] at hx
      rcases hx with h | h | h | h | h <;> subst h
      · exact ⟨_, _, i1, rfl, S4.mono (by omega)⟩
      · exact ⟨_, _, .int _ (by omega), rfl, S4.mono (by omega)⟩
      · exact ⟨_, .tuple [.int 0, .int 1], .dp (.tup (SqT.of q1) (.cons (.int _) (.cons (.int _) .nil))) (by decide +kernel) (by decide +kernel) (by decide +kernel) (by decide +kernel), rfl, S4.mono (by omega)⟩
      · exact ⟨_, _, .str "height" (by decide) (by decide +kernel), rfl, S4.mono (by omega)⟩
      · exact ⟨_, _, .int _ (by decide), rfl, S4.mono (by omega)⟩
    clear S H
    rintro σ H ⟨x, d, it, rfl, S⟩
    -- those of a text
    refine ⟨fun σ' H' => ∃ (p : Addr) (us : List V) (ns : List Nat), PL T.C H' us ns ∧ us.length ≤ 1000 ∧ H' p = some (.lst us) ∧ Same H H' ∧ σ' = [some (.ref a), some (.ref st), some (.int (0 + j)), some (.str z), some x, some (.ref p), v6, v7, v8, v9], ?_, ?_⟩
    · refine ⟨_, rfl, z, rfl, fun p1 u1 H1 f1 m1 l1 P1 => ?_⟩
      refine ⟨_, rfl, z, rfl, fun p2 u2 H2 f2 m2 l2 P2 => ?_⟩
      have L1 : u1.length = 20 := P1.len
      have L2 : u2.length = 20 := P2.len
      refine ⟨p1, p2, _, _, rfl, rfl, m2 _ _ l1, l2, (by rw [L1, L2]; decide), fun p3 h3 => ?_⟩
      refine ⟨_, rfl, z, rfl, fun p4 u4 H4 f4 m4 l4 P4 => ?_⟩
      have L4 : u4.length = 20 := P4.len
      refine ⟨p3, p4, _, _, rfl, rfl, m4 _ _ upd_same, l4, (by rw [List.length_append, L1, L2, L4]; decide), fun p5 h5 => ?_⟩
      have s3 := Same.new (o := .lst (u1 ++ u2)) h3
      have s5 := Same.new (o := .lst (u1 ++ u2 ++ u4)) h5
      refine ⟨p5, _, _, ((P1.same (((m2.trans s3).trans m4).trans s5)).append (P2.same ((s3.trans m4).trans s5))).append (P4.same s5), ?_, upd_same, ((((m1.trans m2).trans s3).trans m4).trans s5), rfl⟩
      rw [List.length_append, List.length_append, L1, L2, L4]
      decide
    rintro σ H1 ⟨p, us, ns', PP, lus, hp, sm, rfl⟩
    have S1 := S.same sm
    have it1 : It K H1 x d := it_same (it_same it off_le) sm
    clear S it sm H
    refine ⟨fun σ' H' => Same H1 H' ∧ ∃ v6 v7, σ' = [some (.ref a), some (.ref st), some (.int (0 + j)), some (.str z), some x, some (.ref p), v6, v7, v8, v9], ?_, ?_⟩
    · refine ⟨_, rfl, p, rfl, ⟨_, SqL.of hp⟩, fun D hD => lc_list (K := K) (a := p) (xs := us) (fun i H' => H' D = some (.lst []) ∧ Same H1 H') ⟨upd_same, Same.new hD⟩ (fun i H' _ h => SqL.of (h.2 _ _ hp)) ?_ ?_⟩
      · rintro i y H' hy ⟨h1, h2⟩
        obtain ⟨t, b, n, q, rfl, e, hq, hn, ek⟩ := PP.get hy
        subst hq
        refine ⟨t, _, rfl, SqT.of (h2 _ _ e), rfl, _, _, rfl, _, _, rfl, rfl, ?_⟩
        refine ⟨rfl, _, rfl, _, rfl, b, n, rfl, hn, ek.same h2, fun H2 e2 => ⟨_, rfl, ?_⟩⟩
        exact iteF ⟨e2 _ _ h1, h2.trans e2⟩
      · rintro H' ⟨h1, h2⟩
        refine ⟨(by show 0 ≤ sizeLine; decide), fun r hr' => ?_⟩
        have s2 := Same.new (o := .lst []) hr'
        refine ⟨_, _, .lst (SqL.of (s2 _ _ h1)) .nil, .lst (SqL.of upd_same) .nil, shaped_nil, shaped_nil, _, rfl, ?_⟩
        exact iteF ⟨h2.trans s2, _, _, rfl⟩
    rintro σ H ⟨sm, v6, v7, rfl⟩
    have S := S1.same sm
    have it := it_same it1 sm
    clear S1 it1 sm hp PP H1
    -- those that hold it
    refine ⟨_, rfl, x, d, rfl, it, fun p1 u1 H1 f1 m1 l1 P1 => ?_⟩
    refine ⟨_, rfl, x, d, rfl, it_same it m1, fun p2 u2 H2 f2 m2 l2 P2 => ?_⟩
    have L1 : u1.length = 16 := P1.len
    have L2 : u2.length = 16 := P2.len
    refine ⟨p1, p2, _, _, rfl, rfl, m2 _ _ l1, l2, (by rw [L1, L2]; decide), fun p3 h3 => ?_⟩
    have s3 := Same.new (o := .lst (u1 ++ u2)) h3
    have PP := (P1.same (m2.trans s3)).append (P2.same s3)
    have it3 := it_same it ((m1.trans m2).trans s3)
    have S3 := S.same ((m1.trans m2).trans s3)
    have hl3 : (upd H2 p3 (.lst (u1 ++ u2))) p3 = some (.lst (u1 ++ u2)) := upd_same
    generalize upd H2 p3 (.lst (u1 ++ u2)) = H3 at PP it3 S3 hl3 ⊢
    refine ⟨p3, rfl, ⟨_, SqL.of hl3⟩, for_list (xs := u1 ++ u2) (fun _ σ H => (∃ v6 v7 v8, σ = [some (.ref a), some (.ref st), some (.int (0 + j)), some (.str z), some x, some (.ref p), v6, v7, v8, v9]) ∧ Same H3 H) ⟨⟨_, _, _, rfl⟩, fun _ _ e => e⟩ (fun i σ H _ h => SqL.of (h.2 _ _ hl3)) ?_ ?_⟩
    · rintro i y σ H' hy ⟨⟨v6, v7, v8, rfl⟩, h2⟩
      obtain ⟨t, b, n, q, rfl, e, hq, hn, ek⟩ := PP.get hy
      subst hq
      refine ⟨t, _, rfl, SqT.of (h2 _ _ e), rfl, _, _, rfl, _, _, rfl, _, _, rfl, rfl, ?_⟩
      refine ⟨_, rfl, _, rfl, b, n, rfl, hn, ek.same h2, fun H4 e4 => ⟨_, rfl, ?_⟩⟩
      refine iteF ⟨_, rfl, x, d, rfl, it_same it3 (h2.trans e4), _, rfl, x, d, rfl, it_same it3 (h2.trans e4), rfl, _, rfl, ite_same ⟨⟨_, _, _, rfl⟩, h2.trans e4⟩⟩
    · rintro σ H' ⟨⟨v6, v7, v8, rfl⟩, h2⟩
      exact ⟨(S3.same h2).mono (by omega), _, _, _, _, _, _, _, _, rfl⟩
end
end K00
namespace K00
open PySem PySem.Spec PyProof.Rows L2 PySem.W LamX KA KW KU K0U
open PySem.HandSPX (refsVE)
/-! ### what the head's heap says, put together -/
section
variable {K : PySem.W.Frag} {mg : Str → Option Value} {h : Heap}
theorem defT_of {x : Str} {st : Stmt} {f : Addr} {od an : Option Addr} {sl : Array (Option Value)} {oc kV dc pm cd ct : Value} (X : K.In h) (G : h.Ns mainGlobals mg)
    (a : PySem.W.nsIn K mainGlobals x = some (some (.ref f))) (l : K.lookup f = some ⟨oc, od, .func (PySem.W.fnOf x x (defArgs st) (defBody st) (defScope st) .none kV dc pm an cd ct), sl⟩) (c : PySem.W.codeIn K cd x = true) (k : PySem.W.keepIn K (.ref f) = true) :
    Nonempty (DefT K mg x st) := ⟨⟨f, _, fun_mk l c k, PySem.W.mg_of X G a⟩⟩
theorem reelT_of {C : Addr} (X : K.In h) (G : h.Ns mainGlobals mg) (a : PySem.W.nsIn K mainGlobals "ReelError" = some (some (.ref C))) (b : PySem.W.subIn K (.ref C) (.type "BaseException") = some true)
    (t : PySem.W.typeIn K (.ref C) = some (.type "type")) (d : PySem.W.hasDictIn K C = true) : ∃ R : ReelT K mg, R.C = C := ⟨⟨C, PySem.W.mg_of X G a, b, t, d⟩, rfl⟩
theorem cstT_of {x : Str} {n : Int} {t : Tok} (X : K.In h) (G : h.Ns mainGlobals mg) (a : PySem.W.nsIn K mainGlobals x = some (some (.int n t))) : CstT mg x n := ⟨t, PySem.W.mg_of X G a⟩
theorem law_at {l : PySem.W.OpenLaw} {w : World} {fa : Addr} (T : Top K mg) (Hd : Helds l.prog K mg T.C) (name : mg "law" = some (.ref fa)) : LawAtG l w K (L2.CX l.prog w) 10 63 "script" mg fa h := by
  have e : fa = T.law.a := Value.ref.inj (Option.some.inj (name.symm.trans T.law.m))
  subst e
  refine ⟨T.law.d, [], spLaw K, ⟨fun _ q => absurd q List.not_mem_nil, fun _ q => absurd q List.not_mem_nil, fun _ q => absurd q List.not_mem_nil⟩, fun s u => ?_, fun H a ns short t S => ?_, fun base _ _ tb => ok_law T Hd⟩
  · obtain ⟨oc, od, kV, doc, pm, an, cdv, ct, osl, ed, lk, hcd⟩ := T.law.f.ex
    rw [ed]
    exact .of_eq rfl
  · exact ⟨a, ns, rfl, S, short, fun _ => rfl⟩
theorem calm_cx {P : Program} {w : World} {H : Hp} {s : Shared} {e : Value} {s' : Shared} (z : L2.CX P w [] H s (fun _ _ _ => False) e s') : False := by
  obtain ⟨_, _, _, _, _, _, _, _, _, _, _, _, f⟩ := z
  exact f
end
/-- what the top says of an own error class -/
structure ClsF (K : PySem.W.Frag) (mg : Str → Option Value) (R : Addr) (x : Str) (C : Addr) : Prop where
  g : mg x = some (.ref C)
  m : ∃ cd, PySem.W.clsIn K C = some cd ∧ cd.mro = [.ref C, .ref R, .type "ValueError", .type "Exception", .type "BaseException", .type "object"] ∧ cd.hasDict = true
  t : PySem.W.typeIn K (.ref C) = some (.type "type")
  k : PySem.W.keepIn K (.ref C) = true
  e1 : PySem.W.findIn K (.ref C) "__getattribute__" = some (some (.builtin "BaseException.__getattribute__"))
  e2 : PySem.W.findIn K (.ref C) "__getattr__" = some none
  e4 : PySem.W.findIn K (.ref C) "__class__" = some (some (.builtin "object.__class__"))
section
variable {K : PySem.W.Frag} {mg : Str → Option Value} {R C : Addr} {x : Str}
theorem ClsF.sub (F : ClsF K mg R x C) (b : Value) : PySem.W.subIn K (.ref C) b = some (([.ref C, .ref R, .type "ValueError", .type "Exception", .type "BaseException", .type "object"] : List Value).contains b) := by
  obtain ⟨cd, h1, h2, _⟩ := F.m
  show PySem.W.mroIn K C b = _
  unfold PySem.W.mroIn
  rw [h1, Option.bind_some, h2]
  rfl
theorem ClsF.excC (F : ClsF K mg R x C) (e5 : PySem.W.specialIn K (.builtin "object.__class__") "__get__" = some (some (.builtin "getset_descriptor.__get__"))) (e6 : PySem.W.takesIn K (.builtin "object.__class__") = some true) : ExcC K C := by
  refine ⟨F.e1, F.e2, (F.sub _).trans (by simp), ?_, F.e4, e5, e6, (F.sub _).trans (by simp)⟩
  obtain ⟨cd, h1, h2, h3⟩ := F.m
  unfold PySem.W.hasDictIn
  rw [h1]
  exact h3
theorem ClsF.kit {D S : Addr} {y : Str} (F : ClsF K mg R x C) (G : ClsF K mg S y D) (n : C ≠ D) (r : R ≠ D) : PySem.W.kitOne K (.ref C) (.ref D) = some false := by
  obtain ⟨cd, h1, _⟩ := G.m
  unfold PySem.W.kitOne
  rw [if_neg (by simpa using n)]
  unfold PySem.W.kitCls
  dsimp only
  rw [h1, G.t, if_pos (by simp), F.sub]
  simp [Ne.symm n, Ne.symm r]
theorem ClsF.kitR (F : ClsF K mg R x C) (n : C ≠ R) {cd : ClassData} (c : PySem.W.clsIn K R = some cd) (t : PySem.W.typeIn K (.ref R) = some (.type "type")) : PySem.W.kitOne K (.ref C) (.ref R) = some true := by
  unfold PySem.W.kitOne
  rw [if_neg (by simpa using n)]
  unfold PySem.W.kitCls
  dsimp only
  rw [c, t, if_pos (by simp), F.sub]
  simp
theorem ClsF.kitV (F : ClsF K mg R x C) : PySem.W.kitOne K (.ref C) (.type "ValueError") = some true := by
  unfold PySem.W.kitOne
  rw [if_neg (by simp)]
  unfold PySem.W.kitCls
  dsimp only
  rw [if_pos (by decide +kernel), F.sub]
  simp
end
/-- all of them -/
inductive Alls (K : PySem.W.Frag) (mg : Str → Option Value) (R : Addr) : List Addr → Prop
  | nil : Alls K mg R []
  | cons {x : Str} {C : Addr} {r : List Addr} : ClsF K mg R x C → Alls K mg R r → Alls K mg R (C :: r)
theorem Alls.get {K : PySem.W.Frag} {mg : Str → Option Value} {R : Addr} {l : List Addr} (A : Alls K mg R l) : ∀ i, i < l.length → ∃ x, ClsF K mg R x (l.getD i 0) := by
  induction A with
  | nil => intro i h; cases h
  | @cons x C r f _ ih =>
    intro i h
    cases i with
    | zero => exact ⟨x, f⟩
    | succ i => exact ih i (Nat.lt_of_succ_lt_succ h)
theorem getD_at {l : List Addr} {i : Nat} (hi : i < l.length) : l.getD i 0 = l[i] := by
  rw [List.getD_eq_getElem?_getD, List.getElem?_eq_getElem hi, Option.getD_some]
theorem nodup_get {l : List Addr} (h : l.Nodup) {i j : Nat} (hi : i < l.length) (hj : j < l.length) (n : i ≠ j) : l.getD i 0 ≠ l.getD j 0 := by
  rw [getD_at hi, getD_at hj]
  have p := List.pairwise_iff_getElem.mp h
  rcases Nat.lt_or_gt_of_ne n with c | c
  · exact p i j hi hj c
  · exact Ne.symm (p j i hj hi c)
section
variable {P : Program} {w : World} {K : PySem.W.Frag} {mg : Str → Option Value} {h : Heap} {A : Prop}
theorem Alls.kit {R : Addr} {l : List Addr} (L : Alls K mg R l) (nd : (R :: l).Nodup) (i j : Nat) (hi : i < l.length) (hj : j < l.length) : PySem.W.kitOne K (.ref (l.getD i 0)) (.ref (l.getD j 0)) = some (decide (i = j)) := by
  obtain ⟨n1, n2⟩ := List.nodup_cons.mp nd
  obtain ⟨_, F⟩ := L.get i hi
  obtain ⟨_, G⟩ := L.get j hj
  by_cases c : i = j
  · subst c
    rw [decide_eq_true rfl]
    unfold PySem.W.kitOne
    rw [if_pos (by simp)]
  · rw [decide_eq_false c]
    refine F.kit G (nodup_get n2 hi hj c) fun z => n1 ?_
    rw [z, getD_at hj]
    exact List.getElem_mem hj
theorem Alls.ne {R : Addr} {l : List Addr} (nd : (R :: l).Nodup) (i : Nat) (hi : i < l.length) : l.getD i 0 ≠ R := fun z => (List.nodup_cons.mp nd).1 (by
  rw [← z, getD_at hi]
  exact List.getElem_mem hi)
theorem reel_use {C : Addr} (X : K.In h) (G : h.Ns mainGlobals mg) (a : PySem.W.nsIn K mainGlobals "ReelError" = some (some (.ref C))) (b : PySem.W.subIn K (.ref C) (.type "BaseException") = some true)
    (t : PySem.W.typeIn K (.ref C) = some (.type "type")) (d : PySem.W.hasDictIn K C = true) (n : ∀ R : ReelT K mg, R.C = C → A) : A := by
  obtain ⟨R, e⟩ := reelT_of X G a b t d
  exact n R e
theorem cls_use {x : Str} {C R : Addr} {cd : ClassData} (X : K.In h) (G : h.Ns mainGlobals mg) (a : PySem.W.nsIn K mainGlobals x = some (some (.ref C))) (c : PySem.W.clsIn K C = some cd) (t : PySem.W.typeIn K (.ref C) = some (.type "type")) (k : PySem.W.keepIn K (.ref C) = true)
    (e1 : PySem.W.findIn K (.ref C) "__getattribute__" = some (some (.builtin "BaseException.__getattribute__"))) (e2 : PySem.W.findIn K (.ref C) "__getattr__" = some none) (e4 : PySem.W.findIn K (.ref C) "__class__" = some (some (.builtin "object.__class__")))
    (m : cd.mro = [.ref C, .ref R, .type "ValueError", .type "Exception", .type "BaseException", .type "object"]) (d : cd.hasDict = true) (n : ClsF K mg R x C → A) : A :=
  n ⟨PySem.W.mg_of X G a, ⟨cd, c, m, d⟩, t, k, e1, e2, e4⟩
theorem q_use {x : Str} {C R : Addr} (F : ClsF K mg R x C) (q : PySem.W.excIn K C veB "ValueError.__new__" = true) (n : PySem.W.excIn K C veB "ValueError.__new__" = true → A) : A := n q
theorem top_use {R : Addr} {l : List Addr} {T : ReelT K mg} {cd : ClassData} (L : Alls K mg R l) (len : l.length = 76) (nd : (R :: l).Nodup) (eR : T.C = R) (e5 : PySem.W.specialIn K (.builtin "object.__class__") "__get__" = some (some (.builtin "getset_descriptor.__get__"))) (e6 : PySem.W.takesIn K (.builtin "object.__class__") = some true)
    (rc : PySem.W.clsIn K R = some cd) (n : (∀ i, i < 76 → ExcC K (l.getD i 0)) → (∀ i j, i < 76 → j < 76 → PySem.W.kitOne K (.ref (l.getD i 0)) (.ref (l.getD j 0)) = some (decide (i = j))) → (∀ i, i < 76 → PySem.W.kitOne K (.ref (l.getD i 0)) (.ref T.C) = some true) →
      (∀ i, i < 76 → PySem.W.kitOne K (.ref (l.getD i 0)) (.type "ValueError") = some true) → (∀ i, i < 76 → PySem.W.keepIn K (.ref (l.getD i 0)) = true) → A) : A := by
  subst eR
  refine n (fun i hi => ?_) (fun i j hi hj => L.kit nd i j (len ▸ hi) (len ▸ hj)) (fun i hi => ?_) (fun i hi => ?_) (fun i hi => ?_)
  · obtain ⟨_, F⟩ := L.get i (len ▸ hi)
    exact F.excC e5 e6
  · obtain ⟨_, F⟩ := L.get i (len ▸ hi)
    exact F.kitR (Alls.ne nd i (len ▸ hi)) rc T.t
  · obtain ⟨_, F⟩ := L.get i (len ▸ hi)
    exact F.kitV
  · obtain ⟨_, F⟩ := L.get i (len ▸ hi)
    exact F.k
theorem def_use {x : Str} {st : Stmt} {f : Addr} {od an : Option Addr} {sl : Array (Option Value)} {oc kV dc pm cd ct : Value} (X : K.In h) (G : h.Ns mainGlobals mg)
    (a : PySem.W.nsIn K mainGlobals x = some (some (.ref f))) (l : K.lookup f = some ⟨oc, od, .func (PySem.W.fnOf x x (defArgs st) (defBody st) (defScope st) .none kV dc pm an cd ct), sl⟩) (c : PySem.W.codeIn K cd x = true) (k : PySem.W.keepIn K (.ref f) = true)
    (n : DefT K mg x st → A) : A := by
  obtain ⟨D⟩ := defT_of X G a l c k
  exact n D
theorem held_use {x qual f z : Str} {j : Nat} {pc pn pf pj : Pos} {C fI cda cc : Addr} (X : K.In h) (G : h.Ns mainGlobals mg)
    (a : PySem.W.nsIn K mainGlobals x = some (some (.ref C))) (iC : PySem.W.findIn K (.ref C) "__init__" = some (some (.ref fI)))
    {oc : Value} {od : Option Addr} {doc pm : Value} {an : Option Addr} {ct : Value} {osl : Array (Option Value)} {r1 r2 p0 p1 p2 p3 pe q1 q2 q3 q4 : Pos}
    (lk : K.lookup fI = some ⟨oc, od, .func (ksFn "__init__" qual (upArgs f r1 r2) (upBody f (SayE f z j pc pn pf pj) p0 p1 p2 p3 pe q1 q2 q3 q4) (upScope f) .none .none doc pm an (.ref cda) ct cc), osl⟩)
    (bd : ∀ a b : Value, bindArgs (ksFn "__init__" qual (upArgs f r1 r2) (upBody f (SayE f z j pc pn pf pj) p0 p1 p2 p3 pe q1 q2 q3 q4) (upScope f) .none .none doc pm an (.ref cda) ct cc) ⟨[a, b], []⟩ = pure [(PySem.Str.ofString "self", a), (f, b)])
    (sw : ∀ L : Addr, swapsWith (.Name f q3) (some (.Attribute (.Name "self" q1) f q2)) q4.line (ksEnv qual (upScope f) L fI (.ref cda) cc) = pure false)
    {pl : Sem Bool}
    (cl : ∀ L : Addr, eval (.Call (.Attribute (.Call (.Name "super" p0) [] [] p1) "__init__" p2) [(SayE f z j pc pn pf pj)] [] p3) (ksEnv qual (upScope f) L fI (.ref cda) cc) = (do
        let o ← attributeBase (.Call (.Name "super" p0) [] [] p1) "__init__" (ksEnv qual (upScope f) L fI (.ref cda) cc) (eval (.Call (.Name "super" p0) [] [] p1) (ksEnv qual (upScope f) L fI (.ref cda) cc))
        standAt p2.atName
        let (g, first) ← holding [o] (getMethod o "__init__" pl)
        callWith p3 g first (backTo p3 (starEach [(SayE f z j pc pn pf pj)] (ksEnv qual (upScope f) L fI (.ref cda) cc))) []))
    (star : ∀ env : Env, starEach [(SayE f z j pc pn pf pj)] env = [(false, eval (SayE f z j pc pn pf pj) env)])
    (code : PySem.W.codeIn K (.ref cda) qual = true)
    {fcl : Value} {cdd : Option Addr} {vs : Array Value} {ccs : Array (Option Value)} {fl : Str} {tf : Tok}
    (f1 : K.lookup cda = some ⟨fcl, cdd, .fields vs, ccs⟩) (f2 : vs[2]? = some (.str fl tf)) (f3 : ((P.main.file : Str) == fl) = true)
    {ecl : Value} {cld : Option Addr} {csl : Array (Option Value)} (cell : K.lookup cc = some ⟨ecl, cld, .cell (some (.ref C)), csl⟩)
    {cd : ClassData} (c1 : PySem.W.clsIn K C = some cd) (c2 : refsVE cd.mro = true) (c3 : cd.hasDict = true)
    (self : PySem.W.mroIn K C (.ref C) = some true) (noSuper : PySem.W.nsIn K mainGlobals "super" = some none) (top : (P.main.scope.names.lookup ("super" : Str)).isSome = false) (third : PySem.W.nsIn K cStatics "thirdparty.any" = some none)
    (up : PySem.W.ks_superIn K C C "__init__" = some (some (.builtin "ValueError.__init__"))) (val : PySem.W.subIn K (.ref C) (.type "ValueError") = some true)
    (own : PySem.W.excInitIn K C [.type "ValueError", .type "Exception", .type "BaseException", .type "object"] "ValueError.__new__" = true)
    (set_ : PySem.W.findIn K (.ref C) "__setattr__" = some (some (.builtin "object.__setattr__"))) (noF : PySem.W.findIn K (.ref C) f = some none)
    {nm q : Str} {N : Addr} {bs bm : List Value} {sn : List Str} {sub : List Value} {ab : Bool} {col : Option Bool} {dd : Option Addr} {k0 k1 k2 k3 k5 : Option Value}
    (o1 : K.lookup C = some (excClassObj nm q C N bs bm true sn sub ab col dd k0 k1 k2 k3 k5 "ValueError.__new__")) (o2 : refsVE bm = true)
    (tC : PySem.W.typeIn K (.ref fI) = some (.type "function")) (ga : PySem.W.findIn K (.ref C) "__getattribute__" = some (some (.builtin "BaseException.__getattribute__"))) (gg : PySem.W.findIn K (.ref C) "__getattr__" = some none)
    (kC : PySem.W.keepIn K (.ref C) = true) (exC : PySem.W.subIn K (.ref C) (.type "BaseException") = some true) (tyC : PySem.W.typeIn K (.ref C) = some (.type "type")) (hdC : PySem.W.hasDictIn K C = true)
    (hz : z.length ≤ 1000) (nf : f ≠ "self" ∧ f ≠ "__class__" ∧ f ≠ "super" ∧ f ≠ "__debug__")
    (n : HeldT P K mg x qual f C → A) : A := by
  exact n { fI := fI, cda := cda, cc := cc, z := z, j := j, pc := pc, pn := pn, pf := pf, pj := pj, hz := hz, g := PySem.W.mg_of X G a, u := { fn := ⟨oc, od, doc, pm, an, ct, osl, r1, r2, p0, p1, p2, p3, pe, q1, q2, q3, q4, lk, bd, sw, pl, cl⟩, star := star, code := code, file := ⟨fcl, cdd, vs, ccs, fl, tf, f1, f2, f3⟩, cell := ⟨ecl, cld, csl, cell⟩, cls := ⟨cd, c1, c2, c3⟩, self := self, noSuper := noSuper, top := top, third := third, up := up, val := val, own := own, «set» := set_, noF := noF, obj := ⟨nm, q, N, bs, bm, sn, sub, ab, col, dd, k0, k1, k2, k3, k5, o1, o2⟩, iC := iC, tC := tC, ga := ga, gg := gg, kC := kC, exC := exC, tyC := tyC, hdC := hdC, nf := nf } }
end
end K00
open PySem PySem.W PyProof.Rows
set_option maxRecDepth 100000 in
set_option maxHeartbeats 0 in
theorem PySem.Challenge.cw_pricedreels_k00_errors_apart_holds : PySem.Challenge.rw_pricedreels_k00_errors_apart.Holds := by
  w_on; o_law; k_head; (case hw => w_witness2)
  k_fill
  refine KA.walk_ofG (l := PySem.Challenge.rw_pricedreels_k00_errors_apart) (k := 10) (n := 63) (x := "script") (CX := fun w => L2.CX PySem.Challenge.rw_pricedreels_k00_errors_apart.prog w) rfl (by decide) rfl ⟨rfl, by decide, by decide⟩ (fun w h Y => PySem.W.kIn_of Y) ?F (fun _ _ _ _ _ z => K00.calm_cx z)
  case F =>
    intro w mg fa h Y KX G hmg
    refine' K00.reel_use KX G ?ya ?yb ?yt ?yd ?_
    (case ya => k_is); (case yb => k_is); (case yt => k_is); (case yd => k_is)
    intro R eR
    refine' K00.cls_use (x := "BadAt") KX G ?ya ?yc ?yt ?yk ?y1 ?y2 ?y4 ?ym ?yd ?_
    (case ya => k_is); (case yc => k_is); (case yt => k_is); (case yk => k_is); (case y1 => k_is); (case y2 => k_is); (case y4 => k_is); (case ym => rfl); (case yd => rfl)
    intro c_BadAt
    refine' K00.cls_use (x := "BadBits") KX G ?ya ?yc ?yt ?yk ?y1 ?y2 ?y4 ?ym ?yd ?_
    (case ya => k_is); (case yc => k_is); (case yt => k_is); (case yk => k_is); (case y1 => k_is); (case y2 => k_is); (case y4 => k_is); (case ym => rfl); (case yd => rfl)
    intro c_BadBits
    refine' K00.cls_use (x := "BadBlock") KX G ?ya ?yc ?yt ?yk ?y1 ?y2 ?y4 ?ym ?yd ?_
    (case ya => k_is); (case yc => k_is); (case yt => k_is); (case yk => k_is); (case y1 => k_is); (case y2 => k_is); (case y4 => k_is); (case ym => rfl); (case yd => rfl)
    intro c_BadBlock
    refine' K00.cls_use (x := "BadBook") KX G ?ya ?yc ?yt ?yk ?y1 ?y2 ?y4 ?ym ?yd ?_
    (case ya => k_is); (case yc => k_is); (case yt => k_is); (case yk => k_is); (case y1 => k_is); (case y2 => k_is); (case y4 => k_is); (case ym => rfl); (case yd => rfl)
    intro c_BadBook
    refine' K00.cls_use (x := "BadBounds") KX G ?ya ?yc ?yt ?yk ?y1 ?y2 ?y4 ?ym ?yd ?_
    (case ya => k_is); (case yc => k_is); (case yt => k_is); (case yk => k_is); (case y1 => k_is); (case y2 => k_is); (case y4 => k_is); (case ym => rfl); (case yd => rfl)
    intro c_BadBounds
    refine' K00.cls_use (x := "BadChosen") KX G ?ya ?yc ?yt ?yk ?y1 ?y2 ?y4 ?ym ?yd ?_
    (case ya => k_is); (case yc => k_is); (case yt => k_is); (case yk => k_is); (case y1 => k_is); (case y2 => k_is); (case y4 => k_is); (case ym => rfl); (case yd => rfl)
    intro c_BadChosen
    refine' K00.cls_use (x := "BadCosts") KX G ?ya ?yc ?yt ?yk ?y1 ?y2 ?y4 ?ym ?yd ?_
    (case ya => k_is); (case yc => k_is); (case yt => k_is); (case yk => k_is); (case y1 => k_is); (case y2 => k_is); (case y4 => k_is); (case ym => rfl); (case yd => rfl)
    intro c_BadCosts
    refine' K00.cls_use (x := "BadCut") KX G ?ya ?yc ?yt ?yk ?y1 ?y2 ?y4 ?ym ?yd ?_
    (case ya => k_is); (case yc => k_is); (case yt => k_is); (case yk => k_is); (case y1 => k_is); (case y2 => k_is); (case y4 => k_is); (case ym => rfl); (case yd => rfl)
    intro c_BadCut
    refine' K00.cls_use (x := "BadDelay") KX G ?ya ?yc ?yt ?yk ?y1 ?y2 ?y4 ?ym ?yd ?_
    (case ya => k_is); (case yc => k_is); (case yt => k_is); (case yk => k_is); (case y1 => k_is); (case y2 => k_is); (case y4 => k_is); (case ym => rfl); (case yd => rfl)
    intro c_BadDelay
    refine' K00.cls_use (x := "BadError") KX G ?ya ?yc ?yt ?yk ?y1 ?y2 ?y4 ?ym ?yd ?_
    (case ya => k_is); (case yc => k_is); (case yt => k_is); (case yk => k_is); (case y1 => k_is); (case y2 => k_is); (case y4 => k_is); (case ym => rfl); (case yd => rfl)
    intro c_BadError
    refine' K00.cls_use (x := "BadField") KX G ?ya ?yc ?yt ?yk ?y1 ?y2 ?y4 ?ym ?yd ?_
    (case ya => k_is); (case yc => k_is); (case yt => k_is); (case yk => k_is); (case y1 => k_is); (case y2 => k_is); (case y4 => k_is); (case ym => rfl); (case yd => rfl)
    intro c_BadField
    refine' K00.cls_use (x := "BadFrame") KX G ?ya ?yc ?yt ?yk ?y1 ?y2 ?y4 ?ym ?yd ?_
    (case ya => k_is); (case yc => k_is); (case yt => k_is); (case yk => k_is); (case y1 => k_is); (case y2 => k_is); (case y4 => k_is); (case ym => rfl); (case yd => rfl)
    intro c_BadFrame
    refine' K00.cls_use (x := "BadFrames") KX G ?ya ?yc ?yt ?yk ?y1 ?y2 ?y4 ?ym ?yd ?_
    (case ya => k_is); (case yc => k_is); (case yt => k_is); (case yk => k_is); (case y1 => k_is); (case y2 => k_is); (case y4 => k_is); (case ym => rfl); (case yd => rfl)
    intro c_BadFrames
    refine' K00.cls_use (x := "BadGains") KX G ?ya ?yc ?yt ?yk ?y1 ?y2 ?y4 ?ym ?yd ?_
    (case ya => k_is); (case yc => k_is); (case yt => k_is); (case yk => k_is); (case y1 => k_is); (case y2 => k_is); (case y4 => k_is); (case ym => rfl); (case yd => rfl)
    intro c_BadGains
    refine' K00.cls_use (x := "BadGrade") KX G ?ya ?yc ?yt ?yk ?y1 ?y2 ?y4 ?ym ?yd ?_
    (case ya => k_is); (case yc => k_is); (case yt => k_is); (case yk => k_is); (case y1 => k_is); (case y2 => k_is); (case y4 => k_is); (case ym => rfl); (case yd => rfl)
    intro c_BadGrade
    refine' K00.cls_use (x := "BadGuess") KX G ?ya ?yc ?yt ?yk ?y1 ?y2 ?y4 ?ym ?yd ?_
    (case ya => k_is); (case yc => k_is); (case yt => k_is); (case yk => k_is); (case y1 => k_is); (case y2 => k_is); (case y4 => k_is); (case ym => rfl); (case yd => rfl)
    intro c_BadGuess
    refine' K00.cls_use (x := "BadHead") KX G ?ya ?yc ?yt ?yk ?y1 ?y2 ?y4 ?ym ?yd ?_
    (case ya => k_is); (case yc => k_is); (case yt => k_is); (case yk => k_is); (case y1 => k_is); (case y2 => k_is); (case y4 => k_is); (case ym => rfl); (case yd => rfl)
    intro c_BadHead
    refine' K00.cls_use (x := "BadHold") KX G ?ya ?yc ?yt ?yk ?y1 ?y2 ?y4 ?ym ?yd ?_
    (case ya => k_is); (case yc => k_is); (case yt => k_is); (case yk => k_is); (case y1 => k_is); (case y2 => k_is); (case y4 => k_is); (case ym => rfl); (case yd => rfl)
    intro c_BadHold
    refine' K00.cls_use (x := "BadHurt") KX G ?ya ?yc ?yt ?yk ?y1 ?y2 ?y4 ?ym ?yd ?_
    (case ya => k_is); (case yc => k_is); (case yt => k_is); (case yk => k_is); (case y1 => k_is); (case y2 => k_is); (case y4 => k_is); (case ym => rfl); (case yd => rfl)
    intro c_BadHurt
    refine' K00.cls_use (x := "BadIndex") KX G ?ya ?yc ?yt ?yk ?y1 ?y2 ?y4 ?ym ?yd ?_
    (case ya => k_is); (case yc => k_is); (case yt => k_is); (case yk => k_is); (case y1 => k_is); (case y2 => k_is); (case y4 => k_is); (case ym => rfl); (case yd => rfl)
    intro c_BadIndex
    refine' K00.cls_use (x := "BadItem") KX G ?ya ?yc ?yt ?yk ?y1 ?y2 ?y4 ?ym ?yd ?_
    (case ya => k_is); (case yc => k_is); (case yt => k_is); (case yk => k_is); (case y1 => k_is); (case y2 => k_is); (case y4 => k_is); (case ym => rfl); (case yd => rfl)
    intro c_BadItem
    refine' K00.cls_use (x := "BadJobs") KX G ?ya ?yc ?yt ?yk ?y1 ?y2 ?y4 ?ym ?yd ?_
    (case ya => k_is); (case yc => k_is); (case yt => k_is); (case yk => k_is); (case y1 => k_is); (case y2 => k_is); (case y4 => k_is); (case ym => rfl); (case yd => rfl)
    intro c_BadJobs
    refine' K00.cls_use (x := "BadKind") KX G ?ya ?yc ?yt ?yk ?y1 ?y2 ?y4 ?ym ?yd ?_
    (case ya => k_is); (case yc => k_is); (case yt => k_is); (case yk => k_is); (case y1 => k_is); (case y2 => k_is); (case y4 => k_is); (case ym => rfl); (case yd => rfl)
    intro c_BadKind
    refine' K00.cls_use (x := "BadLeast") KX G ?ya ?yc ?yt ?yk ?y1 ?y2 ?y4 ?ym ?yd ?_
    (case ya => k_is); (case yc => k_is); (case yt => k_is); (case yk => k_is); (case y1 => k_is); (case y2 => k_is); (case y4 => k_is); (case ym => rfl); (case yd => rfl)
    intro c_BadLeast
    refine' K00.cls_use (x := "BadLoss") KX G ?ya ?yc ?yt ?yk ?y1 ?y2 ?y4 ?ym ?yd ?_
    (case ya => k_is); (case yc => k_is); (case yt => k_is); (case yk => k_is); (case y1 => k_is); (case y2 => k_is); (case y4 => k_is); (case ym => rfl); (case yd => rfl)
    intro c_BadLoss
    refine' K00.cls_use (x := "BadLosses") KX G ?ya ?yc ?yt ?yk ?y1 ?y2 ?y4 ?ym ?yd ?_
    (case ya => k_is); (case yc => k_is); (case yt => k_is); (case yk => k_is); (case y1 => k_is); (case y2 => k_is); (case y4 => k_is); (case ym => rfl); (case yd => rfl)
    intro c_BadLosses
    refine' K00.cls_use (x := "BadLot") KX G ?ya ?yc ?yt ?yk ?y1 ?y2 ?y4 ?ym ?yd ?_
    (case ya => k_is); (case yc => k_is); (case yt => k_is); (case yk => k_is); (case y1 => k_is); (case y2 => k_is); (case y4 => k_is); (case ym => rfl); (case yd => rfl)
    intro c_BadLot
    refine' K00.cls_use (x := "BadLots") KX G ?ya ?yc ?yt ?yk ?y1 ?y2 ?y4 ?ym ?yd ?_
    (case ya => k_is); (case yc => k_is); (case yt => k_is); (case yk => k_is); (case y1 => k_is); (case y2 => k_is); (case y4 => k_is); (case ym => rfl); (case yd => rfl)
    intro c_BadLots
    refine' K00.cls_use (x := "BadMany") KX G ?ya ?yc ?yt ?yk ?y1 ?y2 ?y4 ?ym ?yd ?_
    (case ya => k_is); (case yc => k_is); (case yt => k_is); (case yk => k_is); (case y1 => k_is); (case y2 => k_is); (case y4 => k_is); (case ym => rfl); (case yd => rfl)
    intro c_BadMany
    refine' K00.cls_use (x := "BadMemory") KX G ?ya ?yc ?yt ?yk ?y1 ?y2 ?y4 ?ym ?yd ?_
    (case ya => k_is); (case yc => k_is); (case yt => k_is); (case yk => k_is); (case y1 => k_is); (case y2 => k_is); (case y4 => k_is); (case ym => rfl); (case yd => rfl)
    intro c_BadMemory
    refine' K00.cls_use (x := "BadMode") KX G ?ya ?yc ?yt ?yk ?y1 ?y2 ?y4 ?ym ?yd ?_
    (case ya => k_is); (case yc => k_is); (case yt => k_is); (case yk => k_is); (case y1 => k_is); (case y2 => k_is); (case y4 => k_is); (case ym => rfl); (case yd => rfl)
    intro c_BadMode
    refine' K00.cls_use (x := "BadMost") KX G ?ya ?yc ?yt ?yk ?y1 ?y2 ?y4 ?ym ?yd ?_
    (case ya => k_is); (case yc => k_is); (case yt => k_is); (case yk => k_is); (case y1 => k_is); (case y2 => k_is); (case y4 => k_is); (case ym => rfl); (case yd => rfl)
    intro c_BadMost
    refine' K00.cls_use (x := "BadNumber") KX G ?ya ?yc ?yt ?yk ?y1 ?y2 ?y4 ?ym ?yd ?_
    (case ya => k_is); (case yc => k_is); (case yt => k_is); (case yk => k_is); (case y1 => k_is); (case y2 => k_is); (case y4 => k_is); (case ym => rfl); (case yd => rfl)
    intro c_BadNumber
    refine' K00.cls_use (x := "BadOrder") KX G ?ya ?yc ?yt ?yk ?y1 ?y2 ?y4 ?ym ?yd ?_
    (case ya => k_is); (case yc => k_is); (case yt => k_is); (case yk => k_is); (case y1 => k_is); (case y2 => k_is); (case y4 => k_is); (case ym => rfl); (case yd => rfl)
    intro c_BadOrder
    refine' K00.cls_use (x := "BadOther") KX G ?ya ?yc ?yt ?yk ?y1 ?y2 ?y4 ?ym ?yd ?_
    (case ya => k_is); (case yc => k_is); (case yt => k_is); (case yk => k_is); (case y1 => k_is); (case y2 => k_is); (case y4 => k_is); (case ym => rfl); (case yd => rfl)
    intro c_BadOther
    refine' K00.cls_use (x := "BadPlace") KX G ?ya ?yc ?yt ?yk ?y1 ?y2 ?y4 ?ym ?yd ?_
    (case ya => k_is); (case yc => k_is); (case yt => k_is); (case yk => k_is); (case y1 => k_is); (case y2 => k_is); (case y4 => k_is); (case ym => rfl); (case yd => rfl)
    intro c_BadPlace
    refine' K00.cls_use (x := "BadPlan") KX G ?ya ?yc ?yt ?yk ?y1 ?y2 ?y4 ?ym ?yd ?_
    (case ya => k_is); (case yc => k_is); (case yt => k_is); (case yk => k_is); (case y1 => k_is); (case y2 => k_is); (case y4 => k_is); (case ym => rfl); (case yd => rfl)
    intro c_BadPlan
    refine' K00.cls_use (x := "BadPlane") KX G ?ya ?yc ?yt ?yk ?y1 ?y2 ?y4 ?ym ?yd ?_
    (case ya => k_is); (case yc => k_is); (case yt => k_is); (case yk => k_is); (case y1 => k_is); (case y2 => k_is); (case y4 => k_is); (case ym => rfl); (case yd => rfl)
    intro c_BadPlane
    refine' K00.cls_use (x := "BadPlanes") KX G ?ya ?yc ?yt ?yk ?y1 ?y2 ?y4 ?ym ?yd ?_
    (case ya => k_is); (case yc => k_is); (case yt => k_is); (case yk => k_is); (case y1 => k_is); (case y2 => k_is); (case y4 => k_is); (case ym => rfl); (case yd => rfl)
    intro c_BadPlanes
    refine' K00.cls_use (x := "BadPrice") KX G ?ya ?yc ?yt ?yk ?y1 ?y2 ?y4 ?ym ?yd ?_
    (case ya => k_is); (case yc => k_is); (case yt => k_is); (case yk => k_is); (case y1 => k_is); (case y2 => k_is); (case y4 => k_is); (case ym => rfl); (case yd => rfl)
    intro c_BadPrice
    refine' K00.cls_use (x := "BadRate") KX G ?ya ?yc ?yt ?yk ?y1 ?y2 ?y4 ?ym ?yd ?_
    (case ya => k_is); (case yc => k_is); (case yt => k_is); (case yk => k_is); (case y1 => k_is); (case y2 => k_is); (case y4 => k_is); (case ym => rfl); (case yd => rfl)
    intro c_BadRate
    refine' K00.cls_use (x := "BadReach") KX G ?ya ?yc ?yt ?yk ?y1 ?y2 ?y4 ?ym ?yd ?_
    (case ya => k_is); (case yc => k_is); (case yt => k_is); (case yk => k_is); (case y1 => k_is); (case y2 => k_is); (case y4 => k_is); (case ym => rfl); (case yd => rfl)
    intro c_BadReach
    refine' K00.cls_use (x := "BadRectangle") KX G ?ya ?yc ?yt ?yk ?y1 ?y2 ?y4 ?ym ?yd ?_
    (case ya => k_is); (case yc => k_is); (case yt => k_is); (case yk => k_is); (case y1 => k_is); (case y2 => k_is); (case y4 => k_is); (case ym => rfl); (case yd => rfl)
    intro c_BadRectangle
    refine' K00.cls_use (x := "BadReel") KX G ?ya ?yc ?yt ?yk ?y1 ?y2 ?y4 ?ym ?yd ?_
    (case ya => k_is); (case yc => k_is); (case yt => k_is); (case yk => k_is); (case y1 => k_is); (case y2 => k_is); (case y4 => k_is); (case ym => rfl); (case yd => rfl)
    intro c_BadReel
    refine' K00.cls_use (x := "BadReferences") KX G ?ya ?yc ?yt ?yk ?y1 ?y2 ?y4 ?ym ?yd ?_
    (case ya => k_is); (case yc => k_is); (case yt => k_is); (case yk => k_is); (case y1 => k_is); (case y2 => k_is); (case y4 => k_is); (case ym => rfl); (case yd => rfl)
    intro c_BadReferences
    refine' K00.cls_use (x := "BadRenewals") KX G ?ya ?yc ?yt ?yk ?y1 ?y2 ?y4 ?ym ?yd ?_
    (case ya => k_is); (case yc => k_is); (case yt => k_is); (case yk => k_is); (case y1 => k_is); (case y2 => k_is); (case y4 => k_is); (case ym => rfl); (case yd => rfl)
    intro c_BadRenewals
    refine' K00.cls_use (x := "BadRoom") KX G ?ya ?yc ?yt ?yk ?y1 ?y2 ?y4 ?ym ?yd ?_
    (case ya => k_is); (case yc => k_is); (case yt => k_is); (case yk => k_is); (case y1 => k_is); (case y2 => k_is); (case y4 => k_is); (case ym => rfl); (case yd => rfl)
    intro c_BadRoom
    refine' K00.cls_use (x := "BadRow") KX G ?ya ?yc ?yt ?yk ?y1 ?y2 ?y4 ?ym ?yd ?_
    (case ya => k_is); (case yc => k_is); (case yt => k_is); (case yk => k_is); (case y1 => k_is); (case y2 => k_is); (case y4 => k_is); (case ym => rfl); (case yd => rfl)
    intro c_BadRow
    refine' K00.cls_use (x := "BadSet") KX G ?ya ?yc ?yt ?yk ?y1 ?y2 ?y4 ?ym ?yd ?_
    (case ya => k_is); (case yc => k_is); (case yt => k_is); (case yk => k_is); (case y1 => k_is); (case y2 => k_is); (case y4 => k_is); (case ym => rfl); (case yd => rfl)
    intro c_BadSet
    refine' K00.cls_use (x := "BadShape") KX G ?ya ?yc ?yt ?yk ?y1 ?y2 ?y4 ?ym ?yd ?_
    (case ya => k_is); (case yc => k_is); (case yt => k_is); (case yk => k_is); (case y1 => k_is); (case y2 => k_is); (case y4 => k_is); (case ym => rfl); (case yd => rfl)
    intro c_BadShape
    refine' K00.cls_use (x := "BadShares") KX G ?ya ?yc ?yt ?yk ?y1 ?y2 ?y4 ?ym ?yd ?_
    (case ya => k_is); (case yc => k_is); (case yt => k_is); (case yk => k_is); (case y1 => k_is); (case y2 => k_is); (case y4 => k_is); (case ym => rfl); (case yd => rfl)
    intro c_BadShares
    refine' K00.cls_use (x := "BadShift") KX G ?ya ?yc ?yt ?yk ?y1 ?y2 ?y4 ?ym ?yd ?_
    (case ya => k_is); (case yc => k_is); (case yt => k_is); (case yk => k_is); (case y1 => k_is); (case y2 => k_is); (case y4 => k_is); (case ym => rfl); (case yd => rfl)
    intro c_BadShift
    refine' K00.cls_use (x := "BadShows") KX G ?ya ?yc ?yt ?yk ?y1 ?y2 ?y4 ?ym ?yd ?_
    (case ya => k_is); (case yc => k_is); (case yt => k_is); (case yk => k_is); (case y1 => k_is); (case y2 => k_is); (case y4 => k_is); (case ym => rfl); (case yd => rfl)
    intro c_BadShows
    refine' K00.cls_use (x := "BadSize") KX G ?ya ?yc ?yt ?yk ?y1 ?y2 ?y4 ?ym ?yd ?_
    (case ya => k_is); (case yc => k_is); (case yt => k_is); (case yk => k_is); (case y1 => k_is); (case y2 => k_is); (case y4 => k_is); (case ym => rfl); (case yd => rfl)
    intro c_BadSize
    refine' K00.cls_use (x := "BadSizes") KX G ?ya ?yc ?yt ?yk ?y1 ?y2 ?y4 ?ym ?yd ?_
    (case ya => k_is); (case yc => k_is); (case yt => k_is); (case yk => k_is); (case y1 => k_is); (case y2 => k_is); (case y4 => k_is); (case ym => rfl); (case yd => rfl)
    intro c_BadSizes
    refine' K00.cls_use (x := "BadSpans") KX G ?ya ?yc ?yt ?yk ?y1 ?y2 ?y4 ?ym ?yd ?_
    (case ya => k_is); (case yc => k_is); (case yt => k_is); (case yk => k_is); (case y1 => k_is); (case y2 => k_is); (case y4 => k_is); (case ym => rfl); (case yd => rfl)
    intro c_BadSpans
    refine' K00.cls_use (x := "BadSpot") KX G ?ya ?yc ?yt ?yk ?y1 ?y2 ?y4 ?ym ?yd ?_
    (case ya => k_is); (case yc => k_is); (case yt => k_is); (case yk => k_is); (case y1 => k_is); (case y2 => k_is); (case y4 => k_is); (case ym => rfl); (case yd => rfl)
    intro c_BadSpot
    refine' K00.cls_use (x := "BadState") KX G ?ya ?yc ?yt ?yk ?y1 ?y2 ?y4 ?ym ?yd ?_
    (case ya => k_is); (case yc => k_is); (case yt => k_is); (case yk => k_is); (case y1 => k_is); (case y2 => k_is); (case y4 => k_is); (case ym => rfl); (case yd => rfl)
    intro c_BadState
    refine' K00.cls_use (x := "BadStock") KX G ?ya ?yc ?yt ?yk ?y1 ?y2 ?y4 ?ym ?yd ?_
    (case ya => k_is); (case yc => k_is); (case yt => k_is); (case yk => k_is); (case y1 => k_is); (case y2 => k_is); (case y4 => k_is); (case ym => rfl); (case yd => rfl)
    intro c_BadStock
    refine' K00.cls_use (x := "BadStore") KX G ?ya ?yc ?yt ?yk ?y1 ?y2 ?y4 ?ym ?yd ?_
    (case ya => k_is); (case yc => k_is); (case yt => k_is); (case yk => k_is); (case y1 => k_is); (case y2 => k_is); (case y4 => k_is); (case ym => rfl); (case yd => rfl)
    intro c_BadStore
    refine' K00.cls_use (x := "BadStream") KX G ?ya ?yc ?yt ?yk ?y1 ?y2 ?y4 ?ym ?yd ?_
    (case ya => k_is); (case yc => k_is); (case yt => k_is); (case yk => k_is); (case y1 => k_is); (case y2 => k_is); (case y4 => k_is); (case ym => rfl); (case yd => rfl)
    intro c_BadStream
    refine' K00.cls_use (x := "BadStretch") KX G ?ya ?yc ?yt ?yk ?y1 ?y2 ?y4 ?ym ?yd ?_
    (case ya => k_is); (case yc => k_is); (case yt => k_is); (case yk => k_is); (case y1 => k_is); (case y2 => k_is); (case y4 => k_is); (case ym => rfl); (case yd => rfl)
    intro c_BadStretch
    refine' K00.cls_use (x := "BadTelling") KX G ?ya ?yc ?yt ?yk ?y1 ?y2 ?y4 ?ym ?yd ?_
    (case ya => k_is); (case yc => k_is); (case yt => k_is); (case yk => k_is); (case y1 => k_is); (case y2 => k_is); (case y4 => k_is); (case ym => rfl); (case yd => rfl)
    intro c_BadTelling
    refine' K00.cls_use (x := "BadUpper") KX G ?ya ?yc ?yt ?yk ?y1 ?y2 ?y4 ?ym ?yd ?_
    (case ya => k_is); (case yc => k_is); (case yt => k_is); (case yk => k_is); (case y1 => k_is); (case y2 => k_is); (case y4 => k_is); (case ym => rfl); (case yd => rfl)
    intro c_BadUpper
    refine' K00.cls_use (x := "BadVector") KX G ?ya ?yc ?yt ?yk ?y1 ?y2 ?y4 ?ym ?yd ?_
    (case ya => k_is); (case yc => k_is); (case yt => k_is); (case yk => k_is); (case y1 => k_is); (case y2 => k_is); (case y4 => k_is); (case ym => rfl); (case yd => rfl)
    intro c_BadVector
    refine' K00.cls_use (x := "BadWait") KX G ?ya ?yc ?yt ?yk ?y1 ?y2 ?y4 ?ym ?yd ?_
    (case ya => k_is); (case yc => k_is); (case yt => k_is); (case yk => k_is); (case y1 => k_is); (case y2 => k_is); (case y4 => k_is); (case ym => rfl); (case yd => rfl)
    intro c_BadWait
    refine' K00.cls_use (x := "BadWanted") KX G ?ya ?yc ?yt ?yk ?y1 ?y2 ?y4 ?ym ?yd ?_
    (case ya => k_is); (case yc => k_is); (case yt => k_is); (case yk => k_is); (case y1 => k_is); (case y2 => k_is); (case y4 => k_is); (case ym => rfl); (case yd => rfl)
    intro c_BadWanted
    refine' K00.cls_use (x := "BadWay") KX G ?ya ?yc ?yt ?yk ?y1 ?y2 ?y4 ?ym ?yd ?_
    (case ya => k_is); (case yc => k_is); (case yt => k_is); (case yk => k_is); (case y1 => k_is); (case y2 => k_is); (case y4 => k_is); (case ym => rfl); (case yd => rfl)
    intro c_BadWay
    refine' K00.cls_use (x := "BadWeb") KX G ?ya ?yc ?yt ?yk ?y1 ?y2 ?y4 ?ym ?yd ?_
    (case ya => k_is); (case yc => k_is); (case yt => k_is); (case yk => k_is); (case y1 => k_is); (case y2 => k_is); (case y4 => k_is); (case ym => rfl); (case yd => rfl)
    intro c_BadWeb
    refine' K00.cls_use (x := "BadWish") KX G ?ya ?yc ?yt ?yk ?y1 ?y2 ?y4 ?ym ?yd ?_
    (case ya => k_is); (case yc => k_is); (case yt => k_is); (case yk => k_is); (case y1 => k_is); (case y2 => k_is); (case y4 => k_is); (case ym => rfl); (case yd => rfl)
    intro c_BadWish
    refine' K00.cls_use (x := "BadWorths") KX G ?ya ?yc ?yt ?yk ?y1 ?y2 ?y4 ?ym ?yd ?_
    (case ya => k_is); (case yc => k_is); (case yt => k_is); (case yk => k_is); (case y1 => k_is); (case y2 => k_is); (case y4 => k_is); (case ym => rfl); (case yd => rfl)
    intro c_BadWorths
    refine' K00.cls_use (x := "NotNow") KX G ?ya ?yc ?yt ?yk ?y1 ?y2 ?y4 ?ym ?yd ?_
    (case ya => k_is); (case yc => k_is); (case yt => k_is); (case yk => k_is); (case y1 => k_is); (case y2 => k_is); (case y4 => k_is); (case ym => rfl); (case yd => rfl)
    intro c_NotNow
    refine' K00.cls_use (x := "NothingDone") KX G ?ya ?yc ?yt ?yk ?y1 ?y2 ?y4 ?ym ?yd ?_
    (case ya => k_is); (case yc => k_is); (case yt => k_is); (case yk => k_is); (case y1 => k_is); (case y2 => k_is); (case y4 => k_is); (case ym => rfl); (case yd => rfl)
    intro c_NothingDone
    refine' K00.cls_use (x := "OtherKinds") KX G ?ya ?yc ?yt ?yk ?y1 ?y2 ?y4 ?ym ?yd ?_
    (case ya => k_is); (case yc => k_is); (case yt => k_is); (case yk => k_is); (case y1 => k_is); (case y2 => k_is); (case y4 => k_is); (case ym => rfl); (case yd => rfl)
    intro c_OtherKinds
    refine' K00.cls_use (x := "OtherShapes") KX G ?ya ?yc ?yt ?yk ?y1 ?y2 ?y4 ?ym ?yd ?_
    (case ya => k_is); (case yc => k_is); (case yt => k_is); (case yk => k_is); (case y1 => k_is); (case y2 => k_is); (case y4 => k_is); (case ym => rfl); (case yd => rfl)
    intro c_OtherShapes
    refine' K00.cls_use (x := "TooMany") KX G ?ya ?yc ?yt ?yk ?y1 ?y2 ?y4 ?ym ?yd ?_
    (case ya => k_is); (case yc => k_is); (case yt => k_is); (case yk => k_is); (case y1 => k_is); (case y2 => k_is); (case y4 => k_is); (case ym => rfl); (case yd => rfl)
    intro c_TooMany
    refine' K00.held_use (P := (PySem.Challenge.rw_pricedreels_k00_errors_apart).prog) (x := "BadCosts") (qual := "BadCosts.__init__") (f := "at") KX G ?ya ?yiC ?ylk ?ybd ?ysw ?ycl ?ystar ?ycode ?yf1 ?yf2 ?yf3 ?ycell ?yc1 ?yc2 ?yc3 ?yself ?ynoS ?ytop ?ythird ?yup ?yval ?yown ?yset ?ynoF ?yo1 ?yo2 ?ytC ?yga ?ygg ?ykC ?yexC ?ytyC ?yhdC ?yhz ?ynf ?_
    (case ya => k_is); (case yiC => k_is); (case ylk => k_is)
    (case ybd => intro a b; rfl)
    (case ysw => intro L; rfl)
    (case ycl => intro L; rfl)
    (case ystar => intro env; rfl)
    (case ycode => k_is)
    (case yf1 => k_is); (case yf2 => rfl); (case yf3 => decide +kernel)
    (case ycell => k_is); (case yc1 => k_is); (case yc2 => decide +kernel); (case yc3 => rfl)
    (case yself => k_is); (case ynoS => k_is); (case ytop => kernel_rfl); (case ythird => k_is)
    (case yup => ks_is); (case yval => k_is); (case yown => kx_is); (case yset => k_is); (case ynoF => k_is)
    (case yo1 => k_is); (case yo2 => decide +kernel)
    (case ytC => k_is); (case yga => k_is); (case ygg => k_is); (case ykC => k_is); (case yexC => k_is); (case ytyC => k_is); (case yhdC => k_is); (case yhz => decide); (case ynf => decide)
    intro h_BadCosts
    refine' K00.held_use (P := (PySem.Challenge.rw_pricedreels_k00_errors_apart).prog) (x := "BadFrames") (qual := "BadFrames.__init__") (f := "at") KX G ?ya ?yiC ?ylk ?ybd ?ysw ?ycl ?ystar ?ycode ?yf1 ?yf2 ?yf3 ?ycell ?yc1 ?yc2 ?yc3 ?yself ?ynoS ?ytop ?ythird ?yup ?yval ?yown ?yset ?ynoF ?yo1 ?yo2 ?ytC ?yga ?ygg ?ykC ?yexC ?ytyC ?yhdC ?yhz ?ynf ?_
    (case ya => k_is); (case yiC => k_is); (case ylk => k_is)
    (case ybd => intro a b; rfl)
    (case ysw => intro L; rfl)
    (case ycl => intro L; rfl)
    (case ystar => intro env; rfl)
    (case ycode => k_is)
    (case yf1 => k_is); (case yf2 => rfl); (case yf3 => decide +kernel)
    (case ycell => k_is); (case yc1 => k_is); (case yc2 => decide +kernel); (case yc3 => rfl)
    (case yself => k_is); (case ynoS => k_is); (case ytop => kernel_rfl); (case ythird => k_is)
    (case yup => ks_is); (case yval => k_is); (case yown => kx_is); (case yset => k_is); (case ynoF => k_is)
    (case yo1 => k_is); (case yo2 => decide +kernel)
    (case ytC => k_is); (case yga => k_is); (case ygg => k_is); (case ykC => k_is); (case yexC => k_is); (case ytyC => k_is); (case yhdC => k_is); (case yhz => decide); (case ynf => decide)
    intro h_BadFrames
    refine' K00.held_use (P := (PySem.Challenge.rw_pricedreels_k00_errors_apart).prog) (x := "BadHead") (qual := "BadHead.__init__") (f := "part") KX G ?ya ?yiC ?ylk ?ybd ?ysw ?ycl ?ystar ?ycode ?yf1 ?yf2 ?yf3 ?ycell ?yc1 ?yc2 ?yc3 ?yself ?ynoS ?ytop ?ythird ?yup ?yval ?yown ?yset ?ynoF ?yo1 ?yo2 ?ytC ?yga ?ygg ?ykC ?yexC ?ytyC ?yhdC ?yhz ?ynf ?_
    (case ya => k_is); (case yiC => k_is); (case ylk => k_is)
    (case ybd => intro a b; rfl)
    (case ysw => intro L; rfl)
    (case ycl => intro L; rfl)
    (case ystar => intro env; rfl)
    (case ycode => k_is)
    (case yf1 => k_is); (case yf2 => rfl); (case yf3 => decide +kernel)
    (case ycell => k_is); (case yc1 => k_is); (case yc2 => decide +kernel); (case yc3 => rfl)
    (case yself => k_is); (case ynoS => k_is); (case ytop => kernel_rfl); (case ythird => k_is)
    (case yup => ks_is); (case yval => k_is); (case yown => kx_is); (case yset => k_is); (case ynoF => k_is)
    (case yo1 => k_is); (case yo2 => decide +kernel)
    (case ytC => k_is); (case yga => k_is); (case ygg => k_is); (case ykC => k_is); (case yexC => k_is); (case ytyC => k_is); (case yhdC => k_is); (case yhz => decide); (case ynf => decide)
    intro h_BadHead
    refine' K00.held_use (P := (PySem.Challenge.rw_pricedreels_k00_errors_apart).prog) (x := "BadItem") (qual := "BadItem.__init__") (f := "at") KX G ?ya ?yiC ?ylk ?ybd ?ysw ?ycl ?ystar ?ycode ?yf1 ?yf2 ?yf3 ?ycell ?yc1 ?yc2 ?yc3 ?yself ?ynoS ?ytop ?ythird ?yup ?yval ?yown ?yset ?ynoF ?yo1 ?yo2 ?ytC ?yga ?ygg ?ykC ?yexC ?ytyC ?yhdC ?yhz ?ynf ?_
    (case ya => k_is); (case yiC => k_is); (case ylk => k_is)
    (case ybd => intro a b; rfl)
    (case ysw => intro L; rfl)
    (case ycl => intro L; rfl)
    (case ystar => intro env; rfl)
    (case ycode => k_is)
    (case yf1 => k_is); (case yf2 => rfl); (case yf3 => decide +kernel)
    (case ycell => k_is); (case yc1 => k_is); (case yc2 => decide +kernel); (case yc3 => rfl)
    (case yself => k_is); (case ynoS => k_is); (case ytop => kernel_rfl); (case ythird => k_is)
    (case yup => ks_is); (case yval => k_is); (case yown => kx_is); (case yset => k_is); (case ynoF => k_is)
    (case yo1 => k_is); (case yo2 => decide +kernel)
    (case ytC => k_is); (case yga => k_is); (case ygg => k_is); (case ykC => k_is); (case yexC => k_is); (case ytyC => k_is); (case yhdC => k_is); (case yhz => decide); (case ynf => decide)
    intro h_BadItem
    refine' K00.held_use (P := (PySem.Challenge.rw_pricedreels_k00_errors_apart).prog) (x := "BadJobs") (qual := "BadJobs.__init__") (f := "at") KX G ?ya ?yiC ?ylk ?ybd ?ysw ?ycl ?ystar ?ycode ?yf1 ?yf2 ?yf3 ?ycell ?yc1 ?yc2 ?yc3 ?yself ?ynoS ?ytop ?ythird ?yup ?yval ?yown ?yset ?ynoF ?yo1 ?yo2 ?ytC ?yga ?ygg ?ykC ?yexC ?ytyC ?yhdC ?yhz ?ynf ?_
    (case ya => k_is); (case yiC => k_is); (case ylk => k_is)
    (case ybd => intro a b; rfl)
    (case ysw => intro L; rfl)
    (case ycl => intro L; rfl)
    (case ystar => intro env; rfl)
    (case ycode => k_is)
    (case yf1 => k_is); (case yf2 => rfl); (case yf3 => decide +kernel)
    (case ycell => k_is); (case yc1 => k_is); (case yc2 => decide +kernel); (case yc3 => rfl)
    (case yself => k_is); (case ynoS => k_is); (case ytop => kernel_rfl); (case ythird => k_is)
    (case yup => ks_is); (case yval => k_is); (case yown => kx_is); (case yset => k_is); (case ynoF => k_is)
    (case yo1 => k_is); (case yo2 => decide +kernel)
    (case ytC => k_is); (case yga => k_is); (case ygg => k_is); (case ykC => k_is); (case yexC => k_is); (case ytyC => k_is); (case yhdC => k_is); (case yhz => decide); (case ynf => decide)
    intro h_BadJobs
    refine' K00.held_use (P := (PySem.Challenge.rw_pricedreels_k00_errors_apart).prog) (x := "BadMode") (qual := "BadMode.__init__") (f := "mode") KX G ?ya ?yiC ?ylk ?ybd ?ysw ?ycl ?ystar ?ycode ?yf1 ?yf2 ?yf3 ?ycell ?yc1 ?yc2 ?yc3 ?yself ?ynoS ?ytop ?ythird ?yup ?yval ?yown ?yset ?ynoF ?yo1 ?yo2 ?ytC ?yga ?ygg ?ykC ?yexC ?ytyC ?yhdC ?yhz ?ynf ?_
    (case ya => k_is); (case yiC => k_is); (case ylk => k_is)
    (case ybd => intro a b; rfl)
    (case ysw => intro L; rfl)
    (case ycl => intro L; rfl)
    (case ystar => intro env; rfl)
    (case ycode => k_is)
    (case yf1 => k_is); (case yf2 => rfl); (case yf3 => decide +kernel)
    (case ycell => k_is); (case yc1 => k_is); (case yc2 => decide +kernel); (case yc3 => rfl)
    (case yself => k_is); (case ynoS => k_is); (case ytop => kernel_rfl); (case ythird => k_is)
    (case yup => ks_is); (case yval => k_is); (case yown => kx_is); (case yset => k_is); (case ynoF => k_is)
    (case yo1 => k_is); (case yo2 => decide +kernel)
    (case ytC => k_is); (case yga => k_is); (case ygg => k_is); (case ykC => k_is); (case yexC => k_is); (case ytyC => k_is); (case yhdC => k_is); (case yhz => decide); (case ynf => decide)
    intro h_BadMode
    refine' K00.held_use (P := (PySem.Challenge.rw_pricedreels_k00_errors_apart).prog) (x := "BadReel") (qual := "BadReel.__init__") (f := "part") KX G ?ya ?yiC ?ylk ?ybd ?ysw ?ycl ?ystar ?ycode ?yf1 ?yf2 ?yf3 ?ycell ?yc1 ?yc2 ?yc3 ?yself ?ynoS ?ytop ?ythird ?yup ?yval ?yown ?yset ?ynoF ?yo1 ?yo2 ?ytC ?yga ?ygg ?ykC ?yexC ?ytyC ?yhdC ?yhz ?ynf ?_
    (case ya => k_is); (case yiC => k_is); (case ylk => k_is)
    (case ybd => intro a b; rfl)
    (case ysw => intro L; rfl)
    (case ycl => intro L; rfl)
    (case ystar => intro env; rfl)
    (case ycode => k_is)
    (case yf1 => k_is); (case yf2 => rfl); (case yf3 => decide +kernel)
    (case ycell => k_is); (case yc1 => k_is); (case yc2 => decide +kernel); (case yc3 => rfl)
    (case yself => k_is); (case ynoS => k_is); (case ytop => kernel_rfl); (case ythird => k_is)
    (case yup => ks_is); (case yval => k_is); (case yown => kx_is); (case yset => k_is); (case ynoF => k_is)
    (case yo1 => k_is); (case yo2 => decide +kernel)
    (case ytC => k_is); (case yga => k_is); (case ygg => k_is); (case ykC => k_is); (case yexC => k_is); (case ytyC => k_is); (case yhdC => k_is); (case yhz => decide); (case ynf => decide)
    intro h_BadReel
    refine' K00.held_use (P := (PySem.Challenge.rw_pricedreels_k00_errors_apart).prog) (x := "BadRenewals") (qual := "BadRenewals.__init__") (f := "at") KX G ?ya ?yiC ?ylk ?ybd ?ysw ?ycl ?ystar ?ycode ?yf1 ?yf2 ?yf3 ?ycell ?yc1 ?yc2 ?yc3 ?yself ?ynoS ?ytop ?ythird ?yup ?yval ?yown ?yset ?ynoF ?yo1 ?yo2 ?ytC ?yga ?ygg ?ykC ?yexC ?ytyC ?yhdC ?yhz ?ynf ?_
    (case ya => k_is); (case yiC => k_is); (case ylk => k_is)
    (case ybd => intro a b; rfl)
    (case ysw => intro L; rfl)
    (case ycl => intro L; rfl)
    (case ystar => intro env; rfl)
    (case ycode => k_is)
    (case yf1 => k_is); (case yf2 => rfl); (case yf3 => decide +kernel)
    (case ycell => k_is); (case yc1 => k_is); (case yc2 => decide +kernel); (case yc3 => rfl)
    (case yself => k_is); (case ynoS => k_is); (case ytop => kernel_rfl); (case ythird => k_is)
    (case yup => ks_is); (case yval => k_is); (case yown => kx_is); (case yset => k_is); (case ynoF => k_is)
    (case yo1 => k_is); (case yo2 => decide +kernel)
    (case ytC => k_is); (case yga => k_is); (case ygg => k_is); (case ykC => k_is); (case yexC => k_is); (case ytyC => k_is); (case yhdC => k_is); (case yhz => decide); (case ynf => decide)
    intro h_BadRenewals
    refine' K00.held_use (P := (PySem.Challenge.rw_pricedreels_k00_errors_apart).prog) (x := "BadShape") (qual := "BadShape.__init__") (f := "part") KX G ?ya ?yiC ?ylk ?ybd ?ysw ?ycl ?ystar ?ycode ?yf1 ?yf2 ?yf3 ?ycell ?yc1 ?yc2 ?yc3 ?yself ?ynoS ?ytop ?ythird ?yup ?yval ?yown ?yset ?ynoF ?yo1 ?yo2 ?ytC ?yga ?ygg ?ykC ?yexC ?ytyC ?yhdC ?yhz ?ynf ?_
    (case ya => k_is); (case yiC => k_is); (case ylk => k_is)
    (case ybd => intro a b; rfl)
    (case ysw => intro L; rfl)
    (case ycl => intro L; rfl)
    (case ystar => intro env; rfl)
    (case ycode => k_is)
    (case yf1 => k_is); (case yf2 => rfl); (case yf3 => decide +kernel)
    (case ycell => k_is); (case yc1 => k_is); (case yc2 => decide +kernel); (case yc3 => rfl)
    (case yself => k_is); (case ynoS => k_is); (case ytop => kernel_rfl); (case ythird => k_is)
    (case yup => ks_is); (case yval => k_is); (case yown => kx_is); (case yset => k_is); (case ynoF => k_is)
    (case yo1 => k_is); (case yo2 => decide +kernel)
    (case ytC => k_is); (case yga => k_is); (case ygg => k_is); (case ykC => k_is); (case yexC => k_is); (case ytyC => k_is); (case yhdC => k_is); (case yhz => decide); (case ynf => decide)
    intro h_BadShape
    refine' K00.held_use (P := (PySem.Challenge.rw_pricedreels_k00_errors_apart).prog) (x := "BadStock") (qual := "BadStock.__init__") (f := "part") KX G ?ya ?yiC ?ylk ?ybd ?ysw ?ycl ?ystar ?ycode ?yf1 ?yf2 ?yf3 ?ycell ?yc1 ?yc2 ?yc3 ?yself ?ynoS ?ytop ?ythird ?yup ?yval ?yown ?yset ?ynoF ?yo1 ?yo2 ?ytC ?yga ?ygg ?ykC ?yexC ?ytyC ?yhdC ?yhz ?ynf ?_
    (case ya => k_is); (case yiC => k_is); (case ylk => k_is)
    (case ybd => intro a b; rfl)
    (case ysw => intro L; rfl)
    (case ycl => intro L; rfl)
    (case ystar => intro env; rfl)
    (case ycode => k_is)
    (case yf1 => k_is); (case yf2 => rfl); (case yf3 => decide +kernel)
    (case ycell => k_is); (case yc1 => k_is); (case yc2 => decide +kernel); (case yc3 => rfl)
    (case yself => k_is); (case ynoS => k_is); (case ytop => kernel_rfl); (case ythird => k_is)
    (case yup => ks_is); (case yval => k_is); (case yown => kx_is); (case yset => k_is); (case ynoF => k_is)
    (case yo1 => k_is); (case yo2 => decide +kernel)
    (case ytC => k_is); (case yga => k_is); (case ygg => k_is); (case ykC => k_is); (case yexC => k_is); (case ytyC => k_is); (case yhdC => k_is); (case yhz => decide); (case ynf => decide)
    intro h_BadStock
    refine' K00.held_use (P := (PySem.Challenge.rw_pricedreels_k00_errors_apart).prog) (x := "BadStore") (qual := "BadStore.__init__") (f := "at") KX G ?ya ?yiC ?ylk ?ybd ?ysw ?ycl ?ystar ?ycode ?yf1 ?yf2 ?yf3 ?ycell ?yc1 ?yc2 ?yc3 ?yself ?ynoS ?ytop ?ythird ?yup ?yval ?yown ?yset ?ynoF ?yo1 ?yo2 ?ytC ?yga ?ygg ?ykC ?yexC ?ytyC ?yhdC ?yhz ?ynf ?_
    (case ya => k_is); (case yiC => k_is); (case ylk => k_is)
    (case ybd => intro a b; rfl)
    (case ysw => intro L; rfl)
    (case ycl => intro L; rfl)
    (case ystar => intro env; rfl)
    (case ycode => k_is)
    (case yf1 => k_is); (case yf2 => rfl); (case yf3 => decide +kernel)
    (case ycell => k_is); (case yc1 => k_is); (case yc2 => decide +kernel); (case yc3 => rfl)
    (case yself => k_is); (case ynoS => k_is); (case ytop => kernel_rfl); (case ythird => k_is)
    (case yup => ks_is); (case yval => k_is); (case yown => kx_is); (case yset => k_is); (case ynoF => k_is)
    (case yo1 => k_is); (case yo2 => decide +kernel)
    (case ytC => k_is); (case yga => k_is); (case ygg => k_is); (case ykC => k_is); (case yexC => k_is); (case ytyC => k_is); (case yhdC => k_is); (case yhz => decide); (case ynf => decide)
    intro h_BadStore
    refine' K00.held_use (P := (PySem.Challenge.rw_pricedreels_k00_errors_apart).prog) (x := "BadStream") (qual := "BadStream.__init__") (f := "at") KX G ?ya ?yiC ?ylk ?ybd ?ysw ?ycl ?ystar ?ycode ?yf1 ?yf2 ?yf3 ?ycell ?yc1 ?yc2 ?yc3 ?yself ?ynoS ?ytop ?ythird ?yup ?yval ?yown ?yset ?ynoF ?yo1 ?yo2 ?ytC ?yga ?ygg ?ykC ?yexC ?ytyC ?yhdC ?yhz ?ynf ?_
    (case ya => k_is); (case yiC => k_is); (case ylk => k_is)
    (case ybd => intro a b; rfl)
    (case ysw => intro L; rfl)
    (case ycl => intro L; rfl)
    (case ystar => intro env; rfl)
    (case ycode => k_is)
    (case yf1 => k_is); (case yf2 => rfl); (case yf3 => decide +kernel)
    (case ycell => k_is); (case yc1 => k_is); (case yc2 => decide +kernel); (case yc3 => rfl)
    (case yself => k_is); (case ynoS => k_is); (case ytop => kernel_rfl); (case ythird => k_is)
    (case yup => ks_is); (case yval => k_is); (case yown => kx_is); (case yset => k_is); (case ynoF => k_is)
    (case yo1 => k_is); (case yo2 => decide +kernel)
    (case ytC => k_is); (case yga => k_is); (case ygg => k_is); (case ykC => k_is); (case yexC => k_is); (case ytyC => k_is); (case yhdC => k_is); (case yhz => decide); (case ynf => decide)
    intro h_BadStream
    refine' K00.held_use (P := (PySem.Challenge.rw_pricedreels_k00_errors_apart).prog) (x := "BadStretch") (qual := "BadStretch.__init__") (f := "at") KX G ?ya ?yiC ?ylk ?ybd ?ysw ?ycl ?ystar ?ycode ?yf1 ?yf2 ?yf3 ?ycell ?yc1 ?yc2 ?yc3 ?yself ?ynoS ?ytop ?ythird ?yup ?yval ?yown ?yset ?ynoF ?yo1 ?yo2 ?ytC ?yga ?ygg ?ykC ?yexC ?ytyC ?yhdC ?yhz ?ynf ?_
    (case ya => k_is); (case yiC => k_is); (case ylk => k_is)
    (case ybd => intro a b; rfl)
    (case ysw => intro L; rfl)
    (case ycl => intro L; rfl)
    (case ystar => intro env; rfl)
    (case ycode => k_is)
    (case yf1 => k_is); (case yf2 => rfl); (case yf3 => decide +kernel)
    (case ycell => k_is); (case yc1 => k_is); (case yc2 => decide +kernel); (case yc3 => rfl)
    (case yself => k_is); (case ynoS => k_is); (case ytop => kernel_rfl); (case ythird => k_is)
    (case yup => ks_is); (case yval => k_is); (case yown => kx_is); (case yset => k_is); (case ynoF => k_is)
    (case yo1 => k_is); (case yo2 => decide +kernel)
    (case ytC => k_is); (case yga => k_is); (case ygg => k_is); (case ykC => k_is); (case yexC => k_is); (case ytyC => k_is); (case yhdC => k_is); (case yhz => decide); (case ynf => decide)
    intro h_BadStretch
    refine' K00.held_use (P := (PySem.Challenge.rw_pricedreels_k00_errors_apart).prog) (x := "BadWeb") (qual := "BadWeb.__init__") (f := "at") KX G ?ya ?yiC ?ylk ?ybd ?ysw ?ycl ?ystar ?ycode ?yf1 ?yf2 ?yf3 ?ycell ?yc1 ?yc2 ?yc3 ?yself ?ynoS ?ytop ?ythird ?yup ?yval ?yown ?yset ?ynoF ?yo1 ?yo2 ?ytC ?yga ?ygg ?ykC ?yexC ?ytyC ?yhdC ?yhz ?ynf ?_
    (case ya => k_is); (case yiC => k_is); (case ylk => k_is)
    (case ybd => intro a b; rfl)
    (case ysw => intro L; rfl)
    (case ycl => intro L; rfl)
    (case ystar => intro env; rfl)
    (case ycode => k_is)
    (case yf1 => k_is); (case yf2 => rfl); (case yf3 => decide +kernel)
    (case ycell => k_is); (case yc1 => k_is); (case yc2 => decide +kernel); (case yc3 => rfl)
    (case yself => k_is); (case ynoS => k_is); (case ytop => kernel_rfl); (case ythird => k_is)
    (case yup => ks_is); (case yval => k_is); (case yown => kx_is); (case yset => k_is); (case ynoF => k_is)
    (case yo1 => k_is); (case yo2 => decide +kernel)
    (case ytC => k_is); (case yga => k_is); (case ygg => k_is); (case ykC => k_is); (case yexC => k_is); (case ytyC => k_is); (case yhdC => k_is); (case yhz => decide); (case ynf => decide)
    intro h_BadWeb
    refine' K00.held_use (P := (PySem.Challenge.rw_pricedreels_k00_errors_apart).prog) (x := "NotNow") (qual := "NotNow.__init__") (f := "word") KX G ?ya ?yiC ?ylk ?ybd ?ysw ?ycl ?ystar ?ycode ?yf1 ?yf2 ?yf3 ?ycell ?yc1 ?yc2 ?yc3 ?yself ?ynoS ?ytop ?ythird ?yup ?yval ?yown ?yset ?ynoF ?yo1 ?yo2 ?ytC ?yga ?ygg ?ykC ?yexC ?ytyC ?yhdC ?yhz ?ynf ?_
    (case ya => k_is); (case yiC => k_is); (case ylk => k_is)
    (case ybd => intro a b; rfl)
    (case ysw => intro L; rfl)
    (case ycl => intro L; rfl)
    (case ystar => intro env; rfl)
    (case ycode => k_is)
    (case yf1 => k_is); (case yf2 => rfl); (case yf3 => decide +kernel)
    (case ycell => k_is); (case yc1 => k_is); (case yc2 => decide +kernel); (case yc3 => rfl)
    (case yself => k_is); (case ynoS => k_is); (case ytop => kernel_rfl); (case ythird => k_is)
    (case yup => ks_is); (case yval => k_is); (case yown => kx_is); (case yset => k_is); (case ynoF => k_is)
    (case yo1 => k_is); (case yo2 => decide +kernel)
    (case ytC => k_is); (case yga => k_is); (case ygg => k_is); (case ykC => k_is); (case yexC => k_is); (case ytyC => k_is); (case yhdC => k_is); (case yhz => decide); (case ynf => decide)
    intro h_NotNow
    refine' K00.held_use (P := (PySem.Challenge.rw_pricedreels_k00_errors_apart).prog) (x := "TooMany") (qual := "TooMany.__init__") (f := "most") KX G ?ya ?yiC ?ylk ?ybd ?ysw ?ycl ?ystar ?ycode ?yf1 ?yf2 ?yf3 ?ycell ?yc1 ?yc2 ?yc3 ?yself ?ynoS ?ytop ?ythird ?yup ?yval ?yown ?yset ?ynoF ?yo1 ?yo2 ?ytC ?yga ?ygg ?ykC ?yexC ?ytyC ?yhdC ?yhz ?ynf ?_
    (case ya => k_is); (case yiC => k_is); (case ylk => k_is)
    (case ybd => intro a b; rfl)
    (case ysw => intro L; rfl)
    (case ycl => intro L; rfl)
    (case ystar => intro env; rfl)
    (case ycode => k_is)
    (case yf1 => k_is); (case yf2 => rfl); (case yf3 => decide +kernel)
    (case ycell => k_is); (case yc1 => k_is); (case yc2 => decide +kernel); (case yc3 => rfl)
    (case yself => k_is); (case ynoS => k_is); (case ytop => kernel_rfl); (case ythird => k_is)
    (case yup => ks_is); (case yval => k_is); (case yown => kx_is); (case yset => k_is); (case ynoF => k_is)
    (case yo1 => k_is); (case yo2 => decide +kernel)
    (case ytC => k_is); (case yga => k_is); (case ygg => k_is); (case ykC => k_is); (case yexC => k_is); (case ytyC => k_is); (case yhdC => k_is); (case yhz => decide); (case ynf => decide)
    intro h_TooMany
    refine' K00.def_use (x := "_law_begun") (st := K00.s__law_begun) KX G ?ya ?yl ?yc ?yk ?_
    (case ya => k_is); (case yl => k_is); (case yc => k_is); (case yk => k_is)
    intro f__law_begun
    refine' K00.def_use (x := "_law_draw") (st := K00.s__law_draw) KX G ?ya ?yl ?yc ?yk ?_
    (case ya => k_is); (case yl => k_is); (case yc => k_is); (case yk => k_is)
    intro f__law_draw
    refine' K00.def_use (x := "_law_pick") (st := K00.s__law_pick) KX G ?ya ?yl ?yc ?yk ?_
    (case ya => k_is); (case yl => k_is); (case yc => k_is); (case yk => k_is)
    intro f__law_pick
    refine' K00.def_use (x := "_law_odd") (st := K00.s__law_odd) KX G ?ya ?yl ?yc ?yk ?_
    (case ya => k_is); (case yl => k_is); (case yc => k_is); (case yk => k_is)
    intro f__law_odd
    refine' K00.def_use (x := "_law_kinds_a") (st := K00.s__law_kinds_a) KX G ?ya ?yl ?yc ?yk ?_
    (case ya => k_is); (case yl => k_is); (case yc => k_is); (case yk => k_is)
    intro f__law_kinds_a
    refine' K00.def_use (x := "_law_kinds_b") (st := K00.s__law_kinds_b) KX G ?ya ?yl ?yc ?yk ?_
    (case ya => k_is); (case yl => k_is); (case yc => k_is); (case yk => k_is)
    intro f__law_kinds_b
    refine' K00.def_use (x := "_law_kinds_c") (st := K00.s__law_kinds_c) KX G ?ya ?yl ?yc ?yk ?_
    (case ya => k_is); (case yl => k_is); (case yc => k_is); (case yk => k_is)
    intro f__law_kinds_c
    refine' K00.def_use (x := "_law_kinds_d") (st := K00.s__law_kinds_d) KX G ?ya ?yl ?yc ?yk ?_
    (case ya => k_is); (case yl => k_is); (case yc => k_is); (case yk => k_is)
    intro f__law_kinds_d
    refine' K00.def_use (x := "_law_kinds_e") (st := K00.s__law_kinds_e) KX G ?ya ?yl ?yc ?yk ?_
    (case ya => k_is); (case yl => k_is); (case yc => k_is); (case yk => k_is)
    intro f__law_kinds_e
    refine' K00.def_use (x := "_law_plain_a") (st := K00.s__law_plain_a) KX G ?ya ?yl ?yc ?yk ?_
    (case ya => k_is); (case yl => k_is); (case yc => k_is); (case yk => k_is)
    intro f__law_plain_a
    refine' K00.def_use (x := "_law_plain_b") (st := K00.s__law_plain_b) KX G ?ya ?yl ?yc ?yk ?_
    (case ya => k_is); (case yl => k_is); (case yc => k_is); (case yk => k_is)
    intro f__law_plain_b
    refine' K00.def_use (x := "_law_plain_c") (st := K00.s__law_plain_c) KX G ?ya ?yl ?yc ?yk ?_
    (case ya => k_is); (case yl => k_is); (case yc => k_is); (case yk => k_is)
    intro f__law_plain_c
    refine' K00.def_use (x := "_law_held") (st := K00.s__law_held) KX G ?ya ?yl ?yc ?yk ?_
    (case ya => k_is); (case yl => k_is); (case yc => k_is); (case yk => k_is)
    intro f__law_held
    refine' K00.def_use (x := "_law_held_by_name") (st := K00.s__law_held_by_name) KX G ?ya ?yl ?yc ?yk ?_
    (case ya => k_is); (case yl => k_is); (case yc => k_is); (case yk => k_is)
    intro f__law_held_by_name
    refine' K00.def_use (x := "_law_is_alone") (st := K00.s__law_is_alone) KX G ?ya ?yl ?yc ?yk ?_
    (case ya => k_is); (case yl => k_is); (case yc => k_is); (case yk => k_is)
    intro f__law_is_alone
    refine' K00.def_use (x := "law") (st := K00.s_law) KX G ?ya ?yl ?yc ?yk ?_
    (case ya => k_is); (case yl => k_is); (case yc => k_is); (case yk => k_is)
    intro f_law
    have b_isinstance := PySem.W.mg_none_of (n := "isinstance") KX G (by k_is)
    have b_int := PySem.W.mg_none_of (n := "int") KX G (by k_is)
    have b_len := PySem.W.mg_none_of (n := "len") KX G (by k_is)
    have b_abs := PySem.W.mg_none_of (n := "abs") KX G (by k_is)
    have b_range := PySem.W.mg_none_of (n := "range") KX G (by k_is)
    have b_min := PySem.W.mg_none_of (n := "min") KX G (by k_is)
    have b_repr := PySem.W.mg_none_of (n := "repr") KX G (by k_is)
    have b_ValueError := PySem.W.mg_none_of (n := "ValueError") KX G (by k_is)
    refine' K00.q_use c_BadAt ?yq ?_
    (case yq => k_exc)
    intro q_BadAt
    refine' K00.q_use c_BadBits ?yq ?_
    (case yq => k_exc)
    intro q_BadBits
    refine' K00.q_use c_BadBlock ?yq ?_
    (case yq => k_exc)
    intro q_BadBlock
    refine' K00.q_use c_BadBook ?yq ?_
    (case yq => k_exc)
    intro q_BadBook
    refine' K00.q_use c_BadBounds ?yq ?_
    (case yq => k_exc)
    intro q_BadBounds
    refine' K00.q_use c_BadChosen ?yq ?_
    (case yq => k_exc)
    intro q_BadChosen
    refine' K00.q_use c_BadCut ?yq ?_
    (case yq => k_exc)
    intro q_BadCut
    refine' K00.q_use c_BadDelay ?yq ?_
    (case yq => k_exc)
    intro q_BadDelay
    refine' K00.q_use c_BadError ?yq ?_
    (case yq => k_exc)
    intro q_BadError
    refine' K00.q_use c_BadField ?yq ?_
    (case yq => k_exc)
    intro q_BadField
    refine' K00.q_use c_BadFrame ?yq ?_
    (case yq => k_exc)
    intro q_BadFrame
    refine' K00.q_use c_BadGains ?yq ?_
    (case yq => k_exc)
    intro q_BadGains
    refine' K00.q_use c_BadGrade ?yq ?_
    (case yq => k_exc)
    intro q_BadGrade
    refine' K00.q_use c_BadGuess ?yq ?_
    (case yq => k_exc)
    intro q_BadGuess
    refine' K00.q_use c_BadHold ?yq ?_
    (case yq => k_exc)
    intro q_BadHold
    refine' K00.q_use c_BadHurt ?yq ?_
    (case yq => k_exc)
    intro q_BadHurt
    refine' K00.q_use c_BadIndex ?yq ?_
    (case yq => k_exc)
    intro q_BadIndex
    refine' K00.q_use c_BadKind ?yq ?_
    (case yq => k_exc)
    intro q_BadKind
    refine' K00.q_use c_BadLeast ?yq ?_
    (case yq => k_exc)
    intro q_BadLeast
    refine' K00.q_use c_BadLoss ?yq ?_
    (case yq => k_exc)
    intro q_BadLoss
    refine' K00.q_use c_BadLosses ?yq ?_
    (case yq => k_exc)
    intro q_BadLosses
    refine' K00.q_use c_BadLot ?yq ?_
    (case yq => k_exc)
    intro q_BadLot
    refine' K00.q_use c_BadLots ?yq ?_
    (case yq => k_exc)
    intro q_BadLots
    refine' K00.q_use c_BadMany ?yq ?_
    (case yq => k_exc)
    intro q_BadMany
    refine' K00.q_use c_BadMemory ?yq ?_
    (case yq => k_exc)
    intro q_BadMemory
    refine' K00.q_use c_BadMost ?yq ?_
    (case yq => k_exc)
    intro q_BadMost
    refine' K00.q_use c_BadNumber ?yq ?_
    (case yq => k_exc)
    intro q_BadNumber
    refine' K00.q_use c_BadOrder ?yq ?_
    (case yq => k_exc)
    intro q_BadOrder
    refine' K00.q_use c_BadOther ?yq ?_
    (case yq => k_exc)
    intro q_BadOther
    refine' K00.q_use c_BadPlace ?yq ?_
    (case yq => k_exc)
    intro q_BadPlace
    refine' K00.q_use c_BadPlan ?yq ?_
    (case yq => k_exc)
    intro q_BadPlan
    refine' K00.q_use c_BadPlane ?yq ?_
    (case yq => k_exc)
    intro q_BadPlane
    refine' K00.q_use c_BadPlanes ?yq ?_
    (case yq => k_exc)
    intro q_BadPlanes
    refine' K00.q_use c_BadPrice ?yq ?_
    (case yq => k_exc)
    intro q_BadPrice
    refine' K00.q_use c_BadRate ?yq ?_
    (case yq => k_exc)
    intro q_BadRate
    refine' K00.q_use c_BadReach ?yq ?_
    (case yq => k_exc)
    intro q_BadReach
    refine' K00.q_use c_BadRectangle ?yq ?_
    (case yq => k_exc)
    intro q_BadRectangle
    refine' K00.q_use c_BadReferences ?yq ?_
    (case yq => k_exc)
    intro q_BadReferences
    refine' K00.q_use c_BadRoom ?yq ?_
    (case yq => k_exc)
    intro q_BadRoom
    refine' K00.q_use c_BadRow ?yq ?_
    (case yq => k_exc)
    intro q_BadRow
    refine' K00.q_use c_BadSet ?yq ?_
    (case yq => k_exc)
    intro q_BadSet
    refine' K00.q_use c_BadShares ?yq ?_
    (case yq => k_exc)
    intro q_BadShares
    refine' K00.q_use c_BadShift ?yq ?_
    (case yq => k_exc)
    intro q_BadShift
    refine' K00.q_use c_BadShows ?yq ?_
    (case yq => k_exc)
    intro q_BadShows
    refine' K00.q_use c_BadSize ?yq ?_
    (case yq => k_exc)
    intro q_BadSize
    refine' K00.q_use c_BadSizes ?yq ?_
    (case yq => k_exc)
    intro q_BadSizes
    refine' K00.q_use c_BadSpans ?yq ?_
    (case yq => k_exc)
    intro q_BadSpans
    refine' K00.q_use c_BadSpot ?yq ?_
    (case yq => k_exc)
    intro q_BadSpot
    refine' K00.q_use c_BadState ?yq ?_
    (case yq => k_exc)
    intro q_BadState
    refine' K00.q_use c_BadTelling ?yq ?_
    (case yq => k_exc)
    intro q_BadTelling
    refine' K00.q_use c_BadUpper ?yq ?_
    (case yq => k_exc)
    intro q_BadUpper
    refine' K00.q_use c_BadVector ?yq ?_
    (case yq => k_exc)
    intro q_BadVector
    refine' K00.q_use c_BadWait ?yq ?_
    (case yq => k_exc)
    intro q_BadWait
    refine' K00.q_use c_BadWanted ?yq ?_
    (case yq => k_exc)
    intro q_BadWanted
    refine' K00.q_use c_BadWay ?yq ?_
    (case yq => k_exc)
    intro q_BadWay
    refine' K00.q_use c_BadWish ?yq ?_
    (case yq => k_exc)
    intro q_BadWish
    refine' K00.q_use c_BadWorths ?yq ?_
    (case yq => k_exc)
    intro q_BadWorths
    refine' K00.q_use c_NothingDone ?yq ?_
    (case yq => k_exc)
    intro q_NothingDone
    refine' K00.q_use c_OtherKinds ?yq ?_
    (case yq => k_exc)
    intro q_OtherKinds
    refine' K00.q_use c_OtherShapes ?yq ?_
    (case yq => k_exc)
    intro q_OtherShapes
    refine' K00.top_use (T := R) (.cons c_BadAt (.cons c_BadBits (.cons c_BadBlock (.cons c_BadBook (.cons c_BadBounds (.cons c_BadChosen (.cons c_BadCosts (.cons c_BadCut (.cons c_BadDelay (.cons c_BadError (.cons c_BadField (.cons c_BadFrame (.cons c_BadFrames (.cons c_BadGains (.cons c_BadGrade (.cons c_BadGuess (.cons c_BadHead (.cons c_BadHold (.cons c_BadHurt (.cons c_BadIndex (.cons c_BadItem (.cons c_BadJobs (.cons c_BadKind (.cons c_BadLeast (.cons c_BadLoss (.cons c_BadLosses (.cons c_BadLot (.cons c_BadLots (.cons c_BadMany (.cons c_BadMemory (.cons c_BadMode (.cons c_BadMost (.cons c_BadNumber (.cons c_BadOrder (.cons c_BadOther (.cons c_BadPlace (.cons c_BadPlan (.cons c_BadPlane (.cons c_BadPlanes (.cons c_BadPrice (.cons c_BadRate (.cons c_BadReach (.cons c_BadRectangle (.cons c_BadReel (.cons c_BadReferences (.cons c_BadRenewals (.cons c_BadRoom (.cons c_BadRow (.cons c_BadSet (.cons c_BadShape (.cons c_BadShares (.cons c_BadShift (.cons c_BadShows (.cons c_BadSize (.cons c_BadSizes (.cons c_BadSpans (.cons c_BadSpot (.cons c_BadState (.cons c_BadStock (.cons c_BadStore (.cons c_BadStream (.cons c_BadStretch (.cons c_BadTelling (.cons c_BadUpper (.cons c_BadVector (.cons c_BadWait (.cons c_BadWanted (.cons c_BadWay (.cons c_BadWeb (.cons c_BadWish (.cons c_BadWorths (.cons c_NotNow (.cons c_NothingDone (.cons c_OtherKinds (.cons c_OtherShapes (.cons c_TooMany .nil)))))))))))))))))))))))))))))))))))))))))))))))))))))))))))))))))))))))))))) rfl (by decide) eR ?y5 ?y6 ?yr ?_
    (case y5 => k_is); (case y6 => k_is); (case yr => k_is)
    intro tx tkit tkR tkV tkeep
    exact K00.law_at { reel := R, C := fun i => List.getD _ i 0, x := tx, kit := tkit, kitR := tkR, kitV := tkV, keep := tkeep, q_BadAt := q_BadAt, q_BadBits := q_BadBits, q_BadBlock := q_BadBlock, q_BadBook := q_BadBook, q_BadBounds := q_BadBounds, q_BadChosen := q_BadChosen, q_BadCut := q_BadCut, q_BadDelay := q_BadDelay, q_BadError := q_BadError, q_BadField := q_BadField, q_BadFrame := q_BadFrame, q_BadGains := q_BadGains, q_BadGrade := q_BadGrade, q_BadGuess := q_BadGuess, q_BadHold := q_BadHold, q_BadHurt := q_BadHurt, q_BadIndex := q_BadIndex, q_BadKind := q_BadKind, q_BadLeast := q_BadLeast, q_BadLoss := q_BadLoss, q_BadLosses := q_BadLosses, q_BadLot := q_BadLot, q_BadLots := q_BadLots, q_BadMany := q_BadMany, q_BadMemory := q_BadMemory, q_BadMost := q_BadMost, q_BadNumber := q_BadNumber, q_BadOrder := q_BadOrder, q_BadOther := q_BadOther, q_BadPlace := q_BadPlace, q_BadPlan := q_BadPlan, q_BadPlane := q_BadPlane, q_BadPlanes := q_BadPlanes, q_BadPrice := q_BadPrice, q_BadRate := q_BadRate, q_BadReach := q_BadReach, q_BadRectangle := q_BadRectangle, q_BadReferences := q_BadReferences, q_BadRoom := q_BadRoom, q_BadRow := q_BadRow, q_BadSet := q_BadSet, q_BadShares := q_BadShares, q_BadShift := q_BadShift, q_BadShows := q_BadShows, q_BadSize := q_BadSize, q_BadSizes := q_BadSizes, q_BadSpans := q_BadSpans, q_BadSpot := q_BadSpot, q_BadState := q_BadState, q_BadTelling := q_BadTelling, q_BadUpper := q_BadUpper, q_BadVector := q_BadVector, q_BadWait := q_BadWait, q_BadWanted := q_BadWanted, q_BadWay := q_BadWay, q_BadWish := q_BadWish, q_BadWorths := q_BadWorths, q_NothingDone := q_NothingDone, q_OtherKinds := q_OtherKinds, q_OtherShapes := q_OtherShapes, g_BadAt := c_BadAt.g, g_BadBits := c_BadBits.g, g_BadBlock := c_BadBlock.g, g_BadBook := c_BadBook.g, g_BadBounds := c_BadBounds.g, g_BadChosen := c_BadChosen.g, g_BadCosts := c_BadCosts.g, g_BadCut := c_BadCut.g, g_BadDelay := c_BadDelay.g, g_BadError := c_BadError.g, g_BadField := c_BadField.g, g_BadFrame := c_BadFrame.g, g_BadFrames := c_BadFrames.g, g_BadGains := c_BadGains.g, g_BadGrade := c_BadGrade.g, g_BadGuess := c_BadGuess.g, g_BadHead := c_BadHead.g, g_BadHold := c_BadHold.g, g_BadHurt := c_BadHurt.g, g_BadIndex := c_BadIndex.g, g_BadItem := c_BadItem.g, g_BadJobs := c_BadJobs.g, g_BadKind := c_BadKind.g, g_BadLeast := c_BadLeast.g, g_BadLoss := c_BadLoss.g, g_BadLosses := c_BadLosses.g, g_BadLot := c_BadLot.g, g_BadLots := c_BadLots.g, g_BadMany := c_BadMany.g, g_BadMemory := c_BadMemory.g, g_BadMode := c_BadMode.g, g_BadMost := c_BadMost.g, g_BadNumber := c_BadNumber.g, g_BadOrder := c_BadOrder.g, g_BadOther := c_BadOther.g, g_BadPlace := c_BadPlace.g, g_BadPlan := c_BadPlan.g, g_BadPlane := c_BadPlane.g, g_BadPlanes := c_BadPlanes.g, g_BadPrice := c_BadPrice.g, g_BadRate := c_BadRate.g, g_BadReach := c_BadReach.g, g_BadRectangle := c_BadRectangle.g, g_BadReel := c_BadReel.g, g_BadReferences := c_BadReferences.g, g_BadRenewals := c_BadRenewals.g, g_BadRoom := c_BadRoom.g, g_BadRow := c_BadRow.g, g_BadSet := c_BadSet.g, g_BadShape := c_BadShape.g, g_BadShares := c_BadShares.g, g_BadShift := c_BadShift.g, g_BadShows := c_BadShows.g, g_BadSize := c_BadSize.g, g_BadSizes := c_BadSizes.g, g_BadSpans := c_BadSpans.g, g_BadSpot := c_BadSpot.g, g_BadState := c_BadState.g, g_BadStock := c_BadStock.g, g_BadStore := c_BadStore.g, g_BadStream := c_BadStream.g, g_BadStretch := c_BadStretch.g, g_BadTelling := c_BadTelling.g, g_BadUpper := c_BadUpper.g, g_BadVector := c_BadVector.g, g_BadWait := c_BadWait.g, g_BadWanted := c_BadWanted.g, g_BadWay := c_BadWay.g, g_BadWeb := c_BadWeb.g, g_BadWish := c_BadWish.g, g_BadWorths := c_BadWorths.g, g_NotNow := c_NotNow.g, g_NothingDone := c_NothingDone.g, g_OtherKinds := c_OtherKinds.g, g_OtherShapes := c_OtherShapes.g, g_TooMany := c_TooMany.g, _law_begun := f__law_begun, _law_draw := f__law_draw, _law_pick := f__law_pick, _law_odd := f__law_odd, _law_kinds_a := f__law_kinds_a, _law_kinds_b := f__law_kinds_b, _law_kinds_c := f__law_kinds_c, _law_kinds_d := f__law_kinds_d, _law_kinds_e := f__law_kinds_e, _law_plain_a := f__law_plain_a, _law_plain_b := f__law_plain_b, _law_plain_c := f__law_plain_c, _law_held := f__law_held, _law_held_by_name := f__law_held_by_name, _law_is_alone := f__law_is_alone, law := f_law, b_isinstance := b_isinstance, b_int := b_int, b_len := b_len, b_abs := b_abs, b_range := b_range, b_min := b_min, b_repr := b_repr, b_ValueError := b_ValueError } { BadCosts := h_BadCosts, BadFrames := h_BadFrames, BadHead := h_BadHead, BadItem := h_BadItem, BadJobs := h_BadJobs, BadMode := h_BadMode, BadReel := h_BadReel, BadRenewals := h_BadRenewals, BadShape := h_BadShape, BadStock := h_BadStock, BadStore := h_BadStore, BadStream := h_BadStream, BadStretch := h_BadStretch, BadWeb := h_BadWeb, NotNow := h_NotNow, TooMany := h_TooMany } hmg

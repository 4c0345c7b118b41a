import PyProof.Rows.All
import Wide.All
import OpenK.AllK
import Wide.FinOn
import HandS.ForMost
import HandS.RaiseMore
import HandS.Strs
import HandS.SetFor
import HandS.Conv
import HandS.Wide
import HandS.IsInst
import HandS.Codes
import HandS.TupAny
import PySem.Challenge.RW_evenfailover_k04_sets_of_any_value
set_option Elab.async false
set_option linter.all false
set_option maxRecDepth 100000
set_option maxHeartbeats 4000000
namespace Ef
open PySem PySem.Spec PyProof.Rows L2
/-! ### a call whose arguments are all given by name -/
def permL {α : Type} (perm : List Nat) (n : Nat) (us ws : List α) : List α :=
  if us.length = 0 ∧ ws.length = n then perm.filterMap (fun i => ws[i]?) else []
theorem paired_len {α β : Type} {F : α → β → Prop} : ∀ {l : List α} {m : List β}, Paired F l m → l.length = m.length
  | _, _, .nil => rfl
  | _, _, .cons _ t => congrArg (· + 1) (paired_len t)
theorem paired_at {α β : Type} {F : α → β → Prop} : ∀ {l : List α} {m : List β}, Paired F l m → ∀ i : Nat, (l[i]? = none ∧ m[i]? = none) ∨ ∃ x y, l[i]? = some x ∧ m[i]? = some y ∧ F x y
  | _, _, .nil, _ => .inl ⟨rfl, rfl⟩
  | _, _, .cons h _, 0 => .inr ⟨_, _, rfl, rfl, h⟩
  | _, _, .cons _ t, i + 1 => by
    rw [List.getElem?_cons_succ, List.getElem?_cons_succ]
    exact paired_at t i
theorem paired_pick {α β : Type} {F : α → β → Prop} {l : List α} {m : List β} (h : Paired F l m) : ∀ perm : List Nat, Paired F (perm.filterMap (fun i => l[i]?)) (perm.filterMap (fun i => m[i]?))
  | [] => .nil
  | i :: r => by
    rcases paired_at h i with ⟨e1, e2⟩ | ⟨x, y, e1, e2, f⟩
    · rw [List.filterMap_cons_none e1, List.filterMap_cons_none e2]
      exact paired_pick h r
    · rw [List.filterMap_cons_some e1, List.filterMap_cons_some e2]
      exact .cons f (paired_pick h r)
theorem permL_rel {perm : List Nat} {n : Nat} {vs zs : List V} {us ws : List Value} (r : Vals vs us) (rz : Vals zs ws) : Vals (permL perm n vs zs) (permL perm n us ws) := by
  unfold permL
  rw [paired_len r, paired_len rz]
  by_cases h : us.length = 0 ∧ ws.length = n
  · rw [if_pos h, if_pos h]
    exact paired_pick rz perm
  · rw [if_neg h, if_neg h]
    exact .nil
theorem kb_of {K : PySem.W.Frag} {fd : FuncData} {ps ks : List Str} {perm : List Nat} {n : Nat} (h0 : ps ≠ [])
    (h : ∀ ws : List Value, ws.length = n → bindArgs fd ⟨[], ks.zip ws⟩ = pure (ps.zip (perm.filterMap (fun i => ws[i]?)))) :
    KBinds K fd ps ks (permL perm n) (permL perm n) := by
  refine ⟨fun s us ws _ hl => ?_, fun r rz => permL_rel r rz⟩
  unfold permL at hl ⊢
  by_cases c : us.length = 0 ∧ ws.length = n
  · rw [if_pos c]
    have e : us = [] := List.length_eq_zero_iff.mp c.1
    subst e
    exact .of_eq (h ws c.2)
  · rw [if_neg c] at hl
    exact absurd (List.length_eq_zero_iff.mp hl.symm) h0
theorem Fun_kb {K : PySem.W.Frag} {x qual : Str} {st : Stmt} {f : Addr} {fd : FuncData} {ps ks : List Str} (perm : List Nat) (n : Nat) (F : Fun K x qual st f fd) (h0 : ps ≠ [])
    (h : ∀ (kV doc pm : Value) (an : Option Addr) (cdv ct : Value) (ws : List Value), ws.length = n → bindArgs (PySem.W.fnOf x qual (defArgs st) (defBody st) (defScope st) .none kV doc pm an cdv ct) ⟨[], ks.zip ws⟩ = pure (ps.zip (perm.filterMap (fun i => ws[i]?)))) :
    KBinds K fd ps ks (permL perm n) (permL perm n) := by
  obtain ⟨oc, od, kV, doc, pm, an, cdv, ct, osl, rfl, lk, hcd⟩ := F.ex
  exact kb_of h0 (h kV doc pm an cdv ct)
section
variable {X : Cx} {CX : CXT} {k : Nat} {f : Addr} {fd : FuncData} {ps ks : List Str} {sp : Sp} {E : XK} {x : Str} {p pos : Pos} {kws : List Keyword} {tk : TA}
variable {g : List Value → List Value → List Value} {gV : List V → List V → List V}
/-- f(k = v, ..) -/
theorem pe_kw (F : FnOk X.prog X.w X.K X.mg X.base CX k f fd ps sp) (hr : Room k X.A) (hg : Gl X x) (hm : X.mg x = some (.ref f))
    (hk : PySem.W.keepIn X.K (.ref f) = true) (hb : KBinds X.K fd ps ks g gV) (hx : Passes CX X E) (hkw : PK X kws tk)
    (a1 : (backToKw pos (keywordEach kws X.env)).all (fun z => z.1.isSome) = true := by rfl)
    (a2 : (backToKw pos (keywordEach kws X.env)).filterMap (fun z => z.1) = ks := by rfl)
    (a3 : (x == ("__debug__" : Str)) = false := by decide)
    (a4 : ((backTo pos (starEach [] X.env)).any (fun z => z.1) || (backToKw pos (keywordEach kws X.env)).any (fun z => z.1.isNone)) = false := by rfl) :
    PE X (.Call (.Name x p) [] kws pos) (tCallK sp gV E tNil tk) := by
  refine ⟨fun pins s σ H Q I h => wpAny_Call_Name_kw (ld_glob I hg hm ?_ a3)⟩
  refine PySem.W.callWith_KW0 (h₀ := X.base) I.ok.mod.kin hk a1 ?_ a4
  refine thn (hkw.run pos pins s σ H _ I h) fun ws s2 z => ?_
  obtain ⟨zs, H2, I2, rz, q2⟩ := z
  refine ⟨I2.kIn, ?_⟩
  rw [a2]
  exact run_fnk (us := []) (vs := []) F hr hb hx I2 .nil rz q2
end
/-! ### heaps -/
theorem same_new {H : Hp} {p : Addr} {o : HO} (h : H p = none) : Same H (upd H p o) := fun b x e => by
  rw [upd_ne (ne_of_none e h)]
  exact e
theorem keep_upd {H H1 : Hp} {p : Addr} {o : HO} (s : Same H H1) (h : H p = none) : Same H (upd H1 p o) := fun b x e => by
  rw [upd_ne (ne_of_none e h)]
  exact s b x e
/-- all but what stands at p is as it was -/
def But (p : Addr) (H H' : Hp) : Prop := ∀ b o, b ≠ p → H b = some o → H' b = some o
theorem But.refl (p : Addr) (H : Hp) : But p H H := fun _ _ _ e => e
theorem But.trans {p : Addr} {H H1 H2 : Hp} (s : But p H H1) (t : But p H1 H2) : But p H H2 := fun b o n e => t b o n (s b o n e)
theorem But.same {p : Addr} {H H1 H2 : Hp} (s : But p H H1) (t : Same H1 H2) : But p H H2 := fun b o n e => t b o (s b o n e)
theorem But.of {p : Addr} {H H1 : Hp} (t : Same H H1) : But p H H1 := fun b o _ e => t b o e
theorem But.upd {p : Addr} {H H1 : Hp} {o : HO} (s : But p H H1) : But p H (upd H1 p o) := fun b x n e => by
  rw [upd_ne n]
  exact s b x n e
theorem But.to {p : Addr} {H H1 : Hp} (s : But p H H1) (h : H p = none) : Same H H1 := fun b x e => s b x (ne_of_none e h) e
theorem But.seq {K : PySem.W.Frag} {p a : Addr} {H H' : Hp} {xs : List V} (e : But p H H') (n : a ≠ p) (h : SqL K H a xs) : SqL K H' a xs := by
  rcases h with (h | ⟨o, h⟩) | h
  · exact .inl (.inl (e _ _ n h))
  · exact .inl (.inr ⟨o, e _ _ n h⟩)
  · exact .inr h
end Ef
namespace Ef
open PySem PySem.Spec PyProof.Rows L2
/-! ### promises of defs that are called where no repr is under way -/
structure FnG (P : Program) (w : World) (K : PySem.W.Frag) (mg : Str → Option Value) (base : Heap) (CX : CXT) (k : Nat) (f : Addr) (fd : FuncData) (ps : List Str) (sp : Sp) : Prop where
  len : ∀ vs H Q E, sp vs H Q E → vs.length = ps.length
  run : ∀ (A : Around), A.guards = some [] → ∀ (outer : List Env) (s : Shared) (H : Hp) (args : Args) (us : List Value) (vs : List V) (Q : VK) (E : XK),
    Room k A → Env0 P w K mg base A outer s H → BindsTo s fd args (ps.zip us) → Vals vs us → sp vs H Q E →
      codeAny (model P w) A (.call (.ref f) args) (CR CX outer P w H s Q E) s
section
variable {P : Program} {w : World} {K : PySem.W.Frag} {mg : Str → Option Value} {base : Heap} {CX : CXT}
theorem FnG.of {k : Nat} {f : Addr} {fd : FuncData} {ps : List Str} {sp : Sp} (F : FnOk P w K mg base CX k f fd ps sp) : FnG P w K mg base CX k f fd ps sp :=
  ⟨F.len, fun A _ outer s H args us vs Q E => F.run A outer s H args us vs Q E⟩
theorem Fun_okG {x qual : Str} {st : Stmt} {f : Addr} {fd : FuncData} {N ps : List Str} {k : Nat} {sp : Sp} (F : Fun K x qual st f fd) (S : FnScope N ps (defScope st)) (len : ∀ vs H Q E, sp vs H Q E → vs.length = ps.length)
    (bod : ∀ (cdv : Value) (A : Around) (outer : List Env) (s : Shared) (H : Hp) (vs : List V) (Q : VK) (E : XK), A.guards = some [] → Room k (A.deeper (envOfC qual (defScope st) s.heap.objs.size f cdv)) → sp vs H Q E →
      ∃ t, PSs (cxOf CX P w K mg base N qual (defScope st) f cdv A outer s H E) (defBody st) t ∧ t { nx := fun _ H' => Q .non H', rt := Q } (start N vs) H) :
    FnG P w K mg base CX (k + 1) f fd ps sp := by
  obtain ⟨oc, od, kV, doc, pm, an, cdv, ct, osl, rfl, lk, hcd⟩ := F.ex
  refine ⟨len, fun A gd outer s H args us vs Q E room e0 bnd rel wish => ?_⟩
  have kin : K.In s.heap := e0.mod.kin.keeps fun b o z => (e0.bs b o z).1
  have nolim : s.heap.NoLimit := e0.mod.nolimit.keeps fun b o z => (e0.bs b o z).1
  refine codeAny_call_function room.depth (kin _ _ lk) rfl S.co S.gen rfl (PySem.W.codeRec_of kin hcd) (bnd _ _ _ _ ?_)
  refine wpAny_newFunctionEnv_cells S.kind ?_ fun env hev s1 ic => ?_
  · rintro ⟨n, v⟩ hy
    rcases S.par n (List.of_mem_zip hy).1 with z | z
    · exact .inl z
    · exact .inr ⟨z, PySem.W.cellsFrom_some _ _ _ (.inl z)⟩
  · subst hev
    refine ⟨nolim.keeps ic.toInCall.keep, codeAny_func ?_⟩
    obtain ⟨t, pt, rd⟩ := bod cdv A outer s H vs Q E gd (room.deeper _) wish
    have J0 := inv_start (CX := CX) (E := E) S room.hd e0 (len _ _ _ _ wish) rel ic
    refine wpAny_mono (pt.run [] s1 (start N vs) H _ J0 rd) (fun fl s' got => ?_) fun e s' got => got
    cases fl with
    | brk =>
      obtain ⟨_, _, _, z⟩ := got
      exact z.elim
    | cont =>
      obtain ⟨_, _, _, z⟩ := got
      exact z.elim
    | next =>
      obtain ⟨σ', H', J, z⟩ := got
      exact ⟨V.non, H', J.os, J.bare, J.base, J.hok, (rfl : RelV V.non Value.none), z⟩
    | ret u =>
      obtain ⟨v, σ', H', J, rv, z⟩ := got
      exact ⟨v, H', J.os, J.bare, J.base, J.hok, rv, z⟩
end
/-- the same of a def that lets no exception out -/
theorem Fun_ok0 {P : Program} {w : World} {K : PySem.W.Frag} {mg : Str → Option Value} {base : Heap} {x qual : Str} {st : Stmt} {f : Addr} {fd : FuncData} {N ps : List Str} {k : Nat} {sp : Sp} (F : Fun K x qual st f fd) (S : FnScope N ps (defScope st)) (len : ∀ vs H Q E, sp vs H Q E → vs.length = ps.length)
    (bod : ∀ (cdv : Value) (A : Around) (outer : List Env) (s : Shared) (H : Hp) (vs : List V) (Q : VK) (E : XK), A.guards = some [] → Room k (A.deeper (envOfC qual (defScope st) s.heap.objs.size f cdv)) → sp vs H Q E →
      ∃ t, PSs (cxOf CX0 P w K mg base N qual (defScope st) f cdv A outer s H E).nox (defBody st) t ∧ t { nx := fun _ H' => Q .non H', rt := Q } (start N vs) H) :
    FnG P w K mg base CX0 (k + 1) f fd ps sp :=
  Fun_okG F S len fun cdv A outer s H vs Q E gd room wish => by
    obtain ⟨t, pt, rd⟩ := bod cdv A outer s H vs Q E gd room wish
    exact ⟨t, pt.nox, rd⟩
section
variable {X : Cx} {CX : CXT} {k : Nat} {f : Addr} {fd : FuncData} {ps : List Str} {sp : Sp} {E : XK} {x : Str} {p pos : Pos} {e : Expr} {es : List Expr} {t : TA}
theorem run_G {pins : List (Addr × Obj)} {σ : L2.St} {H : Hp} {s : Shared} {Q : VK} {us : List Value} {vs : List V} (F : FnG X.prog X.w X.K X.mg X.base CX k f fd ps sp)
    (gd : X.A.guards = some []) (room : Room k X.A) (bnd : Binds X.K fd ps []) (pass : Passes CX X E) (I : Inv X pins σ H s) (rel : Vals vs us) (wish : sp vs H Q E) :
    wpAny (model X.prog X.w) X.A (call (.ref f) us) (EP X pins σ Q) X.xe s := by
  have hl : (us ++ []).length = ps.length := by
    rw [List.append_nil, ← rel.length]
    exact F.len _ _ _ _ wish
  have b1 := bnd s us I.kIn hl
  rw [List.append_nil] at b1
  refine wpAny_call (codeAny_mono (F.run X.A gd X.stack s H ⟨us, []⟩ us vs Q E room I.env0 b1 rel wish) fun res s' got => ?_)
  cases res with
  | error z => exact pass pins σ H s z s' I got
  | ok fl =>
    cases fl with
    | ret u => exact I.after got
    | next => exact got.elim
    | brk => exact got.elim
    | cont => exact got.elim
/-- f(e, ..) of a def whose promise holds where no repr is under way -/
theorem pe_callG (F : FnG X.prog X.w X.K X.mg X.base CX k f fd ps sp) (gd : X.A.guards = some []) (room : Room k X.A) (hg : Gl X x) (hm : X.mg x = some (.ref f))
    (hk : PySem.W.keepIn X.K (.ref f) = true) (bnd : Binds X.K fd ps []) (pass : Passes CX X E) (ha : PA X (e :: es) t)
    (a1 : (x == ("__debug__" : Str)) = false := by decide) (a2 : starEach (e :: es) X.env = (false, eval e X.env) :: starEach es X.env := by rfl)
    (a3 : (backTo pos (starEach es X.env)).any (fun z => z.1) = false := by rfl) :
    PE X (.Call (.Name x p) (e :: es) [] pos) (tCall sp [] E t) := by
  refine ⟨fun pins s σ H Q I h => wpAny_Call_Name_kw (ld_glob I hg hm ?_ a1)⟩
  refine PySem.W.callWith_K (h₀ := X.base) I.ok.mod.kin hk (thn (ha.run pos pins s σ H _ I h) fun us s1 z => ?_) a2 a3
  obtain ⟨vs, H1, I1, r, q⟩ := z
  rw [List.append_nil] at q
  exact ⟨I1.kIn, run_G F gd room bnd pass I1 r q⟩
end
/-! ### the law's own end, where no repr is under way -/
def scriptObj (vs : List Value) : Obj := { cls := .type "list", data := .seq vs.toArray }
def scriptHp (K : PySem.W.Frag) (a : Addr) (vs : List Value) (ns : List Int) : Hp := fun b => if b = a ∧ K.lookup a = none then some (.frz (scriptObj vs) (.lst (ns.map V.int))) else none
section
variable {K : PySem.W.Frag} {a : Addr} {vs : List Value} {ns : List Int}
theorem scriptHp_only : Only (scriptHp K a vs ns) := fun b => by
  unfold scriptHp
  by_cases c : b = a ∧ K.lookup a = none
  · exact .inr ⟨_, _, if_pos c⟩
  · exact .inl (if_neg c)
theorem scriptHp_some {b : Addr} {u : HO} (h : scriptHp K a vs ns b = some u) : b = a ∧ K.lookup a = none ∧ u = .frz (scriptObj vs) (.lst (ns.map V.int)) := by
  unfold scriptHp at h
  by_cases c : b = a ∧ K.lookup a = none
  · rw [if_pos c] at h
    exact ⟨c.1, c.2, (Option.some.inj h).symm⟩
  · rw [if_neg c] at h
    cases h
theorem scriptHp_none {b : Addr} {o : Obj} {h : Heap} (ha : h.get? a = some (scriptObj vs)) (e : h.get? b = some o) (hd : ∀ its n, o.data ≠ .seq its n) : scriptHp K a vs ns b = none := by
  cases q : scriptHp K a vs ns b with
  | none => rfl
  | some u =>
    obtain ⟨rfl, _, _⟩ := scriptHp_some q
    rw [ha] at e
    cases e
    exact absurd rfl (hd vs.toArray _)
theorem lawG {l : PySem.W.OpenLaw} {n k : Nat} {q : Program} {loose : List Str} {XP : (Str → Option Value) → Heap → Prop} {YP : World → Heap → Prop} {d : DefRec} {K : Params → PySem.W.Frag} {sp : World → Sp} {x : Str}
    (hn : l.most = some n) (hn2 : n ≤ sizeLine) (hdf : d.params.defaults = []) (room : Room k callerA)
    (hY : ∀ (w : World) (h : Heap), YP w h → (K w.params).In h)
    (F : ∀ (w : World) (mg : Str → Option Value) (fa : Addr) (h : Heap), (K w.params).In h → h.Ns mainGlobals mg → mg d.name = some (.ref fa) →
      ∃ fd : FuncData, (∀ (s : Shared) (u : Value), BindsTo s fd ⟨[u], []⟩ [(x, u)]) ∧
        ∀ base : Heap, (K w.params).In base → base.Ns mainGlobals mg → FnG l.prog w (K w.params) mg base CX0 k fa fd [x] (sp w))
    (hsp : ∀ (w : World) (H : Hp) (a : Addr) (ns : List Int), ns.length ≤ n → Only H → SqL (K w.params) H a (ns.map V.int) → sp w [.ref a] H (fun v _ => v = .bl true) fun _ _ _ => False) :
    PySem.W.WalkO q loose XP YP l.row.toRowW d [] (fun f vs => PySem.call f vs) := by
  refine Att.attach_call hn hdf fun w s₀ s₁ mg mb fa o pm cd doc a vs ns G Y ho hd hcd hmg hobj hints hlen hgen => ?_
  have kin := hY w _ Y
  obtain ⟨fd, bnd, FF⟩ := F w mg fa _ kin G.T.g hmg
  have ha : s₁.heap.get? a = some (scriptObj vs) := hobj
  have short : ns.length ≤ sizeLine := Nat.le_trans hlen hn2
  have keep0 : ∀ {b : Addr} {o : Obj}, s₁.heap.get? b = some o → scriptHp (K w.params) a vs ns b = none → (hidT s₁.heap (scriptHp (K w.params) a vs ns)).get? b = some o := fun e z => hidT_get e z
  have nsK : ∀ {b : Addr} {m : Str → Option Value}, s₁.heap.Ns b m → (hidT s₁.heap (scriptHp (K w.params) a vs ns)).Ns b m := by
    rintro b m ⟨o, es, ep, e, dd, r⟩
    exact ⟨o, es, ep, keep0 e (scriptHp_none ha e fun its n z => by rw [dd] at z; cases z), dd, r⟩
  have kinB : (K w.params).In (hidT s₁.heap (scriptHp (K w.params) a vs ns)) := fun b o e => keep0 (kin b o e) (by
    cases z : scriptHp (K w.params) a vs ns b with
    | none => rfl
    | some u =>
      obtain ⟨rfl, z2, _⟩ := scriptHp_some z
      rw [z2] at e
      cases e)
  have hM : Mod (K w.params) mg (hidT s₁.heap (scriptHp (K w.params) a vs ns)) := by
    obtain ⟨mc, h1, h2⟩ := G.T.nolimit
    exact ⟨kinB, nsK G.T.g, ⟨mb, nsK G.T.b, G.T.builtins⟩, ⟨mc, nsK h1, h2⟩⟩
  have hok : HOk l.prog w (scriptHp (K w.params) a vs ns) s₁.heap := fun b u z => by
    obtain ⟨rfl, _, rfl⟩ := scriptHp_some z
    exact ⟨ha, by rw [List.length_map]; exact short, vs, _, vals_ints hints, ha⟩
  have hS : SqL (K w.params) (scriptHp (K w.params) a vs ns) a (ns.map V.int) := by
    cases hk : (K w.params).lookup a with
    | none => exact .inl (.inr ⟨scriptObj vs, if_pos ⟨rfl, hk⟩⟩)
    | some o =>
      have e := kin a o hk
      rw [ha] at e
      obtain rfl := Option.some.inj e
      exact .inr ⟨_, vs.toArray, _, hk, rfl, rfl, rfl, by rw [List.size_toArray, hints.length]; exact short, by simpa using vals_ints hints⟩
  have e0 : Env0 l.prog w (K w.params) mg (hidT s₁.heap (scriptHp (K w.params) a vs ns)) callerA [] s₁ (scriptHp (K w.params) a vs ns) :=
    ⟨rfl, hM, fun b o e => of_hidT e, Nat.le_of_eq (hidT_size _ _), trivial, fun b z => absurd (show b ∈ ([] : List Addr) from z) (by simp), hok, .of_eq hgen⟩
  refine codeAny_mono ((FF _ kinB (nsK G.T.g)).run callerA rfl [] s₁ _ ⟨[.ref a], []⟩ [.ref a] [.ref a] _ _ room e0 (bnd s₁ (.ref a)) (.cons rfl .nil) (hsp w _ a ns hlen scriptHp_only hS)) fun r s' got => ?_
  cases r with
  | error e => exact got.elim
  | ok fl =>
    cases fl with
    | next => exact got.elim
    | brk => exact got.elim
    | cont => exact got.elim
    | ret u =>
      obtain ⟨v, H', os, bare, un, hok', rv, z⟩ := got
      obtain rfl : v = .bl true := z
      obtain rfl : u = Value.bool true := rv
      refine ⟨rfl, OldK.of_keep fun b o e => ?_, os, bare⟩
      cases z : scriptHp (K w.params) a vs ns b with
      | none => exact un.keep b o e z (fun y => absurd (show b ∈ ([] : List Addr) from y) (by simp)) (by simp)
      | some u =>
        obtain ⟨_, _, rfl⟩ := scriptHp_some z
        have z2 := un.frzs b _ _ z
        obtain ⟨e1, _⟩ := hok b _ z
        obtain ⟨e2, _⟩ := hok' b _ z2
        rw [e] at e1
        obtain rfl := Option.some.inj e1
        exact e2
end
/-! ### repr of data -/
theorem Dp_ref {K : PySem.W.Frag} {H : Hp} {v : V} {d : PyData} (h : Dp K H v d) : (∃ a, v = .ref a) ∨ (v = .non ∧ d = .none) ∨ (∃ b, v = .bl b ∧ d = .bool b) ∨ (∃ i, v = .int i ∧ d = .int i) ∨ ∃ x, v = .str x ∧ d = .str x := by
  cases h with
  | non => exact .inr (.inl ⟨rfl, rfl⟩)
  | bl b => exact .inr (.inr (.inl ⟨b, rfl, rfl⟩))
  | int i => exact .inr (.inr (.inr (.inl ⟨i, rfl, rfl⟩)))
  | str x => exact .inr (.inr (.inr (.inr ⟨x, rfl, rfl⟩)))
  | lst _ _ => exact .inl ⟨_, rfl⟩
  | tup _ _ => exact .inl ⟨_, rfl⟩
/-- data that can be shown: not deeper than dp, not heavier than wt -/
structure Sh (dp wt : Nat) (d : PyData) : Prop where
  can : d.canLay0 = true
  dep : d.depth ≤ dp
  shw : d.showable = true
  lvs : d.leavesShort 200 = true
  wgt : d.weight ≤ wt
structure ShAll (dp wt : Nat) (ds : List PyData) : Prop where
  can : PyData.canLayAll0 ds = true
  dep : PyData.depthAll ds ≤ dp
  shw : PyData.showableAll ds = true
  lvs : PyData.leavesShortAll 200 ds = true
  wgt : PyData.weightAll ds ≤ wt
theorem Sh.mono {dp wt dp' wt' : Nat} {d : PyData} (h : Sh dp wt d) (h1 : dp ≤ dp') (h2 : wt ≤ wt') : Sh dp' wt' d := ⟨h.can, Nat.le_trans h.dep h1, h.shw, h.lvs, Nat.le_trans h.wgt h2⟩
theorem ShAll.mono {dp wt dp' wt' : Nat} {ds : List PyData} (h : ShAll dp wt ds) (h1 : dp ≤ dp') (h2 : wt ≤ wt') : ShAll dp' wt' ds := ⟨h.can, Nat.le_trans h.dep h1, h.shw, h.lvs, Nat.le_trans h.wgt h2⟩
theorem Sh.none : Sh 0 0 .none := ⟨rfl, Nat.le_refl _, rfl, rfl, Nat.le_refl _⟩
theorem Sh.bool (b : Bool) : Sh 0 0 (.bool b) := ⟨rfl, Nat.le_refl _, rfl, rfl, Nat.le_refl _⟩
theorem Sh.int {b : Nat} (h0 : 0 < b) (h6 : b ≤ 600) {i : Int} (h : i.natAbs < 2 ^ b) : Sh 0 b (.int i) := by
  have l2 := PySem.Flt.log2_lt_of h0 h
  refine ⟨rfl, Nat.le_refl _, decide_eq_true (by omega), decide_eq_true ?_, ?_⟩
  · have h1 : i.natAbs < 10 ^ 199 := Nat.lt_of_lt_of_le h (Nat.le_trans (Nat.pow_le_pow_right (by decide) h6) (by decide +kernel))
    have e := int_text_length_le10 (k := 199) (by decide) h1
    show (Str.ofString (toString i)).length ≤ 200
    rw [PySem.ofString_length]
    exact e
  · show (if i == 0 then 0 else i.natAbs.log2 + 1) ≤ b
    split <;> omega
theorem Sh.tup {dp wt : Nat} {ds : List PyData} (h : ShAll dp wt ds) : Sh (dp + 1) wt (.tuple ds) := ⟨h.can, Nat.add_le_add_right h.dep 1, h.shw, h.lvs, h.wgt⟩
theorem Sh.lst {dp wt : Nat} {ds : List PyData} (h : ShAll dp wt ds) : Sh (dp + 1) wt (.list ds) := ⟨h.can, Nat.add_le_add_right h.dep 1, h.shw, h.lvs, h.wgt⟩
theorem ShAll.nil : ShAll 0 0 [] := ⟨rfl, Nat.le_refl _, rfl, rfl, Nat.le_refl _⟩
theorem ShAll.cons {dp wt wt' : Nat} {d : PyData} {ds : List PyData} (h : Sh dp wt d) (t : ShAll dp wt' ds) : ShAll dp (wt + 1 + wt') (d :: ds) := by
  refine ⟨?_, Nat.max_le.mpr ⟨h.dep, t.dep⟩, ?_, ?_, ?_⟩
  · show (d.canLay0 && PyData.canLayAll0 ds) = true
    rw [h.can, t.can]
    rfl
  · show (d.showable && PyData.showableAll ds) = true
    rw [h.shw, t.shw]
    rfl
  · show (d.leavesShort 200 && PyData.leavesShortAll 200 ds) = true
    rw [h.lvs, t.lvs]
    rfl
  · show d.weight + 1 + PyData.weightAll ds ≤ wt + 1 + wt'
    have h1 := h.wgt
    have h2 := t.wgt
    omega
theorem ShAll.ints {b : Nat} (h0 : 0 < b) (h6 : b ≤ 600) : ∀ {ns : List Int}, (∀ x ∈ ns, x.natAbs < 2 ^ b) → ShAll 0 ((b + 1) * ns.length) (ns.map PyData.int)
  | [], _ => ShAll.nil
  | x :: r, h => by
    have h1 := ShAll.cons (Sh.int h0 h6 (h x List.mem_cons_self)) (ShAll.ints h0 h6 fun y hy => h y (List.mem_cons_of_mem _ hy))
    exact h1.mono (Nat.le_refl _) (by rw [List.length_cons, Nat.mul_succ]; omega)
theorem Sh.shaped {dp wt : Nat} {d : PyData} (h : Sh dp wt d) (h1 : dp ≤ 64) : SeqAt.shaped d = true := by
  unfold SeqAt.shaped
  rw [h.can]
  exact decide_eq_true (Nat.le_trans h.dep h1)
theorem Sh.fits {dp wt : Nat} {d : PyData} (h : Sh dp wt d) (h1 : wt ≤ 80000) : d.shown.length ≤ sizeLine := by
  have h2 := PyData.shown_le 200 (by decide) d h.lvs
  have h3 := h.wgt
  have h4 : (200 + 2) * d.weight ≤ 202 * 80000 := Nat.mul_le_mul (by omega) (by omega)
  have h5 : sizeLine = 16777216 := by decide
  omega
theorem dp_ints {K : PySem.W.Frag} {H : Hp} : ∀ ns : List Int, DpAll K H (ns.map V.int) (ns.map PyData.int)
  | [] => .nil
  | n :: r => .cons (.int n) (dp_ints r)
theorem eqvAll_ints : ∀ ns : List Int, PyData.eqvAll (ns.map PyData.int) (ns.map PyData.int) = true
  | [] => rfl
  | n :: r => by
    show (PyData.eqv (.int n) (.int n) && PyData.eqvAll (r.map PyData.int) (r.map PyData.int)) = true
    rw [eqvAll_ints r]
    show ((n == n) && true) = true
    rw [beq_self_eq_true]
    rfl
section
variable {X : Cx}
/-- repr(x), x data: its text -/
theorem call_reprD (gd : X.A.guards = some []) (hu : X.A.units + 66 < cLine) : CallR X (.builtin "repr") (fun xs H Q => ∃ v d, xs = [v] ∧ Dp X.K H v d ∧ Sh 60 80000 d ∧ Q (.str d.shown) H) := by
  intro pins s σ H xs us Q I r h
  obtain ⟨v, d, rfl, hD, hd, q⟩ := h
  have hsh := hd.shaped (by decide)
  have hsz := hd.fits (by decide)
  obtain ⟨u, rfl, ru⟩ := vals1 r
  rcases Dp_ref hD with ⟨a, rfl⟩ | ⟨rfl, rfl⟩ | ⟨b, rfl, rfl⟩ | ⟨i, rfl, rfl⟩ | ⟨x, rfl, rfl⟩
  · obtain rfl : u = Value.ref a := ru
    obtain ⟨as, rd⟩ := Dp.reads I d _ _ hD rfl
    have hdp := hd.dep
    refine repr_of_reads' rd hd.shw (PyData.noDict_hsm (PyData.hasDict_of_canLay d hd.can)) gd (by omega) (fun _ _ e => e) (fun h' u tk hk => ?_) hsz
    exact ⟨.str _, H, I.kept hk, ⟨u, rfl⟩, q⟩
  · obtain rfl : u = Value.none := ru
    exact P.repr_of_none ⟨.str _, H, I.tok _, ⟨_, rfl⟩, q⟩
  · obtain rfl : u = Value.bool b := ru
    exact P.repr_of_bool ⟨.str _, H, I.tok _, ⟨_, rfl⟩, q⟩
  · obtain ⟨t, rfl⟩ := ru
    exact P.repr_of_int (of_decide_eq_true hd.shw) ⟨.str _, H, I.tok _, ⟨_, rfl⟩, q⟩
  · obtain ⟨t, rfl⟩ := ru
    exact P.repr_of_str ⟨.str _, H, I.tok _, ⟨_, rfl⟩, q⟩ hsz
/-- a ** b of greater numbers -/
theorem op_powB : OpR X (binaryOp .Pow) (rI (fun i j => 0 ≤ j ∧ (Builtin.Int.intBits i : Int) * j ≤ 2 ^ 27) fun i j => .int (i ^ j.toNat)) := opI fun _ _ _ _ _ _ _ hc q => pow_int hc.1 hc.2 q
/-- set(t), t a tuple of ints -/
theorem cr_setT (hc : X.calm = true) : CallR X (.type "set") (fun xs H Q => ∃ (l : Addr) (ns : List Int), xs = [.ref l] ∧ SqT X.K H l (ns.map V.int) ∧ ns.length ≤ 1000 ∧
    ∀ (p : Addr) (c : Nat), H p = none → Q (.ref p) (upd H p (SetO X.w p (fun j => decide (j ∈ ns)) c))) := by
  intro pins s σ H xs us Q I r h
  obtain ⟨l, ns, rfl, hq, hl, q⟩ := h
  obtain ⟨u, rfl, ru⟩ := vals1 r
  obtain rfl : u = Value.ref l := ru
  obtain ⟨its, rv, pt, hz⟩ := I.tuple hq
  refine call_set_tupI ns (I.ok.hd hc) (show s.heap.IsTuple l its.toArray from pt) (ints_of_vals rv) (by unfold scanBound; omega) fun h' tk c R1 hcn k => ?_
  exact ⟨.ref _, _, I.laid (t' := tk) k (Nat.le_refl _) (setO_new R1), rfl, q _ c (I.hok.fresh (Nat.le_refl _))⟩
end

/-! ### the same rules with the written part as a letter (for comprehensions) -/
section
variable {X : Cx} (K : PySem.W.Frag)
theorem ix_listK (h : X.K = K := by rfl) : IxR X (rIxL K) := h ▸ ix_list
theorem ix_tupK (h : X.K = K := by rfl) : IxR X (rIxT K) := h ▸ ix_tup
theorem op_inK (h : X.K = K := by rfl) : OpR X (compareOp .In) (rIn K false) := h ▸ op_in_seq
theorem op_notInK (h : X.K = K := by rfl) : OpR X (compareOp .NotIn) (rIn K true) := h ▸ op_notIn_seq
def rLenK (K : PySem.W.Frag) : List V → Hp → VK → Prop := fun xs H Q => ∃ p ys, xs = [.ref p] ∧ (SqL K H p ys ∨ SqT K H p ys) ∧ Q (.int ys.length) H
theorem call_lenK (h : X.K = K := by rfl) : CallR X (.builtin "len") (rLenK K) := h ▸ call_len_seq
def rReprK (K : PySem.W.Frag) : List V → Hp → VK → Prop := fun xs H Q => ∃ v d, xs = [v] ∧ Dp K H v d ∧ Sh 60 80000 d ∧ Q (.str d.shown) H
theorem call_reprK (gd : X.A.guards = some []) (hu : X.A.units + 66 < cLine) (h : X.K = K := by rfl) : CallR X (.builtin "repr") (rReprK K) := h ▸ call_reprD gd hu
theorem call_isiK1 (h : X.K = K := by rfl) : CallR X (.builtin "isinstance") (rIsi K) := h ▸ call_isi
def rTupleK (K : PySem.W.Frag) : List V → Hp → VK → Prop := fun xs H Q => ∃ p ys, xs = [.ref p] ∧ ((SqL K H p ys ∧ ∀ l, H l = none → Q (.ref l) (upd H l (.tup ys))) ∨ (SqT K H p ys ∧ Q (.ref p) H))
theorem call_tupleK (h : X.K = K := by rfl) : CallR X (.type "tuple") (rTupleK K) := h ▸ call_tuple_of
def rListK (K : PySem.W.Frag) : List V → Hp → VK → Prop := fun xs H Q => ∃ p ys, xs = [.ref p] ∧ (SqL K H p ys ∨ SqT K H p ys) ∧ ∀ l, H l = none → Q (.ref l) (upd H l (.lst ys))
theorem call_listK (h : X.K = K := by rfl) : CallR X (.type "list") (rListK K) := h ▸ call_list_of
theorem op_eqDK (hu : X.A.units + 64 < cLine) (h : X.K = K := by rfl) : OpR X (compareOp .Eq) (rEqD K) := h ▸ op_eqD hu
theorem op_neDK (hu : X.A.units + 64 < cLine) (h : X.K = K := by rfl) : OpR X (compareOp .NotEq) (rNeD K) := h ▸ op_neD hu
end
end Ef
namespace Ef
open PySem PySem.Spec PyProof.Rows L2
/-! ### tuples: sums, parts, the other way round -/
theorem Same.seqT {K : PySem.W.Frag} {H H' : Hp} {a : Addr} {xs : List V} (e : Same H H') (h : SqT K H a xs) : SqT K H' a xs := by
  rcases h with (h | ⟨o, h⟩) | h
  · exact .inl (.inl (e _ _ h))
  · exact .inl (.inr ⟨o, e _ _ h⟩)
  · exact .inr h
theorem But.seqT {K : PySem.W.Frag} {p a : Addr} {H H' : Hp} {xs : List V} (e : But p H H') (n : ∀ o, H p = some o → a = p → False) (h : SqT K H a xs) : SqT K H' a xs := by
  rcases h with (h | ⟨o, h⟩) | h
  · exact .inl (.inl (e _ _ (fun z => n _ (z ▸ h) z) h))
  · exact .inl (.inr ⟨o, e _ _ (fun z => n _ (z ▸ h) z) h⟩)
  · exact .inr h
/-- t + u -/
def rCatS (K : PySem.W.Frag) : R2 := fun x y H Q => ∃ a b xs ys, x = .ref a ∧ y = .ref b ∧ SqT K H a xs ∧ SqT K H b ys ∧ xs.length + ys.length ≤ sizeLine ∧ ∀ p H', Same H H' → SqT K H' p (xs ++ ys) → Q (.ref p) H'
/-- t[lo:hi] -/
def rSlS (K : PySem.W.Frag) : V → Option Int → Option Int → Hp → VK → Prop := fun x lo hi H Q => ∃ a xs, x = .ref a ∧ SqT K H a xs ∧ ∀ p H', Same H H' → SqT K H' p (cutV xs lo hi) → Q (.ref p) H'
theorem cut_whole {xs : List V} {lo hi : Option Int} (h : HT.sIx xs.length 0 lo = 0 ∧ HT.sIx xs.length xs.length hi = xs.length) : cutV xs lo hi = xs := by
  unfold cutV
  rw [h.1, h.2]
  show (xs.drop 0).take (xs.length - 0) = xs
  rw [List.drop_zero, Nat.sub_zero]
  exact List.take_length
section
variable {X : Cx} (K : PySem.W.Frag)
theorem op_catS (h : X.K = K := by rfl) : OpR X (binaryOp .Add) (rCatS K) := by
  subst h
  intro pins s σ H x y v u Q I rx ry h
  obtain ⟨a, b, xs, ys, rfl, rfl, ha, hb, hz, q⟩ := h
  refine op_catA pins s σ H _ _ v u Q I rx ry ⟨a, b, xs, ys, rfl, rfl, ha, hb, hz, fun z => ?_, fun _ z => ?_, fun _ _ p np => ?_⟩
  · subst z
    exact q b H (Same.refl H) hb
  · subst z
    refine q a H (Same.refl H) ?_
    rw [List.append_nil]
    exact ha
  · exact q p _ (same_new np) (SqT.of upd_same)
theorem sl_tupS (h : X.K = K := by rfl) : SlR X (rSlS K) := by
  subst h
  intro pins s σ H x v vl vu lo hi sl Q I rx hs pl pu h
  obtain ⟨a, xs, rfl, hx, q⟩ := h
  refine sl_tupA pins s σ H _ v vl vu lo hi sl Q I rx hs pl pu ⟨a, xs, rfl, hx, fun z => ?_, fun _ p np => ?_⟩
  · refine q a H (Same.refl H) ?_
    rw [cut_whole z]
    exact hx
  · exact q p _ (same_new np) (SqT.of upd_same)
end
theorem fm_congr {α β : Type} {f g : α → Option β} : ∀ l : List α, (∀ x ∈ l, f x = g x) → l.filterMap f = l.filterMap g
  | [], _ => rfl
  | x :: r, h => by
    have h1 := h x List.mem_cons_self
    have h2 := fm_congr r fun y hy => h y (List.mem_cons_of_mem _ hy)
    cases e : f x with
    | none => rw [List.filterMap_cons_none e, List.filterMap_cons_none (h1 ▸ e), h2]
    | some b => rw [List.filterMap_cons_some e, List.filterMap_cons_some (h1 ▸ e), h2]
theorem range_pick {α : Type} : ∀ (n : Nat) (ys : List α), ys.length = n → (List.range n).filterMap (fun m => ys[m]?) = ys
  | 0, ys, h => by
    rw [List.length_eq_zero_iff.mp h]
    rfl
  | n + 1, ys, h => by
    have hne : ys ≠ [] := fun z => by
      rw [z] at h
      cases h
    have hl : ys.dropLast.length = n := by
      rw [List.length_dropLast]
      omega
    have e : ys = ys.dropLast ++ [ys.getLast hne] := (List.dropLast_concat_getLast hne).symm
    rw [List.range_succ, List.filterMap_append]
    have e1 : (List.range n).filterMap (fun m => ys[m]?) = ys.dropLast := by
      have e3 : (List.range n).filterMap (fun m => ys[m]?) = (List.range n).filterMap (fun m => ys.dropLast[m]?) := by
        refine fm_congr _ fun m hm => ?_
        have hm' : m < ys.dropLast.length := by
          rw [hl]
          exact List.mem_range.mp hm
        have e4 : (ys.dropLast ++ [ys.getLast hne])[m]? = ys.dropLast[m]? := List.getElem?_append_left hm'
        rw [← e4, List.dropLast_concat_getLast hne]
      rw [e3]
      exact range_pick n ys.dropLast hl
    have e2 : [n].filterMap (fun m => ys[m]?) = [ys.getLast hne] := by
      have : ys[n]? = some (ys.getLast hne) := by
        rw [List.getLast_eq_getElem hne, ← List.getElem?_eq_getElem]
        congr 1
        omega
      rw [List.filterMap_cons_some this]
      rfl
    rw [e1, e2]
    exact e.symm
theorem pick_back (xs : Array Value) : ((List.range xs.size).filterMap fun (m : Nat) => xs[(((xs.size : Int) - 1) + (m : Int) * (-1)).toNat]?).toArray = xs.toList.reverse.toArray := by
  congr 1
  have h : xs.toList.reverse.length = xs.size := by
    rw [List.length_reverse, Array.length_toList]
  rw [← range_pick xs.size xs.toList.reverse h]
  refine fm_congr _ fun m hm => ?_
  have hm' : m < xs.size := List.mem_range.mp hm
  have e : (((xs.size : Int) - 1) + (m : Int) * (-1)).toNat = xs.size - 1 - m := by omega
  rw [e, List.getElem?_reverse (by rw [Array.length_toList]; exact hm'), Array.length_toList, Array.getElem?_toList]
section
variable {prog : Program} {w : World} {A : Around} {E : Value → Shared → Prop} {s : Shared}
theorem tuple_back {t sl : Addr} {items : Array Value} {vl vu vs : Value} {Q : Value → Shared → Prop} (ht : IsTup s.heap t items) (hs : s.heap.IsSliceOf sl vl vu vs) (pl : PySem.IsPart vl none) (pu : PySem.IsPart vu none) (ps : PySem.IsPart vs (some (-1)))
    (h : Q (.ref s.heap.objs.size) { s with heap := s.heap.push { cls := .type "tuple", data := .seq items.toList.reverse.toArray } })
    (hsz : items.size ≤ sizeLine) : wpAny (model prog w) A (getItem (.ref t) (.ref sl)) Q E s := by
  have hfit : sizeOk (.seq items.toList.reverse.toArray) := by
    show items.toList.reverse.toArray.size ≤ sizeLine
    rw [List.size_toArray, List.length_reverse, Array.length_toList]
    exact hsz
  obtain ⟨os, hos, hcs, hds⟩ := id hs
  have tys : s.TypeIs (.ref sl) "slice" := ⟨os, hos, hcs⟩
  unfold getItem
  try with_reducible refine wpAny_holding ?_
  first | refine wpAny_bind (wpAny_pure ?_) | skip
  refine wpAny_bind (wpAny_sequenceKey ht.typeIs (by decide) ?_)
  refine wpAny_bind (wpAny_callSpecial?_slot (name := Str.ofString "__getitem__") ht.typeIs PyProof.Rows.slot_tuple_getitem
    (wpAny_call_entry PyProof.Rows.slot_tuple_getitem ht.typeIs PyProof.Rows.entry_tuple_getitem ?_ (PyProof.Rows.args_tuple_getitem _ _)))
  show wpAny _ _ (Builtin.Tuple.tupleItemsOf (.ref t) >>= _) _ _ s
  refine wpAny_bind (PyProof.Rows.tupleItemsOf_ ht ?_)
  refine wpAny_bind (wpAny_typeOf tys ?_)
  rw [if_pos (by decide)]
  have look : ∀ {B : Around} {E : Value → Shared → Prop} {R : Int × Int × Nat → Shared → Prop}, R (((items.size : Int) - 1), -1, items.size) s → wpAny (model prog w) B (Builtin.Slice.sliceApplied (.ref sl) (pure (items.size : Int))) R E s := fun {B E R} hR => by
    unfold Builtin.Slice.sliceApplied Builtin.Slice.sliceFields
    refine wpAny_bind (wpAny_bind (wpAny_field hos hds (x := vl) rfl (wpAny_bind (wpAny_field hos hds (x := vu) rfl (wpAny_bind (wpAny_field hos hds (x := vs) rfl (wpAny_pure ?_)))))))
    refine wpAny_bind (HT.slicePart_ ps ?_)
    show wpAny _ _ (if ((-1 : Int) == 0) = true then _ else _) _ _ s
    rw [if_neg (by decide)]
    refine wpAny_bind (HT.slicePart_ pl (wpAny_bind (HT.slicePart_ pu (wpAny_bind (wpAny_pure ?_)))))
    show wpAny _ _ (pure (((items.size : Int) - 1), (-1 : Int), Builtin.Slice.slicePlaces ((items.size : Int) - 1) (-1) (-1))) _ _ s
    have e : Builtin.Slice.slicePlaces ((items.size : Int) - 1) (-1) (-1) = items.size := by
      unfold Builtin.Slice.slicePlaces
      rw [if_neg (by decide)]
      by_cases c : ((items.size : Int) - 1) > -1
      · rw [if_pos c, show -(-1 : Int) = 1 from rfl, Int.ediv_one]
        omega
      · rw [if_neg c]
        omega
    rw [e]
    exact wpAny_pure hR
  refine wpAny_bind (look ?_)
  have no : ¬ ((((items.size : Int) - 1) == 0 && (-1 : Int) == 1 && items.size == items.size) = true) := by
    intro z
    rw [Bool.and_eq_true, Bool.and_eq_true] at z
    exact absurd z.1.2 (by decide)
  show wpAny _ _ (if (((items.size : Int) - 1) == 0 && (-1 : Int) == 1 && items.size == items.size) = true then _ else _) _ _ s
  rw [if_neg no, pick_back]
  first
    | exact wpAny_bind (m := Builtin.Tuple.tupleExact _) (wpAny_newObj_type (wpAny_pure ⟨_, rfl, wpAny_pure h⟩) hfit)
    | exact wpAny_bind (m := Builtin.Tuple.tupleExact _) (wpAny_newObj_type (wpAny_bind (wpAny_pure (wpAny_pure ⟨_, rfl, wpAny_pure h⟩))) hfit)
    | exact wpAny_bind (wpAny_bind (m := Builtin.Tuple.tupleExact _) (wpAny_newObj_type (wpAny_pure (wpAny_pure ⟨_, rfl, wpAny_pure h⟩)) hfit))
    | exact wpAny_bind (wpAny_bind (m := Builtin.Tuple.tupleExact _) (wpAny_newObj_type (wpAny_pure ⟨_, rfl, wpAny_pure h⟩) hfit))
end
/-! ### t[::-1] -/
def tRevT (K : PySem.W.Frag) (te : TE) : TE := fun σ H Q => te σ H fun x H1 => ∃ a xs, x = .ref a ∧ SqT K H1 a xs ∧ ∀ p, H1 p = none → Q (.ref p) (upd H1 p (.tup xs.reverse))
theorem pe_revT {X : Cx} {e : Expr} {te : TE} {k : Nat} {p1 p2 p3 pos : Pos} (he : PE X e te) : PE X (.Subscript e (.Slice none none (some (.UnaryOp .USub (.Constant (.int 1) k p1) p2)) p3) pos) (tRevT X.K te) := by
  refine ⟨fun pins s σ H Q I h => ?_⟩
  refine Subscript_ (thn (he.run pins s σ H _ I h) fun v s1 z1 => ?_)
  obtain ⟨x, H1, I1, r1, a, xs, ex, hx, q⟩ := z1
  subst ex
  cases r1
  have hst : PO X (some (.UnaryOp .USub (.Constant (.int 1) k p1) p2)) (tPart (tUn (rU fun i => .int (-i)) (tC (.int 1)))) := po_some (pe_un un_neg pe_int)
  refine wpAny_Slice (thn (po_none.run pins s1 σ H1 (fun o H2 => o = none ∧ H2 = H1) I1 ⟨rfl, rfl⟩) fun vl s2 z2 => ?_)
  obtain ⟨l, H2, I2, pl, rfl, rfl⟩ := z2
  refine thn (po_none.run pins s2 σ H2 (fun o H3 => o = none ∧ H3 = H2) I2 ⟨rfl, rfl⟩) fun vu s3 z3 => ?_
  obtain ⟨u, H3, I3, pu, rfl, rfl⟩ := z3
  refine thn (hst.run pins s3 σ H3 (fun o H4 => o = some (-1) ∧ H4 = H3) I3 ⟨1, rfl, -1, rfl, rfl, rfl⟩) fun vs s4 z4 => ?_
  obtain ⟨o, H4, I4, ps, rfl, rfl⟩ := z4
  have I5 : Inv X pins σ H4 { s4 with heap := s4.heap.push { cls := .type "slice", data := .fields #[vl, vu, vs] } } := I4.kept (t' := s4.toks) fun b ob z => Heap.get?_push_of_some _ z
  obtain ⟨its, r, ht, hz⟩ := I5.tuple hx
  show wpAny (model X.prog X.w) X.A (subscriptTail e (.Slice none none (some (.UnaryOp .USub (.Constant (.int 1) k p1) p2)) p3) (.ref a) (.ref s4.heap.objs.size)) (EP X pins σ Q) X.xe _
  refine tail_any (ops := [.ref a, .ref s4.heap.objs.size]) ht.typeIs (PyProof.Rows.slot_tuple_getitem.lookup) ?_ (by with_unfolding_all rfl)
  refine tuple_back ht (Heap.IsSliceOf.new _ vl vu vs) pl pu ps ?_ (by rw [List.size_toArray, ← r.length]; exact hz)
  refine ⟨.ref _, _, I5.laid (t' := s4.toks) (o := .tup xs.reverse) (fun b ob z => Heap.get?_push_of_some _ z) (Nat.le_refl _) ?_, rfl, q _ (I5.hok.fresh (Nat.le_refl _))⟩
  exact ⟨by rw [List.length_reverse]; exact hz, _, r.reverse, IsTup.new _ _⟩
end Ef
namespace Ef
open PySem PySem.Spec PyProof.Rows L2
/-! ### values of all sorts -/
mutual
theorem Dp.mono {K : PySem.W.Frag} {H H' : Hp} (s : Same H H') : ∀ {v : V} {d : PyData}, Dp K H v d → Dp K H' v d
  | _, _, .non => .non
  | _, _, .bl b => .bl b
  | _, _, .int i => .int i
  | _, _, .str x => .str x
  | _, _, .lst h t => .lst (s.seq h) (DpAll.mono s t)
  | _, _, .tup h t => .tup (Same.seqT s h) (DpAll.mono s t)
theorem DpAll.mono {K : PySem.W.Frag} {H H' : Hp} (s : Same H H') : ∀ {vs : List V} {ds : List PyData}, DpAll K H vs ds → DpAll K H' vs ds
  | _, _, .nil => .nil
  | _, _, .cons h t => .cons (Dp.mono s h) (DpAll.mono s t)
end
theorem DpAll.app {K : PySem.W.Frag} {H : Hp} : ∀ {xs ys : List V} {ds es : List PyData}, DpAll K H xs ds → DpAll K H ys es → DpAll K H (xs ++ ys) (ds ++ es)
  | _, _, _, _, .nil, t => t
  | _, _, _, _, .cons h r, t => .cons h (DpAll.app r t)
theorem dpAll_at {K : PySem.W.Frag} {H : Hp} : ∀ {xs : List V} {ds : List PyData}, DpAll K H xs ds → ∀ {i : Nat} {x : V}, xs[i]? = some x → ∃ d, ds[i]? = some d ∧ Dp K H x d
  | _, _, .nil, _, _, h => by cases h
  | _, _, .cons h _, 0, x, e => ⟨_, rfl, by rw [← Option.some.inj e]; exact h⟩
  | _, _, .cons _ t, i + 1, x, e => by
    rw [List.getElem?_cons_succ] at e ⊢
    exact dpAll_at t e
theorem dpAll_len {K : PySem.W.Frag} {H : Hp} : ∀ {xs : List V} {ds : List PyData}, DpAll K H xs ds → ds.length = xs.length
  | _, _, .nil => rfl
  | _, _, .cons _ t => congrArg (· + 1) (dpAll_len t)
theorem ShAll.app {dp w1 w2 : Nat} : ∀ {ds es : List PyData}, ShAll dp w1 ds → ShAll dp w2 es → ShAll dp (w1 + w2) (ds ++ es)
  | [], es, _, t => t.mono (Nat.le_refl _) (by omega)
  | d :: r, es, h, t => by
    have hc : (d.canLay0 && PyData.canLayAll0 r) = true := h.can
    have hs : (d.showable && PyData.showableAll r) = true := h.shw
    have hl : (d.leavesShort 200 && PyData.leavesShortAll 200 r) = true := h.lvs
    have hw : d.weight + 1 + PyData.weightAll r ≤ w1 := h.wgt
    have hd : max d.depth (PyData.depthAll r) ≤ dp := h.dep
    rw [Bool.and_eq_true] at hc hs hl
    rw [Nat.max_le] at hd
    have h1 : Sh dp d.weight d := ⟨hc.1, hd.1, hs.1, hl.1, Nat.le_refl _⟩
    have h2 : ShAll dp (PyData.weightAll r) r := ⟨hc.2, hd.2, hs.2, hl.2, Nat.le_refl _⟩
    exact (ShAll.cons h1 (ShAll.app h2 t)).mono (Nat.le_refl _) (by omega)
/-- all but what stands at p -/
def hide (p : Addr) (H : Hp) : Hp := fun b => if b = p then none else H b
theorem hide_ne {p b : Addr} {H : Hp} (n : b ≠ p) : hide p H b = H b := if_neg n
theorem hide_same (p : Addr) (H : Hp) : Same (hide p H) H := fun b o e => by
  by_cases c : b = p
  · unfold hide at e
    rw [if_pos c] at e
    cases e
  · rw [hide_ne c] at e
    exact e
theorem But.hide {p : Addr} {H H' : Hp} (s : But p H H') : Same (Ef.hide p H) (Ef.hide p H') := fun b o e => by
  by_cases c : b = p
  · unfold Ef.hide at e
    rw [if_pos c] at e
    cases e
  · rw [hide_ne c] at e ⊢
    exact s b o c e
theorem hide_lst {K : PySem.W.Frag} {p a : Addr} {H : Hp} {xs : List V} (n : a ≠ p) (h : H a = some (.lst xs)) : SqL K (hide p H) a xs := SqL.of (by rw [hide_ne n]; exact h)
theorem hide_tup {K : PySem.W.Frag} {p a : Addr} {H : Hp} {xs ys : List V} (hp : H p = some (.lst ys)) (h : SqT K H a xs) : SqT K (hide p H) a xs := by
  rcases h with (h | ⟨o, h⟩) | h
  · have n : a ≠ p := fun z => by
      rw [z, hp] at h
      cases h
    exact .inl (.inl (by rw [hide_ne n]; exact h))
  · have n : a ≠ p := fun z => by
      rw [z, hp] at h
      cases h
    exact .inl (.inr ⟨o, by rw [hide_ne n]; exact h⟩)
  · exact .inr h
/-- data, or an empty dict -/
def ItemV (K : PySem.W.Frag) (H : Hp) (v : V) (d : PyData) : Prop := (Dp K H v d ∧ Sh 60 80000 d) ∨ (d = .dict [] ∧ ∃ p, v = .ref p ∧ H p = some (.dK []))
theorem ItemV.mono {K : PySem.W.Frag} {H H' : Hp} {v : V} {d : PyData} (s : Same H H') (h : ItemV K H v d) : ItemV K H' v d := by
  rcases h with ⟨h, h2⟩ | ⟨e, p, e2, h⟩
  · exact .inl ⟨Dp.mono s h, h2⟩
  · exact .inr ⟨e, p, e2, s _ _ h⟩
def tyN : PyData → String
  | .none => "NoneType"
  | .bool _ => "bool"
  | .int _ => "int"
  | .str _ => "str"
  | .list _ => "list"
  | .tuple _ => "tuple"
  | .dict _ => "dict"
theorem Dp.ty {K : PySem.W.Frag} {H : Hp} {v : V} {d : PyData} (h : Dp K H v d) : TyX K H v (.type (tyN d)) := by
  cases h with
  | non => exact .base .non
  | bl b => exact .base (.bl b)
  | int i => exact .base (.int i)
  | str x => exact .base (.str x)
  | lst h _ =>
    rcases h with (h | ⟨o, h⟩) | ⟨o, its, n, h1, h2, _⟩
    · exact .base (.lst h)
    · exact .base (.frz h)
    · exact .kList h1 h2
  | tup h _ =>
    rcases h with (h | ⟨o, h⟩) | ⟨o, its, n, h1, h2, _⟩
    · exact .base (.tup h)
    · exact .fTuple h
    · exact .kTuple h1 h2
theorem ItemV.ty {K : PySem.W.Frag} {H : Hp} {v : V} {d : PyData} (h : ItemV K H v d) : TyX K H v (.type (tyN d)) := by
  rcases h with ⟨h, _⟩ | ⟨rfl, p, rfl, h⟩
  · exact Ef.Dp.ty h
  · exact .base (.dK h)
section
variable {X : Cx} (K : PySem.W.Frag)
def rReprI (K : PySem.W.Frag) : List V → Hp → VK → Prop := fun xs H Q => ∃ v d, xs = [v] ∧ ItemV K H v d ∧ Q (.str d.shown) H
theorem call_reprI (gd : X.A.guards = some []) (hu : X.A.units + 66 < cLine) (h : X.K = K := by rfl) : CallR X (.builtin "repr") (rReprI K) := by
  subst h
  intro pins s σ H xs us Q I r h
  obtain ⟨v, d, rfl, hI, q⟩ := h
  rcases hI with ⟨hD, hS⟩ | ⟨rfl, p, rfl, hp⟩
  · exact call_reprD gd hu pins s σ H _ us Q I r ⟨v, d, rfl, hD, hS, q⟩
  · obtain ⟨u, rfl, ru⟩ := vals1 r
    obtain rfl : u = Value.ref p := ru
    obtain ⟨_, hsys, vs, kv, o, es, ep, ho, hx, hd, hk, hpr, hn⟩ := dk_of I.hok hp
    have e1 : vs = [] := by
      cases kv
      rfl
    subst e1
    have e2 : es.toList = [] := by
      generalize es.toList = l at hpr ⊢
      cases hpr
      rfl
    have dep : PyData.depth (.dict []) ≤ 2 := by decide
    have rd : Reads s.heap (.ref p) (.dict []) (p :: [] ++ []) := by
      refine .dict ho hx.1 hd ?_ ?_
      · rw [e2]
        exact .nil
      · rw [e2]
        exact .nil
    refine repr_of_reads' rd rfl (fun _ hm => ?_) gd (by omega) (fun _ _ e => e) (fun h' u tk hk => ?_) (by decide +kernel)
    · have e3 : sysModules = p := by simpa using hm
      rw [← e3] at hsys
      exact absurd hsys (by simp)
    · exact ⟨.str _, H, I.kept hk, ⟨u, rfl⟩, q⟩
end
end Ef
namespace Ef
open PySem PySem.Spec PyProof.Rows L2
def topS (i : Nat) : Stmt := PySem.Challenge.pw_evenfailover_k04_sets_of_any_value.main.body.getD i (.Pass ⟨0, 0, 0, 0⟩)
abbrev sPlain : Stmt := topS 1
abbrev NPlain : List Str := ["thing"]
theorem scPlain : FnScope ["thing"] ["thing"] (defScope sPlain) := ⟨rfl, rfl, rfl, by decide +kernel, rfl, by decide +kernel, by decide +kernel⟩
abbrev sSet : Stmt := topS 3
abbrev NSet : List Str := ["n", "thing", "least", "server"]
theorem scSet : FnScope ["n", "thing", "least", "server"] ["n", "thing"] (defScope sSet) := ⟨rfl, rfl, rfl, by decide +kernel, rfl, by decide +kernel, by decide +kernel⟩
abbrev sPot : Stmt := topS 5
abbrev NPot : List Str := ["_law_script", "_law_spot", "_law_cell", "_law_own"]
theorem scPot : FnScope ["_law_script", "_law_spot", "_law_cell", "_law_own"] ["_law_script", "_law_spot"] (defScope sPot) := ⟨rfl, rfl, rfl, by decide +kernel, rfl, by decide +kernel, by decide +kernel⟩
abbrev sTake : Stmt := topS 6
abbrev NTake : List Str := ["_law_pot_here", "_law_upto", "_law_digit", "_law_prime", "_law_drawn"]
theorem scTake : FnScope ["_law_pot_here", "_law_upto", "_law_digit", "_law_prime", "_law_drawn"] ["_law_pot_here", "_law_upto"] (defScope sTake) := ⟨rfl, rfl, rfl, by decide +kernel, rfl, by decide +kernel, by decide +kernel⟩
abbrev sOf : Stmt := topS 7
abbrev NOf : List Str := ["_law_pot_here", "_law_some_here"]
theorem scOf : FnScope ["_law_pot_here", "_law_some_here"] ["_law_pot_here", "_law_some_here"] (defScope sOf) := ⟨rfl, rfl, rfl, by decide +kernel, rfl, by decide +kernel, by decide +kernel⟩
abbrev sDue : Stmt := topS 8
abbrev NDue : List Str := ["_law_wide", "_law_item", "_law_last", "_law_one"]
theorem scDue : FnScope ["_law_wide", "_law_item", "_law_last", "_law_one"] ["_law_wide", "_law_item"] (defScope sDue) := ⟨rfl, rfl, rfl, by decide +kernel, rfl, by decide +kernel, by decide +kernel⟩
abbrev sSome : Stmt := topS 9
abbrev NSome : List Str := ["_law_pot_here", "_law_wide", "_law_one"]
theorem scSome : FnScope ["_law_pot_here", "_law_wide", "_law_one"] ["_law_pot_here", "_law_wide"] (defScope sSome) := ⟨rfl, rfl, rfl, by decide +kernel, rfl, by decide +kernel, by decide +kernel⟩
abbrev sBent : Stmt := topS 10
abbrev NBent : List Str := ["_law_pot_here", "_law_wide", "_law_some_here", "_law_way", "_law_at", "_law_odd", "_law_start", "_law_rest", "_law_bent_here"]
theorem scBent : FnScope ["_law_pot_here", "_law_wide", "_law_some_here", "_law_way", "_law_at", "_law_odd", "_law_start", "_law_rest", "_law_bent_here"] ["_law_pot_here", "_law_wide", "_law_some_here"] (defScope sBent) := ⟨rfl, rfl, rfl, by decide +kernel, rfl, by decide +kernel, by decide +kernel⟩
abbrev sLaw : Stmt := topS 11
abbrev NLaw : List Str := ["_law_script", "_law_spot", "_law_pot_here", "_law_wide", "_law_some_here", "_law_items", "_law_turn", "_law_item", "_law_kept", "_law_due_here"]
theorem scLaw : FnScope ["_law_script", "_law_spot", "_law_pot_here", "_law_wide", "_law_some_here", "_law_items", "_law_turn", "_law_item", "_law_kept", "_law_due_here"] ["_law_script"] (defScope sLaw) := ⟨rfl, rfl, rfl, by decide +kernel, rfl, by decide +kernel, by decide +kernel⟩
/-- what stands behind the top: each def, how it binds, and that the built-ins' names are free -/
structure Txt (K : PySem.W.Frag) (mg : Str → Option Value) where
  fPlain : Addr
  fdPlain : FuncData
  FPlain : Fun K "is_plain_int" "is_plain_int" sPlain fPlain fdPlain
  bPlain : Binds K fdPlain ["thing"] []
  gPlain : mg "is_plain_int" = some (.ref fPlain)
  fSet : Addr
  fdSet : FuncData
  FSet : Fun K "is_set" "is_set" sSet fSet fdSet
  bSet : Binds K fdSet ["n", "thing"] []
  gSet : mg "is_set" = some (.ref fSet)
  fPot : Addr
  fdPot : FuncData
  FPot : Fun K "_law_pot" "_law_pot" sPot fPot fdPot
  bPot : Binds K fdPot ["_law_script", "_law_spot"] []
  gPot : mg "_law_pot" = some (.ref fPot)
  fTake : Addr
  fdTake : FuncData
  FTake : Fun K "_law_take" "_law_take" sTake fTake fdTake
  bTake : Binds K fdTake ["_law_pot_here", "_law_upto"] []
  gTake : mg "_law_take" = some (.ref fTake)
  fOf : Addr
  fdOf : FuncData
  FOf : Fun K "_law_of" "_law_of" sOf fOf fdOf
  bOf : Binds K fdOf ["_law_pot_here", "_law_some_here"] []
  gOf : mg "_law_of" = some (.ref fOf)
  fDue : Addr
  fdDue : FuncData
  FDue : Fun K "_law_due" "_law_due" sDue fDue fdDue
  bDue : Binds K fdDue ["_law_wide", "_law_item"] []
  gDue : mg "_law_due" = some (.ref fDue)
  fSome : Addr
  fdSome : FuncData
  FSome : Fun K "_law_some" "_law_some" sSome fSome fdSome
  bSome : Binds K fdSome ["_law_pot_here", "_law_wide"] []
  gSome : mg "_law_some" = some (.ref fSome)
  fBent : Addr
  fdBent : FuncData
  FBent : Fun K "_law_bent" "_law_bent" sBent fBent fdBent
  bBent : Binds K fdBent ["_law_pot_here", "_law_wide", "_law_some_here"] []
  gBent : mg "_law_bent" = some (.ref fBent)
  kSet_thing_n : KBinds K fdSet ["n", "thing"] ["thing", "n"] (permL [1, 0] 2) (permL [1, 0] 2)
  n_len : mg "len" = none
  n_range : mg "range" = none
  n_min : mg "min" = none
  n_max : mg "max" = none
  n_repr : mg "repr" = none
  n_abs : mg "abs" = none
  n_int : mg "int" = none
  n_bool : mg "bool" = none
  n_tuple : mg "tuple" = none
  n_list : mg "list" = none
  n_isinstance : mg "isinstance" = none
/-! ### is_plain_int -/
def tyNames : List String := ["NoneType", "bool", "int", "str", "list", "tuple", "dict"]
def spPlain (K : PySem.W.Frag) : Sp := fun vs H Q _ => ∃ (v : V) (t : String), vs = [v] ∧ TyX K H v (.type t) ∧ t ∈ tyNames ∧ Q (.bl (t == "int")) H
theorem ty_cases {t : String} (h : t ∈ tyNames) : t = "NoneType" ∨ t = "bool" ∨ t = "int" ∨ t = "str" ∨ t = "list" ∨ t = "tuple" ∨ t = "dict" := by
  unfold tyNames at h
  simp only [List.mem_cons, List.not_mem_nil, or_false] at h
  exact h
theorem kit_int {K : PySem.W.Frag} {t : String} (h : t ∈ tyNames) : PySem.W.kitOne K (.type t) (.type "int") = some (t == "int" || t == "bool") := by
  rcases ty_cases h with rfl | rfl | rfl | rfl | rfl | rfl | rfl <;> exact kit_ty (by decide +kernel)
theorem kit_bool {K : PySem.W.Frag} {t : String} (h : t ∈ tyNames) : PySem.W.kitOne K (.type t) (.type "bool") = some (t == "bool") := by
  rcases ty_cases h with rfl | rfl | rfl | rfl | rfl | rfl | rfl <;> exact kit_ty (by decide +kernel)
theorem kit_tuple {K : PySem.W.Frag} {t : String} (h : t ∈ tyNames) : PySem.W.kitOne K (.type t) (.type "tuple") = some (t == "tuple") := by
  rcases ty_cases h with rfl | rfl | rfl | rfl | rfl | rfl | rfl <;> exact kit_ty (by decide +kernel)
section
variable {P : Program} {w : World} {K : PySem.W.Frag} {mg : Str → Option Value} {base : Heap}
theorem ok_plain (T : Txt K mg) {j : Nat} : FnOk P w K mg base CX0 (j + 1) T.fPlain T.fdPlain ["thing"] (spPlain K) := by
  refine T.FPlain.ok scPlain (fun vs H Q E h => ?_) (fun cdv A outer s H vs Q E hr h => ?_)
  · obtain ⟨v, t, rfl, _⟩ := h
    rfl
  · obtain ⟨v, t, rfl, ty, ht, q⟩ := h
    refine ⟨_, pss_one (ps_ret (pe_and (pe_callB call_isi (by rfl) T.n_isinstance (by decide +kernel) (pa_cons (pv 0) (pa_cons (pe_bltn (v := .ty "int") (by rfl) T.n_int (by decide +kernel) rfl) pa_nil)))
      (pe_one (pe_not (pe_callB call_isi (by rfl) T.n_isinstance (by decide +kernel) (pa_cons (pv 0) (pa_cons (pe_bltn (v := .ty "bool") (by rfl) T.n_bool (by decide +kernel) rfl) pa_nil))))))), ?_⟩
    refine ⟨v, rfl, v, .ty "int", _, _, _, rfl, .ty _, ty, kit_int ht, _, rfl, ?_⟩
    rcases ty_cases ht with rfl | rfl | rfl | rfl | rfl | rfl | rfl
    · exact iteF q
    · exact iteT ⟨v, rfl, v, .ty "bool", _, _, _, rfl, .ty _, ty, kit_bool ht, _, rfl, q⟩
    · exact iteT ⟨v, rfl, v, .ty "bool", _, _, _, rfl, .ty _, ty, kit_bool ht, _, rfl, q⟩
    · exact iteF q
    · exact iteF q
    · exact iteF q
    · exact iteF q
end
/-! ### is_set, and the law's own look -/
def chk (n : Int) : Int → List PyData → Bool
  | _, [] => true
  | least, .int i :: r => decide (least ≤ i) && (decide (i < n) && chk n (i + 1) r)
  | _, _ :: _ => false
def setD (n : Int) : PyData → Bool
  | .tuple ds => chk n 0 ds
  | _ => false
theorem tyN_in (d : PyData) : tyN d ∈ tyNames := by
  cases d with
  | none => exact (by decide : "NoneType" ∈ tyNames)
  | bool _ => exact (by decide : "bool" ∈ tyNames)
  | int _ => exact (by decide : "int" ∈ tyNames)
  | str _ => exact (by decide : "str" ∈ tyNames)
  | list _ => exact (by decide : "list" ∈ tyNames)
  | tuple _ => exact (by decide : "tuple" ∈ tyNames)
  | dict _ => exact (by decide : "dict" ∈ tyNames)
theorem tyN_int {d : PyData} (h : (tyN d == "int") = true) : ∃ i, d = .int i := by
  cases d with
  | int i => exact ⟨i, rfl⟩
  | none => exact absurd (show ("NoneType" == "int") = true from h) (by decide)
  | bool _ => exact absurd (show ("bool" == "int") = true from h) (by decide)
  | str _ => exact absurd (show ("str" == "int") = true from h) (by decide)
  | list _ => exact absurd (show ("list" == "int") = true from h) (by decide)
  | tuple _ => exact absurd (show ("tuple" == "int") = true from h) (by decide)
  | dict _ => exact absurd (show ("dict" == "int") = true from h) (by decide)
theorem chk_no {n least : Int} {d : PyData} {r : List PyData} (h : (tyN d == "int") = false) : chk n least (d :: r) = false := by
  cases d with
  | int i => exact absurd (show ("int" == "int") = false from h) (by decide)
  | _ => rfl
theorem chk_int (n least i : Int) (r : List PyData) : chk n least (.int i :: r) = (decide (least ≤ i) && (decide (i < n) && chk n (i + 1) r)) := rfl
theorem drop_at {ds : List PyData} {i : Nat} {d : PyData} (h : ds[i]? = some d) : ds.drop i = d :: ds.drop (i + 1) := by
  obtain ⟨hl, e⟩ := List.getElem?_eq_some_iff.mp h
  rw [List.drop_eq_getElem_cons hl, e]
def spSet (K : PySem.W.Frag) : Sp := fun vs H Q _ => ∃ (n : Int) (v : V) (d : PyData), vs = [.int n, v] ∧ ItemV K H v d ∧ Q (.bl (setD n d)) H
theorem item_tuple_parts {K : PySem.W.Frag} {H : Hp} {v : V} {ds : List PyData} (h : ItemV K H v (.tuple ds)) : ∃ a xs, v = .ref a ∧ SqT K H a xs ∧ DpAll K H xs ds := by
  rcases h with ⟨h, _⟩ | ⟨e, _⟩
  · cases h with
    | tup h t => exact ⟨_, _, rfl, h, t⟩
  · cases e
section
variable {P : Program} {w : World} {K : PySem.W.Frag} {mg : Str → Option Value} {base : Heap}
theorem ok_set (T : Txt K mg) {j : Nat} : FnOk P w K mg base CX0 (j + 2) T.fSet T.fdSet ["n", "thing"] (spSet K) := by
  refine T.FSet.ok scSet (fun vs H Q E h => ?_) (fun cdv A outer s H vs Q E hr h => ?_)
  · obtain ⟨n, v, d, rfl, _⟩ := h
    rfl
  · obtain ⟨n, v, d, rfl, hv, q⟩ := h
    refine ⟨_, pss_cons (ps_if (pt_not (pt_val (pe_callB (call_isiK1 K) (by rfl) T.n_isinstance (by decide +kernel) (pa_cons (pv 1) (pa_cons (pe_bltn (v := .ty "tuple") (by rfl) T.n_tuple (by decide +kernel) rfl) pa_nil))))) (pss_one (ps_ret pe_bl)) pss_nil) (pss_cons (ps_set (i := 2) scSet.nd rfl (.inl rfl) pe_int) (pss_cons (ps_for PassesOwn.never rfl (pi_tup (pv 1)) (pg_name (i := 3) scSet.nd rfl (.inl rfl)) (pss_cons (ps_if (PW.pt (pw_or (pt_not (pt_val (pe_call (ok_plain T) hr (by rfl) T.gPlain T.FPlain.kp T.bPlain .nil pass0 (pa_cons (pv 3) pa_nil)))) (pw_or (pt_cmpR op_lt (pv 3) (pv 2) (nomark _)) (pw_or1 (pt_cmpR op_ge (pv 3) (pv 0) (nomark _)))))) (pss_one (ps_ret pe_bl)) pss_nil) (pss_one (ps_set (i := 2) scSet.nd rfl (.inl rfl) (pe_op op_add (pv 3) pe_int))))) (pss_one (ps_ret pe_bl)))), ?_⟩
    refine ⟨v, rfl, v, .ty "tuple", _, _, _, rfl, .ty _, hv.ty, kit_tuple (tyN_in d), _, rfl, ?_⟩
    cases d with
    | tuple ds =>
      refine iteF ?_
      obtain ⟨a, xs, rfl, hx, ht⟩ := item_tuple_parts hv
      refine ⟨.ref a, rfl, a, rfl, ⟨_, hx⟩, for_tup (K := K) (a := a) (xs := xs) (fun i σ H' => ∃ (least : Int) (u : Option V), σ = [some (.int n), some (.ref a), some (.int least), u] ∧ H' = H ∧ chk n 0 ds = chk n least (ds.drop i)) ⟨0, none, rfl, rfl, rfl⟩ (fun i σ H' _ ⟨_, _, _, e, _⟩ => e ▸ hx) ?_ ?_⟩
      · rintro i x σ H' hi ⟨least, u, rfl, rfl, ec⟩
        obtain ⟨d, hd, hD⟩ := dpAll_at ht hi
        rw [drop_at hd] at ec
        refine ⟨x, rfl, x, tyN d, rfl, Ef.Dp.ty hD, tyN_in d, _, rfl, ?_⟩
        cases hb : (tyN d == "int") with
        | false =>
          rw [chk_no hb] at ec
          refine iteT ?_
          have q2 : Q (V.bl (chk n 0 ds)) H' := q
          rw [ec] at q2
          exact q2
        | true =>
          obtain ⟨z, rfl⟩ := tyN_int hb
          cases hD
          rw [chk_int] at ec
          refine iteF ?_
          refine ⟨_, rfl, _, rfl, _, _, rfl, rfl, _, rfl, ite2 (fun h1 => ?_) (fun h1 => ?_)⟩
          · have h2 : z < least := of_decide_eq_true h1
            rw [decide_eq_false (show ¬ least ≤ z by omega)] at ec
            have q2 : Q (V.bl (chk n 0 ds)) H' := q
            rw [ec] at q2
            exact q2
          · have h2 : ¬ z < least := fun y => h1 (decide_eq_true y)
            rw [decide_eq_true (show least ≤ z by omega), Bool.true_and] at ec
            refine ⟨_, rfl, _, rfl, _, _, rfl, rfl, _, rfl, ite2 (fun h3 => ?_) (fun h3 => ?_)⟩
            · have h4 : n ≤ z := of_decide_eq_true h3
              rw [decide_eq_false (show ¬ z < n by omega)] at ec
              have q2 : Q (V.bl (chk n 0 ds)) H' := q
              rw [ec] at q2
              exact q2
            · have h4 : ¬ n ≤ z := fun y => h3 (decide_eq_true y)
              rw [decide_eq_true (show z < n by omega), Bool.true_and] at ec
              exact ⟨_, rfl, _, _, rfl, rfl, z + 1, _, rfl, rfl, ec⟩
      · rintro σ H' ⟨least, u, rfl, rfl, ec⟩
        rw [← dpAll_len ht, List.drop_length] at ec
        have q2 : Q (V.bl (chk n 0 ds)) H' := q
        rw [ec] at q2
        exact q2
    | _ => exact iteT q
theorem ok_due (T : Txt K mg) {j : Nat} : FnOk P w K mg base CX0 (j + 1) T.fDue T.fdDue ["_law_wide", "_law_item"] (spSet K) := by
  refine T.FDue.ok scDue (fun vs H Q E h => ?_) (fun cdv A outer s H vs Q E hr h => ?_)
  · obtain ⟨n, v, d, rfl, _⟩ := h
    rfl
  · obtain ⟨n, v, d, rfl, hv, q⟩ := h
    refine ⟨_, pss_cons (ps_if (pt_not (pt_val (pe_callB (call_isiK1 K) (by rfl) T.n_isinstance (by decide +kernel) (pa_cons (pv 1) (pa_cons (pe_bltn (v := .ty "tuple") (by rfl) T.n_tuple (by decide +kernel) rfl) pa_nil))))) (pss_one (ps_ret pe_bl)) pss_nil) (pss_cons (ps_set (i := 2) scDue.nd rfl (.inl rfl) (pe_un un_neg pe_int)) (pss_cons (ps_for PassesOwn.never rfl (pi_tup (pv 1)) (pg_name (i := 3) scDue.nd rfl (.inl rfl)) (pss_cons (ps_if (PW.pt (pw_or (pt_not (pt_val (pe_callB (call_isiK1 K) (by rfl) T.n_isinstance (by decide +kernel) (pa_cons (pv 3) (pa_cons (pe_bltn (v := .ty "int") (by rfl) T.n_int (by decide +kernel) rfl) pa_nil))))) (pw_or (pt_val (pe_callB (call_isiK1 K) (by rfl) T.n_isinstance (by decide +kernel) (pa_cons (pv 3) (pa_cons (pe_bltn (v := .ty "bool") (by rfl) T.n_bool (by decide +kernel) rfl) pa_nil)))) (pw_or1 (pt_not (pt_chain op_lt op_lt (pv 2) (pv 3) (pv 0))))))) (pss_one (ps_ret pe_bl)) pss_nil) (pss_one (ps_set (i := 2) scDue.nd rfl (.inl rfl) (pv 3))))) (pss_one (ps_ret pe_bl)))), ?_⟩
    refine ⟨v, rfl, v, .ty "tuple", _, _, _, rfl, .ty _, hv.ty, kit_tuple (tyN_in d), _, rfl, ?_⟩
    cases d with
    | tuple ds =>
      refine iteF ?_
      obtain ⟨a, xs, rfl, hx, ht⟩ := item_tuple_parts hv
      refine ⟨1, rfl, ?_⟩
      refine ⟨.ref a, rfl, a, rfl, ⟨_, hx⟩, for_tup (K := K) (a := a) (xs := xs) (fun i σ H' => ∃ (last : Int) (u : Option V), σ = [some (.int n), some (.ref a), some (.int last), u] ∧ H' = H ∧ chk n 0 ds = chk n (last + 1) (ds.drop i)) ⟨-1, none, rfl, rfl, rfl⟩ (fun i σ H' _ ⟨_, _, _, e, _⟩ => e ▸ hx) ?_ ?_⟩
      · rintro i x σ H' hi ⟨last, u, rfl, rfl, ec⟩
        obtain ⟨d, hd, hD⟩ := dpAll_at ht hi
        rw [drop_at hd] at ec
        have q2 : Q (V.bl (chk n 0 ds)) H' := q
        refine ⟨x, rfl, x, .ty "int", _, _, _, rfl, .ty _, Ef.Dp.ty hD, kit_int (tyN_in d), _, rfl, ?_⟩
        cases hb : (tyN d == "int") with
        | false =>
          rw [chk_no hb] at ec
          rw [ec] at q2
          cases hb2 : (tyN d == "bool") with
          | false => exact iteT q2
          | true =>
            refine iteF ?_
            refine ⟨x, rfl, x, .ty "bool", _, _, _, rfl, .ty _, Ef.Dp.ty hD, kit_bool (tyN_in d), _, rfl, ?_⟩
            rw [hb2]
            exact iteT q2
        | true =>
          obtain ⟨z, rfl⟩ := tyN_int hb
          cases hD
          rw [chk_int] at ec
          refine iteF ?_
          refine ⟨_, rfl, _, .ty "bool", _, _, _, rfl, .ty _, .base (.int z), kit_bool (t := "int") (by decide), _, rfl, ?_⟩
          refine iteF ?_
          refine ⟨_, rfl, _, rfl, _, _, rfl, rfl, _, rfl, ite2 (fun h1 => ?_) (fun h1 => ?_)⟩
          · have h2 : last < z := of_decide_eq_true h1
            rw [decide_eq_true (show last + 1 ≤ z by omega), Bool.true_and] at ec
            refine ⟨_, rfl, _, _, rfl, rfl, _, rfl, ?_⟩
            by_cases h4 : z < n
            · rw [decide_eq_true h4, Bool.true_and] at ec
              rw [decide_eq_true h4]
              exact iteF ⟨_, rfl, z, _, rfl, rfl, ec⟩
            · rw [decide_eq_false h4] at ec ⊢
              rw [ec] at q2
              exact iteT q2
          · have h2 : ¬ last < z := fun y => h1 (decide_eq_true y)
            rw [decide_eq_false (show ¬ last + 1 ≤ z by omega)] at ec
            rw [ec] at q2
            exact ⟨_, rfl, iteT q2⟩
      · rintro σ H' ⟨last, u, rfl, rfl, ec⟩
        rw [← dpAll_len ht, List.drop_length] at ec
        have q2 : Q (V.bl (chk n 0 ds)) H' := q
        rw [ec] at q2
        exact q2
    | _ => exact iteT q
end
/-! ### the law's pot of drawn numbers -/
def PotAt (H : Hp) (p : Addr) (m : Nat) : Prop := ∃ a b c : Int, H p = some (.lst [.int a, .int b, .int c]) ∧ (0 ≤ a ∧ a < 10 ^ 300) ∧ (0 ≤ b ∧ b < 2305843009213693951) ∧ 0 ≤ c ∧ c ≤ (m : Int)
theorem PotAt.mono {H : Hp} {p : Addr} {m n : Nat} (h : PotAt H p m) (l : m ≤ n) : PotAt H p n := by
  obtain ⟨a, b, c, h1, h2, h3, h4, h5⟩ := h
  exact ⟨a, b, c, h1, h2, h3, h4, by omega⟩
theorem PotAt.same {H H' : Hp} {p : Addr} {m : Nat} (h : PotAt H p m) (s : Same H H') : PotAt H' p m := by
  obtain ⟨a, b, c, h1, h2⟩ := h
  exact ⟨a, b, c, s _ _ h1, h2⟩
theorem PotAt.ne {H : Hp} {p q : Addr} {m : Nat} (h : PotAt H p m) (n : H q = none) : p ≠ q := by
  obtain ⟨a, b, c, h1, _⟩ := h
  exact ne_of_none h1 n
def spPot (K : PySem.W.Frag) : Sp := fun vs H Q _ => ∃ (a : Addr) (ns : List Int) (i : Nat), vs = [.ref a, .int i] ∧ SqL K H a (ns.map V.int) ∧ i ≤ 100 ∧ ∀ H' p, Same H H' → H p = none → PotAt H' p 0 → Q (.ref p) H'
def spTake : Sp := fun vs H Q _ => ∃ (p : Addr) (m : Nat) (u : Int), vs = [.ref p, .int u] ∧ PotAt H p m ∧ m ≤ 1000000 ∧ 1 ≤ u ∧ u < 2 ^ 1000 ∧
  ∀ (r : Int) (H' : Hp), 0 ≤ r → r < u → PotAt H' p (m + 1) → But p H H' → Q (.int r) H'
theorem own_ok (x : Int) (c : Bool) : 0 ≤ x % ((10 : Int) ^ (60 : Int).toNat) ^ (5 : Int).toNat * (if c then 1 else 0) ∧ x % ((10 : Int) ^ (60 : Int).toNat) ^ (5 : Int).toNat * (if c then 1 else 0) < 10 ^ 300 := by
  have e : ((10 : Int) ^ (60 : Int).toNat) ^ (5 : Int).toNat = 10 ^ 300 := by decide +kernel
  rw [e]
  have h1 := Int.emod_nonneg x (show (10 : Int) ^ 300 ≠ 0 by decide +kernel)
  have h2 := Int.emod_lt_of_pos x (show (0 : Int) < 10 ^ 300 by decide +kernel)
  cases c with
  | true =>
    rw [if_pos rfl, Int.mul_one]
    exact ⟨h1, h2⟩
  | false =>
    rw [if_neg (by decide), Int.mul_zero]
    exact ⟨Int.le_refl _, by decide +kernel⟩
theorem big_pos : (0 : Int) < ((10 : Int) ^ (60 : Int).toNat) ^ (5 : Int).toNat := by decide +kernel
theorem bit_in (c : Bool) : -(2 ^ 64) < (if c then (1 : Int) else 0) ∧ (if c then (1 : Int) else 0) < 2 ^ 64 := by
  cases c <;> decide
theorem prime_at (i : Int) (h0 : 0 ≤ i) (h5 : i < 5) : ∃ v : Int, atI [V.int 2147483647, V.int 2147483629, V.int 2147483587, V.int 2147483579, V.int 2147483563] i = some (.int v) ∧ 0 < v ∧ v < 2 ^ 32 := by
  have h : i = 0 ∨ i = 1 ∨ i = 2 ∨ i = 3 ∨ i = 4 := by omega
  rcases h with rfl | rfl | rfl | rfl | rfl
  · exact ⟨2147483647, rfl, by decide, by decide⟩
  · exact ⟨2147483629, rfl, by decide, by decide⟩
  · exact ⟨2147483587, rfl, by decide, by decide⟩
  · exact ⟨2147483579, rfl, by decide, by decide⟩
  · exact ⟨2147483563, rfl, by decide, by decide⟩
section
variable {P : Program} {w : World} {K : PySem.W.Frag} {mg : Str → Option Value} {base : Heap}
theorem ok_pot (T : Txt K mg) {j : Nat} : FnOk P w K mg base CX0 (j + 1) T.fPot T.fdPot ["_law_script", "_law_spot"] (spPot K) := by
  refine T.FPot.ok scPot (fun vs H Q E h => ?_) (fun cdv A outer s H vs Q E hr h => ?_)
  · obtain ⟨a, ns, i, rfl, _⟩ := h
    rfl
  · obtain ⟨a, ns, i, rfl, hS, hi, q⟩ := h
    refine ⟨_, pss_cons (ps_set (i := 2) scPot.nd rfl (.inl rfl) (pe_ifExp (pt_cmpR op_lt (pv 1) (pe_callB call_len_seq (by rfl) T.n_len PySem.boot_len (pa_cons (pv 0) pa_nil)) (nomark _)) (pe_ix ix_list (pv 0) (pv 1) (fun _ _ => rfl)) (pe_op op_add pe_int (pv 1))))
      (pss_cons (ps_set (i := 3) scPot.nd rfl (.inl rfl) (pe_op op_mul (pe_op op_mod (pe_callB call_abs (by rfl) T.n_abs (by decide +kernel) (pa_cons (pv 2) pa_nil)) (pe_op op_powB (pe_op op_pow pe_int pe_int) pe_int))
        (pe_callTy call_int1 (by rfl) T.n_int (by decide +kernel) (pa_cons (pe_cmpR op_ge (pe_callB call_abs (by rfl) T.n_abs (by decide +kernel) (pa_cons (pv 2) pa_nil)) (pe_op op_pow pe_int pe_int) (nomark _)) pa_nil))))
      (pss_one (ps_ret (pe_lst (pa_cons (pv 3) (pa_cons (pe_op op_mod (pe_op op_add (pe_op op_add (pe_op op_mul (pe_op op_mod (pv 2) pe_int) pe_int) (pe_op op_mul (pe_op op_mul pe_int (pv 1)) (pv 1))) pe_int) pe_int) (pa_cons pe_int pa_nil))))))), ?_⟩
    refine ⟨_, rfl, .ref a, rfl, a, _, rfl, .inl hS, _, _, rfl, rfl, _, rfl, ite2 (fun h1 => ?_) (fun h1 => ?_)⟩
    · have hlt : i < ns.length := by
        have h2 := of_decide_eq_true h1
        rw [List.length_map] at h2
        omega
      refine ⟨.ref a, rfl, _, rfl, a, _, _, _, rfl, rfl, hS, atI_nat (v := V.int ns[i]) (by rw [List.getElem?_map, List.getElem?_eq_getElem hlt]; rfl), ?_⟩
      refine ⟨_, rfl, _, rfl, _, _, rfl, rfl, ⟨by decide, by decide, by decide⟩, _, _, rfl, rfl, ⟨by decide, by decide +kernel⟩, _, _, rfl, rfl, big_pos, _, rfl, _, rfl, _, _, rfl, rfl, ⟨by decide, by decide, by decide⟩, _, _, rfl, rfl, .inr ⟨_, rfl, _, _, rfl, rfl, .inr (bit_in _), ?_⟩⟩
      refine ⟨_, rfl, _, rfl, _, _, rfl, rfl, (show (0 : Int) < 2305843009213693951 by decide), _, _, rfl, rfl, .inr ⟨by decide, by decide⟩, _, rfl, _, _, rfl, rfl, .inl ⟨by decide, by decide⟩, _, rfl, _, _, rfl, rfl, .inr ⟨by omega, by omega⟩, _, _, rfl, rfl, _, _, rfl, rfl, _, _, rfl, rfl, (show (0 : Int) < 2305843009213693921 by decide), ?_⟩
      refine ⟨by show 3 ≤ sizeLine; decide, fun p np => ?_⟩
      refine q _ p (same_new np) np ⟨_, _, 0, upd_same, own_ok _ _, ⟨Int.emod_nonneg _ (by decide), Int.lt_trans (Int.emod_lt_of_pos _ (by decide)) (by decide)⟩, Int.le_refl _, Int.le_refl _⟩
    · refine ⟨_, rfl, _, _, rfl, rfl, ?_⟩
      refine ⟨_, rfl, _, rfl, _, _, rfl, rfl, ⟨by decide, by decide, by decide⟩, _, _, rfl, rfl, ⟨by decide, by decide +kernel⟩, _, _, rfl, rfl, big_pos, _, rfl, _, rfl, _, _, rfl, rfl, ⟨by decide, by decide, by decide⟩, _, _, rfl, rfl, .inr ⟨_, rfl, _, _, rfl, rfl, .inr (bit_in _), ?_⟩⟩
      refine ⟨_, rfl, _, rfl, _, _, rfl, rfl, (show (0 : Int) < 2305843009213693951 by decide), _, _, rfl, rfl, .inr ⟨by decide, by decide⟩, _, rfl, _, _, rfl, rfl, .inl ⟨by decide, by decide⟩, _, rfl, _, _, rfl, rfl, .inr ⟨by omega, by omega⟩, _, _, rfl, rfl, _, _, rfl, rfl, _, _, rfl, rfl, (show (0 : Int) < 2305843009213693921 by decide), ?_⟩
      refine ⟨by show 3 ≤ sizeLine; decide, fun p np => ?_⟩
      refine q _ p (same_new np) np ⟨_, _, 0, upd_same, own_ok _ _, ⟨Int.emod_nonneg _ (by decide), Int.lt_trans (Int.emod_lt_of_pos _ (by decide)) (by decide)⟩, Int.le_refl _, Int.le_refl _⟩
theorem ok_take (T : Txt K mg) {j : Nat} : FnOk P w K mg base CX0 (j + 1) T.fTake T.fdTake ["_law_pot_here", "_law_upto"] spTake := by
  refine T.FTake.ok scTake (fun vs H Q E h => ?_) (fun cdv A outer s H vs Q E hr h => ?_)
  · obtain ⟨p, m, u, rfl, _⟩ := h
    rfl
  · obtain ⟨p, m, u, rfl, ⟨a, b, c, hp, ha, hb, hc0, hcm⟩, hm, hu1, hu2, q⟩ := h
    refine ⟨_, pss_cons (ps_if (pt_cmpR op_gt (pe_ix ix_list (pv 0) pe_int (fun _ _ => rfl)) pe_int (nomark _))
        (pss_cons (ps_set (i := 2) scTake.nd rfl (.inl rfl) (pe_op op_mod (pe_ix ix_list (pv 0) pe_int (fun _ _ => rfl)) (pv 1)))
        (pss_cons (ps_asg (pe_op op_fdivW (pe_ix ix_list (pv 0) pe_int (fun _ _ => rfl)) (pv 1)) (pg_sub (pv 0) pe_int set_list))
        (pss_one (ps_ret (pv 2))))) pss_nil)
      (pss_cons (ps_asg (pe_op op_add (pe_ix ix_list (pv 0) pe_int (fun _ _ => rfl)) pe_int) (pg_sub (pv 0) pe_int set_list))
      (pss_cons (ps_set (i := 3) scTake.nd rfl (.inl rfl) (pe_ix ix_list (pe_lst (pa_cons pe_int (pa_cons pe_int (pa_cons pe_int (pa_cons pe_int (pa_cons pe_int pa_nil)))))) (pe_op op_mod (pe_ix ix_list (pv 0) pe_int (fun _ _ => rfl)) pe_int) (fun _ _ => rfl)))
      (pss_cons (ps_set (i := 4) scTake.nd rfl (.inl rfl) (pe_op op_mod (pe_op op_pow (pe_op op_add (pe_ix ix_list (pv 0) pe_int (fun _ _ => rfl)) (pe_op op_mul pe_int (pe_ix ix_list (pv 0) pe_int (fun _ _ => rfl)))) pe_int) (pv 3)))
      (pss_one (ps_ret (pe_op op_mod (pe_op op_fdiv (pe_op op_mod (pe_op op_mul (pv 4) (pe_op op_add (pe_op op_mod (pv 4) pe_int) (pe_ix ix_list (pv 0) pe_int (fun _ _ => rfl)))) (pv 3)) pe_int) (pv 1))))))), ?_⟩
    refine ⟨.ref p, rfl, p, _, _, _, rfl, rfl, SqL.of hp, rfl, _, _, rfl, rfl, _, rfl, ite2 (fun h1 => ?_) (fun h1 => ?_)⟩
    · have h0 : 0 < a := of_decide_eq_true h1
      refine ⟨.ref p, rfl, p, _, _, _, rfl, rfl, SqL.of hp, rfl, _, rfl, _, _, rfl, rfl, by omega, ?_⟩
      refine ⟨.ref p, rfl, p, _, _, _, rfl, rfl, SqL.of hp, rfl, _, rfl, _, _, rfl, rfl, wide_div (b := 1000) (by omega) (by omega) (by decide) (by decide), ?_⟩
      refine ⟨.ref p, rfl, p, _, _, 0, rfl, rfl, hp, rfl, ?_⟩
      refine ⟨_, rfl, q _ _ (Int.emod_nonneg _ (by omega)) (Int.emod_lt_of_pos _ (by omega)) ⟨a / u, b, c, upd_same, ?_, hb, hc0, by omega⟩ (But.refl p H).upd⟩
      have h3 : a / u ≤ a := Int.ediv_le_self _ (by omega)
      exact ⟨Int.ediv_nonneg (by omega) (by omega), by omega⟩
    · refine ⟨.ref p, rfl, p, _, _, _, rfl, rfl, SqL.of hp, rfl, _, _, rfl, rfl, .ref p, rfl, p, _, _, 2, rfl, rfl, hp, rfl, ?_⟩
      have hp2 : (upd H p (.lst [V.int a, V.int b, V.int (c + 1)])) p = some (.lst [V.int a, V.int b, V.int (c + 1)]) := upd_same
      obtain ⟨v, ev, v0, v32⟩ := prime_at ((c + 1) % 5) (Int.emod_nonneg _ (by decide)) (Int.emod_lt_of_pos _ (by decide))
      refine ⟨by decide, fun l nl => ?_⟩
      have npl : p ≠ l := ne_of_none hp2 nl
      have hp3 : (upd (upd H p (.lst [V.int a, V.int b, V.int (c + 1)])) l (.lst [V.int 2147483647, V.int 2147483629, V.int 2147483587, V.int 2147483579, V.int 2147483563])) p = some (.lst [V.int a, V.int b, V.int (c + 1)]) := by
        rw [upd_ne npl]
        exact hp2
      refine ⟨.ref p, rfl, p, _, _, _, rfl, rfl, SqL.of hp3, rfl, _, _, rfl, rfl, (show (0 : Int) < 5 by decide), l, _, _, _, rfl, rfl, SqL.of upd_same, ev, ?_⟩
      refine ⟨.ref p, rfl, p, _, _, _, rfl, rfl, SqL.of hp3, rfl, .ref p, rfl, p, _, _, _, rfl, rfl, SqL.of hp3, rfl, _, _, rfl, rfl, .inl ⟨by decide, by decide⟩, _, _, rfl, rfl, _, _, rfl, rfl, ⟨by decide, by decide, ?_⟩, _, rfl, _, _, rfl, rfl, v0, ?_⟩
      · have : (b + 7919 * (c + 1)).natAbs < 2 ^ 64 := by omega
        exact this
      · refine ⟨_, rfl, _, rfl, _, _, rfl, rfl, (show (0 : Int) < 1013 by decide), .ref p, rfl, p, _, _, _, rfl, rfl, SqL.of hp3, rfl, _, _, rfl, rfl, _, _, rfl, rfl, .inl ?_, _, rfl, _, _, rfl, rfl, v0, _, _, rfl, rfl, ⟨by decide, by decide⟩, _, rfl, _, _, rfl, rfl, by omega, ?_⟩
        · have h3 := Int.emod_nonneg ((b + 7919 * (c + 1)) ^ (3 : Int).toNat) (show v ≠ 0 by omega)
          have h4 := Int.emod_lt_of_pos ((b + 7919 * (c + 1)) ^ (3 : Int).toNat) v0
          exact ⟨by omega, by omega⟩
        · refine q _ _ (Int.emod_nonneg _ (by omega)) (Int.emod_lt_of_pos _ (by omega)) ⟨a, b, c + 1, hp3, ha, hb, by omega, by omega⟩ ?_
          exact (But.refl p H).upd.same (same_new nl)
end
/-! ### one of some -/
def spOf : Sp := fun vs H Q _ => ∃ (p : Addr) (m : Nat) (l : Addr) (xs : List V), vs = [.ref p, .ref l] ∧ PotAt H p m ∧ m ≤ 1000000 ∧ H l = some (.lst xs) ∧ l ≠ p ∧ 1 ≤ xs.length ∧ xs.length ≤ 1000 ∧
  ∀ (v : V) (H' : Hp), v ∈ xs → PotAt H' p (m + 1) → But p H H' → Q v H'
theorem pick_at {xs : List V} {r : Int} (h0 : 0 ≤ r) (hl : r < (xs.length : Int)) : ∃ v, v ∈ xs ∧ atI xs r = some v := by
  obtain ⟨k, rfl⟩ := Int.eq_ofNat_of_zero_le h0
  have hk : k < xs.length := by omega
  exact ⟨xs[k], List.getElem_mem hk, atI_nat (List.getElem?_eq_getElem hk)⟩
section
variable {P : Program} {w : World} {K : PySem.W.Frag} {mg : Str → Option Value} {base : Heap}
theorem ok_of (T : Txt K mg) {j : Nat} : FnOk P w K mg base CX0 (j + 2) T.fOf T.fdOf ["_law_pot_here", "_law_some_here"] spOf := by
  refine T.FOf.ok scOf (fun vs H Q E h => ?_) (fun cdv A outer s H vs Q E hr h => ?_)
  · obtain ⟨p, m, l, xs, rfl, _⟩ := h
    rfl
  · obtain ⟨p, m, l, xs, rfl, P0, hm, hl, hne, h1, h2, q⟩ := h
    refine ⟨_, pss_one (ps_ret (pe_ix ix_list (pv 1) (pe_call (ok_take T) hr (by rfl) T.gTake T.FTake.kp T.bTake .nil pass0 (pa_cons (pv 0) (pa_cons (pe_callB call_len_seq (by rfl) T.n_len PySem.boot_len (pa_cons (pv 1) pa_nil)) pa_nil))) (fun _ _ => rfl))), ?_⟩
    refine ⟨.ref l, rfl, .ref p, rfl, .ref l, rfl, l, _, rfl, .inl (SqL.of hl), p, m, _, rfl, P0, hm, by omega, ?_, fun r H' r0 rl P1 B1 => ?_⟩
    · exact Int.lt_trans (show (xs.length : Int) < 1001 by omega) (by decide +kernel)
    · obtain ⟨v, hv, ev⟩ := pick_at r0 rl
      exact ⟨l, xs, r, v, rfl, rfl, SqL.of (B1 _ _ hne hl), ev, q v H' hv P1 B1⟩
end
/-! ### some of the first n numbers -/
def subL (f : Nat → Bool) (n : Nat) : List Int := ((List.range n).filter f).map fun (i : Nat) => (i : Int)
theorem subL_succ (f : Nat → Bool) (n : Nat) : subL f (n + 1) = subL f n ++ (if f n then [(n : Int)] else []) := by
  unfold subL
  rw [List.range_succ, List.filter_append, List.map_append]
  congr 1
  cases h : f n with
  | true => rw [List.filter_cons_of_pos h]; rfl
  | false => rw [List.filter_cons_of_neg (by rw [h]; decide)]; rfl
theorem subL_congr {f g : Nat → Bool} {n : Nat} (h : ∀ i, i < n → f i = g i) : subL f n = subL g n := by
  unfold subL
  rw [List.filter_congr fun i hi => h i (List.mem_range.mp hi)]
theorem mem_subL {f : Nat → Bool} {n i : Nat} : (i : Int) ∈ subL f n ↔ i < n ∧ f i = true := by
  unfold subL
  rw [List.mem_map]
  constructor
  · rintro ⟨k, hk, e⟩
    have e' : k = i := by omega
    subst e'
    rw [List.mem_filter, List.mem_range] at hk
    exact hk
  · rintro ⟨h1, h2⟩
    exact ⟨i, List.mem_filter.mpr ⟨List.mem_range.mpr h1, h2⟩, rfl⟩
theorem subL_len (f : Nat → Bool) (n : Nat) : (subL f n).length ≤ n := by
  unfold subL
  rw [List.length_map]
  exact Nat.le_trans (List.length_filter_le _ _) (Nat.le_of_eq List.length_range)
theorem subL_lt {f : Nat → Bool} {n : Nat} : ∀ x ∈ subL f n, 0 ≤ x ∧ x < n := by
  intro x hx
  unfold subL at hx
  obtain ⟨k, hk, e⟩ := List.mem_map.mp hx
  have h1 := List.mem_range.mp (List.mem_filter.mp hk).1
  omega
theorem subL_more (f : Nat → Bool) (n : Nat) (b : Bool) : ∃ g, subL g (n + 1) = subL f n ++ (if b then [(n : Int)] else []) := by
  refine ⟨fun k => if k = n then b else f k, ?_⟩
  rw [subL_succ, if_pos rfl]
  congr 1
  exact subL_congr fun i hi => if_neg (by omega)
/-! ### some servers -/
def spSome : Sp := fun vs H Q _ => ∃ (p : Addr) (m n : Nat), vs = [.ref p, .int n] ∧ PotAt H p m ∧ m ≤ 100000 ∧ n ≤ 60 ∧
  ∀ (g : Nat → Bool) (t : Addr) (H' : Hp), But p H H' → PotAt H' p (m + n) → H t = none → H' t = some (.tup ((subL g n).map V.int)) → Q (.ref t) H'
theorem But.new {p q : Addr} {H H1 : Hp} {o : HO} (s : But p H H1) (h : H q = none) : But p H (L2.upd H1 q o) := fun b x n e => by
  rw [upd_ne (ne_of_none e h)]
  exact s b x n e
theorem But.free {p q : Addr} {H H1 : Hp} (s : But p H H1) (n : q ≠ p) (h : H1 q = none) : H q = none := by
  cases e : H q with
  | none => rfl
  | some o =>
    rw [s q o n e] at h
    cases h
section
variable {P : Program} {w : World} {K : PySem.W.Frag} {mg : Str → Option Value} {base : Heap}
theorem ok_some (T : Txt K mg) {j : Nat} : FnOk P w K mg base CX0 (j + 2) T.fSome T.fdSome ["_law_pot_here", "_law_wide"] spSome := by
  refine T.FSome.ok scSome (fun vs H Q E h => ?_) (fun cdv A outer s H vs Q E hr h => ?_)
  · obtain ⟨p, m, n, rfl, _⟩ := h
    rfl
  · obtain ⟨p, m, n, rfl, P0, hm, hn, q⟩ := h
    refine ⟨_, pss_one (ps_ret (pe_callTy (call_tupleK K) (by rfl) T.n_tuple (by decide +kernel) (pa_cons (pe_lc (own := [("_law_one", 2)]) (g := gName 2) rfl scSome.nd (pi_range1 (by rfl) T.n_range (pa_cons (pv 1) pa_nil)) (blkOk_by (own := [("_law_one", 2)]) (N := NSome) (sc := defScope sSome) (by decide +kernel)) (fun _ _ _ _ _ => (pg_name (i := 2) scSome.nd rfl (.inl rfl))) (fun _ _ _ _ _ => pts_one (pt_cmpR op_eq (pe_call (ok_take T) hr (by rfl) T.gTake T.FTake.kp T.bTake .nil pass0 (pa_cons (pv 0) (pa_cons pe_int pa_nil))) pe_int (nomark _))) (fun _ _ _ _ _ => (pv 2))) pa_nil))), ?_⟩
    refine ⟨_, rfl, (n : Int), rfl, by omega, by omega, fun D nD => ?_⟩
    have npD : p ≠ D := P0.ne nD
    refine lc_range (lo := 0) (fun i H8 => ∃ g, H8 D = some (.lst ((subL g i).map V.int)) ∧ But p H H8 ∧ PotAt H8 p (m + i)) ⟨fun _ => true, upd_same, But.of (same_new nD), P0.same (same_new nD)⟩ ?_ ?_
    · rintro z H8 hz ⟨g, hD, B8, P8⟩
      rw [Int.zero_add]
      refine ⟨rfl, .ref p, rfl, p, _, 3, rfl, P8, by omega, by omega, by decide +kernel, fun r H9 r0 rl P9 B9 => ⟨rfl, _, rfl, ?_⟩⟩
      have hD9 := B9 _ _ npD.symm hD
      refine ite2 (fun _ => ?_) (fun _ => ?_)
      · obtain ⟨g', eg⟩ := subL_more g z true
        refine ⟨_, rfl, _, hD9, ?_, g', ?_, (B8.trans B9).new nD, ?_⟩
        · rw [List.length_map]
          exact small1000 (by have := subL_len g z; omega)
        · rw [upd_same, eg, List.map_append]
          rfl
        · obtain ⟨x, y, c, hx, h1, h2, h3, h4⟩ := P9
          exact ⟨x, y, c, by rw [upd_ne npD]; exact hx, h1, h2, h3, by omega⟩
      · obtain ⟨g', eg⟩ := subL_more g z false
        refine ⟨g', ?_, B8.trans B9, P9.mono (by omega)⟩
        rw [eg, if_neg (by decide), List.append_nil]
        exact hD9
    · rintro H8 ⟨g, hD, B8, P8⟩
      rw [Int.toNat_natCast] at hD P8
      refine ⟨D, _, rfl, .inl ⟨SqL.of hD, fun l nl => ?_⟩⟩
      exact q g l _ (B8.same (same_new nl)) (P8.same (same_new nl)) (B8.free (fun z => P8.ne nl z.symm) nl) upd_same
end
/-! ### a set with something changed -/
theorem pot_lst {H : Hp} {p : Addr} {m : Nat} (h : PotAt H p m) : ∃ ys, H p = some (.lst ys) := by
  obtain ⟨a, b, c, h1, _⟩ := h
  exact ⟨_, h1⟩
theorem PotAt.hideT {K : PySem.W.Frag} {H : Hp} {p a : Addr} {m : Nat} {xs : List V} (h : PotAt H p m) (t : SqT K H a xs) : SqT K (hide p H) a xs := by
  obtain ⟨ys, e⟩ := pot_lst h
  exact hide_tup e t
/-- all but what stands at p and at D -/
def hid2 (p D : Addr) (H : Hp) : Hp := hide D (hide p H)
theorem hid2_same (p D : Addr) (H : Hp) : Same (hid2 p D H) H := (hide_same D (hide p H)).trans (hide_same p H)
theorem hid2_ne {p D b : Addr} {H : Hp} (h1 : b ≠ p) (h2 : b ≠ D) : hid2 p D H b = H b := by
  unfold hid2
  rw [hide_ne h2, hide_ne h1]
theorem hid2_but {p D : Addr} {H H' : Hp} (s : ∀ b o, b ≠ p → b ≠ D → H b = some o → H' b = some o) : Same (hid2 p D H) (hid2 p D H') := fun b o e => by
  by_cases c : b = p
  · unfold hid2 at e
    by_cases c2 : b = D
    · unfold hide at e
      rw [if_pos c2] at e
      cases e
    · rw [hide_ne c2] at e
      unfold hide at e
      rw [if_pos c] at e
      cases e
  · by_cases c2 : b = D
    · unfold hid2 hide at e
      rw [if_pos c2] at e
      cases e
    · rw [hid2_ne c c2] at e ⊢
      exact s b o c c2 e
theorem hid2_tup {K : PySem.W.Frag} {H : Hp} {p D a : Addr} {m : Nat} {xs ys : List V} (h : PotAt H p m) (hD : H D = some (.lst ys)) (t : SqT K H a xs) : SqT K (hid2 p D H) a xs := by
  obtain ⟨zs, e⟩ := pot_lst h
  rcases t with (t | ⟨o, t⟩) | t
  · exact .inl (.inl (by rw [hid2_ne (fun z => by rw [z, e] at t; cases t) (fun z => by rw [z, hD] at t; cases t)]; exact t))
  · exact .inl (.inr ⟨o, by rw [hid2_ne (fun z => by rw [z, e] at t; cases t) (fun z => by rw [z, hD] at t; cases t)]; exact t⟩)
  · exact .inr t
theorem cut_ints (ns : List Int) (lo hi : Option Int) : ∃ ms : List Int, cutV (ns.map V.int) lo hi = ms.map V.int ∧ (∀ x ∈ ms, x ∈ ns) ∧ ms.length ≤ ns.length := by
  unfold cutV
  rw [← List.map_drop, ← List.map_take]
  refine ⟨_, rfl, fun x hx => List.mem_of_mem_drop (List.mem_of_mem_take hx), ?_⟩
  rw [List.length_take, List.length_drop]
  omega
/-- ints of some servers -/
def Ints60 (ms : List Int) : Prop := ms.length ≤ 60 ∧ ∀ x ∈ ms, 0 ≤ x ∧ x < 60
theorem Ints60.cut {ns ms : List Int} (h : Ints60 ns) (h1 : ∀ x ∈ ms, x ∈ ns) (h2 : ms.length ≤ ns.length) : Ints60 ms := ⟨Nat.le_trans h2 h.1, fun x hx => h.2 x (h1 x hx)⟩
theorem Ints60.sh {ms : List Int} (h : Ints60 ms) : ShAll 5 500 (ms.map PyData.int) := by
  have h1 := ShAll.ints (b := 7) (by decide) (by decide) (ns := ms) fun x hx => by
    have := h.2 x hx
    omega
  exact h1.mono (by decide) (by have := h.1; omega)
/-- parts of a tuple that are data -/
def Parts (K : PySem.W.Frag) (H : Hp) (xs : List V) (n : Nat) : Prop := xs.length ≤ n ∧ ∃ ds, DpAll K H xs ds ∧ ShAll 5 (10 * n) ds
theorem Parts.ints {K : PySem.W.Frag} {H : Hp} {ms : List Int} (h : Ints60 ms) : Parts K H (ms.map V.int) 60 := ⟨by rw [List.length_map]; exact h.1, _, dp_ints ms, h.sh.mono (Nat.le_refl _) (by decide)⟩
theorem Parts.one {K : PySem.W.Frag} {H : Hp} {v : V} {d : PyData} (h : Dp K H v d) (s : Sh 5 150 d) : Parts K H [v] 20 := ⟨(by show 1 ≤ 20; decide), [d], .cons h .nil, (ShAll.cons s (ShAll.nil.mono (Nat.zero_le _) (Nat.le_refl _))).mono (Nat.le_refl _) (by decide)⟩
theorem Parts.app {K : PySem.W.Frag} {H : Hp} {xs ys : List V} {m n : Nat} (h : Parts K H xs m) (t : Parts K H ys n) : Parts K H (xs ++ ys) (m + n) := by
  obtain ⟨h1, ds, h2, h3⟩ := h
  obtain ⟨t1, es, t2, t3⟩ := t
  exact ⟨by rw [List.length_append]; omega, ds ++ es, DpAll.app h2 t2, (ShAll.app h3 t3).mono (Nat.le_refl _) (by omega)⟩
theorem Parts.rev {K : PySem.W.Frag} {H : Hp} {ms : List Int} (h : Ints60 ms) : Parts K H (ms.map V.int).reverse 60 := by
  rw [← List.map_reverse]
  exact Parts.ints ⟨by rw [List.length_reverse]; exact h.1, fun x hx => h.2 x (List.mem_reverse.mp hx)⟩
theorem Parts.mono {K : PySem.W.Frag} {H H' : Hp} {xs : List V} {n : Nat} (h : Parts K H xs n) (s : Same H H') : Parts K H' xs n := by
  obtain ⟨h1, ds, h2, h3⟩ := h
  exact ⟨h1, ds, DpAll.mono s h2, h3⟩
theorem Parts.tup {K : PySem.W.Frag} {H : Hp} {a : Addr} {xs : List V} {n : Nat} (h : Parts K H xs n) (hn : n ≤ 400) (t : SqT K H a xs) : ∃ d, ItemV K H (.ref a) d := by
  obtain ⟨h1, ds, h2, h3⟩ := h
  exact ⟨_, .inl ⟨.tup t h2, (Sh.tup h3).mono (by decide) (by omega)⟩⟩
theorem Parts.lst {K : PySem.W.Frag} {H : Hp} {a : Addr} {xs : List V} {n : Nat} (h : Parts K H xs n) (hn : n ≤ 400) (t : SqL K H a xs) : ∃ d, ItemV K H (.ref a) d := by
  obtain ⟨h1, ds, h2, h3⟩ := h
  exact ⟨_, .inl ⟨.lst t h2, (Sh.lst h3).mono (by decide) (by omega)⟩⟩
theorem SqT.updL {K : PySem.W.Frag} {H : Hp} {a b : Addr} {xs ys : List V} {o : HO} (hl : H b = some (.lst ys)) (h : SqT K H a xs) : SqT K (L2.upd H b o) a xs := by
  rcases h with (h | ⟨x, h⟩) | h
  · exact .inl (.inl (by rw [upd_ne (fun z => by rw [z, hl] at h; cases h)]; exact h))
  · exact .inl (.inr ⟨x, by rw [upd_ne (fun z => by rw [z, hl] at h; cases h)]; exact h⟩)
  · exact .inr h
def spBent (K : PySem.W.Frag) : Sp := fun vs H Q _ => ∃ (p : Addr) (m n : Nat) (t : Addr) (ns : List Int) (D : Addr) (ys : List V), vs = [.ref p, .int n, .ref t] ∧ H D = some (.lst ys) ∧ D ≠ p ∧ PotAt H p m ∧ m ≤ 100000 ∧ 2 ≤ n ∧ n ≤ 60 ∧ SqT K H t (ns.map V.int) ∧ Ints60 ns ∧
  ∀ (v : V) (d : PyData) (H' : Hp), ItemV K (hid2 p D H') v d → But p H H' → PotAt H' p (m + 4) → Q v H'
/-- what is odd -/
def OddP (e l : Addr) (v : V) : Prop := (∃ c : Int, v = .int c ∧ c.natAbs < 2 ^ 100) ∨ (∃ b, v = .bl b) ∨ v = .non ∨ v = .str "0" ∨ v = .ref e ∨ v = .ref l
theorem OddP.dp {K : PySem.W.Frag} {H : Hp} {e l : Addr} {v : V} (h : OddP e l v) (he : SqT K H e [V.int 0]) (hl : SqL K H l [V.int 1]) : ∃ d, Dp K H v d ∧ Sh 5 150 d := by
  rcases h with ⟨c, rfl, hc⟩ | ⟨b, rfl⟩ | rfl | rfl | rfl | rfl
  · exact ⟨_, .int c, (Sh.int (b := 100) (by decide) (by decide) hc).mono (by decide) (by decide)⟩
  · exact ⟨_, .bl b, (Sh.bool b).mono (by decide) (by decide)⟩
  · exact ⟨_, .non, Sh.none.mono (by decide) (by decide)⟩
  · exact ⟨_, .str _, ⟨by decide +kernel, by decide, by decide +kernel, by decide +kernel, by decide +kernel⟩⟩
  · exact ⟨_, .tup he (dp_ints [0]), (Sh.tup (ShAll.ints (b := 20) (by decide) (by decide) (ns := [0]) fun x hx => by rw [List.mem_singleton.mp hx]; decide)).mono (by decide) (by decide)⟩
  · exact ⟨_, .lst hl (dp_ints [1]), (Sh.lst (ShAll.ints (b := 20) (by decide) (by decide) (ns := [1]) fun x hx => by rw [List.mem_singleton.mp hx]; decide)).mono (by decide) (by decide)⟩
section
variable {P : Program} {w : World} {K : PySem.W.Frag} {mg : Str → Option Value} {base : Heap}
theorem ok_bent (T : Txt K mg) {j : Nat} : FnOk P w K mg base CX0 (j + 3) T.fBent T.fdBent ["_law_pot_here", "_law_wide", "_law_some_here"] (spBent K) := by
  refine T.FBent.ok scBent (fun vs H Q E h => ?_) (fun cdv A outer s H vs Q E hr h => ?_)
  · obtain ⟨p, m, n, t, ns, D, ys, rfl, _⟩ := h
    rfl
  · obtain ⟨p, m, n, t, ns, D, ys, rfl, hD, hDp, P0, hm, hn2, hn, hT, h60, q⟩ := h
    have l60 := h60.1
    refine ⟨_, pss_cons (ps_par (i := 3) (j := 4) rfl scBent.nd rfl rfl (by decide) rfl rfl (pa_cons (pe_call (ok_take T) hr (by rfl) T.gTake T.FTake.kp T.bTake .nil pass0 (pa_cons (pv 0) (pa_cons pe_int pa_nil))) (pa_cons (pe_call (ok_take T) hr (by rfl) T.gTake T.FTake.kp T.bTake .nil pass0 (pa_cons (pv 0) (pa_cons (pe_op op_add (pe_callB (call_lenK K) (by rfl) T.n_len PySem.boot_len (pa_cons (pv 2) pa_nil)) pe_int) pa_nil))) pa_nil)) (by rfl)) (pss_cons (ps_set (i := 5) scBent.nd rfl (.inl rfl) (pe_call (ok_of T) hr (by rfl) T.gOf T.FOf.kp T.bOf .nil pass0 (pa_cons (pv 0) (pa_cons (pe_lst (pa_cons pe_int (pa_cons pe_int (pa_cons (pe_op op_sub (pv 1) pe_int) (pa_cons (pv 1) (pa_cons (pe_un un_neg pe_int) (pa_cons pe_bl (pa_cons pe_bl (pa_cons pe_non (pa_cons pe_str (pa_cons (pe_tup (pa_cons pe_int pa_nil)) (pa_cons (pe_lst (pa_cons pe_int pa_nil)) (pa_cons (pe_op op_pow pe_int pe_int) (pa_cons (pe_call (ok_take T) hr (by rfl) T.gTake T.FTake.kp T.bTake .nil pass0 (pa_cons (pv 0) (pa_cons (pv 1) pa_nil))) pa_nil)))))))))))))) pa_nil)))) (pss_cons (ps_par (i := 6) (j := 7) rfl scBent.nd rfl rfl (by decide) rfl rfl (pa_cons (pe_slice (sl_tupS K) (pv 2) po_none (po_some (pv 4))) (pa_cons (pe_slice (sl_tupS K) (pv 2) (po_some (pe_op op_add (pv 4) pe_int)) po_none) pa_nil)) (by rfl)) (pss_cons (ps_set (i := 8) scBent.nd rfl (.inl rfl) (pe_lst (pa_cons (pe_op (op_catS K) (pe_op (op_catS K) (pv 6) (pe_tup (pa_cons (pv 5) pa_nil))) (pv 7)) (pa_cons (pe_op (op_catS K) (pv 6) (pv 7)) (pa_cons (pe_op (op_catS K) (pe_op (op_catS K) (pv 6) (pe_slice (sl_tupS K) (pv 2) (po_some (pv 4)) (po_some (pe_op op_add (pv 4) pe_int)))) (pe_slice (sl_tupS K) (pv 2) (po_some (pv 4)) po_none)) pa_nil))))) (pss_cons (ps_expr (pe_bm PySem.F.plainAttrs_list PySem.F.slot_list_append PySem.F.type_list_append mt_append (pv 8) (pa_cons (pe_op (op_catS K) (pe_op (op_catS K) (pv 6) (pe_revT (pe_slice (sl_tupS K) (pv 2) (po_some (pv 4)) (po_some (pe_op op_add (pv 4) pe_int))))) (pe_slice (sl_tupS K) (pv 2) (po_some (pe_op op_add (pv 4) pe_int)) po_none)) pa_nil))) (pss_one (ps_ret (pe_ix (ix_listK K) (pe_op op_cat (pv 8) (pe_lst (pa_cons (pe_op (op_catS K) (pv 2) (pe_tup (pa_cons (pv 5) pa_nil))) (pa_cons (pe_op (op_catS K) (pe_tup (pa_cons (pv 5) pa_nil)) (pv 2)) (pa_cons (pe_callTy (call_listK K) (by rfl) T.n_list (by decide +kernel) (pa_cons (pv 2) pa_nil)) pa_nil))))) (pv 3) (fun _ _ => rfl)))))))), ?_⟩
    -- way, at
    refine ⟨.ref p, rfl, p, _, 7, rfl, P0, by omega, by decide, by decide +kernel, fun r1 H1 r10 r1l P1 B1 => ?_⟩
    have hT1 : SqT K H1 t (ns.map V.int) := Same.seqT (hide_same p H1) (Same.seqT B1.hide (P0.hideT hT))
    refine ⟨.ref p, rfl, .ref t, rfl, t, _, rfl, .inr hT1, _, _, rfl, rfl, p, _, _, rfl, P1, by omega, by omega, ?_, fun r2 H2 r20 r2l P2 B2 => ?_⟩
    · rw [List.length_map]
      exact Int.lt_trans (show (ns.length : Int) + 1 < 100 by omega) (by decide +kernel)
    refine ⟨_, _, rfl, ?_⟩
    have hT2 : SqT K H2 t (ns.map V.int) := Same.seqT (hide_same p H2) (Same.seqT B2.hide (P1.hideT hT1))
    obtain ⟨at_, rfl⟩ := Int.eq_ofNat_of_zero_le r20
    -- odd
    refine ⟨.ref p, rfl, _, rfl, _, _, rfl, rfl, _, rfl, 1, rfl, by show 1 ≤ sizeLine; decide, fun e ne => ?_⟩
    refine ⟨by show 1 ≤ sizeLine; decide, fun l nl => ?_⟩
    refine ⟨_, _, rfl, rfl, ⟨by decide, by decide, by decide⟩, ?_⟩
    have S2 : Same H2 (upd (upd H2 e (.tup [V.int 0])) l (.lst [V.int 1])) := (same_new ne).trans (same_new nl)
    have P3 := P2.same S2
    have hne : e ≠ p := fun z => P2.ne ne z.symm
    have hnl : l ≠ p := fun z => (P2.same (same_new ne)).ne nl z.symm
    have he3 : (upd (upd H2 e (.tup [V.int 0])) l (.lst [V.int 1])) e = some (.tup [V.int 0]) := same_new nl _ _ upd_same
    have hl3 : (upd (upd H2 e (.tup [V.int 0])) l (.lst [V.int 1])) l = some (.lst [V.int 1]) := upd_same
    have hT3 := Same.seqT S2 hT2
    generalize upd (upd H2 e (.tup [V.int 0])) l (.lst [V.int 1]) = H3 at S2 P3 he3 hl3 hT3
    refine ⟨.ref p, rfl, _, rfl, p, _, _, rfl, P3, by omega, by omega, ?_, fun r4 H4 r40 r4l P4 B4 => ?_⟩
    · exact Int.lt_trans (show (n : Int) < 100 by omega) (by decide +kernel)
    have he4 := B4 _ _ hne he3
    have hl4 := B4 _ _ hnl hl3
    have hT4 : SqT K H4 t (ns.map V.int) := Same.seqT (hide_same p H4) (Same.seqT B4.hide (P3.hideT hT3))
    refine ⟨by show 13 ≤ sizeLine; decide, fun L nL => ?_⟩
    refine ⟨p, _, L, _, rfl, P4.same (same_new nL), by omega, upd_same, fun z => P4.ne nL z.symm, (by show 1 ≤ 13; decide), (by show 13 ≤ 1000; decide), fun v H5 hv P5 B5 => ?_⟩
    have hodd : OddP e l v := by
      simp only [List.mem_cons, List.not_mem_nil, or_false] at hv
      rcases hv with rfl | rfl | rfl | rfl | rfl | rfl | rfl | rfl | rfl | rfl | rfl | rfl | rfl
      · exact .inl ⟨_, rfl, by decide⟩
      · exact .inl ⟨_, rfl, by decide⟩
      · exact .inl ⟨_, rfl, by omega⟩
      · exact .inl ⟨_, rfl, by omega⟩
      · exact .inl ⟨_, rfl, by decide⟩
      · exact .inr (.inl ⟨_, rfl⟩)
      · exact .inr (.inl ⟨_, rfl⟩)
      · exact .inr (.inr (.inl rfl))
      · exact .inr (.inr (.inr (.inl rfl)))
      · exact .inr (.inr (.inr (.inr (.inl rfl))))
      · exact .inr (.inr (.inr (.inr (.inr rfl))))
      · exact .inl ⟨_, rfl, by decide +kernel⟩
      · exact .inl ⟨_, rfl, by omega⟩
    have he5 := B5 _ _ hne (same_new nL _ _ he4)
    have hl5 := B5 _ _ hnl (same_new nL _ _ hl4)
    have hT5 : SqT K H5 t (ns.map V.int) := Same.seqT (hide_same p H5) (Same.seqT B5.hide ((P4.same (same_new nL)).hideT (Same.seqT (same_new nL) hT4)))
    have B05 : But p H H5 := ((((B1.trans B2).same S2).trans B4).same (same_new nL)).trans B5
    have hD5 := B05 _ _ hDp hD
    have nlD : l ≠ D := fun z => by
      have h9 := same_new (o := .tup [V.int 0]) ne _ _ (B2 _ _ hDp (B1 _ _ hDp hD))
      rw [← z, nl] at h9
      cases h9
    obtain ⟨dv, hdv, shv⟩ := hodd.dp (K := K) (H := hid2 p D H5) (hid2_tup P5 hD5 (SqT.of he5)) (SqL.of (by rw [hid2_ne hnl nlD]; exact hl5))
    have pv0 : Parts K (hid2 p D H5) [v] 20 := Parts.one hdv shv
    -- start, rest
    refine ⟨.ref t, rfl, _, rfl, _, rfl, t, _, rfl, hT5, fun a1 H6 S6 t6 => ?_⟩
    obtain ⟨m1, c1, c2, c3⟩ := cut_ints ns none (some (at_ : Int))
    rw [c1] at t6
    have i1 := h60.cut c2 c3
    refine ⟨.ref t, rfl, _, rfl, _, _, rfl, rfl, _, rfl, t, _, rfl, Same.seqT S6 hT5, fun a2 H7 S7 t7 => ?_⟩
    obtain ⟨m2, c4, c5, c6⟩ := cut_ints ns (some ((at_ : Int) + 1)) none
    rw [c4] at t7
    have i2 := h60.cut c5 c6
    refine ⟨_, _, rfl, ?_⟩
    have t6' := Same.seqT S7 t6
    have S57 := S6.trans S7
    -- bent = [start + (odd,) + rest, ..]
    refine ⟨.ref a1, rfl, v, rfl, by show 1 ≤ sizeLine; decide, fun b1 nb1 => ?_⟩
    have S8 := S57.trans (same_new (o := .tup [v]) nb1)
    refine ⟨a1, b1, _, _, rfl, rfl, Same.seqT (same_new nb1) t6', SqT.of upd_same, ?_, fun a3 H9 S9 t9 => ?_⟩
    · have := i1.1
      rw [List.length_map]
      show m1.length + 1 ≤ sizeLine
      exact Nat.le_of_lt (small1000 (by omega))
    refine ⟨.ref a2, rfl, a3, a2, _, _, rfl, rfl, t9, Same.seqT S9 (Same.seqT (same_new nb1) t7), ?_, fun x1 H10 S10 t10 => ?_⟩
    · have := i1.1
      have := i2.1
      rw [List.length_append, List.length_map, List.length_map]
      show m1.length + 1 + m2.length ≤ sizeLine
      exact Nat.le_of_lt (small1000 (by omega))
    have S510 := (S8.trans S9).trans S10
    -- start + rest
    have t6a := Same.seqT S10 (Same.seqT S9 (Same.seqT (same_new (o := .tup [v]) nb1) t6'))
    have t7a := Same.seqT S10 (Same.seqT S9 (Same.seqT (same_new (o := .tup [v]) nb1) t7))
    refine ⟨.ref a1, rfl, .ref a2, rfl, a1, a2, _, _, rfl, rfl, t6a, t7a, ?_, fun x2 H11 S11 t11 => ?_⟩
    · have := i1.1
      have := i2.1
      rw [List.length_map, List.length_map]
      exact Nat.le_of_lt (small1000 (by omega))
    -- start + some[at:at + 1] + some[at:]
    have hT11 := Same.seqT S11 (Same.seqT S510 hT5)
    refine ⟨.ref a1, rfl, .ref t, rfl, _, rfl, _, rfl, _, rfl, _, _, rfl, rfl, _, rfl, t, _, rfl, hT11, fun a4 H12 S12 t12 => ?_⟩
    obtain ⟨m3, c7, c8, c9⟩ := cut_ints ns (some (at_ : Int)) (some ((at_ : Int) + 1))
    rw [c7] at t12
    have i3 := h60.cut c8 c9
    refine ⟨a1, a4, _, _, rfl, rfl, Same.seqT S12 (Same.seqT S11 t6a), t12, ?_, fun a5 H13 S13 t13 => ?_⟩
    · have := i1.1
      have := i3.1
      rw [List.length_map, List.length_map]
      exact Nat.le_of_lt (small1000 (by omega))
    refine ⟨.ref t, rfl, _, rfl, _, rfl, t, _, rfl, Same.seqT S13 (Same.seqT S12 hT11), fun a6 H14 S14 t14 => ?_⟩
    obtain ⟨m4, c10, c11, c12⟩ := cut_ints ns (some (at_ : Int)) none
    rw [c10] at t14
    have i4 := h60.cut c11 c12
    refine ⟨a5, a6, _, _, rfl, rfl, Same.seqT S14 t13, t14, ?_, fun x3 H15 S15 t15 => ?_⟩
    · have := i1.1
      have := i3.1
      have := i4.1
      rw [List.length_append, List.length_map, List.length_map, List.length_map]
      exact Nat.le_of_lt (small1000 (by omega))
    have S1115 := ((S12.trans S13).trans S14).trans S15
    refine ⟨by show 3 ≤ sizeLine; decide, fun bl nbl => ?_⟩
    have S16 : Same H15 (upd H15 bl (.lst [V.ref x1, V.ref x2, V.ref x3])) := same_new nbl
    have hb16 : (upd H15 bl (.lst [V.ref x1, V.ref x2, V.ref x3])) bl = some (.lst [V.ref x1, V.ref x2, V.ref x3]) := upd_same
    generalize upd H15 bl (.lst [V.ref x1, V.ref x2, V.ref x3]) = H16 at S16 hb16
    have S516 := ((S510.trans S11).trans S1115).trans S16
    have hT16 := Same.seqT S516 hT5
    have t6b := Same.seqT S16 (Same.seqT S1115 (Same.seqT S11 t6a))
    -- bent.append(start + some[at:at + 2][::-1] + some[at + 2:])
    refine ⟨.ref bl, rfl, .inl ⟨rfl, _, SqL.of hb16⟩, .ref a1, rfl, .ref t, rfl, _, rfl, _, rfl, _, rfl, _, _, rfl, rfl, _, rfl, t, _, rfl, hT16, fun a7 H17 S17 t17 => ?_⟩
    obtain ⟨m5, c13, c14, c15⟩ := cut_ints ns (some (at_ : Int)) (some ((at_ : Int) + 2))
    rw [c13] at t17
    have i5 := h60.cut c14 c15
    refine ⟨a7, _, rfl, t17, fun a8 n8 => ?_⟩
    refine ⟨a1, a8, _, _, rfl, rfl, Same.seqT (same_new n8) (Same.seqT S17 t6b), SqT.of upd_same, ?_, fun a9 H18 S18 t18 => ?_⟩
    · have := i1.1
      have := i5.1
      rw [List.length_map, List.length_reverse, List.length_map]
      exact Nat.le_of_lt (small1000 (by omega))
    have S1618 := S17.trans ((same_new (o := .tup (m5.map V.int).reverse) n8).trans S18)
    refine ⟨.ref t, rfl, _, rfl, _, _, rfl, rfl, _, rfl, t, _, rfl, Same.seqT S1618 hT16, fun a10 H19 S19 t19 => ?_⟩
    obtain ⟨m6, c16, c17, c18⟩ := cut_ints ns (some ((at_ : Int) + 2)) none
    rw [c16] at t19
    have i6 := h60.cut c17 c18
    refine ⟨a9, a10, _, _, rfl, rfl, Same.seqT S19 t18, t19, ?_, fun x4 H20 S20 t20 => ?_⟩
    · have := i1.1
      have := i5.1
      have := i6.1
      rw [List.length_append, List.length_map, List.length_reverse, List.length_map, List.length_map]
      exact Nat.le_of_lt (small1000 (by omega))
    have S1620 := (S1618.trans S19).trans S20
    have hb20 := S1620 _ _ hb16
    refine ⟨bl, _, _, rfl, rfl, hb20, (by show 3 < sizeLine; decide), ?_⟩
    have S1521 : Same H15 (upd H20 bl (.lst ([V.ref x1, V.ref x2, V.ref x3] ++ [V.ref x4]))) := keep_upd (S16.trans S1620) nbl
    have hb21 : (upd H20 bl (.lst ([V.ref x1, V.ref x2, V.ref x3] ++ [V.ref x4]))) bl = some (.lst [V.ref x1, V.ref x2, V.ref x3, V.ref x4]) := upd_same
    have t20' := SqT.updL (o := .lst ([V.ref x1, V.ref x2, V.ref x3] ++ [V.ref x4])) hb20 t20
    generalize upd H20 bl (.lst ([V.ref x1, V.ref x2, V.ref x3] ++ [V.ref x4])) = H21 at S1521 hb21 t20'
    have S521 := ((S510.trans S11).trans S1115).trans S1521
    have hT21 := Same.seqT S521 hT5
    -- (bent + [some + (odd,), (odd,) + some, list(some)])[way]
    refine ⟨.ref bl, rfl, .ref t, rfl, v, rfl, by show 1 ≤ sizeLine; decide, fun b2 nb2 => ?_⟩
    refine ⟨t, b2, _, _, rfl, rfl, Same.seqT (same_new nb2) hT21, SqT.of upd_same, ?_, fun x5 H22 S22 t22 => ?_⟩
    · rw [List.length_map]
      show ns.length + 1 ≤ sizeLine
      exact Nat.le_of_lt (small1000 (by omega))
    have S2122 := (same_new (o := .tup [v]) nb2).trans S22
    refine ⟨v, rfl, by show 1 ≤ sizeLine; decide, fun b3 nb3 => ?_⟩
    refine ⟨.ref t, rfl, b3, t, _, _, rfl, rfl, SqT.of upd_same, Same.seqT (same_new nb3) (Same.seqT S2122 hT21), ?_, fun x6 H23 S23 t23 => ?_⟩
    · rw [List.length_map]
      show 1 + ns.length ≤ sizeLine
      exact Nat.le_of_lt (small1000 (by omega))
    have S2223 := (same_new (o := .tup [v]) nb3).trans S23
    have hT23 := Same.seqT S2223 (Same.seqT S2122 hT21)
    refine ⟨.ref t, rfl, t, _, rfl, .inr hT23, fun x7 n7 => ?_⟩
    refine ⟨by show 3 ≤ sizeLine; decide, fun l2 nl2 => ?_⟩
    have S2324 : Same H23 (upd (upd H23 x7 (.lst (ns.map V.int))) l2 (.lst [V.ref x5, V.ref x6, V.ref x7])) := (same_new n7).trans (same_new nl2)
    refine ⟨bl, l2, _, _, rfl, rfl, S2324 _ _ (S2223 _ _ (S2122 _ _ hb21)), upd_same, (by show 7 ≤ sizeLine; decide), fun l3 nl3 => ?_⟩
    have S2325 := S2324.trans (same_new (o := .lst ([V.ref x1, V.ref x2, V.ref x3, V.ref x4] ++ [V.ref x5, V.ref x6, V.ref x7])) nl3)
    have hx7 : (upd (upd (upd H23 x7 (.lst (ns.map V.int))) l2 (.lst [V.ref x5, V.ref x6, V.ref x7])) l3 (.lst ([V.ref x1, V.ref x2, V.ref x3, V.ref x4] ++ [V.ref x5, V.ref x6, V.ref x7]))) x7 = some (.lst (ns.map V.int)) := same_new nl3 _ _ (same_new nl2 _ _ upd_same)
    have hl3 : (upd (upd (upd H23 x7 (.lst (ns.map V.int))) l2 (.lst [V.ref x5, V.ref x6, V.ref x7])) l3 (.lst ([V.ref x1, V.ref x2, V.ref x3, V.ref x4] ++ [V.ref x5, V.ref x6, V.ref x7]))) l3 = some (.lst [V.ref x1, V.ref x2, V.ref x3, V.ref x4, V.ref x5, V.ref x6, V.ref x7]) := upd_same
    generalize upd (upd (upd H23 x7 (.lst (ns.map V.int))) l2 (.lst [V.ref x5, V.ref x6, V.ref x7])) l3 (.lst ([V.ref x1, V.ref x2, V.ref x3, V.ref x4] ++ [V.ref x5, V.ref x6, V.ref x7])) = H25 at S2325 hx7 hl3
    obtain ⟨vv, hvv, evv⟩ := pick_at (xs := [V.ref x1, V.ref x2, V.ref x3, V.ref x4, V.ref x5, V.ref x6, V.ref x7]) r10 r1l
    refine ⟨_, rfl, l3, _, r1, vv, rfl, rfl, SqL.of hl3, evv, ?_⟩
    -- each of the seven
    have S2125 := (S2122.trans S2223).trans S2325
    have S525 := S521.trans S2125
    have P25 := P5.same S525
    have S15 : Same H15 H25 := S1521.trans S2125
    have n7p : x7 ≠ p := fun z => by
      have S523 := (S521.trans S2122).trans S2223
      exact (P5.same S523).ne n7 z.symm
    have n7D : x7 ≠ D := fun z => by
      have h9 := S2223 _ _ (S2122 _ _ (S521 _ _ hD5))
      rw [← z, n7] at h9
      cases h9
    have hD25 := S525 _ _ hD5
    have pvf : Parts K (hid2 p D H25) [v] 20 := pv0.mono (hid2_but fun b o _ _ z => S525 b o z)
    have item : ∃ d, ItemV K (hid2 p D H25) vv d := by
      simp only [List.mem_cons, List.not_mem_nil, or_false] at hvv
      rcases hvv with rfl | rfl | rfl | rfl | rfl | rfl | rfl
      · exact (((Parts.ints i1).app pvf).app (Parts.ints i2)).tup (by decide) (hid2_tup P25 hD25 (Same.seqT S15 (Same.seqT S1115 (Same.seqT S11 t10))))
      · exact ((Parts.ints i1).app (Parts.ints i2)).tup (by decide) (hid2_tup P25 hD25 (Same.seqT S15 (Same.seqT S1115 t11)))
      · exact (((Parts.ints i1).app (Parts.ints i3)).app (Parts.ints i4)).tup (by decide) (hid2_tup P25 hD25 (Same.seqT S15 t15))
      · exact (((Parts.ints i1).app (Parts.rev i5)).app (Parts.ints i6)).tup (by decide) (hid2_tup P25 hD25 (Same.seqT S2125 t20'))
      · exact ((Parts.ints h60).app pvf).tup (by decide) (hid2_tup P25 hD25 (Same.seqT (S2223.trans S2325) t22))
      · exact (pvf.app (Parts.ints h60)).tup (by decide) (hid2_tup P25 hD25 (Same.seqT S2325 t23))
      · exact (Parts.ints h60).lst (by decide) (SqL.of (by rw [hid2_ne n7p n7D]; exact hx7))
    obtain ⟨d, hd⟩ := item
    exact q vv d H25 hd (B05.same S525) (P25.mono (by omega))
end
/-! ### the law -/
def spLaw (K : PySem.W.Frag) : Sp := fun vs H Q _ => ∃ (a : Addr) (ns : List Int), vs = [.ref a] ∧ SqL K H a (ns.map V.int) ∧ ns.length ≤ 63 ∧ ∀ H', Q (.bl true) H'
theorem with_heap {H : Hp} {G : Hp → Prop} (Φ : Hp → Prop) (h1 : Φ H) (h2 : ∀ H', Φ H' → G H') : G H := h2 H h1
theorem ints60_sub (g : Nat → Bool) {n : Nat} (h : n ≤ 60) : Ints60 (subL g n) := ⟨Nat.le_trans (subL_len g n) h, fun x hx => by
  have := subL_lt x hx
  omega⟩
theorem rg_ints (n : Nat) : rgV 0 (n : Int) = (subL (fun _ => true) n).map V.int := by
  unfold rgV subL
  rw [List.map_map, show ((n : Int) - 0).toNat = n by omega, List.filter_eq_self.mpr (fun _ _ => rfl)]
  refine List.map_congr_left fun i _ => ?_
  show V.int (0 + (i : Int)) = V.int (i : Int)
  rw [Int.zero_add]
theorem item_ints {K : PySem.W.Frag} {H : Hp} {a : Addr} (g : Nat → Bool) {n : Nat} (h : n ≤ 61) (t : SqT K H a ((subL g n).map V.int)) : ItemV K H (.ref a) (.tuple ((subL g n).map PyData.int)) := by
  refine .inl ⟨.tup t (dp_ints _), ?_⟩
  have h1 := ShAll.ints (b := 20) (by decide) (by decide) (ns := subL g n) fun x hx => by
    have := subL_lt x hx
    omega
  have h2 := subL_len g n
  exact (Sh.tup h1).mono (by decide) (by omega)
theorem str_item {K : PySem.W.Frag} {H : Hp} (x : Str) (h : Sh 60 80000 (.str x)) : ItemV K H (.str x) (.str x) := .inl ⟨.str x, h⟩
section
variable {P : Program} {w : World} {K : PySem.W.Frag} {mg : Str → Option Value} {base : Heap}
theorem ok_law {f : Addr} {fd : FuncData} (F : Fun K "law" "law" sLaw f fd) (T : Txt K mg) : FnG P w K mg base CX0 4 f fd ["_law_script"] (spLaw K) := by
  refine Fun_ok0 F scLaw (fun vs H Q E h => ?_) (fun cdv A outer s H vs Q E gd hr h => ?_)
  · obtain ⟨a, ns, rfl, _⟩ := h
    rfl
  · obtain ⟨a, ns, rfl, hS, hlen, q⟩ := h
    have hu66 : (A.deeper (envOfC "law" (defScope sLaw) s.heap.objs.size f cdv)).units + 66 < cLine := by
      have := hr.un
      omega
    refine ⟨_, pss_cons (ps_for PassesOwn.never rfl (pi_range1 (by rfl) T.n_range (pa_cons (pe_callB (call_max2 rfl) (by rfl) T.n_max (by decide +kernel) (pa_cons pe_int (pa_cons (pe_callB (call_min2 rfl) (by rfl) T.n_min (by decide +kernel) (pa_cons pe_int (pa_cons (pe_callB (call_lenK K) (by rfl) T.n_len PySem.boot_len (pa_cons (pv 0) pa_nil)) pa_nil))) pa_nil))) pa_nil)) (pg_name (i := 1) scLaw.nd rfl (.inl rfl)) (pss_cons (ps_set (i := 2) scLaw.nd rfl (.inr rfl) (pe_call (ok_pot T) hr (by rfl) T.gPot T.FPot.kp T.bPot .nil pass0 (pa_cons (pv 0) (pa_cons (pv 1) pa_nil)))) (pss_cons (ps_set (i := 3) scLaw.nd rfl (.inr rfl) (pe_op op_add pe_int (pe_call (ok_of T) hr (by rfl) T.gOf T.FOf.kp T.bOf .nil pass0 (pa_cons (pv 2) (pa_cons (pe_lst (pa_cons (pe_call (ok_take T) hr (by rfl) T.gTake T.FTake.kp T.bTake .nil pass0 (pa_cons (pv 2) (pa_cons pe_int pa_nil))) (pa_cons (pe_call (ok_take T) hr (by rfl) T.gTake T.FTake.kp T.bTake .nil pass0 (pa_cons (pv 2) (pa_cons pe_int pa_nil))) pa_nil))) pa_nil))))) (pss_cons (ps_set (i := 4) scLaw.nd rfl (.inr rfl) (pe_call (ok_some T) hr (by rfl) T.gSome T.FSome.kp T.bSome .nil pass0 (pa_cons (pv 2) (pa_cons (pv 3) pa_nil)))) (pss_cons (ps_set (i := 5) scLaw.nd rfl (.inl rfl) (pe_lst (pa_cons (pv 4) (pa_cons (pe_tup pa_nil) (pa_cons pe_non (pa_cons pe_bl (pa_cons pe_int (pa_cons pe_int (pa_cons pe_str (pa_cons pe_str (pa_cons (pe_lst pa_nil) (pa_cons pe_dnewK (pa_cons (pe_tup (pa_cons (pv 4) pa_nil)) (pa_cons (pe_tupRg rfl (by rfl) T.n_tuple (prg_1 (by rfl) T.n_range (pv 3))) (pa_cons (pe_tupRg rfl (by rfl) T.n_tuple (prg_1 (by rfl) T.n_range (pe_op op_add (pv 3) pe_int))) pa_nil))))))))))))))) (pss_cons (ps_set (i := 5) scLaw.nd rfl (.inl rfl) (pe_op op_cat (pv 5) (pe_lc (own := [("_law_turn", 6)]) (g := gName 6) (tt := tYes) rfl scLaw.nd (pi_range1 (by rfl) T.n_range (pa_cons pe_int pa_nil)) (blkOk_by (own := [("_law_turn", 6)]) (N := NLaw) (sc := defScope sLaw) (by decide +kernel)) (fun _ _ _ _ _ => (pg_name (i := 6) scLaw.nd rfl (.inl rfl))) (fun _ _ _ _ _ => pts_nil) (fun _ _ _ _ _ => (pe_call (ok_bent T) hr (by rfl) T.gBent T.FBent.kp T.bBent .nil pass0 (pa_cons (pv 2) (pa_cons (pv 3) (pa_cons (pv 4) pa_nil)))))))) (pss_one (ps_for PassesOwn.never rfl (pi_list (pv 5)) (pg_name (i := 7) scLaw.nd rfl (.inl rfl)) (pss_cons (ps_par (i := 8) (j := 9) rfl scLaw.nd rfl rfl (by decide) rfl rfl (pa_cons (pe_callB (call_reprI K gd hu66) (by rfl) T.n_repr (by decide +kernel) (pa_cons (pv 7) pa_nil)) (pa_cons (pe_callB (call_reprI K gd hu66) (by rfl) T.n_repr (by decide +kernel) (pa_cons (pe_call (ok_due T) hr (by rfl) T.gDue T.FDue.kp T.bDue .nil pass0 (pa_cons (pv 3) (pa_cons (pv 7) pa_nil))) pa_nil)) pa_nil)) (by rfl)) (pss_one (ps_if (PW.pt (pw_or (pt_cmpR op_ne (pe_callB (call_reprI K gd hu66) (by rfl) T.n_repr (by decide +kernel) (pa_cons (pe_call (ok_set T) hr (by rfl) T.gSet T.FSet.kp T.bSet .nil pass0 (pa_cons (pv 3) (pa_cons (pv 7) pa_nil))) pa_nil)) (pv 9) (nomark _)) (pw_or (pt_cmpR op_ne (pe_callB (call_reprI K gd hu66) (by rfl) T.n_repr (by decide +kernel) (pa_cons (pe_kw (ok_set T) hr (by rfl) T.gSet T.FSet.kp T.kSet_thing_n pass0 (pk_cons (pv 7) (pk_cons (pv 3) pk_nil))) pa_nil)) (pv 9) (nomark _)) (pw_or1 (pt_cmpR op_ne (pe_callB (call_reprI K gd hu66) (by rfl) T.n_repr (by decide +kernel) (pa_cons (pv 7) pa_nil)) (pv 8) (nomark _)))))) (pss_one (ps_ret pe_bl)) pss_nil))))))))))) (pss_one (ps_ret pe_bl)), ?_⟩
    refine ⟨.ref a, rfl, a, _, rfl, .inl hS, _, _, rfl, _, _, rfl, _, rfl, ?_, ?_, ?_⟩
    · split <;> split <;> omega
    · split <;> split <;> omega
    refine for_range (lo := 0) (fun i σ H2 => ∃ v1 v2 v3 v4 v5 v7 v8 v9, σ = [some (.ref a), v1, v2, v3, v4, v5, none, v7, v8, v9] ∧ Same H H2) ⟨none, none, none, none, none, none, none, none, rfl, Same.refl H⟩ ?_ ?_
    · rintro i σ H2 hi ⟨v1, v2, v3, v4, v5, v7, v8, v9, rfl, s2⟩
      have hi3 : i < 3 := by
        refine Nat.lt_of_lt_of_le hi ?_
        split <;> split <;> omega
      rw [Int.zero_add]
      refine ⟨.ref a, rfl, _, rfl, a, ns, i, rfl, s2.seq hS, by omega, fun H3 p s3 np P3 => ?_⟩
      have fp : H p = none := s2.free np
      -- wide
      refine ⟨.ref p, rfl, .ref p, rfl, p, _, 4, rfl, P3, by omega, by decide, by decide +kernel, fun r1 H5 r10 r1l P5 B5 => ?_⟩
      refine ⟨.ref p, rfl, p, _, 59, rfl, P5, by omega, by decide, by decide +kernel, fun r2 H6 r20 r2l P6 B6 => ?_⟩
      refine ⟨by show 2 ≤ sizeLine; decide, fun l nl => ?_⟩
      have P7 := P6.same (same_new (o := .lst [V.int r1, V.int r2]) nl)
      refine ⟨p, _, l, _, rfl, P7, by omega, upd_same, (P6.ne nl).symm, (by show 1 ≤ 2; decide), (by show 2 ≤ 1000; decide), fun v H8 hv P8 B8 => ?_⟩
      have s8 : Same H H8 := fun b o e => B8 b o (ne_of_none e fp) (same_new nl b o (B6 b o (ne_of_none e fp) (B5 b o (ne_of_none e fp) (s3 b o (s2 b o e)))))
      obtain ⟨r, rfl, r0, rl⟩ : ∃ r : Int, v = .int r ∧ 0 ≤ r ∧ r < 59 := by
        rcases List.mem_cons.mp hv with rfl | hv
        · exact ⟨r1, rfl, r10, by omega⟩
        · rcases List.mem_cons.mp hv with rfl | hv
          · exact ⟨r2, rfl, r20, r2l⟩
          · cases hv
      obtain ⟨k1, rfl⟩ := Int.eq_ofNat_of_zero_le r0
      have e1 : (2 : Int) + (k1 : Int) = ((2 + k1 : Nat) : Int) := by omega
      refine ⟨_, _, rfl, rfl, ?_⟩
      dsimp only [gName]
      rw [e1]
      generalize hn0 : 2 + k1 = n
      have hn1 : 2 ≤ n := by omega
      have hn2 : n ≤ 60 := by omega
      -- some
      refine ⟨.ref p, rfl, _, rfl, p, _, n, rfl, P8, by omega, hn2, fun g t H9 B9 P9 nt ht => ?_⟩
      have s9 : Same H H9 := fun b o e => B9 b o (ne_of_none e fp) (s8 b o e)
      -- items
      refine ⟨.ref t, rfl, Nat.zero_le _, fun e ne => ⟨Nat.zero_le _, fun l2 nl2 => fun dd nd => ?_⟩⟩
      refine ⟨.ref t, rfl, by show 1 ≤ sizeLine; decide, fun u nu => ?_⟩
      refine ⟨_, rfl, (n : Int), rfl, ⟨by decide, by decide, by omega, by omega, by omega⟩, fun g1 ng1 => ?_⟩
      refine ⟨_, rfl, _, _, rfl, rfl, _, rfl, ⟨by decide, by decide, by omega, by omega, by omega⟩, fun g2 ng2 => ?_⟩
      refine ⟨by show 13 ≤ sizeLine; decide, fun L nL => ?_⟩
      have g1e : rgV 0 (n : Int) = (subL (fun _ => true) n).map V.int := rg_ints n
      have g2e : rgV 0 ((n : Int) + 1) = (subL (fun _ => true) (n + 1)).map V.int := by
        rw [show (n : Int) + 1 = ((n + 1 : Nat) : Int) by omega]
        exact rg_ints (n + 1)
      have n2p : l2 ≠ p := fun z => (P9.same (same_new ne)).ne nl2 z.symm
      have ndp : dd ≠ p := fun z => ((P9.same (same_new ne)).same (same_new nl2)).ne nd z.symm
      refine with_heap (fun H' => (Same H9 H' ∧ L ≠ p) ∧ (H' e = some (.tup []) ∧ H' l2 = some (.lst []) ∧ H' dd = some (.dK []) ∧ H' u = some (.tup [V.ref t]) ∧ H' g1 = some (.tup (rgV 0 (n : Int))) ∧ H' g2 = some (.tup (rgV 0 ((n : Int) + 1)))) ∧
        H' L = some (.lst [V.ref t, V.ref e, .non, .bl true, .int 0, .int 1, .str "", .str "01", V.ref l2, V.ref dd, V.ref u, V.ref g1, V.ref g2])) ?_ ?_
      · refine ⟨⟨fun b x z => same_new nL _ _ (same_new ng2 _ _ (same_new ng1 _ _ (same_new nu _ _ (same_new nd _ _ (same_new nl2 _ _ (same_new ne _ _ z)))))), ?_⟩, ⟨?_, ?_, ?_, ?_, ?_, ?_⟩, ?_⟩
        · exact fun z => ((((((P9.same (same_new ne)).same (same_new nl2)).same (same_new nd)).same (same_new nu)).same (same_new ng1)).same (same_new ng2)).ne nL z.symm
        · exact same_new nL _ _ (same_new ng2 _ _ (same_new ng1 _ _ (same_new nu _ _ (same_new nd _ _ (same_new nl2 _ _ upd_same)))))
        · exact same_new nL _ _ (same_new ng2 _ _ (same_new ng1 _ _ (same_new nu _ _ (same_new nd _ _ upd_same))))
        · exact same_new nL _ _ (same_new ng2 _ _ (same_new ng1 _ _ (same_new nu _ _ upd_same)))
        · exact same_new nL _ _ (same_new ng2 _ _ (same_new ng1 _ _ upd_same))
        · exact same_new nL _ _ (same_new ng2 _ _ upd_same)
        · exact same_new nL _ _ upd_same
        · exact upd_same
      · rintro Hz ⟨⟨sz, nLp⟩, ⟨fe, f2, fdd, fu, f1, f3⟩, fL⟩
        refine ⟨.ref L, rfl, 30, rfl, by decide, by decide, fun D nD => ?_⟩
        have n2D : l2 ≠ D := ne_of_none f2 nD
        have ndD : dd ≠ D := ne_of_none fdd nD
        have nLD : L ≠ D := ne_of_none fL nD
        have hDp : D ≠ p := fun z => (P9.same sz).ne nD z.symm
        have sD : Same Hz (upd Hz D (.lst [])) := same_new nD
        have hD : (upd Hz D (.lst [])) D = some (.lst []) := upd_same
        obtain ⟨Ha, hHa⟩ : ∃ Ha, upd Hz D (.lst []) = Ha := ⟨_, rfl⟩
        rw [hHa] at sD hD
        have sa := sz.trans sD
        replace fe := sD _ _ fe
        replace f2 := sD _ _ f2
        replace fdd := sD _ _ fdd
        replace fu := sD _ _ fu
        replace f1 := sD _ _ f1
        replace f3 := sD _ _ f3
        replace fL := sD _ _ fL
        rw [g1e] at f1
        rw [g2e] at f3
        have ft := sa _ _ ht
        have Pa := P9.same sa
        generalize hxs : [V.ref t, V.ref e, .non, .bl true, .int 0, .int 1, .str "", .str "01", V.ref l2, V.ref dd, V.ref u, V.ref g1, V.ref g2] = xs at fL
        have hx0 : ∀ v ∈ xs, ∃ d, ItemV K (hid2 p D Ha) v d := by
          intro v hv
          rw [← hxs] at hv
          simp only [List.mem_cons, List.not_mem_nil, or_false] at hv
          have tT := hid2_tup (K := K) Pa hD (SqT.of ft)
          rcases hv with rfl | rfl | rfl | rfl | rfl | rfl | rfl | rfl | rfl | rfl | rfl | rfl | rfl
          · exact ⟨_, item_ints g (by omega) tT⟩
          · exact ⟨_, .inl ⟨.tup (hid2_tup Pa hD (SqT.of fe)) .nil, (Sh.tup ShAll.nil).mono (by decide) (by decide)⟩⟩
          · exact ⟨_, .inl ⟨.non, Sh.none.mono (by decide) (by decide)⟩⟩
          · exact ⟨_, .inl ⟨.bl _, (Sh.bool _).mono (by decide) (by decide)⟩⟩
          · exact ⟨_, .inl ⟨.int _, (Sh.int (b := 20) (by decide) (by decide) (by decide)).mono (by decide) (by decide)⟩⟩
          · exact ⟨_, .inl ⟨.int _, (Sh.int (b := 20) (by decide) (by decide) (by decide)).mono (by decide) (by decide)⟩⟩
          · exact ⟨_, str_item _ ⟨by decide +kernel, by decide, by decide +kernel, by decide +kernel, by decide +kernel⟩⟩
          · exact ⟨_, str_item _ ⟨by decide +kernel, by decide, by decide +kernel, by decide +kernel, by decide +kernel⟩⟩
          · exact ⟨_, .inl ⟨.lst (SqL.of (by rw [hid2_ne n2p n2D]; exact f2)) .nil, (Sh.lst ShAll.nil).mono (by decide) (by decide)⟩⟩
          · exact ⟨_, .inr ⟨rfl, dd, rfl, by rw [hid2_ne ndp ndD]; exact fdd⟩⟩
          · rcases item_ints g (by omega) tT with ⟨h1, h2⟩ | ⟨h1, _⟩
            · have h3 := ShAll.ints (b := 20) (by decide) (by decide) (ns := subL g n) fun x hx => by
                have := subL_lt x hx
                omega
              have h4 := subL_len g n
              exact ⟨_, .inl ⟨.tup (hid2_tup Pa hD (SqT.of fu)) (.cons h1 .nil), (Sh.tup (ShAll.cons (Sh.tup h3) (ShAll.nil.mono (Nat.zero_le _) (Nat.le_refl _)))).mono (by decide) (by omega)⟩⟩
            · cases h1
          · exact ⟨_, item_ints _ (by omega) (hid2_tup Pa hD (SqT.of f1))⟩
          · exact ⟨_, item_ints _ (by omega) (hid2_tup Pa hD (SqT.of f3))⟩
        -- thirty that are bent
        refine lc_range (lo := 0) (n := 30) (fun z Hb => ∃ vs : List V, Hb D = some (.lst vs) ∧ vs.length = z ∧ (∀ v ∈ vs, ∃ d, ItemV K (hid2 p D Hb) v d) ∧ (∀ b o, b ≠ p → b ≠ D → Ha b = some o → Hb b = some o) ∧ PotAt Hb p (1000 + 4 * z)) ?_ ?_ ?_
        · rw [hHa]
          exact ⟨[], hD, rfl, (fun v hv => absurd hv List.not_mem_nil), fun b o _ _ z => z, Pa.mono (by omega)⟩
        · rintro z Hb hz ⟨vs, hDb, hvl, hvi, kb, Pb⟩
          have tb : SqT K Hb t ((subL g n).map V.int) := SqT.of (kb _ _ (fun y => by rw [y] at ft; obtain ⟨_, _, _, h9, _⟩ := Pa; rw [ft] at h9; cases h9) (fun y => by rw [y, hD] at ft; cases ft) ft)
          refine ⟨rfl, .ref p, rfl, _, rfl, .ref t, rfl, p, _, n, t, _, D, vs, rfl, hDb, hDp, Pb, by omega, hn1, hn2, tb, ints60_sub g hn2, fun v d Hc hd Bc Pc => ?_⟩
          have hDc := Bc _ _ hDp hDb
          refine ⟨vs, hDc, ?_, vs ++ [v], upd_same, by rw [List.length_append]; exact congrArg (· + 1) hvl, ?_, ?_, ?_⟩
          · exact small1000 (by omega)
          · have sc : Same (hid2 p D Hc) (hid2 p D (upd Hc D (.lst (vs ++ [v])))) := hid2_but fun b o _ h2 y => by rw [upd_ne h2]; exact y
            intro x hx
            rcases List.mem_append.mp hx with hx | hx
            · obtain ⟨d', hd'⟩ := hvi x hx
              exact ⟨d', (hd'.mono (hid2_but fun b o h1 _ y => Bc b o h1 y)).mono sc⟩
            · rw [List.mem_singleton.mp hx]
              exact ⟨d, hd.mono sc⟩
          · intro b o h1 h2 y
            rw [upd_ne h2]
            exact Bc b o h1 (kb b o h1 h2 y)
          · obtain ⟨x, y, c, hx, h1, h2, h3, h4⟩ := Pc
            exact ⟨x, y, c, by rw [upd_ne hDp.symm]; exact hx, h1, h2, h3, by omega⟩
        · rintro Hb ⟨vs, hDb, hvl, hvi, kb, Pb⟩
          refine ⟨L, D, _, _, rfl, rfl, kb _ _ nLp nLD fL, hDb, ?_, fun o no => ?_⟩
          · rw [← hxs, hvl]
            show 13 + 30 ≤ sizeLine
            decide
          have so := same_new (o := .lst (xs ++ vs)) no
          have ho : (upd Hb o (.lst (xs ++ vs))) o = some (.lst (xs ++ vs)) := upd_same
          have all : ∀ v ∈ xs ++ vs, ∃ d, ItemV K (upd Hb o (.lst (xs ++ vs))) v d := by
            intro v hv
            rcases List.mem_append.mp hv with hv | hv
            · obtain ⟨d, hd⟩ := hx0 v hv
              exact ⟨d, ((hd.mono (hid2_but kb)).mono (hid2_same p D Hb)).mono so⟩
            · obtain ⟨d, hd⟩ := hvi v hv
              exact ⟨d, (hd.mono (hid2_same p D Hb)).mono so⟩
          have sf : Same H (upd Hb o (.lst (xs ++ vs))) := fun b x y => so _ _ (kb b x (ne_of_none y fp) (fun y2 => by
            have h9 := sz _ _ (s9 b x y)
            rw [y2, nD] at h9
            cases h9) (sa _ _ (s9 b x y)))
          generalize upd Hb o (.lst (xs ++ vs)) = Hf at ho all sf
          refine ⟨_, rfl, o, rfl, ⟨_, SqL.of ho⟩, for_list (K := K) (a := o) (xs := xs ++ vs) (fun z σ H' => ∃ v7 v8 v9, σ = [some (.ref a), some (.int i), some (.ref p), some (.int (n : Int)), some (.ref t), some (.ref o), none, v7, v8, v9] ∧ H' = Hf) ⟨_, _, _, rfl, rfl⟩ (fun z σ H' _ ⟨_, _, _, _, eh⟩ => by rw [eh]; exact SqL.of ho) ?_ ?_⟩
          · rintro z y σ H' hz ⟨v7, v8, v9, rfl, rfl⟩
            obtain ⟨d, hI⟩ := all y (List.mem_of_getElem? hz)
            have shb : ∀ b : Bool, ItemV K H' (.bl b) (.bool b) := fun b => .inl ⟨.bl b, (Sh.bool b).mono (by decide) (by decide)⟩
            refine ⟨y, rfl, y, d, rfl, hI, _, rfl, y, rfl, (n : Int), y, d, rfl, hI, _, _, rfl, shb _, _, _, rfl, ?_⟩
            refine ⟨_, rfl, y, rfl, (n : Int), y, d, rfl, hI, _, _, rfl, shb _, _, rfl, rfl, _, rfl, iteNS rfl ?_⟩
            refine ⟨y, rfl, _, rfl, (n : Int), y, d, rfl, hI, _, _, rfl, shb _, _, rfl, rfl, _, rfl, iteNS rfl ?_⟩
            refine ⟨y, rfl, y, d, rfl, hI, _, rfl, rfl, _, rfl, iteNS rfl ?_⟩
            exact ⟨_, _, _, rfl, rfl⟩
          · rintro σ H' ⟨v7, v8, v9, rfl, rfl⟩
            exact ⟨_, _, _, _, _, _, _, _, rfl, sf⟩
    · rintro σ H2 ⟨v1, v2, v3, v4, v5, v7, v8, v9, rfl, s2⟩
      exact q _
end
theorem all_mk {l : PySem.W.OpenLaw} {w : World} {K : PySem.W.Frag} {h : Heap} {mg : Str → Option Value} {fa f1 f2 f3 f4 f5 f6 f7 f8 f9 : Addr} (X : K.In h) (G : h.Ns mainGlobals mg) (hfa : mg "law" = some (.ref fa))
    {od1 an1 od2 an2 od3 an3 od4 an4 od5 an5 od6 an6 od7 an7 od8 an8 od9 an9 : Option Addr} {sl1 sl2 sl3 sl4 sl5 sl6 sl7 sl8 sl9 : Array (Option Value)} {oc1 kV1 dc1 pm1 cd1 ct1 oc2 kV2 dc2 pm2 cd2 ct2 oc3 kV3 dc3 pm3 cd3 ct3 oc4 kV4 dc4 pm4 cd4 ct4 oc5 kV5 dc5 pm5 cd5 ct5 oc6 kV6 dc6 pm6 cd6 ct6 oc7 kV7 dc7 pm7 cd7 ct7 oc8 kV8 dc8 pm8 cd8 ct8 oc9 kV9 dc9 pm9 cd9 ct9 : Value}
    (a1 : PySem.W.nsIn K mainGlobals "is_plain_int" = some (some (.ref f1)))
    (l1 : K.lookup f1 = some ⟨oc1, od1, .func (PySem.W.fnOf "is_plain_int" "is_plain_int" (defArgs sPlain) (defBody sPlain) (defScope sPlain) .none kV1 dc1 pm1 an1 cd1 ct1), sl1⟩)
    (c1 : PySem.W.codeIn K cd1 "is_plain_int" = true)
    (k1 : PySem.W.keepIn K (.ref f1) = true)
    (a2 : PySem.W.nsIn K mainGlobals "is_set" = some (some (.ref f2)))
    (l2 : K.lookup f2 = some ⟨oc2, od2, .func (PySem.W.fnOf "is_set" "is_set" (defArgs sSet) (defBody sSet) (defScope sSet) .none kV2 dc2 pm2 an2 cd2 ct2), sl2⟩)
    (c2 : PySem.W.codeIn K cd2 "is_set" = true)
    (k2 : PySem.W.keepIn K (.ref f2) = true)
    (a3 : PySem.W.nsIn K mainGlobals "_law_pot" = some (some (.ref f3)))
    (l3 : K.lookup f3 = some ⟨oc3, od3, .func (PySem.W.fnOf "_law_pot" "_law_pot" (defArgs sPot) (defBody sPot) (defScope sPot) .none kV3 dc3 pm3 an3 cd3 ct3), sl3⟩)
    (c3 : PySem.W.codeIn K cd3 "_law_pot" = true)
    (k3 : PySem.W.keepIn K (.ref f3) = true)
    (a4 : PySem.W.nsIn K mainGlobals "_law_take" = some (some (.ref f4)))
    (l4 : K.lookup f4 = some ⟨oc4, od4, .func (PySem.W.fnOf "_law_take" "_law_take" (defArgs sTake) (defBody sTake) (defScope sTake) .none kV4 dc4 pm4 an4 cd4 ct4), sl4⟩)
    (c4 : PySem.W.codeIn K cd4 "_law_take" = true)
    (k4 : PySem.W.keepIn K (.ref f4) = true)
    (a5 : PySem.W.nsIn K mainGlobals "_law_of" = some (some (.ref f5)))
    (l5 : K.lookup f5 = some ⟨oc5, od5, .func (PySem.W.fnOf "_law_of" "_law_of" (defArgs sOf) (defBody sOf) (defScope sOf) .none kV5 dc5 pm5 an5 cd5 ct5), sl5⟩)
    (c5 : PySem.W.codeIn K cd5 "_law_of" = true)
    (k5 : PySem.W.keepIn K (.ref f5) = true)
    (a6 : PySem.W.nsIn K mainGlobals "_law_due" = some (some (.ref f6)))
    (l6 : K.lookup f6 = some ⟨oc6, od6, .func (PySem.W.fnOf "_law_due" "_law_due" (defArgs sDue) (defBody sDue) (defScope sDue) .none kV6 dc6 pm6 an6 cd6 ct6), sl6⟩)
    (c6 : PySem.W.codeIn K cd6 "_law_due" = true)
    (k6 : PySem.W.keepIn K (.ref f6) = true)
    (a7 : PySem.W.nsIn K mainGlobals "_law_some" = some (some (.ref f7)))
    (l7 : K.lookup f7 = some ⟨oc7, od7, .func (PySem.W.fnOf "_law_some" "_law_some" (defArgs sSome) (defBody sSome) (defScope sSome) .none kV7 dc7 pm7 an7 cd7 ct7), sl7⟩)
    (c7 : PySem.W.codeIn K cd7 "_law_some" = true)
    (k7 : PySem.W.keepIn K (.ref f7) = true)
    (a8 : PySem.W.nsIn K mainGlobals "_law_bent" = some (some (.ref f8)))
    (l8 : K.lookup f8 = some ⟨oc8, od8, .func (PySem.W.fnOf "_law_bent" "_law_bent" (defArgs sBent) (defBody sBent) (defScope sBent) .none kV8 dc8 pm8 an8 cd8 ct8), sl8⟩)
    (c8 : PySem.W.codeIn K cd8 "_law_bent" = true)
    (k8 : PySem.W.keepIn K (.ref f8) = true)
    (a9 : PySem.W.nsIn K mainGlobals "law" = some (some (.ref f9)))
    (l9 : K.lookup f9 = some ⟨oc9, od9, .func (PySem.W.fnOf "law" "law" (defArgs sLaw) (defBody sLaw) (defScope sLaw) .none kV9 dc9 pm9 an9 cd9 ct9), sl9⟩)
    (c9 : PySem.W.codeIn K cd9 "law" = true)
    (k9 : PySem.W.keepIn K (.ref f9) = true)
    (z1 : PySem.W.nsIn K mainGlobals "len" = some none)
    (z2 : PySem.W.nsIn K mainGlobals "range" = some none)
    (z3 : PySem.W.nsIn K mainGlobals "min" = some none)
    (z4 : PySem.W.nsIn K mainGlobals "max" = some none)
    (z5 : PySem.W.nsIn K mainGlobals "repr" = some none)
    (z6 : PySem.W.nsIn K mainGlobals "abs" = some none)
    (z7 : PySem.W.nsIn K mainGlobals "int" = some none)
    (z8 : PySem.W.nsIn K mainGlobals "bool" = some none)
    (z9 : PySem.W.nsIn K mainGlobals "tuple" = some none)
    (z10 : PySem.W.nsIn K mainGlobals "list" = some none)
    (z11 : PySem.W.nsIn K mainGlobals "isinstance" = some none)
    : ∃ fd : FuncData, (∀ (s : Shared) (v : Value), BindsTo s fd ⟨[v], []⟩ [("_law_script", v)]) ∧ ∀ base : Heap, K.In base → base.Ns mainGlobals mg → FnG l.prog w K mg base CX0 4 fa fd ["_law_script"] (spLaw K) := by
  have e := hfa.symm.trans (PySem.W.mg_of X G a9)
  cases e
  have F1 := fun_mk (st := sPlain) l1 c1 k1
  have b1 := F1.binds (ps := ["thing"]) fun _ _ _ _ _ _ us hl => match us, hl with | [_], _ => rfl
  have F2 := fun_mk (st := sSet) l2 c2 k2
  have b2 := F2.binds (ps := ["n", "thing"]) fun _ _ _ _ _ _ us hl => match us, hl with | [_, _], _ => rfl
  have F3 := fun_mk (st := sPot) l3 c3 k3
  have b3 := F3.binds (ps := ["_law_script", "_law_spot"]) fun _ _ _ _ _ _ us hl => match us, hl with | [_, _], _ => rfl
  have F4 := fun_mk (st := sTake) l4 c4 k4
  have b4 := F4.binds (ps := ["_law_pot_here", "_law_upto"]) fun _ _ _ _ _ _ us hl => match us, hl with | [_, _], _ => rfl
  have F5 := fun_mk (st := sOf) l5 c5 k5
  have b5 := F5.binds (ps := ["_law_pot_here", "_law_some_here"]) fun _ _ _ _ _ _ us hl => match us, hl with | [_, _], _ => rfl
  have F6 := fun_mk (st := sDue) l6 c6 k6
  have b6 := F6.binds (ps := ["_law_wide", "_law_item"]) fun _ _ _ _ _ _ us hl => match us, hl with | [_, _], _ => rfl
  have F7 := fun_mk (st := sSome) l7 c7 k7
  have b7 := F7.binds (ps := ["_law_pot_here", "_law_wide"]) fun _ _ _ _ _ _ us hl => match us, hl with | [_, _], _ => rfl
  have F8 := fun_mk (st := sBent) l8 c8 k8
  have b8 := F8.binds (ps := ["_law_pot_here", "_law_wide", "_law_some_here"]) fun _ _ _ _ _ _ us hl => match us, hl with | [_, _, _], _ => rfl
  have F9 := fun_mk (st := sLaw) l9 c9 k9
  have kb1 := Fun_kb (ps := ["n", "thing"]) (ks := ["thing", "n"]) [1, 0] 2 F2 (by decide) fun _ _ _ _ _ _ ws hl => match ws, hl with | [_, _], _ => rfl
  have T : Txt K mg := ⟨f1, _, F1, b1, PySem.W.mg_of X G a1, f2, _, F2, b2, PySem.W.mg_of X G a2, f3, _, F3, b3, PySem.W.mg_of X G a3, f4, _, F4, b4, PySem.W.mg_of X G a4, f5, _, F5, b5, PySem.W.mg_of X G a5, f6, _, F6, b6, PySem.W.mg_of X G a6, f7, _, F7, b7, PySem.W.mg_of X G a7, f8, _, F8, b8, PySem.W.mg_of X G a8, kb1, PySem.W.mg_none_of X G z1, PySem.W.mg_none_of X G z2, PySem.W.mg_none_of X G z3, PySem.W.mg_none_of X G z4, PySem.W.mg_none_of X G z5, PySem.W.mg_none_of X G z6, PySem.W.mg_none_of X G z7, PySem.W.mg_none_of X G z8, PySem.W.mg_none_of X G z9, PySem.W.mg_none_of X G z10, PySem.W.mg_none_of X G z11⟩
  exact ⟨PySem.W.fnOf "law" "law" (defArgs sLaw) (defBody sLaw) (defScope sLaw) .none kV9 dc9 pm9 an9 cd9 ct9, fun s v => .of_eq rfl, fun base _ _ => ok_law F9 T⟩
end Ef
open PySem PySem.W PyProof.Rows
set_option maxRecDepth 100000 in
set_option maxHeartbeats 0 in
theorem PySem.Challenge.cw_evenfailover_k04_sets_of_any_value_holds : PySem.Challenge.rw_evenfailover_k04_sets_of_any_value.Holds := by
  w_on; o_law; k_head; (case hw => w_witness2)
  k_fill
  refine Ef.lawG (l := PySem.Challenge.rw_evenfailover_k04_sets_of_any_value) (n := 63) (k := 4) (x := "_law_script") (sp := fun w => Ef.spLaw _) rfl (by decide) rfl ⟨rfl, by decide, by decide⟩ (fun w h Y => PySem.W.kIn_of Y) ?F (fun _ _ a ns hl _ hS => ⟨a, ns, rfl, hS, hl, fun _ => rfl⟩)
  case F =>
    intro w mg fa h KX G hmg
    refine' Ef.all_mk KX G hmg ?a1 ?l1 ?c1 ?k1 ?a2 ?l2 ?c2 ?k2 ?a3 ?l3 ?c3 ?k3 ?a4 ?l4 ?c4 ?k4 ?a5 ?l5 ?c5 ?k5 ?a6 ?l6 ?c6 ?k6 ?a7 ?l7 ?c7 ?k7 ?a8 ?l8 ?c8 ?k8 ?a9 ?l9 ?c9 ?k9 ?z1 ?z2 ?z3 ?z4 ?z5 ?z6 ?z7 ?z8 ?z9 ?z10 ?z11
    (case a1 => k_is)
    (case l1 => k_is)
    (case c1 => k_is)
    (case k1 => k_is)
    (case a2 => k_is)
    (case l2 => k_is)
    (case c2 => k_is)
    (case k2 => k_is)
    (case a3 => k_is)
    (case l3 => k_is)
    (case c3 => k_is)
    (case k3 => k_is)
    (case a4 => k_is)
    (case l4 => k_is)
    (case c4 => k_is)
    (case k4 => k_is)
    (case a5 => k_is)
    (case l5 => k_is)
    (case c5 => k_is)
    (case k5 => k_is)
    (case a6 => k_is)
    (case l6 => k_is)
    (case c6 => k_is)
    (case k6 => k_is)
    (case a7 => k_is)
    (case l7 => k_is)
    (case c7 => k_is)
    (case k7 => k_is)
    (case a8 => k_is)
    (case l8 => k_is)
    (case c8 => k_is)
    (case k8 => k_is)
    (case a9 => k_is)
    (case l9 => k_is)
    (case c9 => k_is)
    (case k9 => k_is)
    (case z1 => k_is)
    (case z2 => k_is)
    (case z3 => k_is)
    (case z4 => k_is)
    (case z5 => k_is)
    (case z6 => k_is)
    (case z7 => k_is)
    (case z8 => k_is)
    (case z9 => k_is)
    (case z10 => k_is)
    (case z11 => k_is)

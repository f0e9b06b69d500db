import PyProof.Rows.All
import Wide.All
import OpenK.AllK
import Wide.FinOn
import HandS.ForMost
import HandS.IsInst
import HandS.TupAny
import HandS.TupMul
import HandS.DictComp
import HandS.DictTup
import HandS.Conv
import HandS.TupSets
import HandS.Style
import PyProof.ReprRoads
import PyProof.CallFns
import HandS.Evl
import KE.KDictPairs
import KE.KDictCopyH
import KE.KDictSum
import HandS.Flow
import HandS.Walk
import HandS.Defaults
import HandS.Wide
import PyProof.EnumMake
import HandS.Zip
import KE.GoesNew
import HandS.Star
import HandS.Steps
import HandS.Gcd
import HandS.Head0
import HandS.Head1
import HandS.Head2
import HandS.Head3
import HandS.HeadEnd
import HandS.HeadHook1
import HandS.HeadHook2
import HandS.HeadHook3
import HandS.HeadHook4
import PySem.Challenge.RW_allendless_k46_searchable_kinds
set_option linter.all false
namespace K10
/-! ### rows that go round: entries, short parts, turning back -/
/-- ends turned back: what both programs do at the end of a beginning -/
inductive Rot : List Int → List Int → List Int → List Int → Prop
  | refl (bs rs : List Int) : Rot bs rs bs rs
  | step {bs rs bs' rs' : List Int} {x : Int} : Rot bs rs (bs' ++ [x]) (rs' ++ [x]) → Rot bs rs bs' (x :: rs')
theorem Rot.len {bs rs bs' rs' : List Int} (h : Rot bs rs bs' rs') : rs'.length = rs.length := by
  induction h with
  | refl => rfl
  | step _ ih => rw [← ih]; simp
/-! ### periods -/
end K10
set_option Elab.async false
set_option linter.all false
set_option maxRecDepth 100000
set_option maxHeartbeats 4000000
namespace K10
open PySem PySem.Spec PyProof.Rows L2
/-! ### defs that may show data: no repr is under way around them -/
/-- a promise of a def, where nothing is being shown around -/
structure Ok1 (P : Program) (w : World) (K : PySem.W.Frag) (mg : Str → Option Value) (base : Heap) (k : Nat) (f : Addr) (fd : FuncData) (ps : List Str) (sp : Sp) : Prop where
  many : ∀ vs H Q E, sp vs H Q E → vs.length = ps.length
  go : ∀ (A : Around) (outer : List Env) (s : Shared) (H : Hp) (us : List Value) (vs : List V) (Q : VK) (E : XK), A.guards = some [] → Room k A → Env0 P w K mg base A outer s H →
    (∀ t : Shared, K.In t.heap → BindsTo t fd ⟨us, []⟩ (ps.zip us)) → Vals vs us → sp vs H Q E →
    codeAny (model P w) A (.call (.ref f) ⟨us, []⟩) (CR CX0 outer P w H s Q E) s
section
variable {P : Program} {w : World} {K : PySem.W.Frag} {mg : Str → Option Value} {base : Heap}
theorem ok1_of {x qual : Str} {st : Stmt} {f : Addr} {fd : FuncData} {N ps : List Str} {k : Nat} {sp : Sp} (F : Fun K x qual st f fd) (S : FnScope N ps (defScope st)) (len : ∀ vs H Q E, sp vs H Q E → vs.length = ps.length)
    (body : ∀ (cdv : Value) (A : Around) (outer : List Env) (s : Shared) (H : Hp) (vs : List V) (Q : VK) (E : XK), A.guards = some [] → Room k (A.deeper (envOfC qual (defScope st) s.heap.objs.size f cdv)) → sp vs H Q E →
      ∃ t, PSs (cxOf CX0 P w K mg base N qual (defScope st) f cdv A outer s H E).nox (defBody st) t ∧ t { nx := fun _ H' => Q .non H', rt := Q } (start N vs) H) : Ok1 P w K mg base (k + 1) f fd ps sp := by
  obtain ⟨oc, od, kV, doc, pm, an, cdv, ct, osl, rfl, lk, code⟩ := F.ex
  constructor
  · exact len
  · intro A outer s H us vs Q E guard room e0 binds rel want
    have there : ∀ b o, base.get? b = some o → s.heap.get? b = some o := fun b o q => (e0.bs b o q).1
    have inK : K.In s.heap := e0.mod.kin.keeps there
    have many := len _ _ _ _ want
    have kinds : ∀ y ∈ ps.zip us, (defScope st).names.lookup y.1 = some .local ∨
        ((defScope st).names.lookup y.1 = some .cell ∧ ((cellsFrom (s.heap.objs.size + 1) (defScope st).names []).lookup y.1).isSome = true) := by
      rintro ⟨n, v⟩ mem
      have h := S.par n (List.of_mem_zip mem).1
      exact h.imp id fun q => ⟨q, PySem.W.cellsFrom_some _ _ _ (.inl q)⟩
    obtain ⟨t, term, reading⟩ := body cdv A outer s H vs Q E guard (room.deeper _) want
    refine codeAny_call_function room.depth (inK _ _ lk) rfl S.co S.gen rfl (PySem.W.codeRec_of inK code) (binds s inK _ _ _ _ ?_)
    refine wpAny_newFunctionEnv_cells S.kind kinds ?_
    rintro env rfl s1 entered
    refine ⟨(e0.mod.nolimit.keeps there).keeps entered.toInCall.keep, codeAny_func ?_⟩
    have inv := inv_start (CX := CX0) (E := E) S room.hd e0 many rel entered
    have back : ∀ {σ' : L2.St} {H' : Hp} {v : V} {u : Value} {s' : Shared}, Inv (cxOf CX0 P w K mg base N qual (defScope st) f cdv A outer s H E) [] σ' H' s' → RelV v u → Q v H' → CE outer P w H s Q u s' := by
      intro σ' H' v u s' J r q
      exact ⟨v, H', J.os, J.bare, J.base, J.hok, r, q⟩
    refine wpAny_mono (term.nox.run [] s1 (start N vs) H _ inv reading) ?_ (fun _ _ z => z)
    intro flow s' ended
    match flow, ended with
    | .ret u, ⟨v, σ', H', J, r, q⟩ => exact back J r q
    | .next, ⟨σ', H', J, q⟩ => exact back (v := V.non) (u := Value.none) J rfl q
    | .brk, ⟨_, _, _, q⟩ => exact q.elim
    | .cont, ⟨_, _, _, q⟩ => exact q.elim
end
section
variable {X : Cx} {k : Nat} {f : Addr} {fd : FuncData} {ps : List Str} {sp : Sp} {x : Str} {p pos : Pos} {e : Expr} {es : List Expr} {t : TA}
/-- f(e, ..), nothing being shown -/
theorem pe_call1 (F : Ok1 X.prog X.w X.K X.mg X.base k f fd ps sp) (guard : X.A.guards = some []) (room : Room k X.A) (hg : Gl X x) (hm : X.mg x = some (.ref f)) (hk : PySem.W.keepIn X.K (.ref f) = true) (hb : Binds X.K fd ps [])
    (ha : PA X (e :: es) t) (hdb : (x == ("__debug__" : Str)) = false := by decide) (he : starEach (e :: es) X.env = (false, eval e X.env) :: starEach es X.env := by rfl) (hpl : (backTo pos (starEach es X.env)).any (·.1) = false := by rfl) :
    PE X (.Call (.Name x p) (e :: es) [] pos) (tCall sp [] E0 t) := by
  constructor
  intro pins s σ H Q I h
  refine wpAny_Call_Name_kw (ld_glob I hg hm ?_ hdb)
  refine PySem.W.callWith_K (h₀ := X.base) I.ok.mod.kin hk (thn (ha.run pos pins s σ H _ I h) ?_) he hpl
  rintro us s1 ⟨vs, H1, I1, r, q⟩
  have q' : sp vs H1 Q E0 := by
    have h0 := q
    rw [List.append_nil] at h0
    exact h0
  refine ⟨I1.kIn, wpAny_call (codeAny_mono (F.go X.A X.stack s1 H1 us vs Q E0 guard room I1.env0 (fun t inK => ?_) r q') ?_)⟩
  · have hl : us.length = ps.length := by
      rw [← r.length]
      exact F.many _ _ _ _ q'
    have b := hb t us inK (by simpa using hl)
    simpa using b
  · intro res s' done
    match res, done with
    | .ok (.ret u), ended => exact I1.after ended
    | .ok .next, z => exact z.elim
    | .ok .brk, z => exact z.elim
    | .ok .cont, z => exact z.elim
    | .error _, z => exact z.elim
end
/-! ### repr of data -/
def rShow (K : PySem.W.Frag) : List V → Hp → VK → Prop := fun xs H Q => ∃ x d, xs = [x] ∧ Dp K H x d ∧ ((∃ b, d = .bool b) ∨ (∃ ds, d = .list ds) ∨ ∃ ds, d = .tuple ds) ∧ d.showable = true ∧ d.hasDict = false ∧ d.depth ≤ 60 ∧ d.shown.length ≤ sizeLine ∧ Q (.str d.shown) H
theorem call_show {X : Cx} (guard : X.A.guards = some []) (hu : X.A.units + 64 < cLine) : CallR X (.builtin "repr") (rShow X.K) := by
  intro pins s σ H xs us Q I r h
  obtain ⟨x, d, rfl, dp, form, sh, nd, deep, fits, q⟩ := h
  obtain ⟨u, rfl, rx⟩ := vals1 r
  obtain ⟨as, reads⟩ := Dp.reads I d x u dp rx
  rcases form with ⟨b, rfl⟩ | ⟨ds, rfl⟩ | ⟨ds, rfl⟩
  · cases dp
    cases (show u = Value.bool b from rx)
    refine PySem.P.repr_of_bool ⟨.str _, H, I.tok _, ⟨_, rfl⟩, ?_⟩
    rw [PyData.shown_bool] at q
    exact q
  · cases dp with
    | lst hs ha =>
      rename_i a xs
      cases (show u = Value.ref a from rx)
      refine repr_of_reads' reads sh (fun z => by rw [nd] at z; cases z) guard (by omega) (fun _ _ z => z) (fun h' u tk keep => ?_) fits
      exact ⟨.str _, H, I.kept keep, ⟨_, rfl⟩, q⟩
  · cases dp with
    | tup hs ha =>
      rename_i a xs
      cases (show u = Value.ref a from rx)
      refine repr_of_reads' reads sh (fun z => by rw [nd] at z; cases z) guard (by omega) (fun _ _ z => z) (fun h' u tk keep => ?_) fits
      exact ⟨.str _, H, I.kept keep, ⟨_, rfl⟩, q⟩
end K10
namespace K10
open PySem PySem.Spec PyProof.Rows L2
/-- the law's own call, from a promise that holds where nothing is being shown -/
theorem law1 {P : Program} {w : World} {K : PySem.W.Frag} {mg mb : Str → Option Value} {k : Nat} {fa a : Addr} {fd : FuncData} {x : Str} {sp : Sp} {s1 : Shared} {vs : List Value} {ns : List Int}
    (inK : K.In s1.heap) (names : s1.heap.Ns mainGlobals mg) (blt : s1.heap.Ns builtinsNs mb) (bltIs : ∀ x : Str, x ≠ "__name__" → mb x = bootBuiltins x) (nolim : s1.heap.NoLimit) (nogens : s1.gens = #[])
    (script : s1.heap.get? a = some { cls := .type "list", data := .seq vs.toArray }) (nums : IntsAre vs ns) (few : ns.length ≤ sizeLine) (room : Room k callerA)
    (F : ∀ base : Heap, K.In base → base.Ns mainGlobals mg → Ok1 P w K mg base k fa fd [x] sp) (bind : ∀ (s : Shared) (u : Value), BindsTo s fd ⟨[u], []⟩ [(x, u)])
    (promise : ∀ H : Hp, Only H → SqL K H a (ns.map V.int) → sp [.ref a] H (fun v _ => v = .bl true) fun _ _ _ => False) :
    codeAny (model P w) callerA (.call (.ref fa) ⟨[.ref a], []⟩) (fun r s' => r = .ok (.ret (.bool true)) ∧ OldK s1.heap s'.heap ∧ s'.os = s1.os ∧ AllBare s'.gens) s1 := by
  have rel : Vals (ns.map V.int) vs := vals_ints nums
  -- nothing but the script is tracked, and that only where it is no object of the written part
  have main : ∀ H : Hp, (∀ b u, H b = some u → b = a ∧ K.lookup a = none ∧ u = .frz { cls := .type "list", data := .seq vs.toArray } (.lst (ns.map V.int))) → SqL K H a (ns.map V.int) →
      codeAny (model P w) callerA (.call (.ref fa) ⟨[.ref a], []⟩) (fun r s' => r = .ok (.ret (.bool true)) ∧ OldK s1.heap s'.heap ∧ s'.os = s1.os ∧ AllBare s'.gens) s1 := by
    intro H only there
    have onlyH : Only H := fun b => by
      cases hb : H b with
      | none => exact .inl rfl
      | some u => exact .inr ⟨_, _, congrArg some (only b u hb).2.2⟩
    have ok : HOk P w H s1.heap := by
      intro b u hb
      obtain ⟨rfl, _, rfl⟩ := only b u hb
      exact ⟨script, by rw [List.length_map]; exact few, vs, _, rel, script⟩
    have hide : ∀ {b : Addr} {o : Obj}, s1.heap.get? b = some o → (H b = none ∨ ∃ es ep, o.data = .dict es ep) → (hidT s1.heap H).get? b = some o := by
      intro b o got why
      refine hidT_get got ?_
      rcases why with z | ⟨es, ep, hd⟩
      · exact z
      · cases hb : H b with
        | none => rfl
        | some u =>
          obtain ⟨rfl, _, _⟩ := only b u hb
          rw [script] at got
          cases got
          cases hd
    have nsT : ∀ {b : Addr} {m : Str → Option Value}, s1.heap.Ns b m → (hidT s1.heap H).Ns b m := by
      rintro b m ⟨o, es, ep, got, hd, rest⟩
      exact ⟨o, es, ep, hide got (.inr ⟨es, ep, hd⟩), hd, rest⟩
    have inT : K.In (hidT s1.heap H) := by
      intro b o kb
      refine hide (inK b o kb) (.inl ?_)
      cases hb : H b with
      | none => rfl
      | some u =>
        obtain ⟨rfl, kn, _⟩ := only b u hb
        rw [kn] at kb
        cases kb
    obtain ⟨mc, lim1, lim2⟩ := nolim
    have env : Env0 P w K mg (hidT s1.heap H) callerA [] s1 H :=
      { frames := rfl, mod := ⟨inT, nsT names, ⟨mb, nsT blt, bltIs⟩, ⟨mc, nsT lim1, lim2⟩⟩, bs := fun b o z => of_hidT z, bsz := Nat.le_of_eq (hidT_size _ _), funs := trivial,
        frf := fun b hb => (by cases (show b ∈ ([] : List Addr) from hb)), hok := ok, bare := .of_eq nogens }
    have run := (F _ inT (nsT names)).go callerA [] s1 H [.ref a] [.ref a] (fun v _ => v = .bl true) (fun _ _ _ => False) rfl room env (fun t _ => bind t (.ref a)) (.cons rfl .nil) (promise H onlyH there)
    refine codeAny_mono run ?_
    intro res s' done
    match res, done with
    | .ok .next, z => exact z.elim
    | .ok .brk, z => exact z.elim
    | .ok .cont, z => exact z.elim
    | .error _, z => exact z.elim
    | .ok (.ret u), ⟨v, H', os, bare, un, ok', r, q⟩ =>
      have q : v = .bl true := q
      subst q
      cases (show u = Value.bool true from r)
      refine ⟨rfl, OldK.of_keep (fun b o got => ?_), os, bare⟩
      cases hb : H b with
      | none => exact un.keep b o got hb (fun z => by cases (show b ∈ ([] : List Addr) from z)) (by simp)
      | some y =>
        have hy := (only b y hb).2.2
        subst hy
        obtain ⟨e1, _⟩ := ok b _ hb
        obtain ⟨e2, _⟩ := ok' b _ (un.frzs b _ _ hb)
        rw [got] at e1
        cases e1
        exact e2
  cases kn : K.lookup a with
  | some o =>
    have same := inK a o kn
    rw [script] at same
    cases same
    exact main (fun _ => none) (fun b u z => by cases z) (.inr ⟨_, vs.toArray, _, kn, rfl, rfl, rfl, by rw [List.size_toArray, nums.length]; exact few, by simpa using rel⟩)
  | none =>
    refine main (fun b => if b = a then some (.frz { cls := .type "list", data := .seq vs.toArray } (.lst (ns.map V.int))) else none) (fun b u z => ?_) (.inl (.inr ⟨_, if_pos rfl⟩))
    by_cases hb : b = a
    · rw [if_pos hb] at z
      cases z
      exact ⟨hb, kn, rfl⟩
    · rw [if_neg hb] at z
      cases z
end K10
set_option Elab.async false
set_option linter.all false
set_option maxRecDepth 100000
set_option maxHeartbeats 4000000
set_option Elab.async false
set_option linter.all false
set_option maxRecDepth 100000
set_option maxHeartbeats 4000000
set_option Elab.async false
set_option linter.all false
set_option maxRecDepth 100000
set_option maxHeartbeats 4000000
set_option Elab.async false
set_option linter.all false
set_option maxRecDepth 100000
set_option maxHeartbeats 4000000
namespace K10
open PySem PySem.Spec PyProof.Rows L2 Evl
/-! ### data made of tuples -/
mutual
inductive Dt (H : Hp) : V → PyData → Prop
  | non : Dt H .non .none
  | bl (b : Bool) : Dt H (.bl b) (.bool b)
  | int (i : Int) : Dt H (.int i) (.int i)
  | str (x : Str) : Dt H (.str x) (.str x)
  | tup {a : Addr} {xs : List V} {ds : List PyData} : H a = some (.tup xs) → DtAll H xs ds → Dt H (.ref a) (.tuple ds)
inductive DtAll (H : Hp) : List V → List PyData → Prop
  | nil : DtAll H [] []
  | cons {v : V} {vs : List V} {d : PyData} {ds : List PyData} : Dt H v d → DtAll H vs ds → DtAll H (v :: vs) (d :: ds)
end
/-- tuples stay -/
def Tk (H H' : Hp) : Prop := ∀ a xs, H a = some (.tup xs) → H' a = some (.tup xs)
/-! ### the draws' own dict -/
def stK (l s : Int) (c : Addr) (p : Int) : List (Key × V) :=
  [(Sum.inr "left", V.int l), (Sum.inr "seed", V.int s), (Sum.inr "cells", V.ref c), (Sum.inr "spot", V.int p), (Sum.inr "next", V.int 0), (Sum.inr "quants", V.int 3)]
/-- all but the draws' own dict stays -/
def Kin (H H' : Hp) : Prop := ∀ a o, H a = some o → (∀ q : (Int × Int) × Addr × Int, o ≠ .dK (stK q.1.1 q.1.2 q.2.1 q.2.2)) → H' a = some o
theorem Tk.refl (H : Hp) : Tk H H := fun _ _ h => h
theorem Tk.trans {H H1 H2 : Hp} (a : Tk H H1) (b : Tk H1 H2) : Tk H H2 := fun x o h => b x o (a x o h)
theorem Kin.refl (H : Hp) : Kin H H := fun _ _ h _ => h
theorem Kin.trans {H H1 H2 : Hp} (a : Kin H H1) (b : Kin H1 H2) : Kin H H2 := fun x o h n => b x o (a x o h n) n
theorem kin_ex {H H' : Hp} (e : Ex H H') : Kin H H' := fun a o h _ => e a o h
theorem tk_kin {H H' : Hp} (e : Kin H H') : Tk H H' := fun a xs h => e a _ h fun _ z => nomatch z
theorem tk_ex {H H' : Hp} (e : Ex H H') : Tk H H' := fun a xs h => e a _ h
theorem tk_upd {H : Hp} {p : Addr} {o : HO} (h : ∀ xs, H p ≠ some (.tup xs)) : Tk H (upd H p o) := fun a xs e => by
  rw [upd_ne (fun z => by subst z; exact h xs e)]
  exact e
theorem tk_new {H : Hp} {p : Addr} {o : HO} (h : H p = none) : Tk H (upd H p o) := tk_upd fun xs z => by rw [h] at z; cases z
mutual
theorem Dt.tk {H H' : Hp} (e : Tk H H') : ∀ {d : PyData} {x : V}, Dt H x d → Dt H' x d
  | _, _, .non => .non
  | _, _, .bl b => .bl b
  | _, _, .int i => .int i
  | _, _, .str x => .str x
  | _, _, .tup h a => .tup (e _ _ h) (DtAll.tk e a)
theorem DtAll.tk {H H' : Hp} (e : Tk H H') : ∀ {ds : List PyData} {xs : List V}, DtAll H xs ds → DtAll H' xs ds
  | _, _, .nil => .nil
  | _, _, .cons h t => .cons (Dt.tk e h) (DtAll.tk e t)
end
mutual
theorem Dt.dp {K : PySem.W.Frag} {H : Hp} : ∀ {d : PyData} {x : V}, Dt H x d → Dp K H x d
  | _, _, .non => .non
  | _, _, .bl b => .bl b
  | _, _, .int i => .int i
  | _, _, .str x => .str x
  | _, _, .tup h a => .tup (SqT.of h) (DtAll.dp a)
theorem DtAll.dp {K : PySem.W.Frag} {H : Hp} : ∀ {ds : List PyData} {xs : List V}, DtAll H xs ds → DpAll K H xs ds
  | _, _, .nil => .nil
  | _, _, .cons h t => .cons (Dt.dp h) (DtAll.dp t)
end
theorem DtAll.len {H : Hp} : ∀ {xs : List V} {ds : List PyData}, DtAll H xs ds → xs.length = ds.length
  | _, _, .nil => rfl
  | _, _, .cons _ t => by rw [List.length_cons, List.length_cons, t.len]
theorem DtAll.get {H : Hp} : ∀ {xs : List V} {ds : List PyData} {i : Nat} {d : PyData}, DtAll H xs ds → ds[i]? = some d → ∃ x, xs[i]? = some x ∧ Dt H x d
  | _, _, _, _, .nil, e => by simp at e
  | _, _, 0, _, .cons h _, e => by
    cases Option.some.inj e
    exact ⟨_, rfl, h⟩
  | _, _, i + 1, _, .cons _ t, e => DtAll.get t (i := i) (by simpa using e)
theorem DtAll.take {H : Hp} : ∀ {xs : List V} {ds : List PyData} (n : Nat), DtAll H xs ds → DtAll H (xs.take n) (ds.take n)
  | _, _, 0, _ => .nil
  | _, _, _ + 1, .nil => .nil
  | _, _, n + 1, .cons h t => .cons h (t.take n)
theorem DtAll.drop {H : Hp} : ∀ {xs : List V} {ds : List PyData} (n : Nat), DtAll H xs ds → DtAll H (xs.drop n) (ds.drop n)
  | _, _, 0, r => r
  | _, _, _ + 1, .nil => .nil
  | _, _, n + 1, .cons _ t => t.drop n
theorem DtAll.append {H : Hp} : ∀ {xs ys : List V} {ds es : List PyData}, DtAll H xs ds → DtAll H ys es → DtAll H (xs ++ ys) (ds ++ es)
  | _, _, _, _, .nil, r => r
  | _, _, _, _, .cons h t, r => .cons h (t.append r)
theorem DtAll.nil_iff {H : Hp} {xs : List V} {ds : List PyData} (r : DtAll H xs ds) : xs = [] ↔ ds = [] := by
  cases r <;> simp
theorem dt_int {H : Hp} {x : V} {n : Int} (h : Dt H x (.int n)) : x = .int n := by cases h; rfl
theorem dt_bool {H : Hp} {x : V} {n : Bool} (h : Dt H x (.bool n)) : x = .bl n := by cases h; rfl
theorem dt_tup {H : Hp} {x : V} {ds : List PyData} (h : Dt H x (.tuple ds)) : ∃ a xs, x = .ref a ∧ H a = some (.tup xs) ∧ DtAll H xs ds := by
  cases h with
  | tup h a => exact ⟨_, _, rfl, h, a⟩
theorem dts_ints {H : Hp} : ∀ {xs : List V} {ns : List Int}, DtAll H xs (ns.map .int) → xs = ns.map V.int
  | _, [], h => by cases h; rfl
  | _, n :: ns, h => by
    rw [List.map_cons] at h
    cases h with
    | cons h t => rw [List.map_cons, dt_int h, ← dts_ints t]
theorem dts_of_ints {H : Hp} : ∀ ns : List Int, DtAll H (ns.map V.int) (ns.map PyData.int)
  | [] => .nil
  | n :: ns => .cons (.int n) (dts_of_ints ns)
/-! ### what evaluates to such data -/
def EvD (te : TE) (σ : L2.St) (H : Hp) (d : PyData) : Prop := ∀ H1, Ex H H1 → ∀ Q : VK, (∀ x H2, Ex H1 H2 → Dt H2 x d → Q x H2) → te σ H1 Q
def EvDs (ta : TA) (σ : L2.St) (H : Hp) (ds : List PyData) : Prop := ∀ H1, Ex H H1 → ∀ Q : List V → Hp → Prop, (∀ xs H2, Ex H1 H2 → DtAll H2 xs ds → Q xs H2) → ta σ H1 Q
/-- a new list of such data -/
def EvLd (te : TE) (σ : L2.St) (H : Hp) (ds : List PyData) : Prop := ∀ H1, Ex H H1 → ∀ Q : VK, (∀ p xs H2, H1 p = none → Ex H1 H2 → H2 p = some (.lst xs) → DtAll H2 xs ds → Q (.ref p) H2) → te σ H1 Q
section
variable {K : PySem.W.Frag} {σ : L2.St} {H H' : Hp} {ta tb te tx : TE} {t u : TT} {x y z v : V} {d e : PyData} {ds es : List PyData}
theorem EvD.mono (e : Ex H H') (h : EvD te σ H d) : EvD te σ H' d := fun H1 a Q q => h H1 (e.trans a) Q q
theorem ed_var {i : Nat} (h : σ[i]? = some (some x)) (hd : Dt H x d) : EvD (tVar i) σ H d := fun H1 e _ q => ⟨x, h, q x H1 (Ex.refl H1) (hd.tk (tk_ex e))⟩
theorem ed_of (h : Ev te σ H v) (hd : ∀ H', Dt H' v d) : EvD te σ H d := fun H1 e Q q => h H1 e Q fun H2 e2 => q v H2 e2 (hd H2)
theorem ed_int {n : Int} (h : Ev te σ H (.int n)) : EvD te σ H (.int n) := ed_of h fun _ => .int n
theorem ed_bool {n : Bool} (h : Ev te σ H (.bl n)) : EvD te σ H (.bool n) := ed_of h fun _ => .bl n
theorem ed_non : EvD (tC .non) σ H .none := fun H1 _ _ q => q _ H1 (Ex.refl H1) .non
theorem ed_str {s : Str} : EvD (tC (.str s)) σ H (.str s) := fun H1 _ _ q => q _ H1 (Ex.refl H1) (.str s)
theorem int_ed {n : Int} (h : EvD te σ H (.int n)) : Ev te σ H (.int n) := fun H1 e Q q => h H1 e Q fun x H2 e2 hd => by rw [dt_int hd]; exact q H2 e2
theorem bool_ed {n : Bool} (h : EvD te σ H (.bool n)) : Ev te σ H (.bl n) := fun H1 e Q q => h H1 e Q fun x H2 e2 hd => by rw [dt_bool hd]; exact q H2 e2
theorem eds_nil : EvDs tNil σ H [] := fun H1 _ _ q => q [] H1 (Ex.refl H1) .nil
theorem eds_cons {tr : TA} (h : EvD te σ H d) (hr : EvDs tr σ H ds) : EvDs (tCons te tr) σ H (d :: ds) := fun H1 e _ q =>
  h H1 e _ fun x H2 e2 hx => hr H2 (e.trans e2) _ fun xs H3 e3 hxs => q (x :: xs) H3 (e2.trans e3) (.cons (hx.tk (tk_ex e3)) hxs)
theorem ed_tup {ta : TA} (h : EvDs ta σ H ds) (few : ds.length ≤ 100000) : EvD (tTup ta) σ H (.tuple ds) := fun H1 e _ q =>
  h H1 e _ fun xs H2 e2 hxs => ⟨sz_of (by rw [hxs.len]; exact few), fun p hp => q (.ref p) _ (e2.trans (Ex.new hp)) (.tup upd_same (hxs.tk (tk_new hp)))⟩
theorem eld_lst {ta : TA} (h : EvDs ta σ H ds) (few : ds.length ≤ 100000) : EvLd (tLst ta) σ H ds := fun H1 e _ q =>
  h H1 e _ fun xs H2 e2 hxs => ⟨sz_of (by rw [hxs.len]; exact few), fun p hp => q p xs _ (fresh_back e2 hp) (e2.trans (Ex.new hp)) upd_same (hxs.tk (tk_new hp))⟩
/-- t[i] -/
theorem ed_ix {i : Int} (ha : EvD ta σ H (.tuple ds)) (hi : Ev tb σ H (.int i)) (hat : atI ds i = some d) : EvD (tOp (rIxT K) ta tb) σ H d := fun H1 e Q q =>
  ha H1 e _ fun x H2 e2 hx => hi H2 (e.trans e2) _ fun H3 e3 => by
    obtain ⟨a, xs, rfl, h, all⟩ := dt_tup hx
    obtain ⟨j, e4⟩ : ∃ j, ixN ds.length i = some j ∧ ds[j]? = some d := by
      unfold atI at hat
      exact Option.bind_eq_some_iff.mp hat
    obtain ⟨y, hy, hd⟩ := all.get e4.2
    refine ⟨a, xs, i, y, rfl, rfl, SqT.of (e3 _ _ h), ?_, q y H3 (e2.trans e3) (hd.tk (tk_ex e3))⟩
    unfold atI
    rw [all.len, e4.1]
    exact hy
/-- t[lo:hi] -/
def cutD {α : Type} (xs : List α) (lo hi : Option Int) : List α := (xs.drop (HT.sIx xs.length 0 lo)).take (HT.sIx xs.length xs.length hi - HT.sIx xs.length 0 lo)
theorem ed_sl {tl th : TO} {lo hi : Option Int} (h : EvD te σ H (.tuple ds)) (h1 : EvO tl σ H lo) (h2 : EvO th σ H hi) : EvD (tSl (rSlA K) te tl th) σ H (.tuple (cutD ds lo hi)) := fun H1 e _ q =>
  h H1 e _ fun x H2 e2 hx => h1 H2 (e.trans e2) _ fun H3 e3 => h2 H3 ((e.trans e2).trans e3) _ fun H4 e4 => by
    obtain ⟨a, xs, rfl, hp, all⟩ := dt_tup hx
    have hp4 := (e3.trans e4) _ _ hp
    have all4 := all.tk (tk_ex (e3.trans e4))
    refine ⟨a, xs, rfl, SqT.of hp4, fun hw => ?_, fun _ p np => ?_⟩
    · refine q (.ref a) H4 ((e2.trans e3).trans e4) (.tup hp4 ?_)
      have : cutD ds lo hi = ds := by
        unfold cutD
        rw [← all.len, hw.1, hw.2, all.len, List.drop_zero, Nat.sub_zero, List.take_length]
      rw [this]
      exact all4
    · refine q (.ref p) _ (((e2.trans e3).trans e4).trans (Ex.new np)) (.tup upd_same (DtAll.tk (tk_new np) ?_))
      unfold cutV cutD
      rw [all.len]
      exact (all4.drop _).take _
/-- t + u -/
theorem ed_cat (ha : EvD ta σ H (.tuple ds)) (hb : EvD tb σ H (.tuple es)) (few : ds.length + es.length ≤ 100000) : EvD (tOp (rCatA K) ta tb) σ H (.tuple (ds ++ es)) := fun H1 e _ q =>
  ha H1 e _ fun x H2 e2 hx => hb H2 (e.trans e2) _ fun y H3 e3 hy => by
    obtain ⟨a, xs, rfl, hp, all⟩ := dt_tup hx
    obtain ⟨b, ys, rfl, hp2, all2⟩ := dt_tup hy
    have hp3 := e3 _ _ hp
    have all3 := all.tk (tk_ex e3)
    refine ⟨a, b, xs, ys, rfl, rfl, SqT.of hp3, SqT.of hp2, sz_of (by rw [all.len, all2.len]; exact few), fun hn => ?_, fun hn hm => ?_, fun hn hm p np => ?_⟩
    · have e0 := all.nil_iff.mp hn
      subst e0
      exact q _ H3 (e2.trans e3) hy
    · have e0 := all2.nil_iff.mp hm
      subst e0
      have z := q _ H3 (e2.trans e3) (.tup hp3 (by rw [List.append_nil]; exact all3))
      exact z
    · exact q _ _ ((e2.trans e3).trans (Ex.new np)) (.tup upd_same ((all3.append all2).tk (tk_new np)))
end
end K10
set_option Elab.async false
set_option linter.all false
set_option maxRecDepth 100000
set_option maxHeartbeats 4000000
namespace K10
open PySem PySem.Spec PyProof.Rows L2 Evl
section
variable {K : PySem.W.Frag} {σ : L2.St} {H H' : Hp} {ta tb te tx tl : TE} {t u : TT} {x y z v : V} {d e : PyData} {ds es : List PyData}
theorem ev_eqD (ha : EvD ta σ H d) (hb : EvD tb σ H e) (sd : SeqAt.shaped d = true) (se : SeqAt.shaped e = true) : Ev (tOp (rEqD K) ta tb) σ H (.bl (PyData.eqv d e)) := fun H1 e1 _ q =>
  ha H1 e1 _ fun x H2 e2 hx => hb H2 (e1.trans e2) _ fun y H3 e3 hy => ⟨d, e, (hx.tk (tk_ex e3)).dp, hy.dp, sd, se, q H3 (e2.trans e3)⟩
theorem ev_neD (ha : EvD ta σ H d) (hb : EvD tb σ H e) (sd : SeqAt.shaped d = true) (se : SeqAt.shaped e = true) : Ev (tOp (rNeD K) ta tb) σ H (.bl (!PyData.eqv d e)) := fun H1 e1 _ q =>
  ha H1 e1 _ fun x H2 e2 hx => hb H2 (e1.trans e2) _ fun y H3 e3 hy => ⟨d, e, (hx.tk (tk_ex e3)).dp, hy.dp, sd, se, q H3 (e2.trans e3)⟩
theorem dp_list {a : Addr} {xs : List V} (h : H a = some (.lst xs)) (all : DtAll H xs ds) : Dp K H (.ref a) (.list ds) := .lst (SqL.of h) all.dp
theorem ev_eqL (ha : EvLd ta σ H ds) (hb : EvLd tb σ H es) (sd : SeqAt.shaped (.list ds) = true) (se : SeqAt.shaped (.list es) = true) : Ev (tOp (rEqD K) ta tb) σ H (.bl (PyData.eqv (.list ds) (.list es))) := fun H1 e1 _ q =>
  ha H1 e1 _ fun a xs H2 _ e2 h2 all => hb H2 (e1.trans e2) _ fun b ys H3 _ e3 h3 all3 => ⟨_, _, dp_list (e3 _ _ h2) (all.tk (tk_ex e3)), dp_list h3 all3, sd, se, q H3 (e2.trans e3)⟩
theorem ev_lenT (ha : EvD ta σ H (.tuple ds)) : Ev (tCB (rLenS K) (tCons ta tNil)) σ H (.int ds.length) := fun H1 e1 _ q =>
  ha H1 e1 _ fun x H2 e2 hx => by
    obtain ⟨a, xs, rfl, h, all⟩ := dt_tup hx
    refine ⟨a, xs, rfl, .inr (SqT.of h), ?_⟩
    rw [all.len]
    exact q H2 e2
/-- isinstance -/
def isTup : PyData → Bool
  | .tuple _ => true
  | _ => false
def isInt : PyData → Bool
  | .int _ | .bool _ => true
  | _ => false
def isBool : PyData → Bool
  | .bool _ => true
  | _ => false
theorem dt_type (h : Dt H x d) : ∃ T : String, TyX K H x (.type T) ∧ kitB T "tuple" = some (isTup d) ∧ kitB T "int" = some (isInt d) ∧ kitB T "bool" = some (isBool d) := by
  cases h with
  | non => exact ⟨"NoneType", .base .non, by decide +kernel, by decide +kernel, by decide +kernel⟩
  | bl b => exact ⟨"bool", .base (.bl b), (by show kitB "bool" "tuple" = some false; decide +kernel), (by show kitB "bool" "int" = some true; decide +kernel), (by show kitB "bool" "bool" = some true; decide +kernel)⟩
  | int b => exact ⟨"int", .base (.int b), (by show kitB "int" "tuple" = some false; decide +kernel), (by show kitB "int" "int" = some true; decide +kernel), (by show kitB "int" "bool" = some false; decide +kernel)⟩
  | str b => exact ⟨"str", .base (.str b), (by show kitB "str" "tuple" = some false; decide +kernel), (by show kitB "str" "int" = some false; decide +kernel), (by show kitB "str" "bool" = some false; decide +kernel)⟩
  | tup h a => exact ⟨"tuple", .base (.tup h), (by show kitB "tuple" "tuple" = some true; decide +kernel), (by show kitB "tuple" "int" = some false; decide +kernel), (by show kitB "tuple" "bool" = some false; decide +kernel)⟩
theorem ev_isTup (ha : EvD ta σ H d) : Ev (tCB (rIsi K) (tCons ta (tCons (tC (.ty "tuple")) tNil))) σ H (.bl (isTup d)) := fun H1 e1 _ q =>
  ha H1 e1 _ fun x H2 e2 hx => by
    obtain ⟨T, ty, h, _, _⟩ := dt_type (K := K) hx
    exact ⟨x, .ty "tuple", .type T, .type "tuple", isTup d, rfl, .ty _, ty, kit_ty h, q H2 e2⟩
theorem ev_isInt (ha : EvD ta σ H d) : Ev (tCB (rIsi K) (tCons ta (tCons (tC (.ty "int")) tNil))) σ H (.bl (isInt d)) := fun H1 e1 _ q =>
  ha H1 e1 _ fun x H2 e2 hx => by
    obtain ⟨T, ty, _, h, _⟩ := dt_type (K := K) hx
    exact ⟨x, .ty "int", .type T, .type "int", isInt d, rfl, .ty _, ty, kit_ty h, q H2 e2⟩
theorem ev_isBool (ha : EvD ta σ H d) : Ev (tCB (rIsi K) (tCons ta (tCons (tC (.ty "bool")) tNil))) σ H (.bl (isBool d)) := fun H1 e1 _ q =>
  ha H1 e1 _ fun x H2 e2 hx => by
    obtain ⟨T, ty, _, _, h⟩ := dt_type (K := K) hx
    exact ⟨x, .ty "bool", .type T, .type "bool", isBool d, rfl, .ty _, ty, kit_ty h, q H2 e2⟩
/-- a pure def's promise: from such data to such data, nothing changed -/
def spD (ok : List PyData → PyData → Prop) : Sp := fun vs H Q _ => ∃ ds d, DtAll H vs ds ∧ ok ds d ∧ ∀ x H', Ex H H' → Dt H' x d → Q x H'
theorem ed_call {ok : List PyData → PyData → Prop} {E : XK} {ta : TA} (h : EvDs ta σ H ds) (hk : ok ds d) : EvD (tCall (spD ok) [] E ta) σ H d := fun H1 e1 Q q =>
  h H1 e1 _ fun xs H2 e2 hxs => by
    show spD ok (xs ++ []) H2 Q E
    rw [List.append_nil]
    exact ⟨ds, d, hxs, hk, fun x H3 e3 hx => q x H3 (e2.trans e3) hx⟩
/-! ### statements -/
variable {D : Ends} {tu tw : TS} {g : TG}
theorem sd_asg {i : Nat} (h : EvD te σ H d) (k : ∀ x H1, Ex H H1 → Dt H1 x d → D.nx (σ.set i (some x)) H1) : tAsg te (gName i) D σ H := h H (Ex.refl H) _ fun x H1 e hx => k x H1 e hx
theorem sd_ret (h : EvD te σ H d) (k : ∀ x H1, Ex H H1 → Dt H1 x d → D.rt x H1) : tRet te D σ H := h H (Ex.refl H) _ k
theorem gd_two {R : L2.St → Hp → Prop} {i j : Nat} {d1 d2 : PyData} (hx : Dt H x (.tuple [d1, d2])) (k : ∀ y z, Dt H y d1 → Dt H z d2 → R ((σ.set i (some y)).set j (some z)) H) : gTup K 2 (gCons (gName i) (gCons (gName j) gNil)) x σ H R := by
  obtain ⟨a, xs, rfl, h, all⟩ := dt_tup hx
  cases all with
  | cons h1 t =>
    cases t with
    | cons h2 t =>
      cases t
      exact ⟨a, _, rfl, SqT.of h, rfl, _, _, rfl, _, _, rfl, rfl, k _ _ h1 h2⟩
theorem sd_two {i j : Nat} {d1 d2 : PyData} (h : EvD te σ H (.tuple [d1, d2])) (k : ∀ y z H1, Ex H H1 → Dt H1 y d1 → Dt H1 z d2 → D.nx ((σ.set i (some y)).set j (some z)) H1) : tAsg te (gTup K 2 (gCons (gName i) (gCons (gName j) gNil))) D σ H :=
  h H (Ex.refl H) _ fun x H1 e hx => gd_two hx fun y z hy hz => k y z H1 e hy hz
theorem sd_par {ta : TA} {i j : Nat} {d1 d2 : PyData} (h : EvDs ta σ H [d1, d2]) (k : ∀ y z H1, Ex H H1 → Dt H1 y d1 → Dt H1 z d2 → D.nx ((σ.set i (some y)).set j (some z)) H1) : tPar i j ta D σ H :=
  h H (Ex.refl H) _ fun xs H1 e hx => by
    cases hx with
    | cons h1 t =>
      cases t with
      | cons h2 t =>
        cases t
        exact ⟨_, _, rfl, k _ _ H1 e h1 h2⟩
/-! ### comprehensions -/
def givD (n : Nat) (b : Nat → Bool) (f : Nat → PyData) : List PyData := ((List.range n).filter b).map f
theorem givD_yes {n : Nat} {b : Nat → Bool} {f : Nat → PyData} (h : b n = true) : givD (n + 1) b f = givD n b f ++ [f n] := by
  unfold givD
  rw [List.range_succ, List.filter_append, List.map_append, List.filter_cons, if_pos h]
  rfl
theorem givD_no {n : Nat} {b : Nat → Bool} {f : Nat → PyData} (h : b n = false) : givD (n + 1) b f = givD n b f := by
  unfold givD
  rw [List.range_succ, List.filter_append, List.map_append, List.filter_cons, if_neg (by rw [h]; decide)]
  simp
theorem givD_len (n : Nat) (b : Nat → Bool) (f : Nat → PyData) : (givD n b f).length ≤ n := by
  unfold givD
  rw [List.length_map]
  have h := List.length_filter_le b (List.range n)
  rw [List.length_range] at h
  exact h
def CwD (H : Hp) (b : Nat → Bool) (f : Nat → PyData) (L : Addr) (i : Nat) (H' : Hp) : Prop := H L = none ∧ Ex H H' ∧ ∃ acc, H' L = some (.lst acc) ∧ DtAll H' acc (givD i b f)
theorem cwd_turn {b : Nat → Bool} {f : Nat → PyData} {L : Addr} {i : Nat} {σ2 : L2.St} (p : CwD H b f L i H') (hi : i < 50000) (ht : EvT t σ2 H (b i)) (he : b i = true → EvD te σ2 H (f i)) :
    t σ2 H' fun c H3 => if c = true then te σ2 H3 fun y H4 => ∃ acc, H4 L = some (.lst acc) ∧ acc.length < sizeLine ∧ CwD H b f L (i + 1) (upd H4 L (.lst (acc ++ [y]))) else CwD H b f L (i + 1) H3 := by
  obtain ⟨p1, p2, acc, p3, p4⟩ := p
  refine ht H' p2 _ fun H3 e3 => ?_
  cases hb : b i with
  | true =>
    show te σ2 H3 fun y H4 => ∃ acc, H4 L = some (.lst acc) ∧ acc.length < sizeLine ∧ CwD H b f L (i + 1) (upd H4 L (.lst (acc ++ [y])))
    refine he hb H3 (p2.trans e3) _ fun y H4 e4 hy => ⟨acc, e4 L _ (e3 L _ p3), sz_lt (by rw [p4.len]; have := givD_len i b f; omega), p1, Ex.mut ((p2.trans e3).trans e4) p1, _, upd_same, ?_⟩
    have still : Tk H4 (upd H4 L (.lst (acc ++ [y]))) := tk_upd fun xs z => by
      rw [e4 L _ (e3 L _ p3)] at z
      cases z
    rw [givD_yes hb]
    exact ((p4.tk (tk_ex (e3.trans e4))).tk still).append (.cons (hy.tk still) .nil)
  | false =>
    show CwD H b f L (i + 1) H3
    refine ⟨p1, p2.trans e3, acc, e3 L _ p3, ?_⟩
    rw [givD_no hb]
    exact p4.tk (tk_ex e3)
/-- what a turn of a comprehension must show, its item x -/
def TurnD (g : TG) (t : TT) (te : TE) (vs : List Nat) (σ : L2.St) (H : Hp) (x : V) (b : Bool) (d : PyData) : Prop :=
  ∃ σ2, wipe σ2 vs = wipe σ vs ∧ (∀ H2, Ex H H2 → ∀ R : L2.St → Hp → Prop, R σ2 H2 → g x (wipe σ vs) H2 R) ∧ EvT t σ2 H b ∧ (b = true → EvD te σ2 H d)
theorem eld_lcL {vs : List Nat} (b : Nat → Bool) (f : Nat → PyData) (h : EvLd tl σ H ds) (few : ds.length ≤ 40000) (each : ∀ i d x H1, Ex H H1 → ds[i]? = some d → Dt H1 x d → TurnD g t te vs σ H1 x (b i) (f i)) :
    EvLd (tLc (iList K tl) g t te vs) σ H (givD ds.length b f) := fun H0 e0 Q q => h H0 e0 _ fun a xs H1 _ e1 hp all => by
  refine ⟨a, rfl, ⟨xs, SqL.of hp⟩, fun L hL => ?_⟩
  refine lc_list (xs := xs) (CwD H1 b f L) ⟨hL, Ex.new hL, [], upd_same, .nil⟩ (fun i H' _ p => SqL.of (p.2.1 _ _ hp)) (fun i y H' hi p => ?_) (fun H' p => ?_)
  · have lt : i < ds.length := by
      rw [← all.len]
      exact (List.getElem?_eq_some_iff.mp hi).1
    obtain ⟨y', hy', hd⟩ := all.get (List.getElem?_eq_getElem lt)
    rw [hi] at hy'
    cases hy'
    obtain ⟨σ2, w1, gok, ht, he⟩ := each i _ y H1 (e0.trans e1) (List.getElem?_eq_getElem lt) hd
    exact gok H' p.2.1 _ ⟨w1, cwd_turn p (by omega) ht he⟩
  · obtain ⟨p1, p2, acc, p3, p4⟩ := p
    rw [all.len] at p4
    exact q L acc H' (fresh_back e1 p1) (e1.trans p2) p3 p4
theorem eld_lcR2 {ta : TA} {vs : List Nat} {lo hi : Int} (b : Nat → Bool) (f : Nat → PyData) (h : EvA ta σ H [.int lo, .int hi]) (few : 0 ≤ lo ∧ lo ≤ 40000 ∧ -40000 ≤ hi ∧ hi ≤ 40000) (each : ∀ (i : Nat) H1, Ex H H1 → lo + (i : Int) < hi → TurnD g t te vs σ H1 (.int (lo + (i : Int))) (b i) (f i)) :
    EvLd (tLc (iRng2 ta) g t te vs) σ H (givD (hi - lo).toNat b f) := fun H0 e0 Q q => h H0 e0 _ fun H1 e1 => by
  refine ⟨lo, hi, rfl, ⟨by omega, by omega, by omega, by omega⟩, fun L hL => ?_⟩
  refine lc_range (lo := lo) (n := (hi - lo).toNat) (CwD H1 b f L) ⟨hL, Ex.new hL, [], upd_same, .nil⟩ (fun i H' hi p => ?_) (fun H' p => ?_)
  · obtain ⟨σ2, w1, gok, ht, he⟩ := each i H1 (e0.trans e1) (by omega)
    exact gok H' p.2.1 _ ⟨w1, cwd_turn p (by omega) ht he⟩
  · obtain ⟨p1, p2, acc, p3, p4⟩ := p
    exact q L acc H' (fresh_back e1 p1) (e1.trans p2) p3 p4
/-- the turn's target a name -/
theorem turn_name {vs : List Nat} {j : Nat} {b : Bool} (hw : wipe ((wipe σ vs).set j (some x)) vs = wipe σ vs) (ht : EvT t ((wipe σ vs).set j (some x)) H b) (he : b = true → EvD te ((wipe σ vs).set j (some x)) H d) : TurnD (gName j) t te vs σ H x b d :=
  ⟨_, hw, fun _ _ _ r => r, ht, he⟩
theorem et_yes {b : Bool} (h : b = true) : EvT (fun _ H Q => Q true H) σ H b := fun H1 _ _ q => by
  rw [h] at q
  exact q H1 (Ex.refl H1)
end
end K10
set_option Elab.async false
set_option linter.all false
set_option maxRecDepth 100000
set_option maxHeartbeats 4000000
namespace K10
open PySem PySem.Spec PyProof.Rows L2 Evl
theorem dts1 {H : Hp} {vs : List V} {a : PyData} (h : DtAll H vs [a]) : ∃ x, vs = [x] ∧ Dt H x a := by
  cases h with
  | cons h1 t => cases t; exact ⟨_, rfl, h1⟩
theorem dts2 {H : Hp} {vs : List V} {a b : PyData} (h : DtAll H vs [a, b]) : ∃ x y, vs = [x, y] ∧ Dt H x a ∧ Dt H y b := by
  cases h with
  | cons h1 t =>
    obtain ⟨y, rfl, h2⟩ := dts1 t
    exact ⟨_, _, rfl, h1, h2⟩
theorem dts3 {H : Hp} {vs : List V} {a b c : PyData} (h : DtAll H vs [a, b, c]) : ∃ x y z, vs = [x, y, z] ∧ Dt H x a ∧ Dt H y b ∧ Dt H z c := by
  cases h with
  | cons h1 t =>
    obtain ⟨y, z, rfl, h2, h3⟩ := dts2 t
    exact ⟨_, _, _, rfl, h1, h2, h3⟩
theorem ev_between {σ : L2.St} {H : Hp} {ta tb tc : TE} {a b c : Int} (ha : Ev ta σ H (.int a)) (hb : Ev tb σ H (.int b)) (hc : Ev tc σ H (.int c)) :
    Ev (tChain (rI0 fun i j => .bl (decide (i ≤ j))) (rI0 fun i j => .bl (decide (i ≤ j))) ta tb tc) σ H (.bl (decide (a ≤ b) && decide (b ≤ c))) := fun H1 e Q q =>
  ha H1 e _ fun H2 e2 => hb H2 (e.trans e2) _ fun H3 e3 => ⟨a, b, rfl, rfl, _, rfl, by
    by_cases h : a ≤ b
    · rw [decide_eq_true h, if_pos rfl]
      refine hc H3 ((e.trans e2).trans e3) _ fun H4 e4 => ⟨b, c, rfl, rfl, ?_⟩
      have z := q H4 ((e2.trans e3).trans e4)
      rw [decide_eq_true h, Bool.true_and] at z
      exact z
    · rw [decide_eq_false h, if_neg (by decide)]
      have z := q H3 (e2.trans e3)
      rw [decide_eq_false h, Bool.false_and] at z
      exact z⟩
/-- whether a value is an integer (no truth) from lo to hi -/
def between (d : PyData) (lo hi : Int) : Bool := match d with
  | .int n => decide (lo ≤ n) && decide (n ≤ hi)
  | _ => false
def okBetween (ds : List PyData) (d : PyData) : Prop := ∃ x lo hi, ds = [x, .int lo, .int hi] ∧ d = .bool (between x lo hi)
end K10
set_option Elab.async false
set_option linter.all false
set_option maxRecDepth 100000
set_option maxHeartbeats 4000000
namespace K10
open PySem PySem.Spec PyProof.Rows L2 Evl
theorem eld_is {σ : L2.St} {H : Hp} {te : TE} {ds es : List PyData} (h : EvLd te σ H ds) (e : ds = es) : EvLd te σ H es := e ▸ h
end K10
set_option Elab.async false
set_option linter.all false
set_option maxRecDepth 100000
set_option maxHeartbeats 4000000
namespace K10
open PySem PySem.Spec PyProof.Rows L2 Evl
abbrev intsD (ns : List Int) : PyData := .tuple (ns.map .int)
theorem eqvAll_ints : ∀ as bs : List Int, PyData.eqvAll (as.map .int) (bs.map .int) = decide (as = bs)
  | [], [] => by simp [PyData.eqvAll]
  | [], _ :: _ => by simp [PyData.eqvAll]
  | _ :: _, [] => by simp [PyData.eqvAll]
  | a :: as, b :: bs => by
    rw [List.map_cons, List.map_cons, PyData.eqvAll, eqvAll_ints as bs]
    by_cases h : a = b
    · subst h
      by_cases h2 : as = bs <;> simp [PyData.eqv, h2]
    · simp [PyData.eqv, h]
theorem eqv_ints (as bs : List Int) : PyData.eqv (intsD as) (intsD bs) = decide (as = bs) := by
  show PyData.eqv (.tuple _) (.tuple _) = _
  rw [PyData.eqv, eqvAll_ints]
theorem canLay_ints : ∀ ns : List Int, PyData.canLayAll0 (ns.map .int) = true
  | [] => by simp [PyData.canLayAll0]
  | n :: ns => by
    rw [List.map_cons, PyData.canLayAll0, canLay_ints ns]
    simp [PyData.canLay0]
theorem depth_ints : ∀ ns : List Int, PyData.depthAll (ns.map .int) = 0
  | [] => by simp [PyData.depthAll]
  | n :: ns => by
    rw [List.map_cons, PyData.depthAll, depth_ints ns]
    simp [PyData.depth]
theorem shaped_ints (ns : List Int) : SeqAt.shaped (intsD ns) = true := by
  unfold SeqAt.shaped
  show (PyData.canLay0 (.tuple _) && decide (PyData.depth (.tuple _) ≤ 64)) = true
  rw [PyData.canLay0, PyData.depth, canLay_ints, depth_ints]
  rfl
theorem ev_lenI {K : PySem.W.Frag} {σ : L2.St} {H : Hp} {ta : TE} {ns : List Int} (ha : EvD ta σ H (intsD ns)) : Ev (tCB (rLenS K) (tCons ta tNil)) σ H (.int ns.length) := by
  have z := ev_lenT (K := K) ha
  rw [List.length_map] at z
  exact z
theorem rc_int {σ : L2.St} {H : Hp} {ta : TE} {i : Int} (h : Ev ta σ H (.int i)) : Ev (tCB (fun xs H Q => (∃ i, xs = [.int i] ∧ Q (.int i) H) ∨ ∃ k, xs = [.bl k] ∧ Q (.int (if k then 1 else 0)) H) (tCons ta tNil)) σ H (.int i) := fun H1 e _ q =>
  h H1 e _ fun H2 e2 => .inl ⟨i, rfl, q H2 e2⟩
end K10
set_option Elab.async false
set_option linter.all false
set_option maxRecDepth 100000
set_option maxHeartbeats 4000000
namespace K10
open PySem PySem.Spec PyProof.Rows L2 Evl
/-! ### least forms exist -/
theorem list_end {α : Type} {l : List α} (h : l ≠ []) : ∃ a x, l = a ++ [x] := ⟨l.dropLast, l.getLast h, (List.dropLast_concat_getLast h).symm⟩
/-! ### slices -/
section
variable {K : PySem.W.Frag} {σ : L2.St} {H : Hp} {ta tb te : TE}
theorem et_truT {ds : List PyData} (h : EvD te σ H (.tuple ds)) : EvT (fun σ H Q => te σ H fun x H' => ∃ k, TruV K x H' k ∧ Q k H') σ H (!ds.isEmpty) := fun H1 e _ q =>
  h H1 e _ fun x H2 e2 hx => by
    obtain ⟨a, xs, rfl, h1, all⟩ := dt_tup hx
    refine ⟨!xs.isEmpty, .inr (.inl ⟨xs, SqT.of h1, rfl⟩), ?_⟩
    have : xs.isEmpty = ds.isEmpty := by cases all <;> rfl
    rw [this]
    exact q H2 e2
end
end K10
set_option Elab.async false
set_option linter.all false
set_option maxRecDepth 100000
set_option maxHeartbeats 4000000
set_option Elab.async false
set_option linter.all false
set_option maxRecDepth 100000
set_option maxHeartbeats 4000000
namespace K10
open PySem PySem.Spec PyProof.Rows L2 Evl
theorem shaped_list (ns : List Int) : SeqAt.shaped (.list (ns.map .int)) = true := by
  unfold SeqAt.shaped
  rw [PyData.canLay0, PyData.depth, canLay_ints, depth_ints]
  rfl
end K10
set_option Elab.async false
set_option linter.all false
set_option maxRecDepth 100000
set_option maxHeartbeats 4000000
set_option Elab.async false
set_option linter.all false
set_option maxRecDepth 100000
set_option maxHeartbeats 4000000
namespace K10
open PySem L2
abbrev Pl := Int × Int
def look (kn : List (Pl × Int)) (p : Pl) : Option Int := (kn.find? fun e => decide (e.1 = p)).map (·.2)
def hasP (kn : List (Pl × Int)) (p : Pl) : Bool := kn.any fun e => decide (e.1 = p)
def putP (kn : List (Pl × Int)) (p : Pl) (d : Int) : List (Pl × Int) := if hasP kn p = true then kn.map (fun e => if e.1 = p then (e.1, d) else e) else kn ++ [(p, d)]
theorem look_cons (e : Pl × Int) (kn : List (Pl × Int)) (p : Pl) : look (e :: kn) p = if e.1 = p then some e.2 else look kn p := by
  unfold look
  rw [List.find?_cons]
  by_cases h : e.1 = p
  · rw [decide_eq_true h, if_pos h]; rfl
  · rw [decide_eq_false h, if_neg h]
theorem hasP_look (kn : List (Pl × Int)) (p : Pl) : hasP kn p = (look kn p).isSome := by
  induction kn with
  | nil => rfl
  | cons e kn ih =>
    show (decide (e.1 = p) || hasP kn p) = _
    rw [look_cons]
    by_cases h : e.1 = p
    · rw [decide_eq_true h, if_pos h]; rfl
    · rw [decide_eq_false h, if_neg h, ih]; rfl
def keysOf (kn : List (Pl × Int)) : List Pl := kn.map (·.1)
theorem mem_keys {kn : List (Pl × Int)} {p : Pl} : p ∈ keysOf kn ↔ (look kn p).isSome = true := by
  rw [← hasP_look]
  unfold keysOf hasP
  rw [List.any_eq_true, List.mem_map]
  constructor
  · rintro ⟨e, h1, h2⟩
    exact ⟨e, h1, decide_eq_true h2⟩
  · rintro ⟨e, h1, h2⟩
    exact ⟨e, h1, of_decide_eq_true h2⟩
theorem put_keys (kn : List (Pl × Int)) (p : Pl) (d : Int) : keysOf (putP kn p d) = if hasP kn p = true then keysOf kn else keysOf kn ++ [p] := by
  unfold putP keysOf
  split
  · rw [List.map_map]
    apply List.map_congr_left
    intro e _
    show (if e.1 = p then (e.1, d) else e).1 = e.1
    split <;> rfl
  · rw [List.map_append]; rfl
theorem put_nodup {kn : List (Pl × Int)} (h : (keysOf kn).Nodup) (p : Pl) (d : Int) : (keysOf (putP kn p d)).Nodup := by
  rw [put_keys]
  split
  · exact h
  · rename_i hn
    rw [List.nodup_append]
    refine ⟨h, by simp, fun a ha b hb => ?_⟩
    simp at hb
    subst hb
    rintro rfl
    have := mem_keys.mp ha
    rw [← hasP_look] at this
    exact hn this
/-- filled from an empty one -/
def mkP (es : List (Pl × Int)) : List (Pl × Int) := es.foldl (fun acc e => putP acc e.1 e.2) []
/-! ### in order -/
abbrev B0 : Int := 1000000000000000000
def cd (p : Pl) : Int := p.1 * B0 + p.2
/-! ### go together -/
def goes (k1 k2 : List (Pl × Int)) : Bool := k2.all fun e => decide ((look (mkP k1) e.1).getD e.2 = e.2)
/-! ### both -/
end K10
set_option Elab.async false
set_option linter.all false
set_option maxRecDepth 100000
set_option maxHeartbeats 4000000
set_option Elab.async false
set_option linter.all false
set_option maxRecDepth 100000
set_option maxHeartbeats 4000000
namespace K10
open PySem PySem.Spec PyProof.Rows L2 Evl
theorem getD_at {α : Type} {l : List α} {i : Nat} {x z : α} (h : l[i]? = some x) : l.getD i z = x := by
  rw [List.getD_eq_getElem?_getD, h]
  rfl
theorem map_at {α β : Type} {l : List α} {f : α → β} {i : Nat} {y : β} (h : (l.map f)[i]? = some y) : ∃ x, l[i]? = some x ∧ f x = y := by
  rw [List.getElem?_map] at h
  exact Option.map_eq_some_iff.mp h
end K10
set_option Elab.async false
set_option linter.all false
set_option maxRecDepth 100000
set_option maxHeartbeats 4000000
namespace K10
open PySem PySem.Spec PyProof.Rows L2 Evl
theorem st_left {l s : Int} {c : Addr} {p : Int} : valV (stK l s c p) (Sum.inr "left") = some (.int l) := rfl
theorem st_seed {l s : Int} {c : Addr} {p : Int} : valV (stK l s c p) (Sum.inr "seed") = some (.int s) := rfl
theorem st_cells {l s : Int} {c : Addr} {p : Int} : valV (stK l s c p) (Sum.inr "cells") = some (.ref c) := rfl
theorem st_spot {l s : Int} {c : Addr} {p : Int} : valV (stK l s c p) (Sum.inr "spot") = some (.int p) := rfl
theorem put_left {l s l' : Int} {c : Addr} {p : Int} : putK (stK l s c p) (Sum.inr "left") (.int l') = stK l' s c p := rfl
theorem put_spot {l s p' : Int} {c : Addr} {p : Int} : putK (stK l s c p) (Sum.inr "spot") (.int p') = stK l s c p' := rfl
/-- at most n spots are spent -/
def Mok (H : Hp) (m c : Addr) (n : Nat) : Prop := ∃ (l s p : Int) (cs : List Int), H m = some (.dK (stK l s c p)) ∧ H c = some (.lst (cs.map V.int)) ∧ cs ≠ [] ∧ 0 ≤ p ∧ p ≤ n
theorem Mok.ex {H H' : Hp} {m c : Addr} {n : Nat} (e : Ex H H') : Mok H m c n → Mok H' m c n := fun ⟨l, s, p, cs, h1, h2, r⟩ => ⟨l, s, p, cs, e _ _ h1, e _ _ h2, r⟩
theorem Mok.mono {H : Hp} {m c : Addr} {n n' : Nat} (h : n ≤ n') : Mok H m c n → Mok H m c n' := fun ⟨l, s, p, cs, h1, h2, h3, h4, h5⟩ => ⟨l, s, p, cs, h1, h2, h3, h4, by omega⟩
theorem Mok.free {H : Hp} {m c L : Addr} {n : Nat} (h : H L = none) : Mok H m c n → m ≠ L ∧ c ≠ L := fun ⟨l, s, p, cs, h1, h2, _⟩ => ⟨ne_of_none h1 h, ne_of_none h2 h⟩
theorem Mok.upd {H : Hp} {m c L : Addr} {o : HO} {n : Nat} (ne : m ≠ L ∧ c ≠ L) : Mok H m c n → Mok (upd H L o) m c n := fun ⟨l, s, p, cs, h1, h2, r⟩ => ⟨l, s, p, cs, by rw [upd_ne ne.1]; exact h1, by rw [upd_ne ne.2]; exact h2, r⟩
def spDraw : Sp := fun vs H Q _ => ∃ (m c : Addr) (b : Int) (n : Nat), vs = [.ref m, .int b] ∧ Mok H m c n ∧ n < 1000000 ∧ 1 ≤ b ∧ b ≤ 1000000000000000000 ∧
  ∀ (d : Int) (H' : Hp), 0 ≤ d → d < b → Kin H H' → Mok H' m c (n + 1) → Q (.int d) H'
section
variable {K : PySem.W.Frag} {σ : L2.St} {H H' : Hp} {ta tb te td : TE} {v : V} {m : Addr} {n : Nat}
theorem ev_kget {kvs : List (Key × V)} {s : Str} (hd : Ev td σ H (.ref m)) (hm : H m = some (.dK kvs)) (hv : valV kvs (Sum.inr s) = some v) : Ev (tDGet td (tC (.str s))) σ H v := fun H1 e1 Q q =>
  hd H1 e1 _ fun H2 e2 => ⟨m, v, rfl, by
    have z := DGet.k (k := (Sum.inr s : Key)) ((e1.trans e2) _ _ hm)
    rw [hv] at z
    exact z, q H2 e2⟩
theorem kin_dk {l s p : Int} {c : Addr} {kvs' : List (Key × V)} (h : H m = some (.dK (stK l s c p))) : Kin H (upd H m (.dK kvs')) := fun a o ha no => by
  by_cases e : a = m
  · subst e
    rw [h] at ha
    cases ha
    exact absurd rfl (no ((l, s), c, p))
  · rw [upd_ne e]
    exact ha
theorem q_kput {kvs : List (Key × V)} {s : Str} {tv : TE} {D : Ends} {tz : TS} (hv : Ev tv σ H v) (hd : Ev td σ H (.ref m)) (hm : H m = some (.dK kvs)) (few : kvs.length ≤ 100)
    (k : ∀ H1, Ex H H1 → tz D σ (upd H1 m (.dK (putK kvs (Sum.inr s) v)))) : tSeq (sDPut td (tC (.str s)) tv) tz D σ H :=
  hv H (Ex.refl H) _ fun H1 e1 => hd H1 e1 _ fun H2 e2 => ⟨m, _, rfl, DPut.k (k := (Sum.inr s : Key)) ((e1.trans e2) _ _ hm) (sz_lt (by omega)), k H2 (e1.trans e2)⟩
theorem q_par {ta : TA} {i j : Nat} {x y : V} {D : Ends} {tz : TS} (h : EvA ta σ H [x, y]) (k : ∀ H1, Ex H H1 → tz D ((σ.set i (some x)).set j (some y)) H1) : tSeq (tPar i j ta) tz D σ H :=
  h H (Ex.refl H) _ fun H1 e1 => ⟨x, y, rfl, k H1 e1⟩
theorem mod_lt {a b : Int} (h : 1 ≤ b) : 0 ≤ a % b ∧ a % b < b := ⟨Int.emod_nonneg _ (by omega), Int.emod_lt_of_pos _ (by omega)⟩
end
end K10
set_option Elab.async false
set_option linter.all false
set_option maxRecDepth 100000
set_option maxHeartbeats 4000000
namespace K10
open PySem PySem.Spec PyProof.Rows L2 Evl
section
variable {K : PySem.W.Frag} {σ : L2.St} {H H' : Hp} {ta tb te td : TE} {v : V} {m : Addr} {n : Nat} {xs ys : List V}
theorem el_cat (ha : EvL ta σ H xs) (hb : EvL tb σ H ys) (few : xs.length + ys.length ≤ 100000) : EvL (tOp rCat ta tb) σ H (xs ++ ys) := fun H1 e1 Q q =>
  ha H1 e1 _ fun a H2 na e2 h2 => hb H2 (e1.trans e2) _ fun b H3 nb e3 h3 => ⟨a, b, xs, ys, rfl, rfl, e3 _ _ h2, h3, sz_of few, fun p hp => q p _ (fresh_back (e2.trans e3) hp) ((e2.trans e3).trans (Ex.new hp)) upd_same⟩
theorem el_cat1 {a : Addr} (ha : Ev ta σ H (.ref a)) (h : H a = some (.lst xs)) (hb : EvL tb σ H ys) (few : xs.length + ys.length ≤ 100000) : EvL (tOp rCat ta tb) σ H (xs ++ ys) := fun H1 e1 Q q =>
  ha H1 e1 _ fun H2 e2 => hb H2 (e1.trans e2) _ fun b H3 nb e3 h3 => ⟨a, b, xs, ys, rfl, rfl, ((e1.trans e2).trans e3) _ _ h, h3, sz_of few, fun p hp => q p _ (fresh_back (e2.trans e3) hp) ((e2.trans e3).trans (Ex.new hp)) upd_same⟩
def Ints (xs : List V) : Prop := ∃ ns : List Int, xs = ns.map V.int
theorem ints_map (ns : List Int) : Ints (ns.map V.int) := ⟨ns, rfl⟩
theorem ints_cut {lo hi : Option Int} : Ints xs → Ints (cutV xs lo hi) := fun ⟨ns, h⟩ => by
  subst h
  exact ⟨_, by unfold cutV; rw [← List.map_drop, ← List.map_take]⟩
theorem ints_cat : Ints xs → Ints ys → Ints (xs ++ ys) := fun ⟨a, h⟩ ⟨b, h2⟩ => ⟨a ++ b, by rw [h, h2, List.map_append]⟩
theorem cut_len (lo hi : Option Int) : (cutV xs lo hi).length ≤ xs.length := by
  unfold cutV
  rw [List.length_take, List.length_drop]
  omega
theorem ints_get (h : Ints xs) {i : Nat} (lt : i < xs.length) : ∃ z, xs[i]? = some (.int z) := by
  obtain ⟨ns, rfl⟩ := h
  rw [List.length_map] at lt
  exact ⟨ns[i], by rw [List.getElem?_map, List.getElem?_eq_getElem lt]; rfl⟩
end
end K10
set_option Elab.async false
set_option linter.all false
set_option maxRecDepth 100000
set_option maxHeartbeats 4000000
namespace K10
open PySem PySem.Spec PyProof.Rows L2 Evl
theorem Kin.mut {H H1 : Hp} {p : Addr} {o : HO} (e : Kin H H1) (h : H p = none) : Kin H (upd H1 p o) := fun a u ha no => by
  rw [upd_ne (ne_of_none ha h)]
  exact e a u ha no
/-! ### what draws, and then stands for such data: its kind told by P -/
def EvM (m c : Addr) (te : TE) (σ : L2.St) (H : Hp) (n n' : Nat) (P : PyData → Prop) : Prop := ∀ H1, Kin H H1 → Mok H1 m c n → ∀ Q : VK, (∀ x d H2, P d → Kin H1 H2 → Mok H2 m c n' → Dt H2 x d → Q x H2) → te σ H1 Q
def EvMs (m c : Addr) (ta : TA) (σ : L2.St) (H : Hp) (n n' : Nat) (P : List PyData → Prop) : Prop := ∀ H1, Kin H H1 → Mok H1 m c n → ∀ Q : List V → Hp → Prop, (∀ xs ds H2, P ds → Kin H1 H2 → Mok H2 m c n' → DtAll H2 xs ds → Q xs H2) → ta σ H1 Q
def EvMl (m c : Addr) (te : TE) (σ : L2.St) (H : Hp) (n n' : Nat) (P : List PyData → Prop) : Prop := ∀ H1, Kin H H1 → Mok H1 m c n → ∀ Q : VK, (∀ p xs ds H2, P ds → Kin H1 H2 → Mok H2 m c n' → H2 p = some (.lst xs) → DtAll H2 xs ds → Q (.ref p) H2) → te σ H1 Q
/-- a def's promise: it draws at most t times -/
def spM (t : Nat) (ok : List PyData → (PyData → Prop) → Prop) : Sp := fun vs H Q _ => ∃ (m c : Addr) (n : Nat) (xs : List V) (ds : List PyData) (P : PyData → Prop), vs = .ref m :: xs ∧ DtAll H xs ds ∧ ok ds P ∧ Mok H m c n ∧ n + t < 1000000 ∧
  ∀ x d H', P d → Kin H H' → Mok H' m c (n + t) → Dt H' x d → Q x H'
section
variable {K : PySem.W.Frag} {σ : L2.St} {H H' : Hp} {ta tb te td tx : TE} {v x : V} {m c : Addr} {n n' n1 n2 : Nat} {P P1 P2 : PyData → Prop} {PP PP' : List PyData → Prop} {d : PyData} {ds es : List PyData} {g : TG}
theorem em_of (h : ∀ H1, Kin H H1 → EvD te σ H1 d) (p : P d) : EvM m c te σ H n n P := fun H1 e1 mk Q q => h H1 e1 H1 (Ex.refl _) Q fun x H2 e2 hx => q x d H2 p (kin_ex e2) (mk.ex e2) hx
theorem EvM.up (h : EvM m c te σ H n n1 P) (le : n1 ≤ n2) : EvM m c te σ H n n2 P := fun H1 e1 mk Q q => h H1 e1 mk Q fun x d H2 p e2 mk2 hx => q x d H2 p e2 (mk2.mono le) hx
theorem EvM.is (h : EvM m c te σ H n n1 P) (le : ∀ d, P d → P1 d) : EvM m c te σ H n n1 P1 := fun H1 e1 mk Q q => h H1 e1 mk Q fun x d H2 p e2 mk2 hx => q x d H2 (le d p) e2 mk2 hx
theorem EvM.kin (h : EvM m c te σ H n n1 P) (e : Kin H H') : EvM m c te σ H' n n1 P := fun H1 e1 mk Q q => h H1 (e.trans e1) mk Q q
/-- an int below b -/
def Below (b : Int) (d : PyData) : Prop := ∃ z : Int, d = .int z ∧ 0 ≤ z ∧ z < b
theorem em_draw {i : Nat} {b : Int} {E : XK} (hi : σ[i]? = some (some (.ref m))) (h : ∀ H1, Kin H H1 → Ev tb σ H1 (.int b)) (b1 : 1 ≤ b) (b2 : b ≤ 1000000000000000000) (few : n < 1000000) : EvM m c (tCall spDraw [] E (tCons (tVar i) (tCons tb tNil))) σ H n (n + 1) (Below b) := fun H1 e1 mk Q q =>
  ⟨_, hi, h H1 e1 H1 (Ex.refl _) _ fun H2 e2 => ⟨m, c, b, n, rfl, mk.ex e2, few, b1, b2, fun d H' d0 d1 e3 mk3 => q _ _ H' ⟨d, rfl, d0, d1⟩ ((kin_ex e2).trans e3) mk3 (.int d)⟩⟩
theorem em_call {i : Nat} {t : Nat} {ok : List PyData → (PyData → Prop) → Prop} {tr : TA} {E : XK} (hi : σ[i]? = some (some (.ref m))) (h : ∀ H1, Kin H H1 → EvDs tr σ H1 ds) (hk : ok ds P) (few : n + t < 1000000) : EvM m c (tCall (spM t ok) [] E (tCons (tVar i) tr)) σ H n (n + t) P := fun H1 e1 mk Q q =>
  ⟨_, hi, h H1 e1 H1 (Ex.refl _) _ fun xs H2 e2 hxs => ⟨m, c, n, xs, ds, P, by rw [List.append_nil], hxs, hk, mk.ex e2, few, fun x d H' p e3 mk3 hx => q x d H' p ((kin_ex e2).trans e3) mk3 hx⟩⟩
/-- an operator on two such -/
theorem em_op {r : R2} (ha : EvM m c ta σ H n n1 P1) (hb : EvM m c tb σ H n1 n2 P2) (h : ∀ x y d e H1, P1 d → P2 e → Dt H1 x d → Dt H1 y e → ∃ f, P f ∧ EvD (tOp r (tVar 0) (tVar 1)) [some x, some y] H1 f) : EvM m c (tOp r ta tb) σ H n n2 P := fun H1 e1 mk Q q =>
  ha H1 e1 mk _ fun x d H2 p1 e2 mk2 hx => hb H2 (e1.trans e2) mk2 _ fun y e H3 p2 e3 mk3 hy => by
    obtain ⟨f, pf, hf⟩ := h x y d e H3 p1 p2 (hx.tk (tk_kin e3)) hy
    have z := hf H3 (Ex.refl _) Q fun z H4 e4 hz => q z f H4 pf ((e2.trans e3).trans (kin_ex e4)) (mk3.ex e4) hz
    obtain ⟨_, z1, _, z2, z3⟩ := z
    cases z1
    cases z2
    exact z3
theorem ems_nil (p : PP []) : EvMs m c tNil σ H n n PP := fun H1 e1 mk Q q => q [] [] H1 p (Kin.refl _) mk .nil
theorem ems_cons {tr : TA} (h : EvM m c te σ H n n1 P) (hr : EvMs m c tr σ H n1 n2 PP) (hp : ∀ d ds, P d → PP ds → PP' (d :: ds)) : EvMs m c (tCons te tr) σ H n n2 PP' := fun H1 e1 mk Q q =>
  h H1 e1 mk _ fun x d H2 p e2 mk2 hx => hr H2 (e1.trans e2) mk2 _ fun xs ds H3 pp e3 mk3 hxs => q (x :: xs) (d :: ds) H3 (hp d ds p pp) (e2.trans e3) mk3 (.cons (hx.tk (tk_kin e3)) hxs)
theorem em_tup {tr : TA} (h : EvMs m c tr σ H n n1 PP) (hp : ∀ ds, PP ds → ds.length ≤ 1000 ∧ P (.tuple ds)) : EvM m c (tTup tr) σ H n n1 P := fun H1 e1 mk Q q =>
  h H1 e1 mk _ fun xs ds H2 pp e2 mk2 hxs => ⟨sz_of (by rw [hxs.len]; have := (hp ds pp).1; omega), fun p np => q (.ref p) (.tuple ds) _ (hp ds pp).2 (e2.trans (kin_ex (Ex.new np))) (mk2.ex (Ex.new np)) (.tup upd_same (hxs.tk (tk_new np)))⟩
theorem eml_lst {tr : TA} (h : EvMs m c tr σ H n n1 PP) (hp : ∀ ds, PP ds → ds.length ≤ 1000) : EvMl m c (tLst tr) σ H n n1 PP := fun H1 e1 mk Q q =>
  h H1 e1 mk _ fun xs ds H2 pp e2 mk2 hxs => ⟨sz_of (by rw [hxs.len]; have := (hp ds pp); omega), fun p np => q p xs ds _ pp (e2.trans (kin_ex (Ex.new np))) (mk2.ex (Ex.new np)) upd_same (hxs.tk (tk_new np))⟩
theorem tk_lst {H4 : Hp} {L : Addr} {acc acc' : List V} (h : H4 L = some (.lst acc)) : Tk H4 (upd H4 L (.lst acc')) := tk_upd fun xs z => by
  rw [h] at z
  cases z
/-! statements -/
variable {D : Ends} {tz : TS} {i : Nat}
theorem qm_asg (mk : Mok H m c n) (h : EvM m c te σ H n n1 P) (k : ∀ x d H1, P d → Kin H H1 → Mok H1 m c n1 → Dt H1 x d → tz D (σ.set i (some x)) H1) : tSeq (tAsg te (gName i)) tz D σ H := h H (Kin.refl _) mk _ fun x d H1 p e1 mk1 hx => k x d H1 p e1 mk1 hx
theorem qm_asgL (mk : Mok H m c n) (h : EvMl m c te σ H n n1 PP) (k : ∀ p xs ds H1, PP ds → Kin H H1 → Mok H1 m c n1 → H1 p = some (.lst xs) → DtAll H1 xs ds → tz D (σ.set i (some (.ref p))) H1) : tSeq (tAsg te (gName i)) tz D σ H := h H (Kin.refl _) mk _ fun p xs ds H1 pp e1 mk1 hp hx => k p xs ds H1 pp e1 mk1 hp hx
theorem sm_ret (mk : Mok H m c n) (h : EvM m c te σ H n n1 P) (k : ∀ x d H1, P d → Kin H H1 → Mok H1 m c n1 → Dt H1 x d → D.rt x H1) : tRet te D σ H := h H (Kin.refl _) mk _ fun x d H1 p e1 mk1 hx => k x d H1 p e1 mk1 hx
/-! digits -/
theorem cutD_mem {α : Type} {ns : List α} {lo hi : Option Int} {x : α} (h : x ∈ cutD ns lo hi) : x ∈ ns := List.mem_of_mem_drop (List.mem_of_mem_take h)
theorem cutD_len {α : Type} (ns : List α) (lo hi : Option Int) : (cutD ns lo hi).length ≤ ns.length := by
  unfold cutD
  rw [List.length_take, List.length_drop]
  omega
end
end K10
set_option Elab.async false
set_option linter.all false
set_option maxRecDepth 100000
set_option maxHeartbeats 4000000
namespace K10
open PySem PySem.Spec PyProof.Rows L2 Evl
theorem sq_kin {K : PySem.W.Frag} {H H' : Hp} {a : Addr} {xs : List V} (e : Kin H H') : SqL K H a xs → SqL K H' a xs
  | .inl (.inl h) => .inl (.inl (e _ _ h fun _ z => nomatch z))
  | .inl (.inr ⟨o, h⟩) => .inl (.inr ⟨o, e _ _ h fun _ z => nomatch z⟩)
  | .inr h => .inr h
theorem rc_tk {H H' : Hp} {x : V} {d : PyData} (e : Kin H H') (h : Dt H x d) : Dt H' x d := h.tk (tk_kin e)
theorem em_zero {m c : Addr} {te : TE} {σ : L2.St} {H : Hp} {n n1 : Nat} {b z : Int} (h : EvM m c te σ H n n1 (Below b)) : EvM m c (tOp rEq te (tC (.int z))) σ H n n1 fun d => ∃ b, d = .bool b :=
  em_op h (em_of (d := .int z) (P := fun d => d = .int z) (fun H1 _ => ed_int ev_c) rfl) fun x y d e H1 p1 p2 hx hy => by
    obtain ⟨k, rfl, _⟩ := p1
    subst p2
    cases dt_int hx
    cases dt_int hy
    exact ⟨_, ⟨_, rfl⟩, ed_bool (ev_op (ev_var rfl) (ev_var rfl) (rv_eq rfl))⟩
end K10
set_option Elab.async false
set_option linter.all false
set_option maxRecDepth 100000
set_option maxHeartbeats 4000000
namespace K10
open PySem PySem.Spec PyProof.Rows L2 Evl
def Far (i : Int) : Prop := i ∈ ([0, 1, 2, 3, 999999999999999999] : List Int)
def OkE (sz : List Int) (e : Pl × Int) : Prop := Far e.1.1 ∧ 0 ≤ e.1.2 ∧ e.1.2 < sz.length ∧ 0 ≤ e.2 ∧ e.2 < sz.getD e.1.2.toNat 0
def KnOk (sz : List Int) (kn : List (Pl × Int)) : Prop := (keysOf kn).Nodup ∧ ∀ e ∈ kn, OkE sz e
theorem put_mem {kn : List (Pl × Int)} {p : Pl} {d : Int} {e : Pl × Int} (h : e ∈ putP kn p d) : e ∈ kn ∨ e = (p, d) := by
  unfold putP at h
  split at h
  · obtain ⟨e0, h0, rfl⟩ := List.mem_map.mp h
    by_cases hp : e0.1 = p
    · rw [if_pos hp]
      exact .inr (by rw [hp])
    · rw [if_neg hp]
      exact .inl h0
  · rcases List.mem_append.mp h with h | h
    · exact .inl h
    · exact .inr (List.mem_singleton.mp h)
theorem KnOk.put {sz : List Int} {kn : List (Pl × Int)} {p : Pl} {d : Int} (h : KnOk sz kn) (hp : OkE sz (p, d)) : KnOk sz (putP kn p d) := ⟨put_nodup h.1 p d, fun e he => by
  rcases put_mem he with h1 | rfl
  · exact h.2 e h1
  · exact hp⟩
end K10
set_option Elab.async false
set_option linter.all false
set_option maxRecDepth 100000
set_option maxHeartbeats 4000000
namespace K10
open PySem PySem.Spec PyProof.Rows L2 Evl
/-! ### data that can be shown -/
structure Fine (n t : Nat) (d : PyData) : Prop where
  sh : d.showable = true
  nd : d.hasDict = false
  deep : d.depth ≤ t
  short : PyData.leavesShort 24 d = true
  bulk : d.bulk ≤ n
structure FineAll (n t : Nat) (ds : List PyData) : Prop where
  sh : PyData.showableAll ds = true
  nd : PyData.hasDictAll ds = false
  deep : PyData.depthAll ds ≤ t
  short : PyData.leavesShortAll 24 ds = true
  bulk : PyData.bulkAll ds ≤ n
theorem Fine.up {n t n' t' : Nat} {d : PyData} (h : Fine n t d) (hn : n ≤ n') (ht : t ≤ t') : Fine n' t' d := ⟨h.sh, h.nd, Nat.le_trans h.deep ht, h.short, Nat.le_trans h.bulk hn⟩
theorem FineAll.up {n t n' t' : Nat} {d : List PyData} (h : FineAll n t d) (hn : n ≤ n') (ht : t ≤ t') : FineAll n' t' d := ⟨h.sh, h.nd, Nat.le_trans h.deep ht, h.short, Nat.le_trans h.bulk hn⟩
theorem fa_nil : FineAll 0 0 [] := ⟨rfl, rfl, Nat.le_refl _, rfl, Nat.le_refl _⟩
theorem fa_cons {n t n' t' : Nat} {d : PyData} {ds : List PyData} (h : Fine n t d) (hs : FineAll n' t' ds) : FineAll (n + 1 + n') (max t t') (d :: ds) := by
  refine ⟨?_, ?_, ?_, ?_, ?_⟩
  · rw [PyData.showableAll.eq_2, h.sh, hs.sh]; rfl
  · rw [PyData.hasDictAll.eq_2, h.nd, hs.nd]; rfl
  · rw [PyData.depthAll.eq_2]
    have := h.deep
    have := hs.deep
    omega
  · rw [PyData.leavesShortAll.eq_2, h.short, hs.short]; rfl
  · rw [PyData.bulkAll.eq_2]
    have := h.bulk
    have := hs.bulk
    omega
theorem fa_each {n t : Nat} : ∀ {ds : List PyData}, (∀ d ∈ ds, Fine n t d) → FineAll ((n + 1) * ds.length) t ds
  | [], _ => fa_nil.up (Nat.zero_le _) (Nat.zero_le _)
  | d :: ds, h => (fa_cons (h d List.mem_cons_self) (fa_each fun e he => h e (List.mem_cons_of_mem _ he))).up (by rw [List.length_cons, Nat.mul_add]; omega) (by omega)
theorem f_tuple {n t : Nat} {ds : List PyData} (h : FineAll n t ds) : Fine n (t + 1) (.tuple ds) := ⟨h.sh, h.nd, Nat.succ_le_succ h.deep, h.short, h.bulk⟩
theorem f_list {n t : Nat} {ds : List PyData} (h : FineAll n t ds) : Fine n (t + 1) (.list ds) := ⟨h.sh, h.nd, Nat.succ_le_succ h.deep, h.short, h.bulk⟩
theorem f_bool (b : Bool) : Fine 0 0 (.bool b) := by cases b <;> exact ⟨rfl, rfl, Nat.le_refl _, by decide +kernel, Nat.le_refl _⟩
theorem f_int {i : Int} (h1 : -10000000000000000000 < i) (h2 : i < 10000000000000000000) : Fine 0 0 (.int i) := by
  have hn : i.natAbs < 10 ^ 19 := by omega
  refine ⟨?_, rfl, Nat.le_refl _, ?_, Nat.le_refl _⟩
  · rw [PyData.showable.eq_4]
    refine decide_eq_true ?_
    by_cases z : i.natAbs = 0
    · rw [z]
      decide
    · exact (Nat.log2_lt z).mpr (Nat.lt_of_lt_of_le hn (by decide +kernel))
  · rw [PyData.leavesShort.eq_3, PyData.shown_int]
    have e := int_text_length_le10 (k := 19) (by decide) hn
    have e2 := PySem.ofString_length (toString i)
    exact decide_eq_true (by omega)
section
variable {K : PySem.W.Frag} {σ : L2.St} {H H' : Hp} {te : TE} {ds : List PyData} {n t : Nat} {b : Bool}
theorem shown_small {d : PyData} (h : Fine n t d) (hn : n ≤ 100000) : d.shown.length ≤ sizeLine := by
  have := PyData.shown_le_bulk 24 (by decide) d h.short
  have := h.bulk
  have : sizeLine = 16777216 := rfl
  omega
theorem ev_showL (h : EvLd te σ H ds) (f : Fine n t (.list ds)) (hn : n ≤ 100000) (ht : t ≤ 60) : Ev (tCB (rShow K) (tCons te tNil)) σ H (.str (PyData.list ds).shown) := fun H1 e1 Q q =>
  h H1 e1 _ fun p xs H2 np e2 hp hx => ⟨.ref p, .list ds, rfl, dp_list hp hx, .inr (.inl ⟨ds, rfl⟩), f.sh, f.nd, by have := f.deep; omega, shown_small f hn, q H2 e2⟩
end
end K10
set_option Elab.async false
set_option linter.all false
set_option maxRecDepth 100000
set_option maxHeartbeats 4000000
namespace K10
open PySem PySem.Spec PyProof.Rows L2 Evl
section
variable {K : PySem.W.Frag} {σ : L2.St} {H H' : Hp} {te tl tb : TE} {t : TT} {g : TG} {xs ys : List V} {ds es : List PyData} {n : Nat} {a : Addr} {D : Ends} {tz : TS}
theorem q_asgD {i : Nat} {d : PyData} (h : EvD te σ H d) (k : ∀ x H1, Ex H H1 → Dt H1 x d → tz D (σ.set i (some x)) H1) : tSeq (tAsg te (gName i)) tz D σ H := h H (Ex.refl H) _ fun x H1 e hx => k x H1 e hx
theorem et_neS {s1 s2 : Str} {ta : TE} (ha : Ev ta σ H (.str s1)) (hb : Ev tb σ H (.str s2)) : EvT (tTest (tOp rNe ta tb)) σ H (!decide (s1 = s2)) := by
  refine et_is (et_test (ev_op ha hb (rv_ne rfl))) ?_
  by_cases h : s1 = s2
  · simp [h]
  · simp [h]
theorem neS {s1 s2 : Str} (h : s1 = s2) : (!decide (s1 = s2)) = false := by simp [h]
end
/-! told rows that are right, and such that are none -/
end K10
set_option Elab.async false
set_option linter.all false
set_option maxRecDepth 100000
set_option maxHeartbeats 4000000
namespace K10
open PySem PySem.Spec PyProof.Rows L2 Evl
/-! ### a comprehension over a dict's keys, and a loop over them: the dict is locked meanwhile -/
/-- all but the one at D stands -/
def Lk (H HF : Hp) (D : Addr) : Prop := ∀ a o, a ≠ D → H a = some o → HF a = some o
theorem Lk.tup {H HF : Hp} {D : Addr} {kvs : List (List L2.Key × V)} (h : Lk H HF D) (hD : H D = some (.dT kvs)) : Tk H HF := fun a xs e => h a _ (fun z => by rw [z, hD] at e; cases e) e
section
variable {K : PySem.W.Frag} {σ : L2.St} {H H' : Hp} {te tl tb ta : TE} {t : TT} {i j : Nat} {D : Addr} {kn : List (Pl × Int)} {vs : List Nat} {ds es : List PyData}
theorem eqv_nil : ∀ ds : List PyData, PyData.eqv (.list ds) (.list []) = ds.isEmpty
  | [] => rfl
  | _ :: _ => rfl
end
end K10
set_option Elab.async false
set_option linter.all false
set_option maxRecDepth 100000
set_option maxHeartbeats 4000000
namespace K10
open PySem PySem.Spec PyProof.Rows L2 Evl
theorem Ok1.mono {P : Program} {w : World} {K : PySem.W.Frag} {mg : Str → Option Value} {base : Heap} {j k : Nat} {f : Addr} {fd : FuncData} {ps : List Str} {sp : Sp} (F : Ok1 P w K mg base j f fd ps sp) (h : j ≤ k) : Ok1 P w K mg base k f fd ps sp :=
  ⟨F.many, fun A outer s H us vs Q E guard room => F.go A outer s H us vs Q E guard (room.mono h)⟩
theorem fun_of {K : PySem.W.Frag} {x : Str} {st : Stmt} {f : Addr} {fd : FuncData} (F : FunD K x x (defArgs st) (defBody st) (defScope st) [] [] f fd) : Fun K x x st f fd := by
  obtain ⟨oc, od, dV, kV, doc, pm, an, cdv, ct, osl, e, lk, cd, hd, _⟩ := F.ex
  rcases hd with ⟨_, rfl⟩ | ⟨z, _⟩
  · exact ⟨⟨oc, od, kV, doc, pm, an, cdv, ct, osl, e, lk, cd⟩, F.kp⟩
  · exact absurd rfl z
def spLaw (K : PySem.W.Frag) : Sp := fun vs H Q _ => ∃ (a : Addr) (ns : List Int), vs = [.ref a] ∧ SqL K H a (ns.map V.int) ∧ ns.length ≤ 63 ∧ ∀ H', Q (.bl true) H'
theorem walk1E {l : PySem.W.OpenLaw} {n k : Nat} {q : Program} {loose : List Str} {XP : (Str → Option Value) → Heap → Prop} {YP : World → Heap → Prop} {d : DefRec} {x : Str}
    (most : l.most = some n) (few : n ≤ sizeLine) (plain : d.params.defaults = []) (room : Room k callerA)
    (F : ∀ (w : World) (mg : Str → Option Value) (fa : Addr) (h : Heap), YP w h → h.Ns mainGlobals mg → mg d.name = some (.ref fa) →
      ∃ (K : PySem.W.Frag) (fd : FuncData) (sp : Sp), K.In h ∧ (∀ (s : Shared) (u : Value), BindsTo s fd ⟨[u], []⟩ [(x, u)]) ∧
        (∀ (H : Hp) (a : Addr) (ns : List Int), ns.length ≤ n → Only H → SqL K H a (ns.map V.int) → sp [.ref a] H (fun v _ => v = .bl true) fun _ _ _ => False) ∧
        ∀ base : Heap, K.In base → base.Ns mainGlobals mg → Ok1 l.prog w K mg base k fa fd [x] sp) :
    PySem.W.WalkO q loose XP YP l.row.toRowW d [] (fun f vs => PySem.call f vs) := by
  refine Att.attach_call most plain ?_
  intro w s0 s1 mg mb fa o pm cd doc a vs ns G Y _ _ _ name obj nums len nogens
  obtain ⟨K, fd, sp, KX, bind, promise, each⟩ := F w mg fa _ Y G.T.g name
  exact law1 KX G.T.g G.T.b G.T.builtins G.T.nolimit nogens obj nums (Nat.le_trans len few) room each bind fun H only there => promise H a ns len only there
end K10
set_option Elab.async false
set_option linter.all false
set_option maxRecDepth 100000
set_option maxHeartbeats 4000000
namespace K10
open PySem PySem.Spec PyProof.Rows L2 Evl
/-! ### the text, by places -/
def topS (i : Nat) : Stmt := PySem.Challenge.pw_allendless_k46_searchable_kinds.main.body.getD i (.Pass ⟨0, 0, 0, 0⟩)
abbrev sIsBetween : Stmt := topS 3
abbrev sBeginsKind : Stmt := topS 5
abbrev sIsKind : Stmt := topS 6
abbrev sIsSearchable : Stmt := topS 11
abbrev sSizesIn : Stmt := topS 12
abbrev sEvenWidth : Stmt := topS 13
abbrev sWidthOf : Stmt := topS 14
abbrev sIsEven : Stmt := topS 15
abbrev sElementsCount : Stmt := topS 16
abbrev sIsAddress : Stmt := topS 17
abbrev sJoinedIndex : Stmt := topS 18
abbrev sAddressIndex : Stmt := topS 19
abbrev sIndexAddress : Stmt := topS 20
abbrev sBegun : Stmt := topS 22
abbrev sDraw : Stmt := topS 23
abbrev sOf : Stmt := topS 24
abbrev sLKind : Stmt := topS 25
abbrev sLSizesIn : Stmt := topS 26
abbrev sLWidth : Stmt := topS 27
abbrev sLJoin : Stmt := topS 28
abbrev sLIndexOf : Stmt := topS 29
abbrev sLAddress : Stmt := topS 30
abbrev sLIsAddress : Stmt := topS 31
abbrev sLBack : Stmt := topS 32
abbrev sLCount : Stmt := topS 33
abbrev sLBent : Stmt := topS 34
abbrev sLBadKind : Stmt := topS 35
abbrev sLDepth : Stmt := topS 36
abbrev sLBorderRight : Stmt := topS 37
abbrev sLRight : Stmt := topS 38
abbrev sLaw : Stmt := topS 39
abbrev nIsBetween : List Str := ["value", "low", "high"]
theorem scIsBetween : FnScope nIsBetween ["value", "low", "high"] (defScope sIsBetween) := ⟨rfl, rfl, rfl, by decide +kernel, rfl, by decide +kernel, by decide +kernel⟩
abbrev nBeginsKind : List Str := ["value", "word"]
theorem scBeginsKind : FnScope nBeginsKind ["value"] (defScope sBeginsKind) := ⟨rfl, rfl, rfl, by decide +kernel, rfl, by decide +kernel, by decide +kernel⟩
abbrev nIsKind : List Str := ["value", "todo", "kind"]
theorem scIsKind : FnScope nIsKind ["value"] (defScope sIsKind) := ⟨rfl, rfl, rfl, by decide +kernel, rfl, by decide +kernel, by decide +kernel⟩
abbrev nIsSearchable : List Str := ["kind", "todo", "part", "depth"]
theorem scIsSearchable : FnScope nIsSearchable ["kind"] (defScope sIsSearchable) := ⟨rfl, rfl, rfl, by decide +kernel, rfl, by decide +kernel, by decide +kernel⟩
abbrev nSizesIn : List Str := ["kind", "sizes", "todo", "part"]
theorem scSizesIn : FnScope nSizesIn ["kind"] (defScope sSizesIn) := ⟨rfl, rfl, rfl, by decide +kernel, rfl, by decide +kernel, by decide +kernel⟩
abbrev nEvenWidth : List Str := ["kind", "sizes", "width", "size"]
theorem scEvenWidth : FnScope nEvenWidth ["kind"] (defScope sEvenWidth) := ⟨rfl, rfl, rfl, by decide +kernel, rfl, by decide +kernel, by decide +kernel⟩
abbrev nWidthOf : List Str := ["kind", "width"]
theorem scWidthOf : FnScope nWidthOf ["kind"] (defScope sWidthOf) := ⟨rfl, rfl, rfl, by decide +kernel, rfl, by decide +kernel, by decide +kernel⟩
abbrev nIsEven : List Str := ["kind"]
theorem scIsEven : FnScope nIsEven ["kind"] (defScope sIsEven) := ⟨rfl, rfl, rfl, by decide +kernel, rfl, by decide +kernel, by decide +kernel⟩
abbrev nElementsCount : List Str := ["kind", "many", "todo", "part"]
theorem scElementsCount : FnScope nElementsCount ["kind"] (defScope sElementsCount) := ⟨rfl, rfl, rfl, by decide +kernel, rfl, by decide +kernel, by decide +kernel⟩
abbrev nIsAddress : List Str := ["kind", "value", "at", "number", "highest"]
theorem scIsAddress : FnScope nIsAddress ["kind", "value"] (defScope sIsAddress) := ⟨rfl, rfl, rfl, by decide +kernel, rfl, by decide +kernel, by decide +kernel⟩
abbrev nJoinedIndex : List Str := ["a", "b"]
theorem scJoinedIndex : FnScope nJoinedIndex ["a", "b"] (defScope sJoinedIndex) := ⟨rfl, rfl, rfl, by decide +kernel, rfl, by decide +kernel, by decide +kernel⟩
abbrev nAddressIndex : List Str := ["kind", "address", "around", "number", "index", "word"]
theorem scAddressIndex : FnScope nAddressIndex ["kind", "address"] (defScope sAddressIndex) := ⟨rfl, rfl, rfl, by decide +kernel, rfl, by decide +kernel, by decide +kernel⟩
abbrev nIndexAddress : List Str := ["kind", "index", "address", "number", "total"]
theorem scIndexAddress : FnScope nIndexAddress ["kind", "index"] (defScope sIndexAddress) := ⟨rfl, rfl, rfl, by decide +kernel, rfl, by decide +kernel, by decide +kernel⟩
abbrev nBegun : List Str := ["script", "k", "cells", "cell", "great", "begun", "left"]
theorem scBegun : FnScope nBegun ["script", "k"] (defScope sBegun) := ⟨rfl, rfl, rfl, by decide +kernel, rfl, by decide +kernel, by decide +kernel⟩
abbrev nDraw : List Str := ["m", "below", "found", "spot", "cells", "added", "cell", "blend"]
theorem scDraw : FnScope nDraw ["m", "below"] (defScope sDraw) := ⟨rfl, rfl, rfl, by decide +kernel, rfl, by decide +kernel, by decide +kernel⟩
abbrev nOf : List Str := ["m", "some"]
theorem scOf : FnScope nOf ["m", "some"] (defScope sOf) := ⟨rfl, rfl, rfl, by decide +kernel, rfl, by decide +kernel, by decide +kernel⟩
abbrev nLKind : List Str := ["m", "deep", "way"]
theorem scLKind : FnScope nLKind ["m", "deep"] (defScope sLKind) := ⟨rfl, rfl, rfl, by decide +kernel, rfl, by decide +kernel, by decide +kernel⟩
abbrev nLSizesIn : List Str := ["kind"]
theorem scLSizesIn : FnScope nLSizesIn ["kind"] (defScope sLSizesIn) := ⟨rfl, rfl, rfl, by decide +kernel, rfl, by decide +kernel, by decide +kernel⟩
abbrev nLWidth : List Str := ["kind", "sizes", "good", "wide", "size"]
theorem scLWidth : FnScope nLWidth ["kind"] (defScope sLWidth) := ⟨rfl, rfl, rfl, by decide +kernel, rfl, by decide +kernel, by decide +kernel⟩
abbrev nLJoin : List Str := ["a", "b", "total"]
theorem scLJoin : FnScope nLJoin ["a", "b"] (defScope sLJoin) := ⟨rfl, rfl, rfl, by decide +kernel, rfl, by decide +kernel, by decide +kernel⟩
abbrev nLIndexOf : List Str := ["kind", "address"]
theorem scLIndexOf : FnScope nLIndexOf ["kind", "address"] (defScope sLIndexOf) := ⟨rfl, rfl, rfl, by decide +kernel, rfl, by decide +kernel, by decide +kernel⟩
abbrev nLAddress : List Str := ["m", "kind", "most", "head", "rest", "size"]
theorem scLAddress : FnScope nLAddress ["m", "kind", "most"] (defScope sLAddress) := ⟨rfl, rfl, rfl, by decide +kernel, rfl, by decide +kernel, by decide +kernel⟩
abbrev nLIsAddress : List Str := ["kind", "value"]
theorem scLIsAddress : FnScope nLIsAddress ["kind", "value"] (defScope sLIsAddress) := ⟨rfl, rfl, rfl, by decide +kernel, rfl, by decide +kernel, by decide +kernel⟩
abbrev nLBack : List Str := ["kind", "index", "rest", "total", "step", "b"]
theorem scLBack : FnScope nLBack ["kind", "index"] (defScope sLBack) := ⟨rfl, rfl, rfl, by decide +kernel, rfl, by decide +kernel, by decide +kernel⟩
abbrev nLCount : List Str := ["kind", "one", "two"]
theorem scLCount : FnScope nLCount ["kind"] (defScope sLCount) := ⟨rfl, rfl, rfl, by decide +kernel, rfl, by decide +kernel, by decide +kernel⟩
abbrev nLBent : List Str := ["m", "address", "way", "k", "other"]
theorem scLBent : FnScope nLBent ["m", "address"] (defScope sLBent) := ⟨rfl, rfl, rfl, by decide +kernel, rfl, by decide +kernel, by decide +kernel⟩
abbrev nLBadKind : List Str := ["m", "kind", "some", "turn"]
theorem scLBadKind : FnScope nLBadKind ["m", "kind"] (defScope sLBadKind) := ⟨rfl, rfl, rfl, by decide +kernel, rfl, by decide +kernel, by decide +kernel⟩
abbrev nLDepth : List Str := ["kind"]
theorem scLDepth : FnScope nLDepth ["kind"] (defScope sLDepth) := ⟨rfl, rfl, rfl, by decide +kernel, rfl, by decide +kernel, by decide +kernel⟩
abbrev nLBorderRight : List Str := ["m", "kind", "b", "top", "some", "j", "own", "address", "index", "told"]
theorem scLBorderRight : FnScope nLBorderRight ["m"] (defScope sLBorderRight) := ⟨rfl, rfl, rfl, by decide +kernel, rfl, by decide +kernel, by decide +kernel⟩
abbrev nLRight : List Str := ["m", "kind", "due", "near", "turn", "address", "size", "index", "back", "bent", "other", "found"]
theorem scLRight : FnScope nLRight ["m"] (defScope sLRight) := ⟨rfl, rfl, rfl, by decide +kernel, rfl, by decide +kernel, by decide +kernel⟩
abbrev nLaw : List Str := ["script", "k", "m", "kind", "told"]
theorem scLaw : FnScope nLaw ["script"] (defScope sLaw) := ⟨rfl, rfl, rfl, by decide +kernel, rfl, by decide +kernel, by decide +kernel⟩
end K10
set_option Elab.async false
set_option linter.all false
set_option maxRecDepth 100000
set_option maxHeartbeats 4000000
namespace K10
open PySem PySem.Spec PyProof.Rows L2 Evl
def spBegn (K : PySem.W.Frag) : Sp := fun vs H Q _ => ∃ (a : Addr) (ns : List Int) (i : Int), vs = [.ref a, .int i] ∧ SqL K H a (ns.map V.int) ∧ ns.length ≤ 63 ∧ 0 ≤ i ∧ i ≤ 10 ∧
  ∀ (m c : Addr) (H' : Hp), Ex H H' → Mok H' m c 0 → Q (.ref m) H'
/-- one of some things -/
def spPick (K : PySem.W.Frag) : Sp := fun vs H Q _ => ∃ (m c a : Addr) (n : Nat) (xs : List V), vs = [.ref m, .ref a] ∧ SqL K H a xs ∧ xs ≠ [] ∧ xs.length ≤ 1000 ∧ Mok H m c n ∧ n + 1 < 1000000 ∧
  ∀ z H', z ∈ xs → Kin H H' → Mok H' m c (n + 1) → Q z H'
section
variable {P : Program} {w : World} {K : PySem.W.Frag} {mg : Str → Option Value} {base : Heap} {f f1 f2 : Addr} {fd fd1 fd2 : FuncData} {k : Nat}
theorem ok_draw (F : Fun K "_law_draw" "_law_draw" sDraw f fd) (m1 : mg "int" = none) (m2 : mg "len" = none) : FnOk P w K mg base CX0 (k + 1) f fd ["m", "below"] spDraw := by
  refine F.ok scDraw (fun vs H Q E h => ?_) (fun cdv A outer s H vs Q E hr h => ?_)
  · obtain ⟨m, c, b, n, rfl, _⟩ := h
    rfl
  · obtain ⟨m, c, b, n, rfl, ⟨l, sd, p, cs, hm, hc, full, p0, pn⟩, few, b1, b2, q⟩ := h
    refine ⟨_, pss_cons (ps_if (pt_cmpR op_gt (pe_dget (hu_of hr) (pv 0) pe_str (fun _ _ => rfl)) pe_int (nomark _))
        (pss_cons (ps_set (i := 2) scDraw.nd rfl (.inl rfl) (pe_op op_mod (pe_callTy call_int1 (by rfl) m1 (by decide +kernel) (pa_cons (pe_dget (hu_of hr) (pv 0) pe_str (fun _ _ => rfl)) pa_nil)) (pv 1)))
        (pss_cons (ps_dput (hu_of hr) (pv 0) pe_str (pe_op op_fdivW (pe_dget (hu_of hr) (pv 0) pe_str (fun _ _ => rfl)) (pv 1)) rfl)
        (pss_one (ps_ret (pv 2))))) pss_nil)
      (pss_cons (ps_set (i := 3) scDraw.nd rfl (.inl rfl) (pe_dget (hu_of hr) (pv 0) pe_str (fun _ _ => rfl)))
      (pss_cons (ps_dput (hu_of hr) (pv 0) pe_str (pe_op op_add (pv 3) pe_int) rfl)
      (pss_cons (ps_par (i := 4) (j := 5) (by rfl) scDraw.nd rfl rfl (by decide) rfl rfl (pa_cons (pe_dget (hu_of hr) (pv 0) pe_str (fun _ _ => rfl)) (pa_cons (pe_op op_add (pe_dget (hu_of hr) (pv 0) pe_str (fun _ _ => rfl)) (pe_op op_mul (pe_op op_mul pe_int (pv 3)) (pv 3))) pa_nil)) (by rfl))
      (pss_cons (ps_set (i := 6) scDraw.nd rfl (.inl rfl) (pe_ix ix_list (pv 4) (pe_op op_mod (pe_callTy call_int1 (by rfl) m1 (by decide +kernel) (pa_cons (pv 3) pa_nil)) (pe_callB call_len_seq (by rfl) m2 (by decide +kernel) (pa_cons (pv 4) pa_nil))) (fun _ _ => rfl)))
      (pss_cons (ps_set (i := 7) scDraw.nd rfl (.inl rfl) (pe_op op_mod (pe_callTy call_int1 (by rfl) m1 (by decide +kernel) (pa_cons (pe_op op_add (pe_op op_mul (pv 6) (pe_op op_add (pe_op op_mul pe_int (pv 3)) pe_int)) (pv 5)) pa_nil)) pe_int))
      (pss_cons (ps_set (i := 7) scDraw.nd rfl (.inl rfl) (pe_op op_mod (pe_callTy call_int1 (by rfl) m1 (by decide +kernel) (pa_cons (pe_op op_add (pe_op op_add (pe_op op_mul (pv 7) (pv 7)) (pe_op op_mul pe_int (pv 3))) (pe_dget (hu_of hr) (pv 0) pe_str (fun _ _ => rfl))) pa_nil)) pe_int))
      (pss_one (ps_ret (pe_op op_mod (pe_op op_fdiv (pe_op op_mod (pe_callTy call_int1 (by rfl) m1 (by decide +kernel) (pa_cons (pe_op op_add (pe_op op_mul (pv 7) pe_int) (pv 3)) pa_nil)) pe_int) pe_int) (pv 1)))))))))), ?_⟩
    refine q_when (b := decide (0 < l)) (et_is (et_test (ev_op (ev_kget (ev_var rfl) hm st_left) ev_c rv_I0)) ?_) (fun hb H1 e1 => ?_) (fun hb H1 e1 => ?_)
    · by_cases h : 0 < l
      · rw [decide_eq_true h]
      · rw [decide_eq_false h]
    · refine q_asg (ev_op (rc_int (ev_kget (ev_var rfl) (e1 _ _ hm) st_left)) (ev_var rfl) (rv_I (by omega))) fun H2 e2 => ?_
      have e12 := e1.trans e2
      refine q_kput (ev_op (ev_kget (ev_var rfl) (e12 _ _ hm) st_left) (ev_var rfl) (rv_I (wide_div (b := 60) (by omega) (by omega) (by decide) (by decide)))) (ev_var rfl) (e12 _ _ hm) (by show (6 : Nat) ≤ 100; decide) fun H3 e3 => ?_
      have e13 := e12.trans e3
      refine s_ret (ev_var rfl) fun H4 e4 => ?_
      rw [put_left] at e4
      have cm : c ≠ m := ne_of hc hm fun z => nomatch z
      refine q _ H4 (mod_lt b1).1 (mod_lt b1).2 (((kin_ex e13).trans (kin_dk (e13 _ _ hm))).trans (kin_ex e4)) ⟨_, sd, p, cs, e4 _ _ upd_same, e4 _ _ ?_, full, p0, by omega⟩
      rw [upd_ne cm]
      exact e13 _ _ hc
    · refine q_asg (ev_kget (ev_var rfl) (e1 _ _ hm) st_spot) fun H2 e2 => ?_
      have e12 := e1.trans e2
      refine q_kput (ev_op (ev_var rfl) ev_c rv_I0) (ev_var rfl) (e12 _ _ hm) (by show (6 : Nat) ≤ 100; decide) fun H3 e3 => ?_
      have e13 := e12.trans e3
      rw [put_spot]
      have cm : c ≠ m := ne_of hc hm fun z => nomatch z
      have hm4 : upd H3 m (.dK (stK l sd c (p + 1))) m = some (.dK (stK l sd c (p + 1))) := upd_same
      have hc4 : upd H3 m (.dK (stK l sd c (p + 1))) c = some (.lst (cs.map V.int)) := by rw [upd_ne cm]; exact e13 _ _ hc
      have kin4 : Kin H (upd H3 m (.dK (stK l sd c (p + 1)))) := (kin_ex e13).trans (kin_dk (e13 _ _ hm))
      generalize upd H3 m (.dK (stK l sd c (p + 1))) = H4 at hm4 hc4 kin4 ⊢
      have pb : -2 ^ 64 < p ∧ p < 2 ^ 64 := by omega
      refine q_par (ea_cons (ev_kget (ev_var rfl) hm4 st_cells) (ea_cons (ev_op (ev_kget (ev_var rfl) hm4 st_seed) (ev_op (ev_op ev_c (ev_var rfl) (rv_I (.inr pb))) (ev_var rfl) (rv_I (.inr pb))) rv_I0) ea_nil)) fun H5 e5 => ?_
      have hm5 := e5 _ _ hm4
      have hc5 := e5 _ _ hc4
      have lc : 0 < cs.length := List.length_pos_iff.mpr full
      obtain ⟨j, hj, lt⟩ : ∃ j : Nat, p % ((cs.map V.int).length : Int) = (j : Int) ∧ j < cs.length := by
        rw [List.length_map]
        obtain ⟨h1, h2⟩ := mod_lt (a := p) (b := (cs.length : Int)) (by omega)
        exact ⟨(p % (cs.length : Int)).toNat, by omega, by omega⟩
      refine q_asg (v := .int cs[j]) (ev_op (ev_var rfl) (ev_op (rc_int (ev_var rfl)) (ev_len (ev_var rfl) (SqL.of hc5)) (rv_I (by rw [List.length_map]; show (0 : Int) < _; omega))) (rv_ixL (SqL.of hc5) ?_)) fun H6 e6 => ?_
      · rw [hj]
        exact atI_nat (by rw [List.getElem?_map, List.getElem?_eq_getElem lt]; rfl)
      generalize cs[j] = cell
      refine q_asg (ev_op (rc_int (ev_op (ev_op (ev_var rfl) (ev_op (ev_op ev_c (ev_var rfl) (rv_I (.inr pb))) ev_c rv_I0) (rv_I (.inr (by omega)))) (ev_var rfl) rv_I0)) ev_c (rv_I (by decide))) fun H7 e7 => ?_
      obtain ⟨b0, b3⟩ := mod_lt (a := cell * (2 * p + 3) + (sd + 40503 * p * p)) (b := 2147483647) (by decide)
      refine q_asg (ev_op (rc_int (ev_op (ev_op (ev_op (ev_var rfl) (ev_var rfl) (rv_I (.inr (by omega)))) (ev_op ev_c (ev_var rfl) (rv_I (.inr pb))) rv_I0) (ev_kget (ev_var rfl) (e7 _ _ (e6 _ _ hm5)) st_seed) rv_I0)) ev_c (rv_I (by decide))) fun H8 e8 => ?_
      refine s_ret (ev_op (ev_op (ev_op (rc_int (ev_op (ev_op (ev_var rfl) ev_c (rv_I (.inr (by decide)))) (ev_var rfl) rv_I0)) ev_c (rv_I (by decide))) ev_c (rv_I (by unfold CDiv; omega))) (ev_var rfl) (rv_I (by omega))) fun H9 e9 => ?_
      have e59 := ((((e5.trans e6).trans e7).trans e8).trans e9)
      exact q _ H9 (mod_lt b1).1 (mod_lt b1).2 (kin4.trans (kin_ex e59)) ⟨l, sd, p + 1, cs, e59 _ _ hm4, e59 _ _ hc4, full, by omega, by omega⟩
theorem ok_begun (F : Fun K "_law_begun" "_law_begun" sBegun f fd) (m1 : mg "int" = none) (m2 : mg "len" = none) : FnOk P w K mg base CX0 (k + 1) f fd ["script", "k"] (spBegn K) := by
  refine F.ok scBegun (fun vs H Q E h => ?_) (fun cdv A outer s H vs Q E hr h => ?_)
  · obtain ⟨a, ns, i, rfl, _⟩ := h
    rfl
  · obtain ⟨a, ns, i, rfl, hl, few, i0, i1, q⟩ := h
    refine ⟨_, pss_cons (ps_set (i := 2) scBegun.nd rfl (.inl rfl) (pe_op op_cat (pe_slice sl_list (pv 0) (po_some (pv 1)) po_none) (pe_slice sl_list (pv 0) po_none (po_some (pv 1)))))
      (pss_cons (ps_setLc (i := 4) (own := [("cell", 3)]) (g := gName 3) rfl scBegun.nd rfl rfl (by rfl) (pi_list (pv 0)) (blkOk_by (N := ["script", "k", "cells", "cell", "great", "begun", "left"]) (sc := defScope sBegun) (by decide +kernel))
        (fun _ _ _ _ _ => pg_name (i := 3) scBegun.nd rfl (Or.inl rfl)) (fun _ _ _ _ _ => pts_one (pt_cmpR op_ge (pv 3) (pe_op op_pow pe_int pe_int) (nomark _))) (fun _ _ _ _ _ => pv 3))
      (pss_cons (ps_set (i := 5) scBegun.nd rfl (.inl rfl) (pe_op op_add pe_int (pe_op op_mul pe_int (pv 1))))
      (pss_cons (ps_for PassesOwn.never rfl (pi_list (pv 2)) (pg_name (i := 3) scBegun.nd rfl (Or.inl rfl))
        (pss_one (ps_set (i := 5) scBegun.nd rfl (.inl rfl) (pe_op op_mod (pe_callTy call_int1 (by rfl) m1 (by decide +kernel) (pa_cons (pe_op op_add (pe_op op_mul (pv 5) pe_int) (pv 3)) pa_nil)) pe_int))))
      (pss_cons (ps_set (i := 6) scBegun.nd rfl (.inl rfl) (pe_ifExp (pt_cmpR op_lt (pv 1) (pe_callB call_len_seq (by rfl) m2 (by decide +kernel) (pa_cons (pv 4) pa_nil)) (nomark _)) (pe_ix ix_list (pv 4) (pv 1) (fun _ _ => rfl)) pe_int))
      (pss_one (ps_ret (pe_disp (pps_cons pe_str (pv 6) (pps_cons pe_str (pv 5) (pps_cons pe_str (pe_op op_cat (pv 2) (pe_lst (pa_cons (pe_op op_add (pe_op op_mul pe_int (pv 1)) pe_int) pa_nil))) (pps_cons pe_str pe_int (pps_cons pe_str pe_int (pps_cons pe_str pe_int pps_nil)))))) rfl rfl (by decide) (by decide)))))))), ?_⟩
    have ii := ints_map ns
    have fx : (ns.map V.int).length ≤ 63 := by rw [List.length_map]; exact few
    have cl1 := cut_len (xs := ns.map V.int) (some i) none
    have cl2 := cut_len (xs := ns.map V.int) none (some i)
    refine q_asgL (el_cat (el_sl (ev_var rfl) (eo_some (ev_var rfl)) eo_none hl) (el_sl (ev_var rfl) eo_none (eo_some (ev_var rfl)) hl) (by omega)) fun pc H1 nc e1 hc => ?_
    have ic : Ints (cutV (ns.map V.int) (some i) none ++ cutV (ns.map V.int) none (some i)) := ints_cat (ints_cut ii) (ints_cut ii)
    have lc : (cutV (ns.map V.int) (some i) none ++ cutV (ns.map V.int) none (some i)).length ≤ 126 := by rw [List.length_append]; omega
    generalize cutV (ns.map V.int) (some i) none ++ cutV (ns.map V.int) none (some i) = cells at hc ic lc
    refine q_asgL (el_lcL (fun j => decide (10 ^ 18 ≤ ns.getD j 0)) (fun j => .int (ns.getD j 0)) (ev_var rfl) (ex_l e1 hl) (by omega) (fun _ => rfl) (fun j x H2 e2 hx => ?_) (fun j x H2 e2 hx _ => ?_)) fun pg H2 ng e2 hg => ?_
    · obtain ⟨c, hc', rfl⟩ := map_at hx
      rw [getD_at hc']
      refine et_is (et_test (ev_op (ev_var rfl) (ev_op ev_c ev_c (rv_I (by unfold CPow; decide))) rv_I0)) ?_
      rfl
    · obtain ⟨c, hc', rfl⟩ := map_at hx
      rw [getD_at hc']
      exact ev_var rfl
    have ig : Ints (given (ns.map V.int).length (fun j => decide (10 ^ 18 ≤ ns.getD j 0)) (fun j => .int (ns.getD j 0))) := ⟨((List.range (ns.map V.int).length).filter fun j => decide (10 ^ 18 ≤ ns.getD j 0)).map fun j => ns.getD j 0, by unfold given; rw [List.map_map]; rfl⟩
    generalize given (ns.map V.int).length (fun j => decide (10 ^ 18 ≤ ns.getD j 0)) (fun j => .int (ns.getD j 0)) = great at hg ig
    refine q_asg (ev_op ev_c (ev_op ev_c (ev_var rfl) (rv_I (.inl (by decide)))) rv_I0) fun H3 e3 => ?_
    have hc3 := e3 _ _ (e2 _ _ hc)
    refine q_forLn (ev_var rfl) (SqL.of hc3) (fun j σ' H' => Ex H3 H' ∧ ∃ x z, σ' = [some (.ref a), some (.int i), some (.ref pc), x, some (.ref pg), some (.int z), none] ∧ -2 ^ 64 < z ∧ z < 2 ^ 64) (fun H4 e4 => ⟨e4, none, 67 + 8 * i, rfl, by omega, by omega⟩) (fun j σ' H' _ p => SqL.of (p.1 _ _ hc3)) (fun j x σ' H' hx p => ?_) (fun σ' H' p => ?_)
    · obtain ⟨e4, y, z, rfl, z1, z2⟩ := p
      obtain ⟨cs, rfl⟩ := ic
      obtain ⟨c, hc', rfl⟩ := map_at hx
      refine s_asg (ev_op (rc_int (ev_op (ev_op (ev_var rfl) ev_c (rv_I (.inl ⟨z1, z2⟩))) (ev_var rfl) rv_I0)) ev_c (rv_I (by decide))) fun H5 e5 => ?_
      obtain ⟨b0, b3⟩ := mod_lt (a := z * 48271 + c) (b := 2147483647) (by decide)
      exact ⟨e4.trans e5, _, _, rfl, by omega, by omega⟩
    · obtain ⟨e4, y, z, rfl, z1, z2⟩ := p
      have hg4 := e4 _ _ (e3 _ _ hg)
      have hc4 := e4 _ _ hc3
      obtain ⟨l, hl⟩ : ∃ l : Int, Ev (tIf (tTest (tOp (rI0 fun i j => V.bl (decide (i < j))) (tVar 1) (tCB (rLenS K) (tCons (tVar 4) tNil)))) (tOp (rIxL K) (tVar 4) (tVar 1)) (tC (.int 0))) [some (.ref a), some (.int i), some (.ref pc), y, some (.ref pg), some (.int z), none] H' (.int l) := by
        by_cases h : i < (great.length : Int)
        · obtain ⟨z, hz⟩ := ints_get ig (i := i.toNat) (by omega)
          refine ⟨z, ev_if (b := true) (et_is (et_test (ev_op (ev_var rfl) (ev_len (ev_var rfl) (SqL.of hg4)) rv_I0)) (by rw [decide_eq_true h])) (fun _ => ev_op (ev_var rfl) (ev_var rfl) (rv_ixL (SqL.of hg4) ?_)) fun z => by cases z⟩
          have ei : i = (i.toNat : Int) := by omega
          rw [ei]
          exact atI_nat hz
        · exact ⟨0, ev_if (b := false) (et_is (et_test (ev_op (ev_var rfl) (ev_len (ev_var rfl) (SqL.of hg4)) rv_I0)) (by rw [decide_eq_false h])) (fun z => by cases z) fun _ => ev_c⟩
      refine q_asg hl fun H5 e5 => ?_
      intro p hp
      have x5 : Ex H5 (upd H5 p (.dK [])) := Ex.new hp
      show tC (.str "left") _ _ _
      refine ⟨_, rfl, ?_⟩
      show tC (.str "seed") _ _ _
      refine ⟨_, rfl, ?_⟩
      show tC (.str "cells") _ _ _
      refine el_cat1 (ev_var rfl) (x5 _ _ (e5 _ _ hc4)) (el_lst (ea_cons (ev_op (ev_op ev_c (ev_var rfl) (rv_I (.inl (by decide)))) ev_c rv_I0) ea_nil) (by show (1 : Nat) ≤ 100000; decide)) (by show cells.length + 1 ≤ 100000; omega) _ (Ex.refl _) _ fun pl H6 nl e6 hl6 => ?_
      refine ⟨e6 _ _ upd_same, [(Sum.inr "left", .int l), (Sum.inr "seed", .int z), (Sum.inr "cells", .ref pl), (Sum.inr "spot", .int 0), (Sum.inr "next", .int 0), (Sum.inr "quants", .int 3)], rfl, by show (6 : Nat) ≤ 15; decide, ?_⟩
      have all : Ex H H5 := (e1.trans e2).trans (e3.trans (e4.trans e5))
      have npl : pl ≠ p := fun e => by
        rw [e] at nl
        rw [upd_same] at nl
        cases nl
      obtain ⟨cs, rfl⟩ := ic
      refine q p pl _ (all.trans (Ex.mut (x5.trans e6) hp)) ⟨l, z, 0, cs ++ [53 * i + 23], upd_same, ?_, by simp, Int.le_refl _, Int.le_refl _⟩
      rw [upd_ne npl, hl6, List.map_append]
      rfl
theorem ok_of (F : Fun K "_law_of" "_law_of" sOf f fd) (m2 : mg "len" = none)
    (G1 : FnOk P w K mg base CX0 k f1 fd1 ["m", "below"] spDraw) (g1 : mg "_law_draw" = some (.ref f1)) (kp1 : PySem.W.keepIn K (.ref f1) = true) (b1 : Binds K fd1 ["m", "below"] []) :
    FnOk P w K mg base CX0 (k + 1) f fd ["m", "some"] (spPick K) := by
  refine F.ok scOf (fun vs H Q E h => ?_) (fun cdv A outer s H vs Q E hr h => ?_)
  · obtain ⟨m, c, a, n, ns, rfl, _⟩ := h
    rfl
  · obtain ⟨m, c, a, n, xs, rfl, hl, full, few, mk, nn, q⟩ := h
    refine ⟨_, pss_one (ps_ret (pe_ix ix_list (pv 1) (pe_call G1 hr (by rfl) g1 kp1 b1 .nil pass0 (pa_cons (pv 0) (pa_cons (pe_callB call_len_seq (by rfl) m2 (by decide +kernel) (pa_cons (pv 1) pa_nil)) pa_nil))) (fun _ _ => rfl))), ?_⟩
    have lf : 0 < xs.length := List.length_pos_iff.mpr full
    refine ⟨_, rfl, ?_⟩
    refine em_draw (b := (xs.length : Int)) rfl (fun H1 e1 => ?_) (by omega) (by omega) (by omega) H (Kin.refl _) mk _ fun x d H2 pd e2 mk2 hx => ?_
    · exact ev_len (ev_var rfl) (sq_kin e1 hl)
    · obtain ⟨z, rfl, z0, z1⟩ := pd
      cases dt_int hx
      obtain ⟨j, rfl⟩ : ∃ j : Nat, z = j := ⟨z.toNat, by omega⟩
      have lt : j < xs.length := by omega
      exact ⟨a, xs, (j : Int), xs[j], rfl, rfl, sq_kin e2 hl, atI_nat (List.getElem?_eq_getElem lt), q _ _ (List.getElem_mem lt) e2 mk2⟩
end
end K10
set_option Elab.async false
set_option linter.all false
set_option maxRecDepth 100000
set_option maxHeartbeats 1000000
namespace K10
open PySem PySem.Spec PyProof.Rows L2 Evl
/-! ### whole roots -/
def IsRoot (s n : Nat) : Prop := s * s ≤ n ∧ n < (s + 1) * (s + 1)
theorem root_small {n : Nat} (h : n < 8) : IsRoot (Float64.rootBelow8 n) n := by
  unfold Float64.rootBelow8
  have : n = 0 ∨ n = 1 ∨ n = 2 ∨ n = 3 ∨ n = 4 ∨ n = 5 ∨ n = 6 ∨ n = 7 := by omega
  rcases this with rfl | rfl | rfl | rfl | rfl | rfl | rfl | rfl <;> exact ⟨by decide, by decide⟩
theorem rt_a (z d : Nat) : (2 * z + 2) * (z + d) = 2 * (z * z) + 2 * (z * d) + 2 * (z + d) := by grind
theorem rt_b (z d q : Nat) : (z + d + q) * (z + d) = z * z + 2 * (z * d) + d * d + q * (z + d) := by grind
theorem root_step {n r p x y : Nat} (p0 : 0 < p) (hr : IsRoot r (n / (p * p))) (big : p < 2 * (r + 1)) (hx : x = (r + 1) * p) (hy : y = (x + n / x) / 2) : IsRoot (if y * y > n then y - 1 else y) n := by
  have x0 : 0 < x := by rw [hx]; exact Nat.mul_pos (by omega) p0
  have up : n < x * x := by
    have := (Nat.div_lt_iff_lt_mul (Nat.mul_pos p0 p0)).mp hr.2
    rw [hx]
    grind
  have lo : (x - p) * (x - p) ≤ n := by
    have e : x - p = r * p := by rw [hx, Nat.add_mul]; omega
    have := Nat.mul_le_mul_right (p * p) hr.1
    have := Nat.div_mul_le_self n (p * p)
    rw [e]
    grind
  have q1 : n / x * x ≤ n := Nat.div_mul_le_self n x
  have q2 : n < (n / x + 1) * x := by
    have := Nat.div_add_mod n x
    have := Nat.mod_lt n x0
    grind
  generalize n / x = q at hy q1 q2
  have am : n < (y + 1) * (y + 1) := by
    have h1 : x + (q + 1) ≤ 2 * (y + 1) := by omega
    have h2 := Nat.mul_le_mul h1 h1
    have h3 : 4 * (x * (q + 1)) ≤ (x + (q + 1)) * (x + (q + 1)) := by
      rcases Nat.le_total x (q + 1) with z | z
      · obtain ⟨d, e⟩ := Nat.exists_eq_add_of_le z
        rw [e]
        have : 0 ≤ d * d := Nat.zero_le _
        grind
      · obtain ⟨d, e⟩ := Nat.exists_eq_add_of_le z
        rw [e]
        have : 0 ≤ d * d := Nat.zero_le _
        grind
    grind
  split
  · rename_i hb
    have y1 : 1 ≤ y := by
      rcases Nat.eq_zero_or_pos y with z | z
      · rw [z] at hb; omega
      · exact z
    obtain ⟨z, rfl⟩ : ∃ z, y = z + 1 := ⟨y - 1, by omega⟩
    rw [Nat.add_sub_cancel]
    refine ⟨?_, hb⟩
    apply Nat.le_of_not_lt
    intro hz
    have qx : q < x := by
      apply Nat.lt_of_not_le
      intro h
      have := Nat.mul_le_mul_right x h
      omega
    have zx : z < x := by omega
    have h1 : 2 * z + 2 ≤ x + q := by omega
    obtain ⟨d, e⟩ : ∃ d, x = z + d := ⟨x - z, by omega⟩
    have m := Nat.mul_le_mul_right x h1
    have k1 : 2 * x < d * d := by
      have e1 : (2 * z + 2) * x = 2 * (z * z) + 2 * (z * d) + 2 * x := by rw [e]; exact rt_a z d
      have e2 : (x + q) * x = z * z + 2 * (z * d) + d * d + q * x := by rw [e]; exact rt_b z d q
      omega
    have zp : x - p < z := by
      apply Nat.lt_of_not_le
      intro h
      have := Nat.mul_le_mul h h
      omega
    have dp : d ≤ p := by omega
    have k2 := Nat.mul_le_mul dp dp
    have k3 := Nat.mul_le_mul_right p (Nat.le_of_lt big)
    have k4 : 2 * (r + 1) * p = 2 * x := by rw [hx, Nat.mul_assoc]
    omega
  · rename_i hb
    exact ⟨by omega, am⟩
theorem root_ok : ∀ (l n : Nat), n.log2 ≤ l → IsRoot (Float64.rootByHalves l n) n
  | 0, n, h => by
    have : n < 2 ^ (0 + 1) := Nat.lt_of_lt_of_le (Nat.lt_log2_self (n := n)) (Nat.pow_le_pow_right (by decide) (by omega))
    exact root_small (by omega)
  | l + 1, n, h => by
    unfold Float64.rootByHalves
    by_cases h8 : n < 8
    · rw [if_pos h8]
      exact root_small h8
    · rw [if_neg h8]
      have n0 : n ≠ 0 := by omega
      have hi : n < 2 ^ (n.log2 + 1) := Nat.lt_log2_self
      have lo : 2 ^ n.log2 ≤ n := Nat.log2_self_le n0
      have l3 : 3 ≤ n.log2 := (Nat.le_log2 n0).mpr (by omega)
      generalize n.log2 = L at *
      obtain ⟨k, hk⟩ : ∃ k, (L + 1) / 4 = k := ⟨_, rfl⟩
      rw [hk]
      have k1 : 1 ≤ k := by omega
      have k2 : 4 * k ≤ L + 1 := by omega
      have e4 : 4 ^ k = 2 ^ k * 2 ^ k := by rw [← Nat.mul_pow]
      have p0 : 0 < 2 ^ k := Nat.pow_pos (by decide)
      have low : 2 ^ (L - 2 * k) ≤ n / 4 ^ k := by
        rw [Nat.le_div_iff_mul_le (by rw [e4]; exact Nat.mul_pos p0 p0), e4, ← Nat.pow_add, ← Nat.pow_add]
        exact Nat.le_trans (Nat.pow_le_pow_right (by decide) (by omega)) lo
      have ih := root_ok l (n / 4 ^ k) (by
        have m0 : n / 4 ^ k ≠ 0 := by have : 0 < 2 ^ (L - 2 * k) := Nat.pow_pos (by decide); omega
        have : n / 4 ^ k < 2 ^ (L + 1 - 2 * k) := by
          rw [Nat.div_lt_iff_lt_mul (by rw [e4]; exact Nat.mul_pos p0 p0), e4, ← Nat.pow_add, ← Nat.pow_add]
          exact Nat.lt_of_lt_of_le hi (Nat.pow_le_pow_right (by decide) (by omega))
        have := (Nat.log2_lt m0).mpr this
        omega)
      rw [e4] at ih low
      refine root_step p0 (by rw [e4]; exact ih) ?_ rfl rfl
      rw [e4]
      generalize Float64.rootByHalves l (n / (2 ^ k * 2 ^ k)) = r at ih ⊢
      apply Nat.lt_of_not_le
      intro hz
      have h1 := Nat.mul_le_mul hz hz
      have h2 : 2 ^ k * 2 ^ k ≤ 2 * 2 ^ (L - 2 * k) := by
        rw [← Nat.pow_add, Nat.mul_comm, ← Nat.pow_succ]
        exact Nat.pow_le_pow_right (by decide) (by omega)
      have := ih.2
      grind
theorem isqrt_ok (n : Nat) : IsRoot (Float64.isqrt n) n := root_ok _ _ (Nat.le_refl _)
theorem IsRoot.one {a b n : Nat} (h : IsRoot a n) (g : IsRoot b n) : a = b := by
  rcases Nat.lt_trichotomy a b with z | z | z
  · have := Nat.mul_le_mul z z
    have := h.2
    have := g.1
    simp only [Nat.succ_eq_add_one] at *
    grind
  · exact z
  · have := Nat.mul_le_mul z z
    have := g.2
    have := h.1
    simp only [Nat.succ_eq_add_one] at *
    grind
/-! ### the triangle numbers -/
def T (t : Nat) : Nat := t * (t + 1) / 2
theorem T2 (t : Nat) : 2 * T t = t * (t + 1) := by
  unfold T
  induction t with
  | zero => rfl
  | succ t ih =>
    have : (t + 1) * (t + 1 + 1) = t * (t + 1) + 2 * (t + 1) := by grind
    omega
theorem T_succ (t : Nat) : T (t + 1) = T t + t + 1 := by
  have := T2 t
  have := T2 (t + 1)
  have : (t + 1) * (t + 1 + 1) = t * (t + 1) + 2 * (t + 1) := by grind
  omega
theorem T_mono {a b : Nat} (h : a ≤ b) : T a ≤ T b := by
  obtain ⟨d, rfl⟩ := Nat.exists_eq_add_of_le h
  clear h
  induction d with
  | zero => exact Nat.le_refl _
  | succ d ih =>
    have := T_succ (a + d)
    rw [← Nat.add_assoc]
    omega
/-- t is the last triangle number's place that is not above i -/
def IsTri (t i : Nat) : Prop := T t ≤ i ∧ i < T (t + 1)
theorem IsTri.one {a b i : Nat} (h : IsTri a i) (g : IsTri b i) : a = b := by
  rcases Nat.lt_trichotomy a b with z | z | z
  · have := T_mono (show a + 1 ≤ b from z)
    have := h.2
    have := g.1
    omega
  · exact z
  · have := T_mono (show b + 1 ≤ a from z)
    have := g.2
    have := h.1
    omega
def tri (i : Nat) : Nat := (Float64.isqrt (8 * i + 1) - 1) / 2
theorem tri_ok (i : Nat) : IsTri (tri i) i := by
  obtain ⟨h1, h2⟩ := isqrt_ok (8 * i + 1)
  unfold tri
  generalize Float64.isqrt (8 * i + 1) = s at h1 h2
  have s1 : 1 ≤ s := by
    rcases Nat.eq_zero_or_pos s with z | z
    · rw [z] at h2; omega
    · exact z
  obtain ⟨t, ht⟩ : ∃ t, (s - 1) / 2 = t := ⟨_, rfl⟩
  rw [ht]
  have a1 : 2 * t + 1 ≤ s := by omega
  have a2 : s + 1 ≤ 2 * t + 3 := by omega
  have b1 := Nat.mul_le_mul a1 a1
  have b2 := Nat.mul_le_mul a2 a2
  have c1 := T2 t
  have c2 := T2 (t + 1)
  refine ⟨?_, ?_⟩ <;> grind
theorem tri_join (a b : Nat) : tri (T (a + b) + b) = a + b := (tri_ok _).one ⟨Nat.le_add_right _ _, by rw [T_succ]; omega⟩
end K10
set_option Elab.async false
set_option linter.all false
set_option maxRecDepth 100000
set_option maxHeartbeats 1000000
namespace K10
open PySem PySem.Spec PyProof.Rows L2 Evl
theorem DtAll.ne {H : Hp} {xs : List V} {ds : List PyData} (r : DtAll H xs ds) (h : ds ≠ []) : xs ≠ [] := fun z => h (r.nil_iff.mp z)
theorem dt_mem {H : Hp} {xs : List V} {ds : List PyData} (all : DtAll H xs ds) {x : V} (h : x ∈ xs) : ∃ d ∈ ds, Dt H x d := by
  obtain ⟨j, hj⟩ := List.getElem?_of_mem h
  have lt : j < ds.length := by
    rw [← all.len]
    exact (List.getElem?_eq_some_iff.mp hj).1
  obtain ⟨y, hy, hd⟩ := all.get (List.getElem?_eq_getElem lt)
  rw [hj] at hy
  cases hy
  exact ⟨_, List.getElem_mem lt, hd⟩
theorem ints_lst {σ : L2.St} {H : Hp} {ta : TA} {ns : List Int} (h : EvA ta σ H (ns.map V.int)) (few : ns.length ≤ 100000) : EvL (tLst ta) σ H (ns.map V.int) := el_lst h (by rw [List.length_map]; exact few)
section
variable {K : PySem.W.Frag} {σ : L2.St} {H H' : Hp} {ta tb te td tx : TE} {v x y : V} {m c l a : Addr} {n n' n1 n2 : Nat} {P P1 P2 : PyData → Prop} {d : PyData} {ds es : List PyData} {D : Ends} {tz tu tw : TS} {PP PP1 PP2 : List PyData → Prop} {tA : TT} {xs : List V} {s : Str}
theorem em_pickL {i : Nat} {ns : List Int} {E : XK} (hi : σ[i]? = some (some (.ref m))) (h : ∀ H1, Kin H H1 → EvL te σ H1 (ns.map V.int)) (full : ns ≠ []) (small : ns.length ≤ 1000) (few : n + 1 < 1000000) : EvM m c (tCall (spPick K) [] E (tCons (tVar i) (tCons te tNil))) σ H n (n + 1) (fun d => ∃ z ∈ ns, d = .int z) := fun H1 e1 mk Q q =>
  ⟨_, hi, h H1 e1 H1 (Ex.refl _) _ fun p H2 np e2 hp => ⟨m, c, p, n, ns.map V.int, rfl, SqL.of hp, by simpa using full, by rw [List.length_map]; exact small, mk.ex e2, few, fun z H' hz e3 mk3 => by
    obtain ⟨y, hy, rfl⟩ := List.mem_map.mp hz
    exact q _ _ H' ⟨y, hy, rfl⟩ ((kin_ex e2).trans e3) mk3 (.int y)⟩⟩
end
section
variable {K : PySem.W.Frag} {σ : L2.St} {H H' : Hp} {ta tb te td tx : TE} {v x y : V} {m c l a : Addr} {n n' n1 n2 : Nat} {P P1 P2 : PyData → Prop} {d : PyData} {ds es : List PyData} {D : Ends} {tz tu tw : TS} {PP PP1 PP2 : List PyData → Prop} {tA : TT} {xs : List V} {s : Str}
theorem kin_l {a : Addr} {xs : List V} (e : Kin H H') (h : H a = some (.lst xs)) : H' a = some (.lst xs) := e _ _ h fun _ z => nomatch z
end
/-! ### lists of such data -/
section
variable {K : PySem.W.Frag} {σ : L2.St} {H H' : Hp} {te ta tb : TE} {D : Ends} {tz : TS} {l a : Addr} {xs : List V} {y : V} {d : PyData} {ds es : List PyData}
theorem sd_app (hl : H l = some (.lst xs)) (ha : Ev ta σ H (.ref l)) (h : EvD te σ H d) (hz : xs.length < 100000) (k : ∀ y H1, Ex H H1 → Dt H1 y d → D.nx σ (upd H1 l (.lst (xs ++ [y])))) :
    tDrop (tBM K "list" rAppend ta (tCons te tNil)) D σ H := ha H (Ex.refl H) _ fun H1 e1 =>
  ⟨Or.inl ⟨rfl, xs, sq_of (e1 l _ hl)⟩, h H1 e1 _ fun y H2 e2 hy => ⟨l, xs, y, rfl, rfl, e2 l _ (e1 l _ hl), sz_lt hz, k y H2 (e1.trans e2) hy⟩⟩
theorem qd_app (hl : H l = some (.lst xs)) (ha : Ev ta σ H (.ref l)) (h : EvD te σ H d) (hz : xs.length < 100000) (k : ∀ y H1, Ex H H1 → Dt H1 y d → tz D σ (upd H1 l (.lst (xs ++ [y])))) :
    tSeq (tDrop (tBM K "list" rAppend ta (tCons te tNil))) tz D σ H := sd_app (D := { D with nx := tz D }) hl ha h hz k
theorem sd_pop {g : TG} (hl : H l = some (.lst (xs ++ [y]))) (ha : Ev ta σ H (.ref l)) (k : ∀ H1, Ex H H1 → g y σ (upd H1 l (.lst xs)) fun σ2 H2 => D.nx σ2 H2) : tAsg (tBM0 K "list" rPop ta) g D σ H :=
  ha H (Ex.refl H) _ fun H1 e1 => ⟨Or.inl ⟨rfl, _, sq_of (e1 l _ hl)⟩, l, xs ++ [y], y, rfl, rfl, e1 l _ hl, by simp, by
    rw [List.dropLast_concat]
    exact k H1 e1⟩
theorem qd_pop {g : TG} (hl : H l = some (.lst (xs ++ [y]))) (ha : Ev ta σ H (.ref l)) (k : ∀ H1, Ex H H1 → g y σ (upd H1 l (.lst xs)) fun σ2 H2 => tz D σ2 H2) : tSeq (tAsg (tBM0 K "list" rPop ta) g) tz D σ H := sd_pop (D := { D with nx := tz D }) hl ha k
theorem et_truL {l : Addr} {xs : List V} (h : Ev te σ H (.ref l)) (hl : H l = some (.lst xs)) : EvT (fun σ H Q => te σ H fun x H' => ∃ k, TruV K x H' k ∧ Q k H') σ H (!xs.isEmpty) := fun H1 e _ q =>
  h H1 e _ fun H2 e2 => ⟨!xs.isEmpty, .inl ⟨xs, SqL.of ((e.trans e2) _ _ hl), rfl⟩, q H2 e2⟩
end
theorem DtAll.split {H : Hp} : ∀ {ds es : List PyData} {xs : List V}, DtAll H xs (ds ++ es) → ∃ ys zs, xs = ys ++ zs ∧ DtAll H ys ds ∧ DtAll H zs es
  | [], es, xs, h => ⟨[], xs, rfl, .nil, h⟩
  | d :: ds, es, xs, h => by
    cases h with
    | cons h t =>
      obtain ⟨ys, zs, rfl, h1, h2⟩ := DtAll.split t
      exact ⟨_ :: ys, zs, rfl, .cons h h1, h2⟩
theorem DtAll.snoc {H : Hp} {ds : List PyData} {d : PyData} {xs : List V} (h : DtAll H xs (ds ++ [d])) : ∃ ys y, xs = ys ++ [y] ∧ DtAll H ys ds ∧ Dt H y d := by
  obtain ⟨ys, zs, rfl, h1, h2⟩ := h.split
  cases h2 with
  | cons h3 t =>
    cases t
    exact ⟨ys, _, rfl, h1, h3⟩
theorem q_asgLn {σ : L2.St} {H : Hp} {te : TE} {ds : List PyData} {i : Nat} {D : Ends} {tz : TS} (h : EvLd te σ H ds) (k : ∀ p xs H1, H p = none → Ex H H1 → H1 p = some (.lst xs) → DtAll H1 xs ds → tz D (σ.set i (some (.ref p))) H1) : tSeq (tAsg te (gName i)) tz D σ H := h H (Ex.refl H) _ k
/-! ### xs.extend(a tuple) -/
theorem extMeets (l c : Addr) (us ts : Array Value) (m m2 : Nat) (dd : Option Addr) (sl : Array (Option Value)) (short : Builtin.List.listTooLong (us.size + ts.size) = false) (room : us.size + ts.size ≤ sizeLine) :
    Meets (Builtin.«list.extend» ⟨[.ref l, .ref c], []⟩) fun _ R s => s.heap.get? l = some ⟨.type "list", none, .seq us m, #[]⟩ ∧ s.heap.get? c = some ⟨.type "tuple", dd, .seq ts m2, sl⟩ ∧
      R (.ok (.ret Value.none)) { s with heap := s.heap.update l (Obj.mapSeq fun x => x ++ ts), toks := s.toks } := by
  refine .of_wp fun prog w A R s q => ?_
  cases s with
  | mk hp gl dr tk os =>
  obtain ⟨ql, qc, q⟩ := q
  have big : (us ++ ts).size ≤ sizeLine + 1 := by rw [Array.size_append]; omega
  have one : us.size ≤ sizeLine := by omega
  have never : ¬ (!us.isEmpty && Builtin.List.listTooLong (us.size + ts.size)) = true := by rw [short, Bool.and_false]; exact Bool.false_ne_true
  have a1 := AutoSeq1.idx_int
  have a2 := AutoSeq1.sub_tuple_tuple
  have a3 := AutoSeq1.sub_list_list
  have a4 := AutoSeq1.sub_tuple_list
  have a5 := AutoSeq1.sub_list_tuple
  wp_walk using (wpAny_updateSeq ql rfl (hz := one) (_hz' := big)), AutoSeq1.wpAny_loadPart' ql, AutoSeq1.wpAny_loadPart' qc
  exact ⟨_, rfl, q⟩
def rExtT (K : PySem.W.Frag) : V → List V → Hp → VK → Prop := fun x vs H Q => ∃ (l c : Addr) (xs ys : List V), x = .ref l ∧ vs = [.ref c] ∧ H l = some (.lst xs) ∧ SqT K H c ys ∧ xs.length + ys.length ≤ 100000 ∧ Q .non (upd H l (.lst (xs ++ ys)))
theorem mt_extT {X : Cx} : MtM X "list.extend" (rExtT X.K) := by
  intro pins s σ H x vs v us Q I rx rv want
  obtain ⟨l, c, xs, ys, rfl, rfl, at_, tup, room, go⟩ := want
  obtain ⟨u, rfl, ru⟩ := rv.one
  obtain rfl : v = Value.ref l := rx
  obtain rfl : u = Value.ref c := ru
  obtain ⟨_, ls, m, rel, _, el⟩ := I.lstM at_
  obtain ⟨ts, rel2, it, _⟩ := I.tuple tup
  obtain ⟨⟨cl, dd, dt, sl⟩, ec, e1, m2, e2⟩ := it
  obtain rfl : cl = .type "tuple" := e1
  obtain rfl : dt = .seq ts.toArray m2 := e2
  have sum : ls.toArray.size + ts.toArray.size ≤ sizeLine := by
    show ls.length + ts.length ≤ sizeLine
    have h1 := rel.length
    have h2 := rel2.length
    exact sz_of (by omega)
  have joined : ls.toArray ++ ts.toArray = (ls ++ ts).toArray := by simp
  exact call_meets F.slot_list_extend ⟨_, el, rfl⟩ F.entry_list_extend (F.args_list_extend_2 _ _) (extMeets l c ls.toArray ts.toArray m m2 dd sl (notLongL sum) sum)
    ⟨el, ec, .non, _, I.lset (its' := ls ++ ts) at_ el joined (rel.append rel2) (by rw [List.length_append]; exact sz_of room), rfl, go⟩
theorem sd_extT {K : PySem.W.Frag} {σ : L2.St} {H : Hp} {te ta : TE} {D : Ends} {l : Addr} {xs : List V} {ds : List PyData} (hl : H l = some (.lst xs)) (ha : Ev ta σ H (.ref l)) (h : EvD te σ H (.tuple ds)) (hz : xs.length + ds.length ≤ 100000) (k : ∀ ys H1, Ex H H1 → DtAll H1 ys ds → D.nx σ (upd H1 l (.lst (xs ++ ys)))) :
    tDrop (tBM K "list" (rExtT K) ta (tCons te tNil)) D σ H := ha H (Ex.refl H) _ fun H1 e1 =>
  ⟨Or.inl ⟨rfl, xs, sq_of (e1 l _ hl)⟩, h H1 e1 _ fun x H2 e2 hx => by
    obtain ⟨c, ys, rfl, hc, all⟩ := dt_tup hx
    exact ⟨l, c, xs, ys, rfl, rfl, e2 l _ (e1 l _ hl), SqT.of hc, by rw [all.len]; exact hz, k ys H2 (e1.trans e2) all⟩⟩
section
variable {K : PySem.W.Frag} {σ : L2.St} {H H' : Hp} {ta tb te td tx : TE} {v x y : V} {m c l a : Addr} {n n' n1 n2 : Nat} {P P1 P2 : PyData → Prop} {d : PyData} {ds es : List PyData} {D : Ends} {tz tu tw : TS} {PP PP1 PP2 : List PyData → Prop} {tA : TT} {xs : List V} {s : Str}
theorem ev_isStr (h : Ev te σ H (.str s)) : Ev (tCB (rIsi K) (tCons te (tCons (tC (.ty "str")) tNil))) σ H (.bl true) := fun H1 e1 _ q =>
  h H1 e1 _ fun H2 e2 => ⟨.str s, .ty "str", .type "str", .type "str", true, rfl, .ty _, .base (.str s), kit_ty (by show kitB "str" "str" = some true; decide +kernel), q H2 e2⟩
theorem et_f3 {t1 t2 t3 : TT} (h1 : EvT t1 σ H false) (h2 : EvT t2 σ H false) (h3 : EvT t3 σ H false) : EvT (tOr t1 (tOr t2 t3)) σ H false := et_or (a := false) (b := false) h1 fun _ => et_or (a := false) (b := false) h2 fun _ => h3
theorem et_f2 {t1 t2 : TT} (h1 : EvT t1 σ H false) (h2 : EvT t2 σ H false) : EvT (tOr t1 t2) σ H false := et_or (a := false) (b := false) h1 fun _ => h2
theorem et_notTup {ds : List PyData} (h : EvD te σ H (.tuple ds)) : EvT (tNot (tB (tCB (rIsi K) (tCons te (tCons (tC (.ty "tuple")) tNil))))) σ H false := et_not (a := true) (et_B (ev_isTup h))
end
theorem catK {X : Cx} (K : PySem.W.Frag) (e : X.K = K) : OpR X (binaryOp .Add) (rCatA K) := by
  subst e
  exact op_catA
theorem showK {X : Cx} (K : PySem.W.Frag) (e : X.K = K) (guard : X.A.guards = some []) (hu : X.A.units + 64 < cLine) : CallR X (.builtin "repr") (rShow K) := by
  subst e
  exact call_show guard hu
theorem ev_min2 {σ : L2.St} {H : Hp} {ta tb : TE} {i j : Int} (ha : Ev ta σ H (.int i)) (hb : Ev tb σ H (.int j)) : Ev (tCB (fun xs H Q => ∃ i j, xs = [V.int i, V.int j] ∧ Q (.int (if j < i then j else i)) H) (tCons ta (tCons tb tNil))) σ H (.int (if j < i then j else i)) := fun H1 e Q q =>
  ha H1 e _ fun H2 e2 => hb H2 (e.trans e2) _ fun H3 e3 => ⟨i, j, rfl, q H3 (e2.trans e3)⟩
theorem rv_notB {H : Hp} {a b : Bool} : RV rNotB (.bl a) (.bl b) H (.bl (!decide (a = b))) := fun H1 _ _ q => ⟨a, b, rfl, rfl, q H1 (Ex.refl H1)⟩
end K10
set_option Elab.async false
set_option linter.all false
set_option maxRecDepth 100000
set_option maxHeartbeats 1000000
namespace K10
open PySem PySem.Spec PyProof.Rows L2 Evl
/-! ### walks over zip(v1, v2) and enumerate(v), each v a list (true) or a tuple (false): the library's GoesN put to the walks of this layer -/
def SqB (K : PySem.W.Frag) (b : Bool) (H : Hp) (a : Addr) (xs : List V) : Prop := match b with
  | true => SqL K H a xs
  | false => SqT K H a xs
/-- what stands there -/
def HasB (b : Bool) (h : Heap) (a : Addr) (us : Array Value) : Prop := match b with
  | true => h.IsList a us
  | false => h.IsTuple a us
/-- its iterator -/
def IterB (b : Bool) (h : Heap) (c a : Addr) (i : Nat) : Prop := match b with
  | true => h.IsListIter c a i
  | false => h.IsTupleIter c a i
def itObj (b : Bool) (a : Addr) : Obj := match b with
  | true => { cls := .type "list_iterator", data := .fields #[.ref a, .int 0 0] }
  | false => { cls := .type "tuple_iterator", data := .fields #[.ref a, .int 0 0] }
section
variable {prog : Program} {w : World} {A : Around} {b : Bool} {h h' : Heap} {a c : Addr} {i : Nat} {us : Array Value}
theorem drawsB (calm : A.handled = none) (ne : a ≠ c) : Draws prog w A.in1 c [c, a] us.size (fun i v => us[i]? = some v) (fun i h => IterB b h c a i ∧ HasB b h a us) := by
  cases b
  · exact Draws.tuple (A := A.in1) calm c a ne us
  · exact Draws.list (A := A.in1) calm c a ne us
theorem beginsB : Begins (.ref a) (itObj b a) (fun h => HasB b h a us) := by
  cases b
  · exact begins_tuple a us
  · exact begins_list a us
theorem iterB_new (e : h.get? c = some (itObj b a)) : IterB b h c a 0 := by
  cases b <;> exact ⟨_, e, rfl, rfl⟩
theorem iterB_obj (x : IterB b h c a i) : ∃ o, h.get? c = some o ∧ ∀ v, o.data ≠ .cell v := by
  cases b <;> (obtain ⟨o, e, _, d⟩ := x; exact ⟨o, e, fun v q => by rw [d] at q; cases q⟩)
theorem iterB_keep (x : IterB b h c a i) (k : ∀ o, h.get? c = some o → h'.get? c = some o) : IterB b h' c a i := by
  cases b <;> (obtain ⟨o, e, r⟩ := x; exact ⟨o, k o e, r⟩)
end
section
variable {X : Cx} {pins : List (Addr × Obj)} {σ : L2.St} {H : Hp} {s : Shared} {a : Addr} {xs ys : List V} {k : Bool}
theorem sqb_has (I : Inv X pins σ H s) (h : SqB X.K k H a xs) : ∃ us : List Value, Vals xs us ∧ HasB k s.heap a us.toArray ∧ a < s.heap.objs.size := by
  cases k
  · obtain ⟨us, r, e, _⟩ := I.tuple h
    exact ⟨us, r, e, e.lt⟩
  · obtain ⟨us, r, e, _⟩ := I.list h
    exact ⟨us, r, e.isList, e.lt⟩
theorem sqb_one (I : Inv X pins σ H s) (h : SqB X.K k H a xs) (h2 : SqB X.K k H a ys) : ys = xs := by
  cases k
  · exact I.tuple_inj h2 h
  · exact I.list_inj h2 h
/-- a new tuple of two, laid -/
theorem laid2 {T : Addr} {x y : V} {u v : Value} {h' : Heap} (t : h'.IsTuple T #[u, v]) (r1 : RelV x u) (r2 : RelV y v) : ObjOk X.prog X.w (upd H T (.tup [x, y])) h' T (.tup [x, y]) :=
  ⟨by show 2 ≤ sizeLine; decide, [u, v], .cons r1 (.cons r2 .nil), t⟩
end
end K10
set_option Elab.async false
set_option linter.all false
set_option maxRecDepth 100000
set_option maxHeartbeats 1000000
namespace K10
open PySem PySem.Spec PyProof.Rows L2 Evl
/-! ### enumerate(v), v a list (true) or a tuple (false) -/
theorem newEnum {v : Value} {o : Obj} {Hv : Heap → Prop} (B : Begins v o Hv) :
    Meets (Builtin.«enumerate.__new__» ⟨[.type "enumerate", v], []⟩) fun _ R s => Hv s.heap ∧ R (.ok (.ret (.ref (s.heap.push o).objs.size))) { s with heap := (s.heap.push o).push { cls := .type "enumerate", data := .fields #[.none, .bool false, .ref s.heap.objs.size, rawInt 0, .none, .none] } } := by
  refine .of_wp fun prog w A R s q => ?_
  cases s with
  | mk hp g d tk os =>
  have sub := sub_enumerate
  have start : ∀ {A' : Around} {E : Value → Shared → Prop} {Q : Value → Shared → Prop}, Q (.ref hp.objs.size) ⟨hp.push o, g, d, tk, os⟩ → wpAny (model prog w) A' (pyIter v) Q E ⟨hp, g, d, tk, os⟩ := fun z => B.iter prog w _ _ ⟨hp, g, d, tk, os⟩ _ q.1 z
  wp_walk using start
  refine wpAny_stack_any fun frames => wpAny_pure ?_
  split
  next c _ _ _ _ _ => cases c == Value.type "enumerate" <;> (wp_walk using start; exact ⟨_, rfl, q.2⟩)
  next => wp_walk using start; exact ⟨_, rfl, q.2⟩
theorem callEnum {prog : Program} {w : World} {A : Around} {E : Value → Shared → Prop} {s : Shared} {v : Value} {o : Obj} {Hv : Heap → Prop} {Q : Value → Shared → Prop} (B : Begins v o Hv) (q : Hv s.heap)
    (k : ∀ h', IsEnum h' (s.heap.objs.size + 1) s.heap.objs.size 0 .none → h'.get? s.heap.objs.size = some o → (∀ c ob, s.heap.get? c = some ob → h'.get? c = some ob) → Q (.ref (s.heap.objs.size + 1)) { s with heap := h' }) :
    wpAny (model prog w) A (call (.type "enumerate") [v]) Q E s := by
  have e1 : (s.heap.push o).objs.size = s.heap.objs.size + 1 := Heap.size_push ..
  refine callType_new F.called_enumerate (by decide) (F.typeCall_enumerate_1 _) (F.newCall_enumerate_1 _) (fun ob => F.args_object_init_2 ob _) F.entry_enumerate_new (newEnum B) ⟨q, ?_⟩
  generalize hn : (s.heap.push o).push { cls := .type "enumerate", data := .fields #[.none, .bool false, .ref s.heap.objs.size, rawInt 0, .none, .none] } = hh
  have made : IsEnum hh (s.heap.objs.size + 1) s.heap.objs.size 0 .none := by
    rw [← hn, ← e1]
    exact Heap.get?_push_size _ rfl
  have old : ∀ c ob, s.heap.get? c = some ob → hh.get? c = some ob := fun c ob e => by
    rw [← hn]
    exact Heap.get?_push_of_some _ (Heap.get?_push_of_some _ e)
  have its : hh.get? s.heap.objs.size = some o := by
    rw [← hn]
    exact Heap.get?_push_of_some _ (Heap.get?_push_size _ B.free)
  show _ ∧ _
  rw [e1]
  exact ⟨⟨_, made, rfl⟩, k hh made its old⟩
def ItE (K : PySem.W.Frag) (k : Bool) (a : Addr) : It :=
  ⟨fun i H => ∃ xs : List V, SqB K k H a xs ∧ i < xs.length, fun i H v H' => ∃ T x, v = .ref T ∧ H T = none ∧ H' = upd H T (.tup [.int (i : Nat), x]) ∧ ∀ xs, SqB K k H a xs → xs[i]? = some x, fun i H => ∃ xs : List V, SqB K k H a xs ∧ i = xs.length⟩
theorem turnE {P : Program} {w : World} {K : PySem.W.Frag} {elts : List Expr} {kk : Nat} {tpos : Pos} {k : Bool} {a e c : Addr} (ne : e ≠ c) (ea : e ≠ a) (ac : a ≠ c) :
    Turn P w K (.Tuple elts kk tpos) (ItE K k a) [e, c] e (fun i h => (∃ old, IsEnum h e c ((0 : Int) + (i : Int)) old) ∧ IterB k h c a i) where
  mem := by simp
  obj := fun i h ⟨⟨old, h1⟩, h2⟩ b hb => by
    rcases List.mem_cons.mp hb with rfl | hb
    · exact ⟨_, h1, nofun⟩
    · rw [List.mem_singleton.mp hb]
      exact iterB_obj h2
  keep := fun i h h' ⟨⟨old, h1⟩, h2⟩ kp => ⟨⟨old, kp _ (by simp) _ h1⟩, iterB_keep h2 (kp _ (by simp))⟩
  item := by
    rintro X rfl rfl rfl calm i pins s σ H E I fp ⟨h1, h2⟩ ⟨xs, qx, lx⟩
    obtain ⟨us, ru, hu, _⟩ := sqb_has I qx
    have l1 := ru.length
    have W := GoesN.enumFrom (elts := elts) (x1 := kk) (pos := tpos) 0 (drawsB (prog := X.prog) (w := X.w) (b := k) (us := us.toArray) (I.ok.hd calm) ac) e ne (by simp [ne, ea]) (by simp)
    refine W.goes i s _ E (by simp; omega) ⟨h1, h2, hu⟩ fun v h' tk got st' kept _ => ?_
    obtain ⟨T, t, u, rfl, new, g1, hT⟩ := got
    obtain ⟨h1', h2', _⟩ := st'
    have e1 : xs[i]? = some xs[i] := List.getElem?_eq_getElem lx
    obtain ⟨u0, hu0, r1⟩ := ru.get e1
    have w1 : us.toArray[i]? = some u := g1
    rw [List.getElem?_toArray, hu0] at w1
    cases w1
    have nT : H T = none := I.hok.fresh new
    rw [Int.zero_add] at hT
    refine ⟨.ref T, upd H T (.tup [.int (i : Nat), xs[i]]), I.turnedNew (t' := tk) (ch := [e, c]) (fun b o nb eb => kept b o nb eb) fp new (laid2 hT ⟨t, rfl⟩ r1), rfl, ⟨T, _, rfl, nT, rfl, fun zs hz => ?_⟩, ⟨h1', h2'⟩, fun b hb => ?_⟩
    · rw [sqb_one I qx hz]
      exact e1
    · have lb : b < s.heap.objs.size := by
        obtain ⟨old, h1⟩ := h1
        rcases List.mem_cons.mp hb with rfl | hb
        · exact Heap.lt_size h1
        · rw [List.mem_singleton.mp hb]
          obtain ⟨o, eo, _⟩ := iterB_obj h2
          exact Heap.lt_size eo
      rw [upd_ne (Nat.ne_of_lt (Nat.lt_of_lt_of_le lb new))]
      exact (fp b hb).1
  done := by
    rintro X rfl rfl rfl calm i pins s σ H E I fp ⟨h1, h2⟩ ⟨xs, qx, rfl⟩
    obtain ⟨us, ru, hu, _⟩ := sqb_has I qx
    have W := GoesN.enumFrom (elts := elts) (x1 := kk) (pos := tpos) 0 (drawsB (prog := X.prog) (w := X.w) (b := k) (us := us.toArray) (I.ok.hd calm) ac) e ne (by simp [ne, ea]) (by simp)
    have sz : us.toArray.size = xs.length := by
      rw [ru.length]
      rfl
    rw [sz] at W
    exact W.stops s (fun s1 => Inv X pins σ H s1) E ⟨h1, h2, hu⟩ fun h' tk kept _ => I.turnedL (t' := tk) (ch := [e, c]) kept fp
  self := fun A i s Q E st h => by
    obtain ⟨⟨old, h1⟩, _⟩ := st
    exact wpAny_pyIter_enum h1 h
def iEnB (K : PySem.W.Frag) (k : Bool) (ta : TA) : TI := fun σ H R => ta σ H fun vs H1 => ∃ a xs, vs = [.ref a] ∧ SqB K k H1 a xs ∧ R (ItE K k a) H1
theorem pi_enB {X : Cx} {k : Bool} {e : Expr} {ta : TA} {p pos tpos : Pos} {elts : List Expr} {kk : Nat} (hg : Gl X "enumerate") (hm : X.mg "enumerate" = none) (ha : PA X [e] ta)
    (stars : starEach [e] X.env = [(false, eval e X.env)] := by rfl) : PI X (.Tuple elts kk tpos) (.Call (.Name "enumerate" p) [e] [] pos) (iEnB X.K k ta) := by
  constructor
  intro pins s σ H R I h
  refine Call_ (ld_blt I hg hm boot_enumerate (PyProof.Rows.callWith_type1 (thn (ha.run pos pins s σ H _ I h) fun us s1 ⟨vs, H1, I1, r1, want⟩ => ?_) stars rfl))
  obtain ⟨a, xs, rfl, qx, go⟩ := want
  obtain ⟨u, rfl, ru⟩ := vals1 r1
  obtain rfl : u = Value.ref a := ru
  obtain ⟨us, _, hu, la⟩ := sqb_has I1 qx
  refine callEnum (beginsB (b := k) (us := us.toArray)) hu fun h' pe pit kept => wpAny_pyIter_enum pe ?_
  refine ⟨s1.heap.objs.size + 1, _, _, _, H1, rfl, I1.kept (t' := s1.toks) kept, turnE (k := k) (a := a) (c := s1.heap.objs.size) (Nat.succ_ne_self _) (Nat.ne_of_gt (Nat.lt_succ_of_lt la)) (Nat.ne_of_lt la), ⟨⟨.none, pe⟩, iterB_new pit⟩, fun b hb => ?_, go⟩
  have le : s1.heap.objs.size ≤ b := by
    simp only [List.mem_cons, List.not_mem_nil, or_false] at hb
    rcases hb with rfl | rfl
    · exact Nat.le_add_right _ _
    · exact Nat.le_refl _
  exact I1.fpOk le (I1.hok.fresh le)
theorem walk_enB {K : PySem.W.Frag} {k : Bool} {a : Addr} {xs : List V} : Walk (ItE K k a) xs.length (fun H => SqB K k H a xs) (YPair (fun i => some (.int (i : Nat))) (fun i => xs[i]?)) where
  goes i H lt q := ⟨xs, q, lt⟩
  stops H q := ⟨xs, q, rfl⟩
  yields i H v H' _ q y := by
    obtain ⟨T, x, h1, h2, h3, h4⟩ := y
    exact ⟨T, .int (i : Nat), x, h1, h2, h3, rfl, h4 xs q⟩
end K10
set_option Elab.async false
set_option linter.all false
set_option maxRecDepth 100000
set_option maxHeartbeats 1000000
namespace K10
open PySem PySem.Spec PyProof.Rows L2 Evl
/-! ### kinds -/
inductive GK where
  | num
  | few (n : Int)
  | rows (n : Int)
  | to (a b : GK)
  | both (a b : GK)
def kD : GK → PyData
  | .num => .tuple [.str "num"]
  | .few n => .tuple [.str "few", .int n]
  | .rows n => .tuple [.str "rows", .int n]
  | .to a b => .tuple [.str "to", kD a, kD b]
  | .both a b => .tuple [.str "both", kD a, kD b]
def GK.ok : GK → Prop
  | .num => True
  | .few n => 1 ≤ n ∧ n ≤ 9
  | .rows n => 2 ≤ n ∧ n ≤ 9
  | .to a b => a.ok ∧ b.ok
  | .both a b => a.ok ∧ b.ok
def GK.nodes : GK → Nat
  | .to a b => a.nodes + b.nodes + 1
  | .both a b => a.nodes + b.nodes + 1
  | _ => 1
def isNum : GK → Bool
  | .num => true
  | _ => false
def srch : GK → Nat → Bool
  | .num, _ => false
  | .few _, d => decide (d ≤ 6)
  | .rows _, d => decide (d ≤ 6)
  | .to a b, d => decide (d ≤ 6) && isNum a && srch b (d + 1)
  | .both a b, d => decide (d ≤ 6) && srch a (d + 1) && srch b (d + 1)
def gszs : GK → List Int
  | .num => []
  | .few n => [n]
  | .rows n => [n]
  | .to a b => gszs b ++ gszs a
  | .both a b => gszs b ++ gszs a
def gcnt : GK → Option Int
  | .few n => some n
  | .both a b => (gcnt a).bind fun x => (gcnt b).map fun y => x * y
  | _ => none
/-- searchable ones -/
inductive SK where
  | few (n : Int)
  | rows (n : Int)
  | to (b : SK)
  | both (a b : SK)
def gk : SK → GK
  | .few n => .few n
  | .rows n => .rows n
  | .to b => .to .num (gk b)
  | .both a b => .both (gk a) (gk b)
def skD (s : SK) : PyData := kD (gk s)
def SK.ok : SK → Prop
  | .few n => 1 ≤ n ∧ n ≤ 9
  | .rows n => 2 ≤ n ∧ n ≤ 9
  | .to b => b.ok
  | .both a b => a.ok ∧ b.ok
def dep : SK → Nat
  | .few _ => 1
  | .rows _ => 1
  | .to b => 1 + dep b
  | .both a b => 1 + max (dep b) (dep a)
def szs : SK → List Int
  | .few n => [n]
  | .rows n => [n]
  | .to b => szs b
  | .both a b => szs b ++ szs a
def cnt : SK → Option Int
  | .few n => some n
  | .rows _ => none
  | .to _ => none
  | .both a b => (cnt a).bind fun x => (cnt b).map fun y => x * y
theorem gk_ok : ∀ s : SK, s.ok → (gk s).ok
  | .few n, h => h
  | .rows n, h => h
  | .to b, h => ⟨trivial, gk_ok b h⟩
  | .both a b, h => ⟨gk_ok a h.1, gk_ok b h.2⟩
theorem gszs_gk : ∀ s : SK, gszs (gk s) = szs s
  | .few n => rfl
  | .rows n => rfl
  | .to b => by show gszs (gk b) ++ [] = szs b; rw [List.append_nil, gszs_gk b]
  | .both a b => by show gszs (gk b) ++ gszs (gk a) = _; rw [gszs_gk a, gszs_gk b]; rfl
theorem gcnt_gk : ∀ s : SK, gcnt (gk s) = cnt s
  | .few n => rfl
  | .rows n => rfl
  | .to b => rfl
  | .both a b => by show (gcnt (gk a)).bind (fun x => (gcnt (gk b)).map fun y => x * y) = _; rw [gcnt_gk a, gcnt_gk b]; rfl
theorem dep_pos : ∀ s : SK, 1 ≤ dep s
  | .few _ => Nat.le_refl _
  | .rows _ => Nat.le_refl _
  | .to b => by show 1 ≤ 1 + dep b; omega
  | .both a b => by show 1 ≤ 1 + max _ _; omega
theorem srch_gk : ∀ (s : SK) (d : Nat), srch (gk s) d = decide (d + dep s ≤ 7)
  | .few n, d => by show decide (d ≤ 6) = decide (d + 1 ≤ 7); congr 1; exact propext ⟨fun h => by omega, fun h => by omega⟩
  | .rows n, d => by show decide (d ≤ 6) = decide (d + 1 ≤ 7); congr 1; exact propext ⟨fun h => by omega, fun h => by omega⟩
  | .to b, d => by
    show (decide (d ≤ 6) && true && srch (gk b) (d + 1)) = decide (d + (1 + dep b) ≤ 7)
    rw [srch_gk b, Bool.and_true, ← Bool.decide_and]
    have := dep_pos b
    exact decide_eq_decide.mpr ⟨fun h => by omega, fun h => by omega⟩
  | .both a b, d => by
    show (decide (d ≤ 6) && srch (gk a) (d + 1) && srch (gk b) (d + 1)) = decide (d + (1 + max (dep b) (dep a)) ≤ 7)
    rw [srch_gk a, srch_gk b, ← Bool.decide_and, ← Bool.decide_and]
    have := dep_pos b
    have := dep_pos a
    exact decide_eq_decide.mpr ⟨fun h => by omega, fun h => by omega⟩
theorem not_num (s : SK) : isNum (gk s) = false := by cases s <;> rfl
theorem szs_ne : ∀ s : SK, szs s ≠ []
  | .few n => by simp [szs]
  | .rows n => by simp [szs]
  | .to b => szs_ne b
  | .both a b => by
    show szs b ++ szs a ≠ []
    simp [szs_ne b]
theorem szs_ok : ∀ s : SK, s.ok → ∀ x ∈ szs s, 1 ≤ x ∧ x ≤ 9
  | .few n, h, x, hx => by rw [List.mem_singleton.mp hx]; exact h
  | .rows n, h, x, hx => by rw [List.mem_singleton.mp hx]; exact ⟨by have := h.1; omega, h.2⟩
  | .to b, h, x, hx => szs_ok b h x hx
  | .both a b, h, x, hx => by
    rcases List.mem_append.mp hx with z | z
    · exact szs_ok b h.2 x z
    · exact szs_ok a h.1 x z
theorem szs_len : ∀ s : SK, (szs s).length ≤ 2 ^ (dep s - 1)
  | .few n => Nat.le_refl _
  | .rows n => Nat.le_refl _
  | .to b => by
    have h := szs_len b
    show (szs b).length ≤ 2 ^ (1 + dep b - 1)
    exact Nat.le_trans h (Nat.pow_le_pow_right (by decide) (by omega))
  | .both a b => by
    show (szs b ++ szs a).length ≤ 2 ^ (1 + max (dep b) (dep a) - 1)
    have h1 := szs_len b
    have h2 := szs_len a
    have d1 := dep_pos a
    have d2 := dep_pos b
    have k1 : (2 : Nat) ^ (dep b - 1) ≤ 2 ^ (max (dep b) (dep a) - 1) := Nat.pow_le_pow_right (by decide) (by omega)
    have k2 : (2 : Nat) ^ (dep a - 1) ≤ 2 ^ (max (dep b) (dep a) - 1) := Nat.pow_le_pow_right (by decide) (by omega)
    have k3 : (2 : Nat) ^ (1 + max (dep b) (dep a) - 1) = 2 * 2 ^ (max (dep b) (dep a) - 1) := by
      rw [← Nat.pow_succ']
      congr 1
      omega
    rw [List.length_append]
    omega
theorem cnt_le : ∀ (s : SK) (n : Int), s.ok → cnt s = some n → 1 ≤ n ∧ n ≤ 9 ^ (szs s).length
  | .few m, n, h, e => by cases e; exact ⟨h.1, by show m ≤ 9 ^ 1; have := h.2; omega⟩
  | .rows m, n, h, e => by cases e
  | .to b, n, h, e => by cases e
  | .both a b, n, h, e => by
    have e : (cnt a).bind (fun x => (cnt b).map fun y => x * y) = some n := e
    obtain ⟨x, hx, e⟩ := Option.bind_eq_some_iff.mp e
    obtain ⟨y, hy, rfl⟩ := Option.map_eq_some_iff.mp e
    obtain ⟨a1, a2⟩ := cnt_le a x h.1 hx
    obtain ⟨b1, b2⟩ := cnt_le b y h.2 hy
    refine ⟨Int.mul_pos (by omega) (by omega), ?_⟩
    show x * y ≤ 9 ^ (szs b ++ szs a).length
    rw [List.length_append, Int.pow_add, Int.mul_comm]
    exact Int.mul_le_mul b2 a2 (by omega) (by omega)
theorem cnt_small {s : SK} {n : Int} (h : s.ok) (d : dep s ≤ 5) (e : cnt s = some n) : 1 ≤ n ∧ n ≤ 9 ^ 16 := by
  obtain ⟨h1, h2⟩ := cnt_le s n h e
  refine ⟨h1, Int.le_trans h2 ?_⟩
  have l1 := szs_len s
  have l2 : (2 : Nat) ^ (dep s - 1) ≤ 2 ^ 4 := Nat.pow_le_pow_right (by decide) (by omega)
  have l3 : (9 : Nat) ^ (szs s).length ≤ 9 ^ 16 := Nat.pow_le_pow_right (by decide) (by omega)
  have := Int.ofNat_le.mpr l3
  simpa using this
/-! ### widths -/
def fits (sz : List Int) (w : Int) : Bool := sz.all fun s => decide (w % s = 0)
def ew (sz : List Int) : Option Int := ([2, 3, 4, 5, 6, 7, 8, 9] : List Int).find? (fits sz)
def IsMax (m : Int) (l : List Int) : Prop := m ∈ l ∧ ∀ y ∈ l, y ≤ m
def Wid (sz : List Int) (w : Int) : Prop := ew sz = some w ∨ (ew sz = none ∧ IsMax w sz)
theorem Wid.one {sz : List Int} {a b : Int} (h : Wid sz a) (g : Wid sz b) : a = b := by
  rcases h with h | ⟨h0, h1, h2⟩ <;> rcases g with g | ⟨g0, g1, g2⟩
  · rw [h] at g; exact Option.some.inj g
  · rw [h] at g0; cases g0
  · rw [g] at h0; cases h0
  · have := h2 _ g1
    have := g2 _ h1
    omega
theorem ew_none {sz : List Int} (h : ew sz = none) (ok : ∀ x ∈ sz, 1 ≤ x) : ∃ x ∈ sz, 2 ≤ x := by
  have h2 := List.find?_eq_none.mp h 2 (by decide)
  apply Classical.byContradiction
  intro no
  refine h2 (List.all_eq_true.mpr fun s hs => decide_eq_true ?_)
  have s1 := ok s hs
  have : ¬ 2 ≤ s := fun z => no ⟨s, hs, z⟩
  have e : s = 1 := by omega
  rw [e]
  decide
/-! ### addresses -/
def atop : Int := 999999999999999999
def joinI (a b : Int) : Int := if a + b < 1000000000 then (a + b) * (a + b + 1) / 2 + b else atop
def nxt (a b : SK) (x : Int) : SK := if x = 0 then a else b
def idx : SK → List Int → Int
  | .few _, _ => 0
  | .rows _, l => l.headD 0
  | .to b, l => joinI (l.headD 0) (idx b l.tail)
  | .both a b, l => min atop (2 * (if l.headD 0 = 0 then idx a l.tail else idx b l.tail) + l.headD 0)
def adr : SK → List Int → Prop
  | .few _, l => l = []
  | .rows _, l => ∃ x, l = [x] ∧ 0 ≤ x ∧ x ≤ atop
  | .to b, l => ∃ x r, l = x :: r ∧ 0 ≤ x ∧ x ≤ atop ∧ adr b r
  | .both a b, l => ∃ x r, l = x :: r ∧ ((x = 0 ∧ adr a r) ∨ (x = 1 ∧ adr b r))
def isA : SK → List PyData → Bool
  | .few _, ds => ds.isEmpty
  | .rows _, ds => match ds with
    | [x] => between x 0 atop
    | _ => false
  | .to b, ds => match ds with
    | x :: r => between x 0 atop && isA b r
    | [] => false
  | .both a b, ds => match ds with
    | .int n :: r => if n = 0 then isA a r else if n = 1 then isA b r else false
    | _ => false
theorem isA_adr : ∀ (s : SK) (l : List Int), adr s l → isA s (l.map .int) = true
  | .few n, l, h => by cases (show l = [] from h); rfl
  | .rows n, l, h => by
    obtain ⟨x, rfl, h0, h1⟩ := h
    show (decide (0 ≤ x) && decide (x ≤ atop)) = true
    rw [decide_eq_true h0, decide_eq_true h1]
    rfl
  | .to b, l, h => by
    obtain ⟨x, r, rfl, h0, h1, h2⟩ := h
    show ((decide (0 ≤ x) && decide (x ≤ atop)) && isA b (r.map .int)) = true
    rw [decide_eq_true h0, decide_eq_true h1, isA_adr b r h2]
    rfl
  | .both a b, l, h => by
    obtain ⟨x, r, rfl, h | h⟩ := h
    · obtain ⟨rfl, h⟩ := h
      exact isA_adr a r h
    · obtain ⟨rfl, h⟩ := h
      exact isA_adr b r h
theorem adr_len : ∀ (s : SK) (l : List Int), adr s l → l.length < dep s + 1
  | .few n, l, h => by cases (show l = [] from h); exact Nat.succ_pos _
  | .rows n, l, h => by obtain ⟨x, rfl, _⟩ := h; show 1 < 2; decide
  | .to b, l, h => by
    obtain ⟨x, r, rfl, _, _, h2⟩ := h
    have := adr_len b r h2
    show r.length + 1 < 1 + dep b + 1
    omega
  | .both a b, l, h => by
    obtain ⟨x, r, rfl, h | h⟩ := h
    · have := adr_len a r h.2
      show r.length + 1 < 1 + max (dep b) (dep a) + 1
      omega
    · have := adr_len b r h.2
      show r.length + 1 < 1 + max (dep b) (dep a) + 1
      omega
theorem tri_half {n : Int} (h : 0 ≤ n) : n * (n + 1) / 2 = (T n.toNat : Int) := by
  have e : n = (n.toNat : Int) := by omega
  generalize n.toNat = k at e
  subst e
  unfold T
  rw [Int.natCast_ediv, Int.natCast_mul]
  rfl
theorem T_small {n : Nat} (h : n < 1000000000) : T n + n < 999999999999999999 := by
  have m := T_mono (show n ≤ 999999999 by omega)
  have : T 999999999 = 499999999500000000 := by decide +kernel
  omega
theorem joinI_rng {a b : Int} (h0 : 0 ≤ a) (h1 : 0 ≤ b) : 0 ≤ joinI a b ∧ joinI a b ≤ atop := by
  unfold joinI
  split
  · rename_i h
    rw [tri_half (by omega)]
    have := T_small (n := (a + b).toNat) (by omega)
    unfold atop
    omega
  · unfold atop; omega
theorem idx_rng : ∀ (s : SK) (l : List Int), adr s l → 0 ≤ idx s l ∧ idx s l ≤ atop
  | .few n, l, h => by show (0 : Int) ≤ 0 ∧ (0 : Int) ≤ atop; decide
  | .rows n, l, h => by obtain ⟨x, rfl, h⟩ := h; exact h
  | .to b, l, h => by
    obtain ⟨x, r, rfl, h0, h1, h2⟩ := h
    exact joinI_rng h0 (idx_rng b r h2).1
  | .both a b, l, h => by
    obtain ⟨x, r, rfl, h | h⟩ := h
    · obtain ⟨rfl, h⟩ := h
      have := (idx_rng a r h).1
      show 0 ≤ min atop (2 * idx a r + 0) ∧ min atop (2 * idx a r + 0) ≤ atop
      have : (0 : Int) ≤ atop := by decide
      omega
    · obtain ⟨rfl, h⟩ := h
      have := (idx_rng b r h).1
      show 0 ≤ min atop (2 * idx b r + 1) ∧ min atop (2 * idx b r + 1) ≤ atop
      have : (0 : Int) ≤ atop := by decide
      omega
/-- the address of an index -/
def trI (i : Int) : Int := (tri i.toNat : Int)
def iad : SK → Int → Option (List Int)
  | .few _, i => if i = 0 then some [] else none
  | .rows _, i => some [i]
  | .to b, i => if 1000000000 ≤ trI i then none else (iad b (i - trI i * (trI i + 1) / 2)).map fun l => (trI i - (i - trI i * (trI i + 1) / 2)) :: l
  | .both a b, i => (if i % 2 = 0 then iad a (i / 2) else iad b (i / 2)).map fun l => (i % 2) :: l
theorem trI_ok {i : Int} (h : 0 ≤ i) : 0 ≤ trI i ∧ trI i * (trI i + 1) / 2 ≤ i ∧ i ≤ trI i * (trI i + 1) / 2 + trI i := by
  obtain ⟨h1, h2⟩ := tri_ok i.toNat
  unfold trI
  have t0 : (0 : Int) ≤ (tri i.toNat : Int) := Int.natCast_nonneg _
  rw [tri_half t0, Int.toNat_natCast]
  rw [T_succ] at h2
  omega
theorem iad_idx : ∀ (s : SK) (l : List Int), adr s l → idx s l < atop → iad s (idx s l) = some l
  | .few n, l, h, _ => by cases (show l = [] from h); rfl
  | .rows n, l, h, _ => by obtain ⟨x, rfl, h⟩ := h; rfl
  | .to b, l, h, lt => by
    obtain ⟨x, r, rfl, h0, h1, h2⟩ := h
    have hb := idx_rng b r h2
    have lt : joinI x (idx b r) < atop := lt
    show iad (.to b) (joinI x (idx b r)) = _
    have few : x + idx b r < 1000000000 := by
      apply Classical.byContradiction
      intro z
      unfold joinI at lt
      rw [if_neg z] at lt
      exact absurd lt (Int.lt_irrefl _)
    have e : joinI x (idx b r) = (T (x + idx b r).toNat : Int) + idx b r := by
      unfold joinI
      rw [if_pos few, tri_half (by omega)]
    have ih := iad_idx b r h2 (by unfold atop; omega)
    have et : trI (joinI x (idx b r)) = x + idx b r := by
      rw [e]
      unfold trI
      have : ((T (x + idx b r).toNat : Int) + idx b r).toNat = T (x.toNat + (idx b r).toNat) + (idx b r).toNat := by
        have e0 : (x + idx b r).toNat = x.toNat + (idx b r).toNat := by omega
        rw [e0]
        omega
      rw [this, tri_join]
      omega
    show (if 1000000000 ≤ trI (joinI x (idx b r)) then none else _) = _
    rw [et, if_neg (by omega), tri_half (by omega), e]
    have e2 : (T (x + idx b r).toNat : Int) + idx b r - (T (x + idx b r).toNat : Int) = idx b r := by omega
    rw [e2, ih]
    show some ((x + idx b r - idx b r) :: r) = _
    have e3 : x + idx b r - idx b r = x := by omega
    rw [e3]
  | .both a b, l, h, lt => by
    obtain ⟨x, r, rfl, h | h⟩ := h
    · obtain ⟨rfl, h⟩ := h
      have lt : min atop (2 * idx a r + 0) < atop := lt
      have := idx_rng a r h
      have ih := iad_idx a r h (by omega)
      show iad (.both a b) (min atop (2 * idx a r + 0)) = _
      have e : min atop (2 * idx a r + 0) = 2 * idx a r := by omega
      rw [e]
      show (if 2 * idx a r % 2 = 0 then iad a (2 * idx a r / 2) else iad b (2 * idx a r / 2)).map _ = _
      have e1 : 2 * idx a r % 2 = 0 := by omega
      have e2 : 2 * idx a r / 2 = idx a r := by omega
      rw [e1, e2, if_pos rfl, ih]
      rfl
    · obtain ⟨rfl, h⟩ := h
      have lt : min atop (2 * idx b r + 1) < atop := lt
      have := idx_rng b r h
      have ih := iad_idx b r h (by omega)
      show iad (.both a b) (min atop (2 * idx b r + 1)) = _
      have e : min atop (2 * idx b r + 1) = 2 * idx b r + 1 := by omega
      rw [e]
      show (if (2 * idx b r + 1) % 2 = 0 then iad a ((2 * idx b r + 1) / 2) else iad b ((2 * idx b r + 1) / 2)).map _ = _
      have e1 : (2 * idx b r + 1) % 2 = 1 := by omega
      have e2 : (2 * idx b r + 1) / 2 = idx b r := by omega
      rw [e1, e2, if_neg (by decide), ih]
      rfl
/-- sums and halves stay in their range -/
theorem iad_rng : ∀ (s : SK) (i : Int) (l : List Int), 0 ≤ i → i < atop → iad s i = some l → (∀ x ∈ l, 0 ≤ x ∧ x < atop) ∧ l.length < dep s + 1
  | .few n, i, l, h0, h1, e => by
    have e : (if i = 0 then some [] else none) = some l := e
    split at e
    · cases e; exact ⟨fun x hx => absurd hx List.not_mem_nil, Nat.succ_pos _⟩
    · cases e
  | .rows n, i, l, h0, h1, e => by cases e; exact ⟨fun x hx => by rw [List.mem_singleton.mp hx]; exact ⟨h0, h1⟩, by show 1 < 2; decide⟩
  | .to b, i, l, h0, h1, e => by
    have e : (if 1000000000 ≤ trI i then none else (iad b (i - trI i * (trI i + 1) / 2)).map fun l => (trI i - (i - trI i * (trI i + 1) / 2)) :: l) = some l := e
    obtain ⟨t0, t1, t2⟩ := trI_ok h0
    have q0 : 0 ≤ trI i * (trI i + 1) / 2 := by rw [tri_half t0]; exact Int.natCast_nonneg _
    generalize trI i * (trI i + 1) / 2 = q at *
    split at e
    · cases e
    · rename_i hb
      obtain ⟨l', e1, rfl⟩ := Option.map_eq_some_iff.mp e
      obtain ⟨k1, k2⟩ := iad_rng b _ l' (by omega) (by omega) e1
      refine ⟨fun x hx => ?_, by show l'.length + 1 < 1 + dep b + 1; omega⟩
      rcases List.mem_cons.mp hx with rfl | hx
      · unfold atop; omega
      · exact k1 x hx
  | .both a b, i, l, h0, h1, e => by
    have e : (if i % 2 = 0 then iad a (i / 2) else iad b (i / 2)).map (fun l => (i % 2) :: l) = some l := e
    obtain ⟨l', e1, rfl⟩ := Option.map_eq_some_iff.mp e
    split at e1
    · obtain ⟨k1, k2⟩ := iad_rng a _ l' (by omega) (by omega) e1
      refine ⟨fun x hx => ?_, by show l'.length + 1 < 1 + max (dep b) (dep a) + 1; omega⟩
      rcases List.mem_cons.mp hx with rfl | hx
      · unfold atop; omega
      · exact k1 x hx
    · obtain ⟨k1, k2⟩ := iad_rng b _ l' (by omega) (by omega) e1
      refine ⟨fun x hx => ?_, by show l'.length + 1 < 1 + max (dep b) (dep a) + 1; omega⟩
      rcases List.mem_cons.mp hx with rfl | hx
      · unfold atop; omega
      · exact k1 x hx
end K10
set_option Elab.async false
set_option linter.all false
set_option maxRecDepth 100000
set_option maxHeartbeats 1000000
namespace K10
open PySem PySem.Spec PyProof.Rows L2 Evl
/-! ### words of kinds -/
def wd : GK → Str
  | .num => "num"
  | .few _ => "few"
  | .rows _ => "rows"
  | .to _ _ => "to"
  | .both _ _ => "both"
def kids : GK → List PyData
  | .num => []
  | .few n => [.int n]
  | .rows n => [.int n]
  | .to a b => [kD a, kD b]
  | .both a b => [kD a, kD b]
theorem kD_eq (g : GK) : kD g = .tuple (.str (wd g) :: kids g) := by cases g <;> rfl
theorem ax0 {α : Type} {x : α} {xs : List α} : atI (x :: xs) 0 = some x := atI_nat (j := 0) rfl
theorem ax1 {α : Type} {x y : α} {xs : List α} : atI (x :: y :: xs) 1 = some y := atI_nat (j := 1) rfl
theorem ax2 {α : Type} {x y z : α} {xs : List α} : atI (x :: y :: z :: xs) 2 = some z := atI_nat (j := 2) rfl
section
variable {K : PySem.W.Frag} {σ : L2.St} {H H' : Hp} {te ta tb : TE} {g : GK} {d : PyData} {s w a b : Str}
theorem str_ed (h : EvD te σ H (.str s)) : Ev te σ H (.str s) := fun H1 e Q q => h H1 e Q fun x H2 e2 hx => by cases hx; exact q H2 e2
theorem ed_k (h : EvD te σ H (kD g)) : EvD te σ H (.tuple (.str (wd g) :: kids g)) := by rw [← kD_eq]; exact h
theorem ev_wd (h : EvD te σ H (kD g)) : Ev (tOp (rIxT K) te (tC (.int 0))) σ H (.str (wd g)) := str_ed (ed_ix (ed_k h) ev_c ax0)
theorem ev_eqW (h : Ev te σ H (.str s)) : Ev (tOp rEq te (tC (.str w))) σ H (.bl (decide (V.str s = V.str w))) := ev_op h ev_c (rv_eq rfl)
theorem et_eqW {r : Bool} (h : Ev te σ H (.str s)) (e : decide (V.str s = V.str w) = r) : EvT (tTest (tOp rEq te (tC (.str w)))) σ H r := et_is (et_test (ev_eqW h)) e
theorem ev_in2 (h : Ev te σ H (.str s)) : Ev (tOp (rIn K false) te (tTup (tCons (tC (.str a)) (tCons (tC (.str b)) tNil)))) σ H (.bl (inV (.str s) [.str a, .str b])) := fun H1 e Q q =>
  h H1 e _ fun H2 e2 => ⟨sz_of (by show (2 : Nat) ≤ 100000; decide), fun p hp => ⟨p, [.str a, .str b], rfl, .inr (SqT.of upd_same), rfl, rfl, q _ (e2.trans (Ex.new hp))⟩⟩
theorem et_in2 {r : Bool} (h : Ev te σ H (.str s)) (e : inV (.str s) [.str a, .str b] = r) : EvT (tTest (tOp (rIn K false) te (tTup (tCons (tC (.str a)) (tCons (tC (.str b)) tNil))))) σ H r := et_is (et_test (ev_in2 h)) e
theorem ev_lenN {ds : List PyData} {n : Nat} {r : Bool} (h : EvD te σ H (.tuple ds)) (e : decide (ds.length = n) = r) : Ev (tOp rEq (tCB (rLenS K) (tCons te tNil)) (tC (.int (n : Int)))) σ H (.bl r) :=
  ev_is (ev_op (ev_lenT h) ev_c (rv_eq rfl)) (by rw [← e]; congr 1; exact decide_eq_decide.mpr ⟨fun z => by injection z with z; omega, fun z => by rw [z]⟩)
end
def okBegins (ds : List PyData) (d : PyData) : Prop := ∃ g : GK, ds = [kD g] ∧ g.ok ∧ d = .bool true
section
variable {P : Program} {w : World} {K : PySem.W.Frag} {mg : Str → Option Value} {base0 : Heap} {f f1 f2 f3 : Addr} {fd fd1 fd2 fd3 : FuncData} {k : Nat}
theorem ok_begins (F : Fun K "_begins_kind" "_begins_kind" sBeginsKind f fd) (m1 : mg "isinstance" = none) (m2 : mg "tuple" = none) (m3 : mg "str" = none) (m4 : mg "len" = none)
    (G1 : FnOk P w K mg base0 CX0 k f1 fd1 ["value", "low", "high"] (spD okBetween)) (g1 : mg "is_between" = some (.ref f1)) (kp1 : PySem.W.keepIn K (.ref f1) = true) (b1 : Binds K fd1 ["value", "low", "high"] []) :
    FnOk P w K mg base0 CX0 (k + 1) f fd ["value"] (spD okBegins) := by
  refine F.ok scBeginsKind (fun vs H Q E h => ?_) (fun cdv A outer s H vs Q E hr h => ?_)
  · obtain ⟨ds, d, all, ⟨g, rfl, _⟩, _⟩ := h
    exact all.len
  · obtain ⟨ds, d, all, ⟨g, rfl, ok, rfl⟩, q⟩ := h
    obtain ⟨v, rfl, hv⟩ := dts1 all
    refine ⟨_, pss_cons (ps_if (PW.pt (pw_or (pt_not (pt_val (pe_callB call_isi (by rfl) m1 (by decide +kernel) (pa_cons (pv 0) (pa_cons (pe_bltn (v := .ty "tuple") (by rfl) m2 (by decide +kernel) rfl) pa_nil)))))
          (pw_or (pt_not (pt_truth (pv 0) (by intro _; rfl)))
            (pw_or1 (pt_not (pt_val (pe_callB call_isi (by rfl) m1 (by decide +kernel) (pa_cons (pe_ix ix_tup (pv 0) pe_int (fun _ _ => rfl)) (pa_cons (pe_bltn (v := .ty "str") (by rfl) m3 (by decide +kernel) rfl) pa_nil))))))))) (pss_one (ps_ret pe_bl)) pss_nil)
      (pss_cons (ps_set (i := 1) scBeginsKind.nd rfl (.inl rfl) (pe_ix ix_tup (pv 0) pe_int (fun _ _ => rfl)))
      (pss_cons (ps_if (pt_cmpR op_eq (pv 1) pe_str (nomark _)) (pss_one (ps_ret (pe_cmpR op_eq (pe_callB call_len_seq (by rfl) m4 (by decide +kernel) (pa_cons (pv 0) pa_nil)) pe_int (nomark _)))) pss_nil)
      (pss_cons (ps_if (pt_cmpR op_eq (pv 1) pe_str (nomark _)) (pss_one (ps_ret (pe_and (pe_cmpR op_eq (pe_callB call_len_seq (by rfl) m4 (by decide +kernel) (pa_cons (pv 0) pa_nil)) pe_int (nomark _)) (pe_one (pe_call G1 hr (by rfl) g1 kp1 b1 .nil pass0 (pa_cons (pe_ix ix_tup (pv 0) pe_int (fun _ _ => rfl)) (pa_cons pe_int (pa_cons pe_int pa_nil)))))))) pss_nil)
      (pss_cons (ps_if (pt_cmpR op_eq (pv 1) pe_str (nomark _)) (pss_one (ps_ret (pe_and (pe_cmpR op_eq (pe_callB call_len_seq (by rfl) m4 (by decide +kernel) (pa_cons (pv 0) pa_nil)) pe_int (nomark _)) (pe_one (pe_call G1 hr (by rfl) g1 kp1 b1 .nil pass0 (pa_cons (pe_ix ix_tup (pv 0) pe_int (fun _ _ => rfl)) (pa_cons pe_int (pa_cons pe_int pa_nil)))))))) pss_nil)
      (pss_one (ps_ret (pe_and (pe_cmpR op_in_seq (pv 1) (pe_tup (pa_cons pe_str (pa_cons pe_str pa_nil))) rfl) (pe_one (pe_cmpR op_eq (pe_callB call_len_seq (by rfl) m4 (by decide +kernel) (pa_cons (pv 0) pa_nil)) pe_int (nomark _)))))))))), ?_⟩
    have hk : EvD (tVar 0) [some v, none] H (kD g) := ed_var rfl hv
    refine q_when (D := { nx := _, rt := _ }) (b := false) (et_f3 (et_notTup (ed_k hk)) (et_not (a := true) (et_truT (ed_k hk))) (et_not (a := true) (et_B (ev_isStr (ev_wd hk))))) (fun z => by cases z) fun _ H1 e1 => ?_
    have hv1 := hv.tk (tk_ex e1)
    refine q_asg (ev_wd (ed_var rfl hv1)) fun H2 e2 => ?_
    have hv2 := hv1.tk (tk_ex e2)
    have hd2 : EvD (tVar 0) [some v, some (.str (wd g))] H2 (kD g) := ed_var rfl hv2
    have fin : ∀ {H9 : Hp} {te : TE} {D : Ends}, Ex H2 H9 → Ev te [some v, some (.str (wd g))] H9 (.bl true) → D.rt = Q → tRet te D [some v, some (.str (wd g))] H9 := fun e9 h9 eD => by
      refine sd_ret (ed_bool h9) fun y H10 e10 hy => ?_
      rw [eD]
      exact q y H10 (((e1.trans e2).trans e9).trans e10) hy
    cases g with
    | num =>
      refine q_when (D := { nx := _, rt := _ }) (b := true) (et_eqW (s := "num") (w := "num") (ev_var rfl) (by decide +kernel)) (fun _ H3 e3 => ?_) fun z => by cases z
      exact fin e3 (ev_lenN (n := 1) (ed_k (hd2.mono e3)) rfl) rfl
    | few n =>
      refine q_when (D := { nx := _, rt := _ }) (b := false) (et_eqW (s := "few") (w := "num") (ev_var rfl) (by decide +kernel)) (fun z => by cases z) fun _ H3 e3 => ?_
      refine q_when (D := { nx := _, rt := _ }) (b := true) (et_eqW (s := "few") (w := "few") (ev_var rfl) (by decide +kernel)) (fun _ H4 e4 => ?_) fun z => by cases z
      have hd4 := hd2.mono (e3.trans e4)
      refine fin (e3.trans e4) (ev_andV (b := true) (ev_lenN (n := 2) (ed_k hd4) rfl) fun _ => bool_ed (ed_call (eds_cons (ed_ix (ed_k hd4) ev_c ax1) (eds_cons (ed_int ev_c) (eds_cons (ed_int ev_c) eds_nil))) ⟨.int n, 1, 9, rfl, ?_⟩)) rfl
      show PyData.bool true = .bool (decide (1 ≤ n) && decide (n ≤ 9))
      rw [decide_eq_true ok.1, decide_eq_true ok.2]
      rfl
    | rows n =>
      refine q_when (D := { nx := _, rt := _ }) (b := false) (et_eqW (s := "rows") (w := "num") (ev_var rfl) (by decide +kernel)) (fun z => by cases z) fun _ H3 e3 => ?_
      refine q_when (D := { nx := _, rt := _ }) (b := false) (et_eqW (s := "rows") (w := "few") (ev_var rfl) (by decide +kernel)) (fun z => by cases z) fun _ H4 e4 => ?_
      refine q_when (D := { nx := _, rt := _ }) (b := true) (et_eqW (s := "rows") (w := "rows") (ev_var rfl) (by decide +kernel)) (fun _ H5 e5 => ?_) fun z => by cases z
      have hd5 := hd2.mono ((e3.trans e4).trans e5)
      refine fin ((e3.trans e4).trans e5) (ev_andV (b := true) (ev_lenN (n := 2) (ed_k hd5) rfl) fun _ => bool_ed (ed_call (eds_cons (ed_ix (ed_k hd5) ev_c ax1) (eds_cons (ed_int ev_c) (eds_cons (ed_int ev_c) eds_nil))) ⟨.int n, 2, 9, rfl, ?_⟩)) rfl
      show PyData.bool true = .bool (decide (2 ≤ n) && decide (n ≤ 9))
      rw [decide_eq_true ok.1, decide_eq_true ok.2]
      rfl
    | to a b =>
      refine q_when (D := { nx := _, rt := _ }) (b := false) (et_eqW (s := "to") (w := "num") (ev_var rfl) (by decide +kernel)) (fun z => by cases z) fun _ H3 e3 => ?_
      refine q_when (D := { nx := _, rt := _ }) (b := false) (et_eqW (s := "to") (w := "few") (ev_var rfl) (by decide +kernel)) (fun z => by cases z) fun _ H4 e4 => ?_
      refine q_when (D := { nx := _, rt := _ }) (b := false) (et_eqW (s := "to") (w := "rows") (ev_var rfl) (by decide +kernel)) (fun z => by cases z) fun _ H5 e5 => ?_
      exact fin ((e3.trans e4).trans e5) (ev_andV (b := true) (ev_is (ev_in2 (s := "to") (a := "to") (b := "both") (ev_var rfl)) (w := .bl true) (by decide +kernel)) fun _ => ev_lenN (n := 3) (ed_k (hd2.mono ((e3.trans e4).trans e5))) rfl) rfl
    | both a b =>
      refine q_when (D := { nx := _, rt := _ }) (b := false) (et_eqW (s := "both") (w := "num") (ev_var rfl) (by decide +kernel)) (fun z => by cases z) fun _ H3 e3 => ?_
      refine q_when (D := { nx := _, rt := _ }) (b := false) (et_eqW (s := "both") (w := "few") (ev_var rfl) (by decide +kernel)) (fun z => by cases z) fun _ H4 e4 => ?_
      refine q_when (D := { nx := _, rt := _ }) (b := false) (et_eqW (s := "both") (w := "rows") (ev_var rfl) (by decide +kernel)) (fun z => by cases z) fun _ H5 e5 => ?_
      exact fin ((e3.trans e4).trans e5) (ev_andV (b := true) (ev_is (ev_in2 (s := "both") (a := "to") (b := "both") (ev_var rfl)) (w := .bl true) (by decide +kernel)) fun _ => ev_lenN (n := 3) (ed_k (hd2.mono ((e3.trans e4).trans e5))) rfl) rfl
end
end K10
set_option Elab.async false
set_option linter.all false
set_option maxRecDepth 100000
set_option maxHeartbeats 1000000
namespace K10
open PySem PySem.Spec PyProof.Rows L2 Evl
section
variable {P : Program} {w : World} {K : PySem.W.Frag} {mg : Str → Option Value} {base0 : Heap} {f f1 f2 f3 : Addr} {fd fd1 fd2 fd3 : FuncData} {k : Nat}
theorem ok_between (F : Fun K "is_between" "is_between" sIsBetween f fd) (m1 : mg "isinstance" = none) (m2 : mg "int" = none) (m3 : mg "bool" = none) : FnOk P w K mg base0 CX0 (k + 1) f fd ["value", "low", "high"] (spD okBetween) := by
  refine F.ok scIsBetween (fun vs H Q E h => ?_) (fun cdv A outer s H vs Q E hr h => ?_)
  · obtain ⟨ds, d, all, ⟨x, lo, hi, rfl, _⟩, _⟩ := h
    exact all.len
  · obtain ⟨ds, d, all, ⟨x, lo, hi, rfl, rfl⟩, q⟩ := h
    obtain ⟨v, v1, v2, rfl, hv, h1, h2⟩ := dts3 all
    cases dt_int h1
    cases dt_int h2
    refine ⟨_, pss_one (ps_ret (pe_and (pe_callB call_isi (by rfl) m1 (by decide +kernel) (pa_cons (pv 0) (pa_cons (pe_bltn (v := .ty "int") (by rfl) m2 boot_int rfl) pa_nil)))
      (pe_and (pe_not (pe_callB call_isi (by rfl) m1 (by decide +kernel) (pa_cons (pv 0) (pa_cons (pe_bltn (v := .ty "bool") (by rfl) m3 (by decide +kernel) rfl) pa_nil))))
        (pe_one (pe_chain op_le op_le (pv 1) (pv 0) (pv 2)))))), ?_⟩
    refine sd_ret (ed_bool (ev_is (ev_andV (b := !isBool x && between x lo hi) (ev_isInt (ed_var rfl hv)) fun hi1 => ev_andV (ev_notV (ev_isBool (ed_var rfl hv))) fun hi2 => ?_) ?_)) q
    · cases hv with
      | int n => exact ev_between (ev_var rfl) (ev_var rfl) (ev_var rfl)
      | bl b => exact absurd hi2 (by simp [isBool])
      | non => exact absurd hi1 (by simp [isInt])
      | str b => exact absurd hi1 (by simp [isInt])
      | tup _ _ => exact absurd hi1 (by simp [isInt])
    · cases x <;> simp [isInt, isBool, between]
end
end K10
set_option Elab.async false
set_option linter.all false
set_option maxRecDepth 100000
set_option maxHeartbeats 1000000
namespace K10
open PySem PySem.Spec PyProof.Rows L2 Evl
def nds (ps : List GK) : Nat := (ps.map GK.nodes).sum
theorem nds_app (a b : List GK) : nds (a ++ b) = nds a + nds b := by unfold nds; rw [List.map_append, List.sum_append_nat]
theorem nodes_pos (g : GK) : 1 ≤ g.nodes := by cases g <;> simp [GK.nodes]
theorem nds_len : ∀ ps : List GK, ps.length ≤ nds ps
  | [] => Nat.le_refl _
  | g :: ps => by
    have := nds_len ps
    have := nodes_pos g
    show ps.length + 1 ≤ g.nodes + nds ps
    omega
theorem nds_two (a b : GK) : nds [a, b] = a.nodes + b.nodes := by show a.nodes + (b.nodes + 0) = _; omega
theorem nodes_gk : ∀ s : SK, (gk s).nodes + 1 ≤ 2 ^ dep s
  | .few _ => Nat.le_refl _
  | .rows _ => Nat.le_refl _
  | .to b => by
    have h := nodes_gk b
    have d := dep_pos b
    have k : (2 : Nat) ^ 1 ≤ 2 ^ dep b := Nat.pow_le_pow_right (by decide) d
    show 1 + (gk b).nodes + 1 + 1 ≤ 2 ^ (1 + dep b)
    rw [Nat.pow_add]
    omega
  | .both a b => by
    have h1 := nodes_gk a
    have h2 := nodes_gk b
    have k1 : (2 : Nat) ^ dep b ≤ 2 ^ (max (dep b) (dep a)) := Nat.pow_le_pow_right (by decide) (by omega)
    have k2 : (2 : Nat) ^ dep a ≤ 2 ^ (max (dep b) (dep a)) := Nat.pow_le_pow_right (by decide) (by omega)
    show (gk a).nodes + (gk b).nodes + 1 + 1 ≤ 2 ^ (1 + max (dep b) (dep a))
    rw [Nat.pow_add]
    omega
theorem nodes_few {s : SK} (h : dep s ≤ 6) : (gk s).nodes ≤ 100 := by
  have h1 := nodes_gk s
  have h2 : (2 : Nat) ^ dep s ≤ 2 ^ 6 := Nat.pow_le_pow_right (by decide) h
  omega
section
variable {K : PySem.W.Frag} {σ : L2.St} {H H' : Hp} {te ta tb : TE} {g : GK} {d : PyData} {a b : GK}
/-- kind[1:] of a kind with two parts -/
theorem ed_kids (h : EvD te σ H (.tuple [d, kD a, kD b])) : EvD (tSl (rSlA K) te (tPart (tC (.int 1))) tNoPart) σ H (.tuple ([a, b].map kD)) := ed_sl h (eo_some ev_c) eo_none
end
theorem two_parts (g : GK) : (inV (.str (wd g)) [.str "to", .str "both"] = false ∧ ((∃ n, g = .few n) ∨ (∃ n, g = .rows n) ∨ g = .num)) ∨
    (inV (.str (wd g)) [.str "to", .str "both"] = true ∧ ∃ a b, kD g = .tuple [.str (wd g), kD a, kD b] ∧ g.nodes = a.nodes + b.nodes + 1 ∧ (g.ok → a.ok ∧ b.ok) ∧ (g = .to a b ∨ g = .both a b)) := by
  cases g with
  | num => exact .inl ⟨by show inV (.str "num") _ = false; decide +kernel, .inr (.inr rfl)⟩
  | few n => exact .inl ⟨by show inV (.str "few") _ = false; decide +kernel, .inl ⟨n, rfl⟩⟩
  | rows n => exact .inl ⟨by show inV (.str "rows") _ = false; decide +kernel, .inr (.inl ⟨n, rfl⟩)⟩
  | to a b => exact .inr ⟨by show inV (.str "to") _ = true; decide +kernel, a, b, rfl, rfl, fun h => h, .inl rfl⟩
  | both a b => exact .inr ⟨by show inV (.str "both") _ = true; decide +kernel, a, b, rfl, rfl, fun h => h, .inr rfl⟩
def okKind (ds : List PyData) (d : PyData) : Prop := ∃ g : GK, ds = [kD g] ∧ g.ok ∧ g.nodes ≤ 1000 ∧ d = .bool true
def pk (p : GK × Nat) : PyData := .tuple [kD p.1, .int (p.2 : Int)]
def pnds (ps : List (GK × Nat)) : Nat := nds (ps.map (·.1))
theorem pnds_app (a b : List (GK × Nat)) : pnds (a ++ b) = pnds a + pnds b := by unfold pnds; rw [List.map_append, nds_app]
theorem pnds_len (ps : List (GK × Nat)) : ps.length ≤ pnds ps := by
  have := nds_len (ps.map (·.1))
  rw [List.length_map] at this
  exact this
theorem eqv_num (a : GK) : PyData.eqv (kD a) (.tuple [.str "num"]) = isNum a := by
  cases a <;> simp [kD, isNum, PyData.eqv, PyData.eqvAll] <;> decide +kernel
section
variable {P : Program} {w : World} {K : PySem.W.Frag} {mg : Str → Option Value} {base0 : Heap} {f f1 f2 f3 : Addr} {fd fd1 fd2 fd3 : FuncData} {k : Nat}
theorem ok_isKind (F : Fun K "is_kind" "is_kind" sIsKind f fd)
    (G1 : FnOk P w K mg base0 CX0 k f1 fd1 ["value"] (spD okBegins)) (g1 : mg "_begins_kind" = some (.ref f1)) (kp1 : PySem.W.keepIn K (.ref f1) = true) (b1 : Binds K fd1 ["value"] []) :
    FnOk P w K mg base0 CX0 (k + 1) f fd ["value"] (spD okKind) := by
  refine F.ok scIsKind (fun vs H Q E h => ?_) (fun cdv A outer s H vs Q E hr h => ?_)
  · obtain ⟨ds, d, all, ⟨g, rfl, _⟩, _⟩ := h
    exact all.len
  · obtain ⟨ds, d, all, ⟨g, rfl, gok, few, rfl⟩, q⟩ := h
    obtain ⟨v, rfl, hv⟩ := dts1 all
    refine ⟨_, pss_cons (ps_set (i := 1) scIsKind.nd rfl (.inl rfl) (pe_lst (pa_cons (pv 0) pa_nil)))
      (pss_cons (ps_while PassesOwn.never (pt_truth (pv 1) (by intro _; rfl))
        (pss_cons (ps_set (i := 2) scIsKind.nd rfl (.inl rfl) (pe_bm0 PySem.F.plainAttrs_list PySem.F.slot_list_pop PySem.F.type_list_pop mt_pop (pv 1)))
        (pss_cons (ps_if (pt_not (pt_val (pe_call G1 hr (by rfl) g1 kp1 b1 .nil pass0 (pa_cons (pv 2) pa_nil)))) (pss_one (ps_ret pe_bl)) pss_nil)
        (pss_one (ps_if (pt_cmpR op_in_seq (pe_ix ix_tup (pv 2) pe_int (fun _ _ => rfl)) (pe_tup (pa_cons pe_str (pa_cons pe_str pa_nil))) rfl)
          (pss_one (ps_expr (pe_bm PySem.F.plainAttrs_list PySem.F.slot_list_extend PySem.F.type_list_extend mt_extT (pv 1) (pa_cons (pe_slice sl_tupA (pv 2) (po_some pe_int) po_none) pa_nil)))) pss_nil)))))
      (pss_one (ps_ret pe_bl))), ?_⟩
    refine q_asgLn (D := { nx := _, rt := _ }) (ds := [kD g]) (eld_lst (eds_cons (ed_var rfl hv) eds_nil) (by show (1 : Nat) ≤ 100000; decide)) fun T xs H1 nT e1 hT all1 => ?_
    refine q_while (D := { nx := _, rt := _ }) (fun m σ' H' => ∃ (ys : List V) (ps : List GK) (z : Option V), σ' = [some v, some (.ref T), z] ∧ Ex H H' ∧ H' T = some (.lst ys) ∧ DtAll H' ys (ps.map kD) ∧ (∀ p ∈ ps, p.ok) ∧ nds ps ≤ 1000 ∧ m = nds ps) (nds [g])
      ⟨xs, [g], none, rfl, e1, hT, all1, (fun d hd => by rw [List.mem_singleton.mp hd]; exact gok), (by show g.nodes + 0 ≤ 1000; omega), rfl⟩ fun m σ' H' inv => ?_
    obtain ⟨ys, ps, z, rfl, e2, hT2, all2, oks, le, rfl⟩ := inv
    refine ⟨!ys.isEmpty, et_truL (ev_var rfl) hT2, fun hb H3 e3 => ?_, fun hb H3 e3 => ?_⟩
    · have hne : ps ≠ [] := fun z => by
        subst z
        cases all2
        cases hb
      obtain ⟨ps', g', rfl⟩ := list_end hne
      rw [List.map_append] at all2
      obtain ⟨ys', y, rfl, all', hy⟩ := all2.snoc
      have ok' := oks g' (List.mem_append.mpr (.inr (List.mem_singleton.mpr rfl)))
      have oks' : ∀ d ∈ ps', d.ok := fun d hd => oks d (List.mem_append.mpr (.inl hd))
      rw [nds_app] at le
      have wl := nds_len ps'
      have e1n : nds [g'] = g'.nodes := Nat.add_zero _
      refine ⟨_, fun _ _ h => h, ?_⟩
      refine qd_pop (D := { nx := _, rt := _, ct := _, bk := _ }) (e3 _ _ hT2) (ev_var rfl) fun H4 e4 => ?_
      have tk4 : Tk H' (upd H4 T (.lst ys')) := (tk_ex (e3.trans e4)).trans (tk_lst ((e3.trans e4) _ _ hT2))
      have hT4 : upd H4 T (.lst ys') T = some (.lst ys') := upd_same
      have e14 : Ex H (upd H4 T (.lst ys')) := ((e2.trans e3).trans e4).mut nT
      have all4 := all'.tk tk4
      have hy4 := hy.tk tk4
      generalize upd H4 T (.lst ys') = H5 at hT4 e14 all4 hy4 ⊢
      refine q_when (D := { nx := _, rt := _, ct := _, bk := _ }) (b := false) (et_not (a := true) (et_B (bool_ed (ed_call (eds_cons (ed_var rfl hy4) eds_nil) ⟨g', rfl, ok', rfl⟩)))) (fun z => by cases z) fun _ H6 e6 => ?_
      have hy6 := hy4.tk (tk_ex e6)
      have hw : Ev (tOp (rIxT K) (tVar 2) (tC (.int 0))) [some v, some (.ref T), some y] H6 (.str (wd g')) := ev_wd (ed_var rfl hy6)
      have room : ps'.length + 2 ≤ 100000 := by omega
      rcases two_parts g' with ⟨hin, _⟩ | ⟨hin, a, b, ed, en, eo, _⟩
      · refine s_when (D := { nx := _, rt := _, ct := _, bk := _ }) (b := false) (et_in2 hw hin) (fun z => by cases z) fun _ H7 e7 => ?_
        refine ⟨nds ps', ?_, ys', ps', _, rfl, (e14.trans e6).trans e7, (e6.trans e7) _ _ hT4, all4.tk (tk_ex (e6.trans e7)), oks', by omega, rfl⟩
        rw [nds_app, e1n]
        have := nodes_pos g'
        omega
      · refine s_when (D := { nx := _, rt := _, ct := _, bk := _ }) (b := true) (et_in2 hw hin) (fun _ H7 e7 => ?_) fun z => by cases z
        have e67 := e6.trans e7
        rw [ed] at hy6
        refine sd_extT (D := { nx := _, rt := _, ct := _, bk := _ }) (e67 _ _ hT4) (ev_var rfl) (ed_kids (ed_var rfl (hy6.tk (tk_ex e7)))) (by rw [all4.len, List.length_map]; exact room) fun zs H8 e8 hz => ?_
        have still : Tk H8 (upd H8 T (.lst (ys' ++ zs))) := tk_lst (e8 _ _ (e67 _ _ hT4))
        obtain ⟨oa, ob⟩ := eo ok'
        refine ⟨nds (ps' ++ [a, b]), ?_, ys' ++ zs, ps' ++ [a, b], _, rfl, ((e14.trans e67).trans e8).mut nT, upd_same, by rw [List.map_append]; exact ((all4.tk (tk_ex (e67.trans e8))).append hz).tk still, fun d hd => ?_, ?_, rfl⟩
        · rw [nds_app, nds_app, nds_two, e1n]
          omega
        · rcases List.mem_append.mp hd with h | h
          · exact oks' d h
          · simp only [List.mem_cons, List.not_mem_nil, or_false] at h
            rcases h with rfl | rfl
            · exact oa
            · exact ob
        · rw [nds_app, nds_two]
          omega
    · exact sd_ret (ed_bool ev_c) fun y H4 e4 hy => q y H4 ((e2.trans e3).trans e4) hy
end
end K10
set_option Elab.async false
set_option linter.all false
set_option maxRecDepth 100000
set_option maxHeartbeats 1000000
namespace K10
open PySem PySem.Spec PyProof.Rows L2 Evl
def gdep : GK → Nat
  | .to a b => 1 + max (gdep a) (gdep b)
  | .both a b => 1 + max (gdep a) (gdep b)
  | _ => 1
theorem kd_depth : ∀ g : GK, (kD g).depth ≤ gdep g ∧ (kD g).canLay0 = true
  | .num => by decide +kernel
  | .few n => ⟨by simp [kD, gdep, PyData.depth, PyData.depthAll], by simp [kD, PyData.canLay0, PyData.canLayAll0] <;> decide +kernel⟩
  | .rows n => ⟨by simp [kD, gdep, PyData.depth, PyData.depthAll], by simp [kD, PyData.canLay0, PyData.canLayAll0] <;> decide +kernel⟩
  | .to a b => by
    have ha := kd_depth a
    have hb := kd_depth b
    refine ⟨?_, by simp [kD, PyData.canLay0, PyData.canLayAll0, ha.2, hb.2] <;> decide +kernel⟩
    simp only [kD, gdep, PyData.depth, PyData.depthAll]
    omega
  | .both a b => by
    have ha := kd_depth a
    have hb := kd_depth b
    refine ⟨?_, by simp [kD, PyData.canLay0, PyData.canLayAll0, ha.2, hb.2] <;> decide +kernel⟩
    simp only [kD, gdep, PyData.depth, PyData.depthAll]
    omega
theorem kd_shaped {g : GK} (h : gdep g ≤ 60) : SeqAt.shaped (kD g) = true := by
  unfold SeqAt.shaped
  have := kd_depth g
  rw [this.2, decide_eq_true (by omega)]
  rfl
theorem gdep_gk : ∀ s : SK, gdep (gk s) ≤ dep s
  | .few _ => Nat.le_refl _
  | .rows _ => Nat.le_refl _
  | .to b => by
    have := gdep_gk b
    have := dep_pos b
    show 1 + max 1 (gdep (gk b)) ≤ 1 + dep b
    omega
  | .both a b => by
    have := gdep_gk b
    have := gdep_gk a
    show 1 + max (gdep (gk a)) (gdep (gk b)) ≤ 1 + max (dep b) (dep a)
    omega
def hd1 (g : GK) (d : Nat) : Bool := decide (d ≤ 6) && !isNum g && (match g with | .to a _ => isNum a | _ => true)
theorem srch_hd (g : GK) (d : Nat) (h : hd1 g d = false) : srch g d = false := by
  cases g with
  | num => rfl
  | few n => simpa [hd1, isNum, srch] using h
  | rows n => simpa [hd1, isNum, srch] using h
  | to a b =>
    have h : (decide (d ≤ 6) && !isNum (.to a b) && isNum a) = false := h
    show (decide (d ≤ 6) && isNum a && srch b (d + 1)) = false
    have e : isNum (.to a b) = false := rfl
    rw [e, Bool.not_false, Bool.and_true] at h
    rw [h]
    rfl
  | both a b =>
    have h : (decide (d ≤ 6) && !isNum (.both a b) && true) = false := h
    show (decide (d ≤ 6) && srch a (d + 1) && srch b (d + 1)) = false
    have e : isNum (.both a b) = false := rfl
    rw [e, Bool.not_false, Bool.and_true, Bool.and_true] at h
    rw [h]
    rfl
section
variable {K : PySem.W.Frag} {σ : L2.St} {H H' : Hp} {te td : TE} {g : GK} {d : Nat}
theorem et_bad (hd : Ev td σ H (.int (d : Int))) (h : EvD te σ H (kD g)) (gd : gdep g ≤ 30) :
    EvT (tOr (tTest (tOp (rI0 fun i j => .bl (decide (j < i))) td (tC (.int 6)))) (tOr (tTest (tOp rEq (tOp (rIxT K) te (tC (.int 0))) (tC (.str "num")))) (tAnd (tTest (tOp rEq (tOp (rIxT K) te (tC (.int 0))) (tC (.str "to")))) (tTest (tOp (rNeD K) (tOp (rIxT K) te (tC (.int 1))) (tTup (tCons (tC (.str "num")) tNil)))))))
      σ H (!hd1 g d) := by
  have h1 : EvT (tTest (tOp (rI0 fun i j => .bl (decide (j < i))) td (tC (.int 6)))) σ H (!decide (d ≤ 6)) := et_is (et_test (ev_op hd ev_c rv_I0)) (by
    by_cases z : d ≤ 6
    · rw [decide_eq_true z, decide_eq_false (by omega)]; rfl
    · rw [decide_eq_false z, decide_eq_true (by omega)]; rfl)
  have tupN : EvD (tTup (tCons (tC (.str "num")) tNil)) σ H (.tuple [.str "num"]) := ed_tup (eds_cons ed_str eds_nil) (by show (1 : Nat) ≤ 100000; decide)
  cases g with
  | num => exact et_is (et_or h1 fun _ => et_or (a := true) (b := true) (et_eqW (s := "num") (ev_wd h) (by decide +kernel)) fun z => by cases z) (by simp [hd1, isNum])
  | few n => exact et_is (et_or h1 fun _ => et_or (a := false) (b := false) (et_eqW (s := "few") (ev_wd h) (by decide +kernel)) fun _ => et_and (a := false) (b := false) (et_eqW (s := "few") (ev_wd h) (by decide +kernel)) fun z => by cases z) (by simp [hd1, isNum])
  | rows n => exact et_is (et_or h1 fun _ => et_or (a := false) (b := false) (et_eqW (s := "rows") (ev_wd h) (by decide +kernel)) fun _ => et_and (a := false) (b := false) (et_eqW (s := "rows") (ev_wd h) (by decide +kernel)) fun z => by cases z) (by simp [hd1, isNum])
  | both a b => exact et_is (et_or h1 fun _ => et_or (a := false) (b := false) (et_eqW (s := "both") (ev_wd h) (by decide +kernel)) fun _ => et_and (a := false) (b := false) (et_eqW (s := "both") (ev_wd h) (by decide +kernel)) fun z => by cases z) (by simp [hd1, isNum])
  | to a b =>
    have ga : gdep a ≤ 60 := by
      have gd : 1 + max (gdep a) (gdep b) ≤ 30 := gd
      omega
    refine et_is (et_or h1 fun _ => et_or (a := false) (et_eqW (s := "to") (ev_wd h) (by decide +kernel)) fun _ => et_and (a := true) (et_eqW (s := "to") (ev_wd h) (by decide +kernel)) fun _ => et_test (ev_neD (ed_ix (ed_k h) ev_c ax1) tupN (kd_shaped ga) (by decide +kernel))) ?_
    rw [eqv_num]
    simp [hd1, isNum]
end
def okSearch2 (ds : List PyData) (d : PyData) : Prop := ∃ g : GK, ds = [kD g] ∧ g.ok ∧ g.nodes ≤ 1000 ∧ gdep g ≤ 30 ∧ d = .bool (srch g 1)
theorem et_word {K : PySem.W.Frag} {σ : L2.St} {H : Hp} {te : TE} {g : GK} {w : Str} {r : Bool} (h : EvD te σ H (kD g)) (e : decide (V.str (wd g) = V.str w) = r) : EvT (tTest (tOp rEq (tOp (rIxT K) te (tC (.int 0))) (tC (.str w)))) σ H r := et_eqW (ev_wd h) e
section
variable {P : Program} {w : World} {K : PySem.W.Frag} {mg : Str → Option Value} {base0 : Heap} {f f1 f2 f3 : Addr} {fd fd1 fd2 fd3 : FuncData} {k : Nat}
theorem ok_search {tk : Tok} (F : Fun K "is_searchable" "is_searchable" sIsSearchable f fd) (m1 : mg "MOST_DEPTH" = some (.int 6 tk))
    (G1 : FnOk P w K mg base0 CX0 k f1 fd1 ["value"] (spD okKind)) (g1 : mg "is_kind" = some (.ref f1)) (kp1 : PySem.W.keepIn K (.ref f1) = true) (b1 : Binds K fd1 ["value"] []) :
    FnOk P w K mg base0 CX0 (k + 1) f fd ["kind"] (spD okSearch2) := by
  refine F.ok scIsSearchable (fun vs H Q E h => ?_) (fun cdv A outer s H vs Q E hr h => ?_)
  · obtain ⟨ds, d, all, ⟨g, rfl, _⟩, _⟩ := h
    exact all.len
  · obtain ⟨ds, d, all, ⟨g, rfl, gok, few, gd, rfl⟩, q⟩ := h
    obtain ⟨v, rfl, hv⟩ := dts1 all
    refine ⟨_, pss_cons (ps_if (pt_not (pt_val (pe_call G1 hr (by rfl) g1 kp1 b1 .nil pass0 (pa_cons (pv 0) pa_nil)))) (pss_one (ps_ret pe_bl)) pss_nil)
      (pss_cons (ps_set (i := 1) scIsSearchable.nd rfl (.inl rfl) (pe_lst (pa_cons (pe_tup (pa_cons (pv 0) (pa_cons pe_int pa_nil))) pa_nil)))
      (pss_cons (ps_while PassesOwn.never (pt_truth (pv 1) (by intro _; rfl))
        (pss_cons (ps_asg (pe_bm0 PySem.F.plainAttrs_list PySem.F.slot_list_pop PySem.F.type_list_pop mt_pop (pv 1)) (pg_tup (n := 2) (by rfl) (pgs_cons (pg_name (i := 2) scIsSearchable.nd rfl (Or.inl rfl)) (pgs_cons (pg_name (i := 3) scIsSearchable.nd rfl (Or.inl rfl)) pgs_nil))))
        (pss_cons (ps_if (PW.pt (pw_or (pt_cmpR op_gt (pv 3) (pe_glob (v := .int 6) (by rfl) m1 ⟨_, rfl⟩) (nomark _)) (pw_or (pt_cmpR op_eq (pe_ix ix_tup (pv 2) pe_int (fun _ _ => rfl)) pe_str (nomark _))
            (pw_or1 (PW.pt (pw_and (pt_cmpR op_eq (pe_ix ix_tup (pv 2) pe_int (fun _ _ => rfl)) pe_str (nomark _)) (pw_and1 (pt_cmpR (op_neD hr.units) (pe_ix ix_tup (pv 2) pe_int (fun _ _ => rfl)) (pe_tup (pa_cons pe_str pa_nil)) rfl)))))))) (pss_one (ps_ret pe_bl)) pss_nil)
        (pss_cons (ps_if (pt_cmpR op_eq (pe_ix ix_tup (pv 2) pe_int (fun _ _ => rfl)) pe_str (nomark _)) (pss_one (ps_expr (pe_bm PySem.F.plainAttrs_list PySem.F.slot_list_append PySem.F.type_list_append mt_append (pv 1) (pa_cons (pe_tup (pa_cons (pe_ix ix_tup (pv 2) pe_int (fun _ _ => rfl)) (pa_cons (pe_op op_add (pv 3) pe_int) pa_nil))) pa_nil)))) pss_nil)
        (pss_one (ps_if (pt_cmpR op_in_seq (pe_ix ix_tup (pv 2) pe_int (fun _ _ => rfl)) (pe_tup (pa_cons pe_str (pa_cons pe_str pa_nil))) rfl) (pss_one (ps_expr (pe_bm PySem.F.plainAttrs_list PySem.F.slot_list_append PySem.F.type_list_append mt_append (pv 1) (pa_cons (pe_tup (pa_cons (pe_ix ix_tup (pv 2) pe_int (fun _ _ => rfl)) (pa_cons (pe_op op_add (pv 3) pe_int) pa_nil))) pa_nil)))) pss_nil))))))
      (pss_one (ps_ret pe_bl)))), ?_⟩
    refine q_when (D := { nx := _, rt := _ }) (b := false) (et_not (a := true) (et_B (bool_ed (ed_call (eds_cons (ed_var rfl hv) eds_nil) ⟨g, rfl, gok, few, rfl⟩)))) (fun z => by cases z) fun _ H0 e0 => ?_
    have hv0 := hv.tk (tk_ex e0)
    refine q_asgLn (D := { nx := _, rt := _ }) (ds := [pk (g, 1)]) (eld_lst (eds_cons (ed_tup (eds_cons (ed_var rfl hv0) (eds_cons (ed_int ev_c) eds_nil)) (by show (2 : Nat) ≤ 100000; decide)) eds_nil) (by show (1 : Nat) ≤ 100000; decide)) fun T xs H1 nT e1 hT all1 => ?_
    refine q_while (D := { nx := _, rt := _ }) (fun m σ' H' => ∃ (ys : List V) (ps : List (GK × Nat)) (z y : Option V), σ' = [some v, some (.ref T), z, y] ∧ Ex H0 H' ∧ H' T = some (.lst ys) ∧ DtAll H' ys (ps.map pk) ∧ (∀ p ∈ ps, gdep p.1 ≤ 30) ∧ (ps.all fun p => srch p.1 p.2) = srch g 1 ∧ pnds ps ≤ 1000 ∧ m = pnds ps) (pnds [(g, 1)])
      ⟨xs, [(g, 1)], none, none, rfl, e1, hT, all1, (fun d hd => by rw [List.mem_singleton.mp hd]; exact gd), by simp, (by show g.nodes + 0 ≤ 1000; omega), rfl⟩ fun m σ' H' inv => ?_
    obtain ⟨ys, ps, z, zd, rfl, e2, hT2, all2, gds, eq, le, rfl⟩ := inv
    refine ⟨!ys.isEmpty, et_truL (ev_var rfl) hT2, fun hb H3 e3 => ?_, fun hb H3 e3 => ?_⟩
    · have hne : ps ≠ [] := fun z => by
        subst z
        cases all2
        cases hb
      obtain ⟨ps', p, rfl⟩ := list_end hne
      obtain ⟨g', dd⟩ := p
      rw [List.map_append] at all2
      obtain ⟨ys', y, rfl, all', hy⟩ := all2.snoc
      have gd' : gdep g' ≤ 30 := gds (g', dd) (List.mem_append.mpr (.inr (List.mem_singleton.mpr rfl)))
      have gds' : ∀ d ∈ ps', gdep d.1 ≤ 30 := fun d hd => gds d (List.mem_append.mpr (.inl hd))
      rw [pnds_app] at le
      have wl := pnds_len ps'
      have e1n : pnds [(g', dd)] = g'.nodes := Nat.add_zero _
      have np := nodes_pos g'
      rw [List.all_append] at eq
      have eq : ((ps'.all fun p => srch p.1 p.2) && (srch g' dd && true)) = srch g 1 := eq
      rw [Bool.and_true] at eq
      refine ⟨_, fun _ _ h => h, ?_⟩
      refine qd_pop (D := { nx := _, rt := _, ct := _, bk := _ }) (e3 _ _ hT2) (ev_var rfl) fun H4 e4 => ?_
      have tk4 : Tk H' (upd H4 T (.lst ys')) := (tk_ex (e3.trans e4)).trans (tk_lst ((e3.trans e4) _ _ hT2))
      have hT4 : upd H4 T (.lst ys') T = some (.lst ys') := upd_same
      have e14 : Ex H0 (upd H4 T (.lst ys')) := ((e2.trans e3).trans e4).mut nT
      have all4 := all'.tk tk4
      have hy4 := hy.tk tk4
      generalize upd H4 T (.lst ys') = H5 at hT4 e14 all4 hy4 ⊢
      refine gd_two hy4 fun yg yd hyg hyd => ?_
      cases dt_int hyd
      refine q_when (D := { nx := _, rt := _, ct := _, bk := _ }) (b := !hd1 g' dd) (et_bad (ev_var rfl) (ed_var rfl hyg) gd') (fun hb2 H6 e6 => ?_) fun hb2 H6 e6 => ?_
      · have hf : hd1 g' dd = false := by cases hx : hd1 g' dd with
          | true => rw [hx] at hb2; cases hb2
          | false => rfl
        have : srch g 1 = false := by rw [← eq, srch_hd g' dd hf, Bool.and_false]
        rw [this] at q
        exact sd_ret (ed_bool ev_c) fun y H7 e7 hy => q y H7 (((e0.trans e14).trans e6).trans e7) hy
      have hp : hd1 g' dd = true := by cases hx : hd1 g' dd with
        | true => rfl
        | false => rw [hx] at hb2; cases hb2
      have hyg6 := hyg.tk (tk_ex e6)
      have hT6 := e6 _ _ hT4
      have all6 := all4.tk (tk_ex e6)
      have room : ps'.length + 2 ≤ 100000 := by omega
      have leafE : ∀ (r : srch g' dd = true), (ps'.all fun p => srch p.1 p.2) = srch g 1 := fun r => by rw [← eq, r, Bool.and_true]
      have leaf : ∀ {H9 : Hp}, Ex H6 H9 → srch g' dd = true → ∃ m', m' < pnds (ps' ++ [(g', dd)]) ∧ ∃ (ys : List V) (ps : List (GK × Nat)) (z y : Option V), [some v, some (.ref T), some yg, some (.int (dd : Int))] = [some v, some (.ref T), z, y] ∧ Ex H0 H9 ∧ H9 T = some (.lst ys) ∧ DtAll H9 ys (ps.map pk) ∧ (∀ p ∈ ps, gdep p.1 ≤ 30) ∧ (ps.all fun p => srch p.1 p.2) = srch g 1 ∧ pnds ps ≤ 1000 ∧ m' = pnds ps := fun e9 r =>
        ⟨pnds ps', by rw [pnds_app, e1n]; omega, ys', ps', _, _, rfl, (e14.trans e6).trans e9, e9 _ _ hT6, all6.tk (tk_ex e9), gds', leafE r, by omega, rfl⟩
      have child : ∀ {te : TE} {H9 : Hp} {c : GK}, EvD te [some v, some (.ref T), some yg, some (.int (dd : Int))] H9 (kD c) → EvD (tTup (tCons te (tCons (tOp (rI0 fun i j => .int (i + j)) (tVar 3) (tC (.int 1))) tNil))) [some v, some (.ref T), some yg, some (.int (dd : Int))] H9 (pk (c, dd + 1)) := fun h =>
        ed_tup (eds_cons h (eds_cons (ed_int (ev_is (ev_op (ev_var rfl) ev_c rv_I0) (congrArg V.int (by show (dd : Int) + 1 = ((dd + 1 : Nat) : Int); omega)))) eds_nil)) (by show (2 : Nat) ≤ 100000; decide)
      cases g' with
      | num => cases hp' : decide (dd ≤ 6) <;> simp [hd1, isNum] at hp
      | few n =>
        refine q_when (D := { nx := _, rt := _, ct := _, bk := _ }) (b := false) (et_word (g := .few n) (ed_var rfl hyg6) (by show decide (V.str "few" = V.str "both") = false; decide +kernel)) (fun z => by cases z) fun _ H7 e7 => ?_
        refine s_when (D := { nx := _, rt := _, ct := _, bk := _ }) (b := false) (et_in2 (s := "few") (ev_wd (g := .few n) (ed_var rfl (hyg6.tk (tk_ex e7)))) (by decide +kernel)) (fun z => by cases z) fun _ H8 e8 => ?_
        exact leaf (e7.trans e8) (by simpa [hd1, isNum, srch] using hp)
      | rows n =>
        refine q_when (D := { nx := _, rt := _, ct := _, bk := _ }) (b := false) (et_word (g := .rows n) (ed_var rfl hyg6) (by show decide (V.str "rows" = V.str "both") = false; decide +kernel)) (fun z => by cases z) fun _ H7 e7 => ?_
        refine s_when (D := { nx := _, rt := _, ct := _, bk := _ }) (b := false) (et_in2 (s := "rows") (ev_wd (g := .rows n) (ed_var rfl (hyg6.tk (tk_ex e7)))) (by decide +kernel)) (fun z => by cases z) fun _ H8 e8 => ?_
        exact leaf (e7.trans e8) (by simpa [hd1, isNum, srch] using hp)
      | to a b =>
        have gb : gdep b ≤ 30 := by
          have gd' : 1 + max (gdep a) (gdep b) ≤ 30 := gd'
          omega
        have hp : (decide (dd ≤ 6) && isNum a) = true := by
          have hp : (decide (dd ≤ 6) && true && isNum a) = true := hp
          rw [Bool.and_true] at hp
          exact hp
        refine q_when (D := { nx := _, rt := _, ct := _, bk := _ }) (b := false) (et_word (g := .to a b) (ed_var rfl hyg6) (by show decide (V.str "to" = V.str "both") = false; decide +kernel)) (fun z => by cases z) fun _ H7 e7 => ?_
        refine s_when (D := { nx := _, rt := _, ct := _, bk := _ }) (b := true) (et_in2 (s := "to") (ev_wd (g := .to a b) (ed_var rfl (hyg6.tk (tk_ex e7)))) (by decide +kernel)) (fun _ H8 e8 => ?_) fun z => by cases z
        have e78 := e7.trans e8
        refine sd_app (D := { nx := _, rt := _, ct := _, bk := _ }) (e78 _ _ hT6) (ev_var rfl) (child (ed_ix (ed_k (g := .to a b) (ed_var rfl (hyg6.tk (tk_ex e78)))) ev_c ax2)) (by rw [all4.len, List.length_map]; omega) fun w9 H9 e9 hw9 => ?_
        have still : Tk H9 (upd H9 T (.lst (ys' ++ [w9]))) := tk_lst (e9 _ _ (e78 _ _ hT6))
        refine ⟨pnds (ps' ++ [(b, dd + 1)]), ?_, ys' ++ [w9], ps' ++ [(b, dd + 1)], _, _, rfl, (((e14.trans e6).trans e78).trans e9).mut nT, upd_same, by rw [List.map_append]; exact ((all6.tk (tk_ex (e78.trans e9))).append (.cons hw9 .nil)).tk still, fun d hd => ?_, ?_, ?_, rfl⟩
        · rw [pnds_app, pnds_app, e1n]
          show pnds ps' + (b.nodes + 0) < pnds ps' + (a.nodes + b.nodes + 1)
          omega
        · rcases List.mem_append.mp hd with h | h
          · exact gds' d h
          · rw [List.mem_singleton.mp h]; exact gb
        · rw [List.all_append, ← eq]
          show (_ && (srch b (dd + 1) && true)) = (_ && (decide (dd ≤ 6) && isNum a && srch b (dd + 1)))
          rw [hp, Bool.and_true, Bool.true_and]
        · rw [pnds_app]
          rw [e1n] at le
          have le : pnds ps' + (a.nodes + b.nodes + 1) ≤ 1000 := le
          show pnds ps' + (b.nodes + 0) ≤ 1000
          omega
      | both a b =>
        have gb : gdep a ≤ 30 ∧ gdep b ≤ 30 := by
          have gd' : 1 + max (gdep a) (gdep b) ≤ 30 := gd'
          omega
        have hp : decide (dd ≤ 6) = true := by
          have hp : (decide (dd ≤ 6) && true && true) = true := hp
          rw [Bool.and_true, Bool.and_true] at hp
          exact hp
        refine q_when (D := { nx := _, rt := _, ct := _, bk := _ }) (b := true) (et_word (g := .both a b) (ed_var rfl hyg6) (by show decide (V.str "both" = V.str "both") = true; decide +kernel)) (fun _ H7 e7 => ?_) fun z => by cases z
        refine sd_app (D := { nx := _, rt := _, ct := _, bk := _ }) (e7 _ _ hT6) (ev_var rfl) (child (ed_ix (ed_k (g := .both a b) (ed_var rfl (hyg6.tk (tk_ex e7)))) ev_c ax1)) (by rw [all4.len, List.length_map]; omega) fun w8 H8 e8 hw8 => ?_
        have still8 : Tk H8 (upd H8 T (.lst (ys' ++ [w8]))) := tk_lst (e8 _ _ (e7 _ _ hT6))
        have hT8 : upd H8 T (.lst (ys' ++ [w8])) T = some (.lst (ys' ++ [w8])) := upd_same
        have all8 := ((all6.tk (tk_ex (e7.trans e8))).append (.cons hw8 .nil)).tk still8
        have hyg8 := (hyg6.tk (tk_ex (e7.trans e8))).tk still8
        have e08 : Ex H0 (upd H8 T (.lst (ys' ++ [w8]))) := (((e14.trans e6).trans e7).trans e8).mut nT
        generalize upd H8 T (.lst (ys' ++ [w8])) = H8' at hT8 all8 hyg8 e08 ⊢
        refine s_when (D := { nx := _, rt := _, ct := _, bk := _ }) (b := true) (et_in2 (s := "both") (ev_wd (g := .both a b) (ed_var rfl hyg8)) (by decide +kernel)) (fun _ H9 e9 => ?_) fun z => by cases z
        refine sd_app (D := { nx := _, rt := _, ct := _, bk := _ }) (e9 _ _ hT8) (ev_var rfl) (child (ed_ix (ed_k (g := .both a b) (ed_var rfl (hyg8.tk (tk_ex e9)))) ev_c ax2)) (by rw [List.length_append, all4.len, List.length_map]; show ps'.length + 1 < 100000; omega) fun wA HA eA hwA => ?_
        have still : Tk HA (upd HA T (.lst (ys' ++ [w8] ++ [wA]))) := tk_lst (eA _ _ (e9 _ _ hT8))
        refine ⟨pnds (ps' ++ [(a, dd + 1), (b, dd + 1)]), ?_, ys' ++ [w8] ++ [wA], ps' ++ [(a, dd + 1), (b, dd + 1)], _, _, rfl, ((e08.trans e9).trans eA).mut nT, upd_same, ?_, fun d hd => ?_, ?_, ?_, rfl⟩
        · rw [pnds_app, pnds_app, e1n]
          show pnds ps' + (a.nodes + (b.nodes + 0)) < pnds ps' + (a.nodes + b.nodes + 1)
          omega
        · have z := ((all8.tk (tk_ex (e9.trans eA))).append (.cons hwA .nil)).tk still
          have el : List.map pk (ps' ++ [(a, dd + 1), (b, dd + 1)]) = List.map pk ps' ++ [pk (a, dd + 1)] ++ [pk (b, dd + 1)] := by rw [List.map_append, List.append_assoc]; rfl
          rw [el]
          exact z
        · rcases List.mem_append.mp hd with h | h
          · exact gds' d h
          · simp only [List.mem_cons, List.not_mem_nil, or_false] at h
            rcases h with rfl | rfl
            · exact gb.1
            · exact gb.2
        · rw [List.all_append, ← eq]
          show (_ && (srch a (dd + 1) && (srch b (dd + 1) && true))) = (_ && (decide (dd ≤ 6) && srch a (dd + 1) && srch b (dd + 1)))
          rw [hp, Bool.and_true, Bool.true_and]
        · rw [pnds_app]
          rw [e1n] at le
          have le : pnds ps' + (a.nodes + b.nodes + 1) ≤ 1000 := le
          show pnds ps' + (a.nodes + (b.nodes + 0)) ≤ 1000
          omega
    · have : srch g 1 = true := by
        have pe : ps = [] := by
          cases ys with
          | nil =>
            have := all2.len
            rw [List.length_map] at this
            exact List.length_eq_zero_iff.mp this.symm
          | cons _ _ => cases hb
        rw [← eq, pe]
        rfl
      rw [this] at q
      exact sd_ret (ed_bool ev_c) fun y H4 e4 hy => q y H4 (((e0.trans e2).trans e3).trans e4) hy
end
end K10
set_option Elab.async false
set_option linter.all false
set_option maxRecDepth 100000
set_option maxHeartbeats 1000000
namespace K10
open PySem PySem.Spec PyProof.Rows L2 Evl
def gAll (ps : List GK) : List Int := ps.reverse.flatMap gszs
theorem gAll_snoc (ps : List GK) (g : GK) : gAll (ps ++ [g]) = gszs g ++ gAll ps := by
  unfold gAll
  rw [List.reverse_append, List.flatMap_append]
  show gszs g ++ [] ++ _ = _
  rw [List.append_nil]
theorem gszs_len : ∀ g : GK, (gszs g).length ≤ g.nodes
  | .num => Nat.zero_le _
  | .few _ => Nat.le_refl _
  | .rows _ => Nat.le_refl _
  | .to a b => by
    have := gszs_len a
    have := gszs_len b
    show (gszs b ++ gszs a).length ≤ a.nodes + b.nodes + 1
    rw [List.length_append]
    omega
  | .both a b => by
    have := gszs_len a
    have := gszs_len b
    show (gszs b ++ gszs a).length ≤ a.nodes + b.nodes + 1
    rw [List.length_append]
    omega
/-- the sizes of a kind, a new list -/
def spSizes : Sp := fun vs H Q _ => ∃ (x : V) (g : GK), vs = [x] ∧ Dt H x (kD g) ∧ g.nodes ≤ 1000 ∧ ∀ p H', H p = none → Ex H H' → H' p = some (.lst ((gszs g).map V.int)) → Q (.ref p) H'
theorem el_sizes {σ : L2.St} {H : Hp} {te : TE} {g : GK} {E : XK} (h : EvD te σ H (kD g)) (few : g.nodes ≤ 1000) : EvL (tCall spSizes [] E (tCons te tNil)) σ H ((gszs g).map V.int) := fun H1 e1 Q q =>
  h H1 e1 _ fun x H2 e2 hx => ⟨x, g, rfl, hx, few, fun p H3 np e3 hp => q p H3 (fresh_back e2 np) (e2.trans e3) hp⟩
def gprod : List GK → Option Int
  | [] => some 1
  | g :: ps => (gcnt g).bind fun x => (gprod ps).map fun y => x * y
theorem gprod_snoc : ∀ (ps : List GK) (g : GK), gprod (ps ++ [g]) = (gcnt g).bind fun x => (gprod ps).map fun y => x * y
  | [], g => rfl
  | p :: ps, g => by
    show (gcnt p).bind (fun x => (gprod (ps ++ [g])).map fun y => x * y) = (gcnt g).bind fun x => ((gcnt p).bind fun u => (gprod ps).map fun y => u * y).map fun y => x * y
    rw [gprod_snoc ps g]
    cases gcnt p <;> cases gcnt g <;> cases gprod ps <;> simp [Int.mul_left_comm]
def mulO (m : Int) (o : Option Int) : Option Int := o.map fun y => m * y
def optD : Option Int → PyData
  | some n => .int n
  | none => .none
def okCount (ds : List PyData) (d : PyData) : Prop := ∃ g : GK, ds = [kD g] ∧ g.ok ∧ g.nodes ≤ 1000 ∧ d = optD (gcnt g)
theorem et_word2 {K : PySem.W.Frag} {σ : L2.St} {H : Hp} {te : TE} {g : GK} {a b : Str} {r : Bool} (h : EvD te σ H (kD g)) (e : inV (.str (wd g)) [.str a, .str b] = r) : EvT (tTest (tOp (rIn K false) (tOp (rIxT K) te (tC (.int 0))) (tTup (tCons (tC (.str a)) (tCons (tC (.str b)) tNil))))) σ H r := et_in2 (ev_wd h) e
theorem s_appI {K : PySem.W.Frag} {σ : L2.St} {H : Hp} {te ta : TE} {D : Ends} {l : Addr} {xs : List V} {y : V} (hl : H l = some (.lst xs)) (ha : Ev ta σ H (.ref l)) (h : Ev te σ H y) (hz : xs.length < 100000) (k : ∀ H1, Ex H H1 → D.nx σ (upd H1 l (.lst (xs ++ [y])))) :
    tDrop (tBM K "list" rAppend ta (tCons te tNil)) D σ H := ha H (Ex.refl H) _ fun H1 e1 =>
  ⟨Or.inl ⟨rfl, xs, sq_of (e1 l _ hl)⟩, h H1 e1 _ fun H2 e2 => ⟨l, xs, y, rfl, rfl, e2 l _ (e1 l _ hl), sz_lt hz, k H2 (e1.trans e2)⟩⟩
section
variable {P : Program} {w : World} {K : PySem.W.Frag} {mg : Str → Option Value} {base0 : Heap} {f f1 f2 f3 : Addr} {fd fd1 fd2 fd3 : FuncData} {k : Nat}
theorem ok_sizesIn (F : Fun K "_sizes_in" "_sizes_in" sSizesIn f fd) : FnOk P w K mg base0 CX0 (k + 1) f fd ["kind"] spSizes := by
  refine F.ok scSizesIn (fun vs H Q E h => ?_) (fun cdv A outer s H vs Q E hr h => ?_)
  · obtain ⟨x, g, rfl, _⟩ := h
    rfl
  · obtain ⟨v, g, rfl, hv, few, q⟩ := h
    refine ⟨_, pss_cons (ps_set (i := 1) scSizesIn.nd rfl (.inl rfl) (pe_lst pa_nil))
      (pss_cons (ps_set (i := 2) scSizesIn.nd rfl (.inl rfl) (pe_lst (pa_cons (pv 0) pa_nil)))
      (pss_cons (ps_while PassesOwn.never (pt_truth (pv 2) (by intro _; rfl))
        (pss_cons (ps_set (i := 3) scSizesIn.nd rfl (.inl rfl) (pe_bm0 PySem.F.plainAttrs_list PySem.F.slot_list_pop PySem.F.type_list_pop mt_pop (pv 2)))
        (pss_one (ps_if (pt_cmpR op_in_seq (pe_ix ix_tup (pv 3) pe_int (fun _ _ => rfl)) (pe_tup (pa_cons pe_str (pa_cons pe_str pa_nil))) rfl)
          (pss_one (ps_expr (pe_bm PySem.F.plainAttrs_list PySem.F.slot_list_append PySem.F.type_list_append mt_append (pv 1) (pa_cons (pe_ix ix_tup (pv 3) pe_int (fun _ _ => rfl)) pa_nil))))
          (pss_one (ps_if (pt_cmpR op_in_seq (pe_ix ix_tup (pv 3) pe_int (fun _ _ => rfl)) (pe_tup (pa_cons pe_str (pa_cons pe_str pa_nil))) rfl)
            (pss_one (ps_expr (pe_bm PySem.F.plainAttrs_list PySem.F.slot_list_extend PySem.F.type_list_extend mt_extT (pv 2) (pa_cons (pe_slice sl_tupA (pv 3) (po_some pe_int) po_none) pa_nil)))) pss_nil))))))
      (pss_one (ps_ret (pv 1))))), ?_⟩
    refine q_asgL (D := { nx := _, rt := _ }) (i := 1) (xs := []) (el_lst ea_nil (by show (0 : Nat) ≤ 100000; decide)) fun S H0 nS e0 hS0 => ?_
    refine q_asgLn (D := { nx := _, rt := _ }) (ds := [kD g]) (eld_lst (eds_cons (ed_var rfl (hv.tk (tk_ex e0))) eds_nil) (by show (1 : Nat) ≤ 100000; decide)) fun T xs H1 nT e1 hT all1 => ?_
    have ST : S ≠ T := fun z => by rw [← z, hS0] at nT; cases nT
    have nT0 : H T = none := fresh_back e0 nT
    refine q_while (D := { nx := _, rt := _ }) (fun m σ' H' => ∃ (ys : List V) (ps : List GK) (zs : List Int) (z : Option V), σ' = [some v, some (.ref S), some (.ref T), z] ∧ Ex H H' ∧ H' S = some (.lst (zs.map V.int)) ∧ H' T = some (.lst ys) ∧ DtAll H' ys (ps.map kD) ∧ zs ++ gAll ps = gszs g ∧ nds ps ≤ 1000 ∧ m = nds ps) (nds [g])
      ⟨xs, [g], [], none, rfl, e0.trans e1, e1 _ _ hS0, hT, all1, (by show [] ++ (gszs g ++ []) = _; rw [List.append_nil]; rfl), (by show g.nodes + 0 ≤ 1000; omega), rfl⟩ fun m σ' H' inv => ?_
    obtain ⟨ys, ps, zs, z, rfl, e2, hS2, hT2, all2, eq, le, rfl⟩ := inv
    refine ⟨!ys.isEmpty, et_truL (ev_var rfl) hT2, fun hb H3 e3 => ?_, fun hb H3 e3 => ?_⟩
    · have hne : ps ≠ [] := fun z => by
        subst z
        cases all2
        cases hb
      obtain ⟨ps', g', rfl⟩ := list_end hne
      rw [List.map_append] at all2
      obtain ⟨ys', y, rfl, all', hy⟩ := all2.snoc
      rw [nds_app] at le
      have wl := nds_len ps'
      have e1n : nds [g'] = g'.nodes := Nat.add_zero _
      have np := nodes_pos g'
      rw [gAll_snoc] at eq
      refine ⟨_, fun _ _ h => h, ?_⟩
      refine qd_pop (D := { nx := _, rt := _, ct := _, bk := _ }) (e3 _ _ hT2) (ev_var rfl) fun H4 e4 => ?_
      have tk4 : Tk H' (upd H4 T (.lst ys')) := (tk_ex (e3.trans e4)).trans (tk_lst ((e3.trans e4) _ _ hT2))
      have hT4 : upd H4 T (.lst ys') T = some (.lst ys') := upd_same
      have hS4 : upd H4 T (.lst ys') S = some (.lst (zs.map V.int)) := by rw [upd_ne ST]; exact (e3.trans e4) _ _ hS2
      have e14 : Ex H (upd H4 T (.lst ys')) := ((e2.trans e3).trans e4).mut nT0
      have all4 := all'.tk tk4
      have hy4 := hy.tk tk4
      generalize upd H4 T (.lst ys') = H5 at hT4 hS4 e14 all4 hy4 ⊢
      have room : ps'.length + 2 ≤ 100000 := by omega
      have zl : zs.length ≤ 1000 := by
        have := congrArg List.length eq
        rw [List.length_append] at this
        have := gszs_len g
        omega
      cases g' with
      | num =>
        refine s_if (D := { nx := _, rt := _, ct := _, bk := _ }) (b := false) (et_word2 (g := .num) (ed_var rfl hy4) (by show inV (.str "num") _ = false; decide +kernel)) (fun z => by cases z) fun _ H6 e6 => ?_
        refine s_when (D := { nx := _, rt := _, ct := _, bk := _ }) (b := false) (et_word2 (g := .num) (ed_var rfl (hy4.tk (tk_ex e6))) (by show inV (.str "num") _ = false; decide +kernel)) (fun z => by cases z) fun _ H7 e7 => ?_
        exact ⟨nds ps', by rw [nds_app, e1n]; omega, ys', ps', zs, _, rfl, (e14.trans e6).trans e7, (e6.trans e7) _ _ hS4, (e6.trans e7) _ _ hT4, all4.tk (tk_ex (e6.trans e7)), by rw [← eq]; rfl, by omega, rfl⟩
      | few n =>
        have hy4 : Dt H5 y (.tuple [.str "few", .int n]) := hy4
        refine s_if (D := { nx := _, rt := _, ct := _, bk := _ }) (b := true) (et_word2 (g := .few n) (ed_var rfl hy4) (by show inV (.str "few") _ = true; decide +kernel)) (fun _ H6 e6 => ?_) fun z => by cases z
        refine s_appI (D := { nx := _, rt := _, ct := _, bk := _ }) (e6 _ _ hS4) (ev_var rfl) (int_ed (ed_ix (ed_var rfl (hy4.tk (tk_ex e6))) ev_c ax1)) (by rw [List.length_map]; omega) fun H7 e7 => ?_
        have still : Tk H7 (upd H7 S (.lst (zs.map V.int ++ [.int n]))) := tk_lst (e7 _ _ (e6 _ _ hS4))
        refine ⟨nds ps', by rw [nds_app, e1n]; omega, ys', ps', zs ++ [n], _, rfl, ((e14.trans e6).trans e7).mut nS, by rw [List.map_append]; exact upd_same, by rw [upd_ne (Ne.symm ST)]; exact (e6.trans e7) _ _ hT4, (all4.tk (tk_ex (e6.trans e7))).tk still, by rw [← eq, List.append_assoc]; rfl, by omega, rfl⟩
      | rows n =>
        have hy4 : Dt H5 y (.tuple [.str "rows", .int n]) := hy4
        refine s_if (D := { nx := _, rt := _, ct := _, bk := _ }) (b := true) (et_word2 (g := .rows n) (ed_var rfl hy4) (by show inV (.str "rows") _ = true; decide +kernel)) (fun _ H6 e6 => ?_) fun z => by cases z
        refine s_appI (D := { nx := _, rt := _, ct := _, bk := _ }) (e6 _ _ hS4) (ev_var rfl) (int_ed (ed_ix (ed_var rfl (hy4.tk (tk_ex e6))) ev_c ax1)) (by rw [List.length_map]; omega) fun H7 e7 => ?_
        have still : Tk H7 (upd H7 S (.lst (zs.map V.int ++ [.int n]))) := tk_lst (e7 _ _ (e6 _ _ hS4))
        refine ⟨nds ps', by rw [nds_app, e1n]; omega, ys', ps', zs ++ [n], _, rfl, ((e14.trans e6).trans e7).mut nS, by rw [List.map_append]; exact upd_same, by rw [upd_ne (Ne.symm ST)]; exact (e6.trans e7) _ _ hT4, (all4.tk (tk_ex (e6.trans e7))).tk still, by rw [← eq, List.append_assoc]; rfl, by omega, rfl⟩
      | to a b =>
        have hy4 : Dt H5 y (.tuple [.str "to", kD a, kD b]) := hy4
        refine s_if (D := { nx := _, rt := _, ct := _, bk := _ }) (b := false) (et_word2 (g := .to a b) (ed_var rfl hy4) (by show inV (.str "to") _ = false; decide +kernel)) (fun z => by cases z) fun _ H6 e6 => ?_
        refine s_when (D := { nx := _, rt := _, ct := _, bk := _ }) (b := true) (et_word2 (g := .to a b) (ed_var rfl (hy4.tk (tk_ex e6))) (by show inV (.str "to") _ = true; decide +kernel)) (fun _ H7 e7 => ?_) fun z => by cases z
        have e67 := e6.trans e7
        refine sd_extT (D := { nx := _, rt := _, ct := _, bk := _ }) (e67 _ _ hT4) (ev_var rfl) (ed_kids (ed_var rfl (hy4.tk (tk_ex e67)))) (by rw [all4.len, List.length_map]; exact room) fun ws H8 e8 hz => ?_
        have still : Tk H8 (upd H8 T (.lst (ys' ++ ws))) := tk_lst (e8 _ _ (e67 _ _ hT4))
        have en : GK.nodes (.to a b) = a.nodes + b.nodes + 1 := rfl
        refine ⟨nds (ps' ++ [a, b]), ?_, ys' ++ ws, ps' ++ [a, b], zs, _, rfl, ((e14.trans e67).trans e8).mut nT0, by rw [upd_ne ST]; exact (e67.trans e8) _ _ hS4, upd_same, by rw [List.map_append]; exact ((all4.tk (tk_ex (e67.trans e8))).append hz).tk still, ?_, ?_, rfl⟩
        · rw [nds_app, nds_app, nds_two, e1n, en]
          omega
        · have ea : ps' ++ [a, b] = (ps' ++ [a]) ++ [b] := by rw [List.append_assoc]; rfl
          rw [ea, gAll_snoc, gAll_snoc, ← eq]
          show _ = zs ++ ((gszs b ++ gszs a) ++ gAll ps')
          rw [List.append_assoc]
        · rw [nds_app, nds_two]
          rw [e1n, en] at le
          omega
      | both a b =>
        have hy4 : Dt H5 y (.tuple [.str "both", kD a, kD b]) := hy4
        refine s_if (D := { nx := _, rt := _, ct := _, bk := _ }) (b := false) (et_word2 (g := .both a b) (ed_var rfl hy4) (by show inV (.str "both") _ = false; decide +kernel)) (fun z => by cases z) fun _ H6 e6 => ?_
        refine s_when (D := { nx := _, rt := _, ct := _, bk := _ }) (b := true) (et_word2 (g := .both a b) (ed_var rfl (hy4.tk (tk_ex e6))) (by show inV (.str "both") _ = true; decide +kernel)) (fun _ H7 e7 => ?_) fun z => by cases z
        have e67 := e6.trans e7
        refine sd_extT (D := { nx := _, rt := _, ct := _, bk := _ }) (e67 _ _ hT4) (ev_var rfl) (ed_kids (ed_var rfl (hy4.tk (tk_ex e67)))) (by rw [all4.len, List.length_map]; exact room) fun ws H8 e8 hz => ?_
        have still : Tk H8 (upd H8 T (.lst (ys' ++ ws))) := tk_lst (e8 _ _ (e67 _ _ hT4))
        have en : GK.nodes (.both a b) = a.nodes + b.nodes + 1 := rfl
        refine ⟨nds (ps' ++ [a, b]), ?_, ys' ++ ws, ps' ++ [a, b], zs, _, rfl, ((e14.trans e67).trans e8).mut nT0, by rw [upd_ne ST]; exact (e67.trans e8) _ _ hS4, upd_same, by rw [List.map_append]; exact ((all4.tk (tk_ex (e67.trans e8))).append hz).tk still, ?_, ?_, rfl⟩
        · rw [nds_app, nds_app, nds_two, e1n, en]
          omega
        · have ea : ps' ++ [a, b] = (ps' ++ [a]) ++ [b] := by rw [List.append_assoc]; rfl
          rw [ea, gAll_snoc, gAll_snoc, ← eq]
          show _ = zs ++ ((gszs b ++ gszs a) ++ gAll ps')
          rw [List.append_assoc]
        · rw [nds_app, nds_two]
          rw [e1n, en] at le
          omega
    · have pe : ps = [] := by
        cases ys with
        | nil =>
          have := all2.len
          rw [List.length_map] at this
          exact List.length_eq_zero_iff.mp this.symm
        | cons _ _ => cases hb
      rw [pe] at eq
      have eq : zs ++ [] = gszs g := eq
      rw [List.append_nil] at eq
      rw [eq] at hS2
      exact s_ret (ev_var rfl) fun H4 e4 => q S H4 nS ((e2.trans e3).trans e4) ((e3.trans e4) _ _ hS2)
end
end K10
set_option Elab.async false
set_option linter.all false
set_option maxRecDepth 100000
set_option maxHeartbeats 1000000
namespace K10
open PySem PySem.Spec PyProof.Rows L2 Evl
theorem gszs_ok : ∀ g : GK, g.ok → ∀ x ∈ gszs g, 1 ≤ x ∧ x ≤ 9
  | .num, _, x, hx => by cases hx
  | .few n, h, x, hx => by rw [List.mem_singleton.mp hx]; exact h
  | .rows n, h, x, hx => by rw [List.mem_singleton.mp hx]; exact ⟨by have := h.1; omega, h.2⟩
  | .to a b, h, x, hx => by
    rcases List.mem_append.mp hx with z | z
    · exact gszs_ok b h.2 x z
    · exact gszs_ok a h.1 x z
  | .both a b, h, x, hx => by
    rcases List.mem_append.mp hx with z | z
    · exact gszs_ok b h.2 x z
    · exact gszs_ok a h.1 x z
theorem ew_some {sz : List Int} {i : Nat} (lt : i < 8) (h : ∀ j, j < i → fits sz (2 + (j : Int)) = false) (hf : fits sz (2 + (i : Int)) = true) : ew sz = some (2 + (i : Int)) := by
  have k : ∀ j : Nat, j < i → fits sz (2 + (j : Int)) = false := h
  have z : i = 0 ∨ i = 1 ∨ i = 2 ∨ i = 3 ∨ i = 4 ∨ i = 5 ∨ i = 6 ∨ i = 7 := by omega
  have f : ∀ (j : Nat) (n : Int), 2 + (j : Int) = n → j < i → fits sz n = false := fun j n e lt => by rw [← e]; exact h j lt
  have g : ∀ n : Int, 2 + (i : Int) = n → fits sz n = true := fun n e => by rw [← e]; exact hf
  unfold ew
  rcases z with rfl | rfl | rfl | rfl | rfl | rfl | rfl | rfl
  · rw [List.find?_cons, g 2 rfl]; rfl
  · rw [List.find?_cons, f 0 2 rfl (by decide), List.find?_cons, g 3 rfl]; rfl
  · rw [List.find?_cons, f 0 2 rfl (by decide), List.find?_cons, f 1 3 rfl (by decide), List.find?_cons, g 4 rfl]; rfl
  · rw [List.find?_cons, f 0 2 rfl (by decide), List.find?_cons, f 1 3 rfl (by decide), List.find?_cons, f 2 4 rfl (by decide), List.find?_cons, g 5 rfl]; rfl
  · rw [List.find?_cons, f 0 2 rfl (by decide), List.find?_cons, f 1 3 rfl (by decide), List.find?_cons, f 2 4 rfl (by decide), List.find?_cons, f 3 5 rfl (by decide), List.find?_cons, g 6 rfl]; rfl
  · rw [List.find?_cons, f 0 2 rfl (by decide), List.find?_cons, f 1 3 rfl (by decide), List.find?_cons, f 2 4 rfl (by decide), List.find?_cons, f 3 5 rfl (by decide), List.find?_cons, f 4 6 rfl (by decide), List.find?_cons, g 7 rfl]; rfl
  · rw [List.find?_cons, f 0 2 rfl (by decide), List.find?_cons, f 1 3 rfl (by decide), List.find?_cons, f 2 4 rfl (by decide), List.find?_cons, f 3 5 rfl (by decide), List.find?_cons, f 4 6 rfl (by decide), List.find?_cons, f 5 7 rfl (by decide), List.find?_cons, g 8 rfl]; rfl
  · rw [List.find?_cons, f 0 2 rfl (by decide), List.find?_cons, f 1 3 rfl (by decide), List.find?_cons, f 2 4 rfl (by decide), List.find?_cons, f 3 5 rfl (by decide), List.find?_cons, f 4 6 rfl (by decide), List.find?_cons, f 5 7 rfl (by decide), List.find?_cons, f 6 8 rfl (by decide), List.find?_cons, g 9 rfl]; rfl
theorem ew_no {sz : List Int} (h : ∀ j : Nat, j < 8 → fits sz (2 + (j : Int)) = false) : ew sz = none := by
  unfold ew
  rw [List.find?_eq_none]
  intro w hw
  have z : ∃ j : Nat, j < 8 ∧ w = 2 + (j : Int) := by
    refine ⟨(w - 2).toNat, ?_⟩
    simp only [List.mem_cons, List.not_mem_nil, or_false] at hw
    omega
  obtain ⟨j, lt, rfl⟩ := z
  rw [h j lt]
  decide
def okEw (ds : List PyData) (d : PyData) : Prop := ∃ g : GK, ds = [kD g] ∧ g.ok ∧ g.nodes ≤ 1000 ∧ d = optD (ew (gszs g))
def okIsEven (ds : List PyData) (d : PyData) : Prop := ∃ g : GK, ds = [kD g] ∧ g.ok ∧ g.nodes ≤ 1000 ∧ d = .bool (ew (gszs g)).isSome
def okWidth (ds : List PyData) (d : PyData) : Prop := ∃ (s : SK) (w : Int), ds = [skD s] ∧ s.ok ∧ dep s ≤ 6 ∧ Wid (szs s) w ∧ d = .int w
theorem el_is {σ : L2.St} {H : Hp} {te : TE} {xs ys : List V} (h : EvL te σ H xs) (e : xs = ys) : EvL te σ H ys := by rw [← e]; exact h
theorem ev_allV {K : PySem.W.Frag} {σ : L2.St} {H : Hp} {te : TE} {bs : List Bool} (h : EvL te σ H (bs.map V.bl)) : Ev (tCB (rAll K) (tCons te tNil)) σ H (.bl (bs.all id)) := fun H1 e1 _ q =>
  h H1 e1 _ fun a H2 _ e2 h2 => ⟨a, bs, rfl, SqL.of h2, q H2 e2⟩
section
variable {P : Program} {w : World} {K : PySem.W.Frag} {mg : Str → Option Value} {base0 : Heap} {f f1 f2 f3 : Addr} {fd fd1 fd2 fd3 : FuncData} {k : Nat}
theorem ok_count (F : Fun K "elements_count" "elements_count" sElementsCount f fd) : FnOk P w K mg base0 CX0 (k + 1) f fd ["kind"] (spD okCount) := by
  refine F.ok scElementsCount (fun vs H Q E h => ?_) (fun cdv A outer s H vs Q E hr h => ?_)
  · obtain ⟨ds, d, all, ⟨g, rfl, _⟩, _⟩ := h
    exact all.len
  · obtain ⟨ds, d, all, ⟨g, rfl, gok, few, rfl⟩, q⟩ := h
    obtain ⟨v, rfl, hv⟩ := dts1 all
    refine ⟨_, pss_cons (ps_set (i := 1) scElementsCount.nd rfl (.inl rfl) pe_int)
      (pss_cons (ps_set (i := 2) scElementsCount.nd rfl (.inl rfl) (pe_lst (pa_cons (pv 0) pa_nil)))
      (pss_cons (ps_while PassesOwn.never (pt_truth (pv 2) (by intro _; rfl))
        (pss_cons (ps_set (i := 3) scElementsCount.nd rfl (.inl rfl) (pe_bm0 PySem.F.plainAttrs_list PySem.F.slot_list_pop PySem.F.type_list_pop mt_pop (pv 2)))
        (pss_one (ps_if (pt_cmpR op_eq (pe_ix ix_tup (pv 3) pe_int (fun _ _ => rfl)) pe_str (nomark _))
          (pss_one (ps_expr (pe_bm PySem.F.plainAttrs_list PySem.F.slot_list_extend PySem.F.type_list_extend mt_extT (pv 2) (pa_cons (pe_slice sl_tupA (pv 3) (po_some pe_int) po_none) pa_nil))))
          (pss_one (ps_if (pt_cmpR op_eq (pe_ix ix_tup (pv 3) pe_int (fun _ _ => rfl)) pe_str (nomark _))
            (pss_one (ps_set (i := 1) scElementsCount.nd rfl (.inl rfl) (pe_op op_mul (pv 1) (pe_ix ix_tup (pv 3) pe_int (fun _ _ => rfl)))))
            (pss_one (ps_ret pe_non))))))))
      (pss_one (ps_ret (pv 1))))), ?_⟩
    refine q_asg (D := { nx := _, rt := _ }) (i := 1) (v := .int 1) ev_c fun H0 e0 => ?_
    refine q_asgLn (D := { nx := _, rt := _ }) (ds := [kD g]) (eld_lst (eds_cons (ed_var rfl (hv.tk (tk_ex e0))) eds_nil) (by show (1 : Nat) ≤ 100000; decide)) fun T xs H1 nT e1 hT all1 => ?_
    have nT0 : H T = none := fresh_back e0 nT
    refine q_while (D := { nx := _, rt := _ }) (fun m σ' H' => ∃ (ys : List V) (ps : List GK) (mm : Int) (z : Option V), σ' = [some v, some (.int mm), some (.ref T), z] ∧ Ex H H' ∧ H' T = some (.lst ys) ∧ DtAll H' ys (ps.map kD) ∧ (∀ p ∈ ps, p.ok) ∧ mulO mm (gprod ps) = gcnt g ∧ nds ps ≤ 1000 ∧ m = nds ps) (nds [g])
      ⟨xs, [g], 1, none, rfl, e0.trans e1, hT, all1, (fun d hd => by rw [List.mem_singleton.mp hd]; exact gok), (by show mulO 1 ((gcnt g).bind fun x => some (x * 1)) = _; cases gcnt g <;> simp [mulO]), (by show g.nodes + 0 ≤ 1000; omega), rfl⟩ fun m σ' H' inv => ?_
    obtain ⟨ys, ps, mm, z, rfl, e2, hT2, all2, oks, eq, le, rfl⟩ := inv
    refine ⟨!ys.isEmpty, et_truL (ev_var rfl) hT2, fun hb H3 e3 => ?_, fun hb H3 e3 => ?_⟩
    · have hne : ps ≠ [] := fun z => by
        subst z
        cases all2
        cases hb
      obtain ⟨ps', g', rfl⟩ := list_end hne
      rw [List.map_append] at all2
      obtain ⟨ys', y, rfl, all', hy⟩ := all2.snoc
      have ok' := oks g' (List.mem_append.mpr (.inr (List.mem_singleton.mpr rfl)))
      have oks' : ∀ d ∈ ps', d.ok := fun d hd => oks d (List.mem_append.mpr (.inl hd))
      rw [nds_app] at le
      have wl := nds_len ps'
      have e1n : nds [g'] = g'.nodes := Nat.add_zero _
      have np := nodes_pos g'
      rw [gprod_snoc] at eq
      refine ⟨_, fun _ _ h => h, ?_⟩
      refine qd_pop (D := { nx := _, rt := _, ct := _, bk := _ }) (e3 _ _ hT2) (ev_var rfl) fun H4 e4 => ?_
      have tk4 : Tk H' (upd H4 T (.lst ys')) := (tk_ex (e3.trans e4)).trans (tk_lst ((e3.trans e4) _ _ hT2))
      have hT4 : upd H4 T (.lst ys') T = some (.lst ys') := upd_same
      have e14 : Ex H (upd H4 T (.lst ys')) := ((e2.trans e3).trans e4).mut nT0
      have all4 := all'.tk tk4
      have hy4 := hy.tk tk4
      generalize upd H4 T (.lst ys') = H5 at hT4 e14 all4 hy4 ⊢
      have room : ps'.length + 2 ≤ 100000 := by omega
      cases g' with
      | num =>
        refine s_if (D := { nx := _, rt := _, ct := _, bk := _ }) (b := false) (et_word (g := .num) (ed_var rfl hy4) (by show decide (V.str "num" = V.str "both") = false; decide +kernel)) (fun z => by cases z) fun _ H6 e6 => ?_
        refine s_if (D := { nx := _, rt := _, ct := _, bk := _ }) (b := false) (et_word (g := .num) (ed_var rfl (hy4.tk (tk_ex e6))) (by show decide (V.str "num" = V.str "few") = false; decide +kernel)) (fun z => by cases z) fun _ H7 e7 => ?_
        have : gcnt g = none := by rw [← eq]; rfl
        rw [this] at q
        exact sd_ret ed_non fun y H8 e8 hy => q y H8 (((e14.trans e6).trans e7).trans e8) hy
      | rows n =>
        refine s_if (D := { nx := _, rt := _, ct := _, bk := _ }) (b := false) (et_word (g := .rows n) (ed_var rfl hy4) (by show decide (V.str "rows" = V.str "both") = false; decide +kernel)) (fun z => by cases z) fun _ H6 e6 => ?_
        refine s_if (D := { nx := _, rt := _, ct := _, bk := _ }) (b := false) (et_word (g := .rows n) (ed_var rfl (hy4.tk (tk_ex e6))) (by show decide (V.str "rows" = V.str "few") = false; decide +kernel)) (fun z => by cases z) fun _ H7 e7 => ?_
        have : gcnt g = none := by rw [← eq]; rfl
        rw [this] at q
        exact sd_ret ed_non fun y H8 e8 hy => q y H8 (((e14.trans e6).trans e7).trans e8) hy
      | to a b =>
        refine s_if (D := { nx := _, rt := _, ct := _, bk := _ }) (b := false) (et_word (g := .to a b) (ed_var rfl hy4) (by show decide (V.str "to" = V.str "both") = false; decide +kernel)) (fun z => by cases z) fun _ H6 e6 => ?_
        refine s_if (D := { nx := _, rt := _, ct := _, bk := _ }) (b := false) (et_word (g := .to a b) (ed_var rfl (hy4.tk (tk_ex e6))) (by show decide (V.str "to" = V.str "few") = false; decide +kernel)) (fun z => by cases z) fun _ H7 e7 => ?_
        have : gcnt g = none := by rw [← eq]; rfl
        rw [this] at q
        exact sd_ret ed_non fun y H8 e8 hy => q y H8 (((e14.trans e6).trans e7).trans e8) hy
      | few n =>
        refine s_if (D := { nx := _, rt := _, ct := _, bk := _ }) (b := false) (et_word (g := .few n) (ed_var rfl hy4) (by show decide (V.str "few" = V.str "both") = false; decide +kernel)) (fun z => by cases z) fun _ H6 e6 => ?_
        refine s_if (D := { nx := _, rt := _, ct := _, bk := _ }) (b := true) (et_word (g := .few n) (ed_var rfl (hy4.tk (tk_ex e6))) (by show decide (V.str "few" = V.str "few") = true; decide +kernel)) (fun _ H7 e7 => ?_) fun z => by cases z
        have ok' : 1 ≤ n ∧ n ≤ 9 := ok'
        have e67 := e6.trans e7
        refine s_asg (v := .int (mm * n)) (ev_op (ev_var rfl) (int_ed (ed_ix (ed_k (g := .few n) (ed_var rfl (hy4.tk (tk_ex e67)))) ev_c ax1)) (rv_I (.inr (by omega)))) fun H8 e8 => ?_
        refine ⟨nds ps', by rw [nds_app, e1n]; omega, ys', ps', mm * n, _, rfl, (e14.trans e67).trans e8, (e67.trans e8) _ _ hT4, all4.tk (tk_ex (e67.trans e8)), oks', ?_, by omega, rfl⟩
        rw [← eq]
        show mulO (mm * n) (gprod ps') = mulO mm ((gprod ps').map fun y => n * y)
        cases gprod ps' <;> simp [mulO, Int.mul_assoc]
      | both a b =>
        have hy4 : Dt H5 y (.tuple [.str "both", kD a, kD b]) := hy4
        refine s_if (D := { nx := _, rt := _, ct := _, bk := _ }) (b := true) (et_word (g := .both a b) (ed_var rfl hy4) (by show decide (V.str "both" = V.str "both") = true; decide +kernel)) (fun _ H6 e6 => ?_) fun z => by cases z
        refine sd_extT (D := { nx := _, rt := _, ct := _, bk := _ }) (e6 _ _ hT4) (ev_var rfl) (ed_kids (ed_var rfl (hy4.tk (tk_ex e6)))) (by rw [all4.len, List.length_map]; exact room) fun ws H8 e8 hz => ?_
        have still : Tk H8 (upd H8 T (.lst (ys' ++ ws))) := tk_lst (e8 _ _ (e6 _ _ hT4))
        have en : GK.nodes (.both a b) = a.nodes + b.nodes + 1 := rfl
        refine ⟨nds (ps' ++ [a, b]), ?_, ys' ++ ws, ps' ++ [a, b], mm, _, rfl, ((e14.trans e6).trans e8).mut nT0, upd_same, by rw [List.map_append]; exact ((all4.tk (tk_ex (e6.trans e8))).append hz).tk still, fun d hd => ?_, ?_, ?_, rfl⟩
        · rw [nds_app, nds_app, nds_two, e1n, en]
          omega
        · rcases List.mem_append.mp hd with h | h
          · exact oks' d h
          · simp only [List.mem_cons, List.not_mem_nil, or_false] at h
            rcases h with rfl | rfl
            · exact ok'.1
            · exact ok'.2
        · have ea : ps' ++ [a, b] = (ps' ++ [a]) ++ [b] := by rw [List.append_assoc]; rfl
          rw [ea, gprod_snoc, gprod_snoc, ← eq]
          show mulO mm _ = mulO mm (((gcnt a).bind fun x => (gcnt b).map fun y => x * y).bind _)
          cases gcnt a <;> cases gcnt b <;> cases gprod ps' <;> simp [mulO, Int.mul_assoc, Int.mul_left_comm]
        · rw [nds_app, nds_two]
          rw [e1n, en] at le
          omega
    · have pe : ps = [] := by
        cases ys with
        | nil =>
          have := all2.len
          rw [List.length_map] at this
          exact List.length_eq_zero_iff.mp this.symm
        | cons _ _ => cases hb
      rw [pe] at eq
      have eq : gcnt g = some mm := by rw [← eq]; show some (mm * 1) = some mm; rw [Int.mul_one]
      rw [eq] at q
      exact sd_ret (ed_int (n := mm) (ev_var rfl)) fun y H4 e4 hy => q y H4 ((e2.trans e3).trans e4) hy
theorem ok_ew {tk : Tok} (F : Fun K "_even_width" "_even_width" sEvenWidth f fd) (m1 : mg "range" = none) (m2 : mg "all" = none) (m3 : mg "GREATEST_WIDTH" = some (.int 9 tk))
    (G1 : FnOk P w K mg base0 CX0 k f1 fd1 ["kind"] spSizes) (g1 : mg "_sizes_in" = some (.ref f1)) (kp1 : PySem.W.keepIn K (.ref f1) = true) (b1 : Binds K fd1 ["kind"] []) :
    FnOk P w K mg base0 CX0 (k + 1) f fd ["kind"] (spD okEw) := by
  refine F.ok scEvenWidth (fun vs H Q E h => ?_) (fun cdv A outer s H vs Q E hr h => ?_)
  · obtain ⟨ds, d, all, ⟨g, rfl, _⟩, _⟩ := h
    exact all.len
  · obtain ⟨ds, d, all, ⟨g, rfl, gok, few, rfl⟩, q⟩ := h
    obtain ⟨v, rfl, hv⟩ := dts1 all
    refine ⟨_, pss_cons (ps_set (i := 1) scEvenWidth.nd rfl (.inl rfl) (pe_call G1 hr (by rfl) g1 kp1 b1 .nil pass0 (pa_cons (pv 0) pa_nil)))
      (pss_cons (ps_for PassesOwn.never rfl (pi_range2 (by rfl) m1 (pa_cons pe_int (pa_cons (pe_op op_add (pe_glob (v := .int 9) (by rfl) m3 ⟨_, rfl⟩) pe_int) pa_nil))) (pg_name (i := 2) scEvenWidth.nd rfl (Or.inr rfl))
        (pss_one (ps_if (pt_val (pe_callB (cr_all rfl) (by rfl) m2 (by decide +kernel) (pa_cons (pe_lc (own := [("size", 3)]) (g := gName 3) rfl scEvenWidth.nd (pi_list (pv 1)) (blkOk_by (N := nEvenWidth) (sc := defScope sEvenWidth) (by decide +kernel))
          (fun _ _ _ _ _ => pg_name (i := 3) scEvenWidth.nd rfl (Or.inl rfl)) (fun _ _ _ _ _ => pts_nil) (fun _ _ _ _ _ => pe_cmpR op_eq (pe_op op_mod (pv 2) (pv 3)) pe_int (nomark _))) pa_nil))) (pss_one (ps_ret (pv 2))) pss_nil)))
      (pss_one (ps_ret pe_non))), ?_⟩
    refine q_asgL (D := { nx := _, rt := _ }) (i := 1) (el_sizes (ed_var rfl hv) few) fun S H1 nS e1 hS => ?_
    have szl : (gszs g).length ≤ 1000 := Nat.le_trans (gszs_len g) few
    refine q_forR2 (D := { nx := _, rt := _ }) (lo := 2) (n := 10) (ea_cons ev_c (ea_cons (ev_op ev_c ev_c rv_I0) ea_nil)) (by decide) (fun i σ' H' => ∃ z, σ' = [some v, some (.ref S), z, none] ∧ Ex H1 H' ∧ ∀ j : Nat, j < i → fits (gszs g) (2 + (j : Int)) = false)
      (fun H2 e2 => ⟨none, rfl, e2, fun j hj => absurd hj (Nat.not_lt_zero _)⟩) (fun i σ' H' lt inv => ?_) (fun σ' H' inv => ?_)
    · obtain ⟨z, rfl, e2, no⟩ := inv
      have lt8 : i < 8 := by omega
      refine s_when (D := { nx := _, rt := _, ct := _, bk := _ }) (b := fits (gszs g) (2 + (i : Int))) (et_is (et_B (ev_allV (bs := (gszs g).map fun s => decide ((2 + (i : Int)) % s = 0)) (el_is (el_lcL (fun _ => true) (fun j => .bl (decide ((2 + (i : Int)) % ((gszs g).getD j 1) = 0))) (ev_var rfl) (SqL.of (e2 _ _ hS)) (by rw [List.length_map]; omega) (fun _ => rfl) (fun j x H3 e3 hx => et_yes rfl) (fun j x H3 e3 hx _ => ?_)) ?_))) ?_) (fun hb H3 e3 => ?_) fun hb H3 e3 => ?_
      · obtain ⟨s, hs, rfl⟩ := map_at hx
        have s1 := (gszs_ok g gok s (List.mem_of_getElem? hs)).1
        have es : (gszs g).getD j 1 = s := by rw [List.getD_eq_getElem?_getD, hs]; rfl
        rw [es]
        exact ev_is (ev_op (ev_op (ev_var rfl) (ev_var rfl) (rv_I (by show (0 : Int) < s; omega))) ev_c (rv_eq rfl)) (by congr 1; exact decide_eq_decide.mpr ⟨fun z => by injection z, fun z => by rw [z]⟩)
      · unfold given
        rw [List.filter_eq_self.mpr fun _ _ => rfl, List.length_map, List.map_map]
        apply List.ext_getElem
        · simp
        · intro j h1 h2
          simp at h1 h2
          simp [h1]
      · unfold fits
        rw [List.all_map]
        rfl
      · have := ew_some lt8 no hb
        rw [this] at q
        exact sd_ret (ed_int (n := 2 + (i : Int)) (ev_var rfl)) fun y H4 e4 hy => q y H4 (((e1.trans e2).trans e3).trans e4) hy
      · refine ⟨_, rfl, e2.trans e3, fun j hj => ?_⟩
        by_cases z : j = i
        · rw [z]; exact hb
        · exact no j (by omega)
    · obtain ⟨z, rfl, e2, no⟩ := inv
      have := ew_no (sz := gszs g) no
      rw [this] at q
      exact sd_ret ed_non fun y H4 e4 hy => q y H4 ((e1.trans e2).trans e4) hy
theorem ok_isEven (F : Fun K "is_even" "is_even" sIsEven f fd)
    (G1 : FnOk P w K mg base0 CX0 k f1 fd1 ["kind"] (spD okEw)) (g1 : mg "_even_width" = some (.ref f1)) (kp1 : PySem.W.keepIn K (.ref f1) = true) (b1 : Binds K fd1 ["kind"] []) :
    FnOk P w K mg base0 CX0 (k + 1) f fd ["kind"] (spD okIsEven) := by
  refine F.ok scIsEven (fun vs H Q E h => ?_) (fun cdv A outer s H vs Q E hr h => ?_)
  · obtain ⟨ds, d, all, ⟨g, rfl, _⟩, _⟩ := h
    exact all.len
  · obtain ⟨ds, d, all, ⟨g, rfl, gok, few, rfl⟩, q⟩ := h
    obtain ⟨v, rfl, hv⟩ := dts1 all
    refine ⟨_, pss_one (ps_ret (pe_cmpR op_notN1 (pe_call G1 hr (by rfl) g1 kp1 b1 .nil pass0 (pa_cons (pv 0) pa_nil)) pe_non (nomark _))), ?_⟩
    have ec := ed_call (E := E0) (ta := tCons (tVar 0) tNil) (σ := [some v]) (H := H) (ok := okEw) (d := optD (ew (gszs g))) (eds_cons (ed_var rfl hv) eds_nil) ⟨g, rfl, gok, few, rfl⟩
    refine sd_ret (d := .bool (ew (gszs g)).isSome) (fun H1 e1 Q1 q1 => ec H1 e1 _ fun x H2 e2 hx => ⟨rfl, q1 _ H2 e2 ?_⟩) q
    cases he : ew (gszs g) with
    | none => rw [he] at hx; cases hx; exact .bl _
    | some n => rw [he] at hx; cases hx; exact .bl _
theorem ok_width (F : Fun K "width_of" "width_of" sWidthOf f fd) (m1 : mg "max" = none)
    (G1 : FnOk P w K mg base0 CX0 k f1 fd1 ["kind"] (spD okEw)) (g1 : mg "_even_width" = some (.ref f1)) (kp1 : PySem.W.keepIn K (.ref f1) = true) (b1 : Binds K fd1 ["kind"] [])
    (G2 : FnOk P w K mg base0 CX0 k f2 fd2 ["kind"] spSizes) (g2 : mg "_sizes_in" = some (.ref f2)) (kp2 : PySem.W.keepIn K (.ref f2) = true) (b2 : Binds K fd2 ["kind"] []) :
    FnOk P w K mg base0 CX0 (k + 1) f fd ["kind"] (spD okWidth) := by
  refine F.ok scWidthOf (fun vs H Q E h => ?_) (fun cdv A outer s H vs Q E hr h => ?_)
  · obtain ⟨ds, d, all, ⟨s, w, rfl, _⟩, _⟩ := h
    exact all.len
  · obtain ⟨ds, d, all, ⟨s, w, rfl, sok, sd, wid, rfl⟩, q⟩ := h
    obtain ⟨v, rfl, hv⟩ := dts1 all
    refine ⟨_, pss_cons (ps_set (i := 1) scWidthOf.nd rfl (.inl rfl) (pe_call G1 hr (by rfl) g1 kp1 b1 .nil pass0 (pa_cons (pv 0) pa_nil)))
      (pss_one (ps_ret (pe_ifExp (pt_cmpR op_isN1 (pv 1) pe_non (nomark _)) (pe_callB (cr_max rfl) (by rfl) m1 (by decide +kernel) (pa_cons (pe_lst (pa_cons pe_int (StX.pa_star (pe_call G2 hr (by rfl) g2 kp2 b2 .nil pass0 (pa_cons (pv 0) pa_nil)) pa_nil))) pa_nil)) (pv 1)))), ?_⟩
    have n100 := nodes_few sd
    have sl : (szs s).length ≤ 1000 := by
      have := gszs_len (gk s)
      rw [gszs_gk] at this
      omega
    refine q_asgD (D := { nx := _, rt := _ }) (i := 1) (d := optD (ew (szs s))) (ed_call (eds_cons (ed_var rfl hv) eds_nil) ⟨gk s, rfl, gk_ok s sok, by omega, by rw [gszs_gk]⟩) fun wv H1 e1 hw => ?_
    have hv1 := hv.tk (tk_ex e1)
    have hn : EvT (tTest (tOp rIsN (tVar 1) (tC .non))) [some v, some wv] H1 (ew (szs s)).isNone := fun H2 e2 Q2 q2 => ⟨wv, rfl, rfl, (ew (szs s)).isNone, by
      cases he : ew (szs s) with
      | none => rw [he] at hw; cases hw; rfl
      | some n => rw [he] at hw; cases hw; rfl, q2 H2 (Ex.refl _)⟩
    refine sd_ret (D := { nx := _, rt := _ }) (d := .int w) (ed_int (ev_if hn (fun hb => ?_) fun hb => ?_)) fun y H2 e2 hy => q y H2 (e1.trans e2) hy
    · have ne : ew (szs s) = none := by cases he : ew (szs s) with
        | none => rfl
        | some n => rw [he] at hb; cases hb
      obtain ⟨x2, hx2, ge2⟩ := ew_none ne fun x hx => (szs_ok s sok x hx).1
      have mx : IsMax w (szs s) := by
        rcases wid with z | z
        · rw [ne] at z; cases z
        · exact z.2
      have sg : EvL (tCall spSizes [] E0 (tCons (tVar 0) tNil)) [some v, some wv] H1 ((gszs (gk s)).map V.int) := el_sizes (ed_var rfl hv1) (by omega)
      intro H2 e2 Q2 q2
      refine sg H2 e2 _ fun p H3 np e3 hp => ?_
      rw [gszs_gk] at hp
      refine ⟨p, _, rfl, .inr (SqL.of hp), ?_⟩
      show (V.int 2 :: ((szs s).map V.int ++ [])).length ≤ sizeLine ∧ ∀ (p : Addr), H3 p = none → rMax K [.ref p] (upd H3 p (.lst (V.int 2 :: ((szs s).map V.int ++ [])))) Q2
      rw [List.append_nil]
      refine ⟨sz_of (by rw [List.length_cons, List.length_map]; omega), fun p' np' => ⟨p', 2 :: szs s, rfl, SqL.of upd_same, by simp, fun m hm hx => ?_⟩⟩
      have : m = w := by
        rcases List.mem_cons.mp hm with z | z
        · have := mx.2 x2 hx2
          have := hx w (List.mem_cons_of_mem _ mx.1)
          have := hx x2 (List.mem_cons_of_mem _ hx2)
          omega
        · have := mx.2 m z
          have := hx w (List.mem_cons_of_mem _ mx.1)
          omega
      rw [this]
      exact q2 _ (e3.trans (Ex.new np'))
    · obtain ⟨n, hn⟩ : ∃ n, ew (szs s) = some n := by cases he : ew (szs s) with
        | none => rw [he] at hb; cases hb
        | some n => exact ⟨n, rfl⟩
      have : n = w := Wid.one (.inl hn) wid
      rw [hn, this] at hw
      cases hw
      exact ev_var rfl
end
end K10
set_option Elab.async false
set_option linter.all false
set_option maxRecDepth 100000
set_option maxHeartbeats 1000000
namespace K10
open PySem PySem.Spec PyProof.Rows L2 Evl
def okIsAddr (ds : List PyData) (d : PyData) : Prop := ∃ (s : SK) (es : List PyData), ds = [skD s, .tuple es] ∧ es.length ≤ 1000 ∧ d = .bool (isA s es)
def okJoin (ds : List PyData) (d : PyData) : Prop := ∃ a b : Int, ds = [.int a, .int b] ∧ 0 ≤ a ∧ a ≤ atop ∧ 0 ≤ b ∧ b ≤ atop ∧ d = .int (joinI a b)
def okAIdx (ds : List PyData) (d : PyData) : Prop := ∃ (s : SK) (l : List Int), ds = [skD s, intsD l] ∧ adr s l ∧ l.length ≤ 1000 ∧ d = .int (idx s l)
def adD : Option (List Int) → PyData
  | some l => intsD l
  | none => .none
def okIAd (ds : List PyData) (d : PyData) : Prop := ∃ (s : SK) (i : Int), ds = [skD s, .int i] ∧ dep s ≤ 100 ∧ 0 ≤ i ∧ i ≤ atop ∧ d = adD (if i < atop then iad s i else none)
def swd : SK → Str
  | .few _ => "few"
  | .rows _ => "rows"
  | .to _ => "to"
  | .both _ _ => "both"
theorem swd_gk (s : SK) : wd (gk s) = swd s := by cases s <;> rfl
section
variable {K : PySem.W.Frag} {σ : L2.St} {H H' : Hp} {te ta tb : TE} {s a b : SK} {x i : Int} {c : Str} {r : Bool}
theorem et_sw (h : EvD te σ H (skD s)) (e : decide (V.str (swd s) = V.str c) = r) : EvT (tTest (tOp rEq (tOp (rIxT K) te (tC (.int 0))) (tC (.str c)))) σ H r := et_word (g := gk s) h (by rw [swd_gk]; exact e)
theorem ed_to (h : EvD te σ H (skD (.to b))) : EvD (tOp (rIxT K) te (tC (.int 2))) σ H (skD b) := ed_ix (ed_k (g := gk (.to b)) h) ev_c ax2
theorem ed_both (h : EvD te σ H (skD (.both a b))) (hx : x = 0 ∨ x = 1) (hi : Ev tb σ H (.int x)) : EvD (tOp (rIxT K) te (tOp (rI0 fun i j => .int (i + j)) (tC (.int 1)) tb)) σ H (skD (nxt a b x)) := by
  rcases hx with rfl | rfl
  · exact ed_ix (ed_k (g := gk (.both a b)) h) (ev_op ev_c hi rv_I0) ax1
  · exact ed_ix (ed_k (g := gk (.both a b)) h) (ev_op ev_c hi rv_I0) ax2
end
theorem ed_ifD {σ : L2.St} {H : Hp} {t : TT} {ta tb : TE} {d : PyData} {b : Bool} (h : EvT t σ H b) (h1 : b = true → EvD ta σ H d) (h2 : b = false → EvD tb σ H d) : EvD (tIf t ta tb) σ H d := fun H1 e Q q => h H1 e _ fun H2 e2 => by
  cases b with
  | true => exact h1 rfl H2 (e.trans e2) Q fun x H3 e3 hx => q x H3 (e2.trans e3) hx
  | false => exact h2 rfl H2 (e.trans e2) Q fun x H3 e3 hx => q x H3 (e2.trans e3) hx
theorem isA_both {a b : SK} {x : PyData} {r : List PyData} (h : between x 0 1 = false) : isA (.both a b) (x :: r) = false := by
  cases x with
  | int n =>
    have h : (decide (0 ≤ n) && decide (n ≤ 1)) = false := h
    show (if n = 0 then isA a r else if n = 1 then isA b r else false) = false
    by_cases z : n = 0
    · subst z; cases h
    · by_cases z1 : n = 1
      · subst z1; cases h
      · rw [if_neg z, if_neg z1]
  | _ => rfl
theorem bet_int {x : PyData} {lo hi : Int} (h : between x lo hi = true) : ∃ n, x = .int n ∧ lo ≤ n ∧ n ≤ hi := by
  cases x with
  | int n =>
    have h : (decide (lo ≤ n) && decide (n ≤ hi)) = true := h
    obtain ⟨h1, h2⟩ := Bool.and_eq_true_iff.mp h
    exact ⟨n, rfl, of_decide_eq_true h1, of_decide_eq_true h2⟩
  | _ => cases h
section
variable {P : Program} {w : World} {K : PySem.W.Frag} {mg : Str → Option Value} {base0 : Heap} {f f1 f2 f3 : Addr} {fd fd1 fd2 fd3 : FuncData} {k : Nat}
theorem ok_isAddr {tk : Tok} (F : Fun K "is_address" "is_address" sIsAddress f fd) (m1 : mg "isinstance" = none) (m2 : mg "tuple" = none) (m3 : mg "enumerate" = none) (m4 : mg "len" = none) (m5 : mg "TOP" = some (.int 999999999999999999 tk))
    (G1 : FnOk P w K mg base0 CX0 k f1 fd1 ["value", "low", "high"] (spD okBetween)) (g1 : mg "is_between" = some (.ref f1)) (kp1 : PySem.W.keepIn K (.ref f1) = true) (b1 : Binds K fd1 ["value", "low", "high"] []) :
    FnOk P w K mg base0 CX0 (k + 1) f fd ["kind", "value"] (spD okIsAddr) := by
  refine F.ok scIsAddress (fun vs H Q E h => ?_) (fun cdv A outer s H vs Q E hr h => ?_)
  · obtain ⟨ds, d, all, ⟨s, es, rfl, _⟩, _⟩ := h
    exact all.len
  · obtain ⟨ds, d, all, ⟨s, es, rfl, few, rfl⟩, q⟩ := h
    obtain ⟨v, vv, rfl, hv, hvv⟩ := dts2 all
    refine ⟨_, pss_cons (ps_if (pt_not (pt_val (pe_callB call_isi (by rfl) m1 (by decide +kernel) (pa_cons (pv 1) (pa_cons (pe_bltn (v := .ty "tuple") (by rfl) m2 (by decide +kernel) rfl) pa_nil))))) (pss_one (ps_ret pe_bl)) pss_nil)
      (pss_cons (ps_for PassesOwn.never rfl (pi_enB (k := false) (by rfl) m3 (pa_cons (pv 1) pa_nil)) (pg_tup (n := 2) (by rfl) (pgs_cons (pg_name (i := 2) scIsAddress.nd rfl (Or.inl rfl)) (pgs_cons (pg_name (i := 3) scIsAddress.nd rfl (Or.inl rfl)) pgs_nil)))
        (pss_cons (ps_set (i := 4) scIsAddress.nd rfl (.inl rfl) (pe_ifExp (pt_cmpR op_eq (pe_ix ix_tup (pv 0) pe_int (fun _ _ => rfl)) pe_str (nomark _)) pe_int (pe_glob (v := .int 999999999999999999) (by rfl) m5 ⟨_, rfl⟩)))
        (pss_cons (ps_if (PW.pt (pw_or (pt_cmpR op_eq (pe_ix ix_tup (pv 0) pe_int (fun _ _ => rfl)) pe_str (nomark _)) (pw_or1 (pt_not (pt_val (pe_call G1 hr (by rfl) g1 kp1 b1 .nil pass0 (pa_cons (pv 3) (pa_cons pe_int (pa_cons (pv 4) pa_nil))))))))) (pss_one (ps_ret pe_bl)) pss_nil)
        (pss_cons (ps_if (pt_cmpR op_eq (pe_ix ix_tup (pv 0) pe_int (fun _ _ => rfl)) pe_str (nomark _)) (pss_one (ps_ret (pe_cmpR op_eq (pv 2) (pe_op op_sub (pe_callB call_len_seq (by rfl) m4 (by decide +kernel) (pa_cons (pv 1) pa_nil)) pe_int) (nomark _)))) pss_nil)
        (pss_one (ps_set (i := 0) scIsAddress.nd rfl (.inl rfl) (pe_ifExp (pt_cmpR op_eq (pe_ix ix_tup (pv 0) pe_int (fun _ _ => rfl)) pe_str (nomark _)) (pe_ix ix_tup (pv 0) (pe_op op_add pe_int (pv 3)) (fun _ _ => rfl)) (pe_ix ix_tup (pv 0) pe_int (fun _ _ => rfl)))))))))
      (pss_one (ps_ret (pe_cmpR op_eq (pe_ix ix_tup (pv 0) pe_int (fun _ _ => rfl)) pe_str (nomark _))))), ?_⟩
    refine q_when (D := { nx := _, rt := _ }) (b := false) (et_notTup (ed_var rfl hvv)) (fun z => by cases z) fun _ H1 e1 => ?_
    have hv1 := hv.tk (tk_ex e1)
    have hvv1 := hvv.tk (tk_ex e1)
    obtain ⟨a, bx, rfl, ha, allb⟩ := dt_tup hvv1
    refine ⟨_, rfl, a, bx, rfl, SqT.of ha, ?_⟩
    refine for_it (walk_enB (K := K) (k := false) (a := a) (xs := bx)) (fun t σ'' H'' => ∃ (y : V) (st : SK) (z2 z3 z4 : Option V), σ'' = [some y, some (.ref a), z2, z3, z4] ∧ Ex H1 H'' ∧ Dt H'' y (skD st) ∧ isA s es = isA st (es.drop t))
      ⟨v, s, none, none, none, rfl, Ex.refl _, hv1, rfl⟩ (fun t σ'' H'' _ p => ?_) (fun t y σ'' H9 H10 ht p hy => ?_) (fun σ'' H'' p => ?_)
    · obtain ⟨y, st, z2, z3, z4, rfl, e9, _⟩ := p
      exact SqT.of (e9 _ _ ha)
    · obtain ⟨yk, st, z2, z3, z4, rfl, e9, hk, eq⟩ := p
      obtain ⟨T', v1, v2, rfl, nT', rfl, g1', g2⟩ := hy
      cases Option.some.inj g1'
      have g2 : bx[t]? = some v2 := g2
      have ht' : t < es.length := by rw [← allb.len]; exact ht
      obtain ⟨v2', hv2, hdb⟩ := allb.get (List.getElem?_eq_getElem ht')
      rw [g2] at hv2
      cases hv2
      rw [List.drop_eq_getElem_cons ht'] at eq
      generalize hx : es[t] = x at hdb eq
      generalize hr' : es.drop (t + 1) = r at eq
      have rl : r.length = es.length - (t + 1) := by rw [← hr', List.length_drop]
      have e10 : Ex H9 (upd H9 T' (.tup [.int (t : Int), v2])) := Ex.new nT'
      refine ⟨T', _, rfl, SqT.of upd_same, rfl, _, _, rfl, _, _, rfl, rfl, ?_⟩
      have e910 := e9.trans e10
      generalize upd H9 T' (.tup [.int (t : Int), v2]) = H11 at e10 e910 ⊢
      have hk11 := hk.tk (tk_ex e10)
      have hx11 := hdb.tk (tk_ex e910)
      have hvv11 : Dt H11 (.ref a) (.tuple es) := (Dt.tup ha allb).tk (tk_ex e910)
      have done : ∀ {H9 : Hp} {te : TE} {D : Ends} {b : Bool} {σ : L2.St}, Ex H11 H9 → Ev te σ H9 (.bl b) → isA s es = b → D.rt = Q → tRet te D σ H9 := fun e9 h9 eb eD => by
        refine sd_ret (ed_bool h9) fun y H10 e10 hy => ?_
        rw [eD]
        rw [eb] at q
        exact q y H10 (((e1.trans e910).trans e9).trans e10) hy
      cases st with
      | few n =>
        refine q_asg (D := { nx := _, rt := _, bk := _, ct := _ }) (i := 4) (v := .int 999999999999999999) (ev_if (b := false) (et_sw (s := .few n) (ed_var rfl hk11) (by show decide (V.str "few" = V.str "both") = false; decide +kernel)) (fun z => by cases z) fun _ => ev_c) fun H12 e12 => ?_
        refine q_when (D := { nx := _, rt := _, bk := _, ct := _ }) (b := true) (et_is (et_or (a := true) (b := true) (et_sw (s := .few n) (ed_var rfl (hk11.tk (tk_ex e12))) (by show decide (V.str "few" = V.str "few") = true; decide +kernel)) fun z => by cases z) rfl) (fun _ H13 e13 => ?_) fun z => by cases z
        exact done (e12.trans e13) ev_c (by rw [eq]; rfl) rfl
      | rows n =>
        refine q_asg (D := { nx := _, rt := _, bk := _, ct := _ }) (i := 4) (v := .int 999999999999999999) (ev_if (b := false) (et_sw (s := .rows n) (ed_var rfl hk11) (by show decide (V.str "rows" = V.str "both") = false; decide +kernel)) (fun z => by cases z) fun _ => ev_c) fun H12 e12 => ?_
        have hk12 := hk11.tk (tk_ex e12)
        refine q_when (D := { nx := _, rt := _, bk := _, ct := _ }) (b := !between x 0 atop) (et_is (et_or (a := false) (et_sw (s := .rows n) (ed_var rfl hk12) (by show decide (V.str "rows" = V.str "few") = false; decide +kernel)) fun _ => et_not (et_B (bool_ed (ed_call (eds_cons (ed_var rfl (hx11.tk (tk_ex e12))) (eds_cons (ed_int ev_c) (eds_cons (ed_int (ev_var rfl)) eds_nil))) ⟨x, 0, atop, rfl, rfl⟩)))) (Bool.false_or _)) (fun hb H13 e13 => ?_) fun hb H13 e13 => ?_
        · refine done (e12.trans e13) ev_c ?_ rfl
          rw [eq]
          have : between x 0 atop = false := by simpa using hb
          cases r with
          | nil => exact this
          | cons _ _ => rfl
        · have bt : between x 0 atop = true := by simpa using hb
          have hk13 := hk12.tk (tk_ex e13)
          refine q_when (D := { nx := _, rt := _, bk := _, ct := _ }) (b := true) (et_sw (s := .rows n) (ed_var rfl hk13) (by show decide (V.str "rows" = V.str "rows") = true; decide +kernel)) (fun _ H14 e14 => ?_) fun z => by cases z
          refine done (b := decide ((V.int (t : Int)) = V.int ((es.length : Int) - 1))) ((e12.trans e13).trans e14) (ev_op (ev_var rfl) (ev_op (ev_lenT (ed_var rfl (hvv11.tk (tk_ex ((e12.trans e13).trans e14))))) ev_c rv_I0) (rv_eq rfl)) ?_ rfl
          rw [eq]
          cases r with
          | nil =>
            have rl : (0 : Nat) = es.length - (t + 1) := rl
            show between x 0 atop = _
            rw [bt]
            exact (decide_eq_true (congrArg V.int (by omega))).symm
          | cons c r' =>
            have rl : r'.length + 1 = es.length - (t + 1) := rl
            show false = _
            exact (decide_eq_false fun z => by injection z with z; omega).symm
      | to b =>
        refine q_asg (D := { nx := _, rt := _, bk := _, ct := _ }) (i := 4) (v := .int 999999999999999999) (ev_if (b := false) (et_sw (s := .to b) (ed_var rfl hk11) (by show decide (V.str "to" = V.str "both") = false; decide +kernel)) (fun z => by cases z) fun _ => ev_c) fun H12 e12 => ?_
        have hk12 := hk11.tk (tk_ex e12)
        refine q_when (D := { nx := _, rt := _, bk := _, ct := _ }) (b := !between x 0 atop) (et_is (et_or (a := false) (et_sw (s := .to b) (ed_var rfl hk12) (by show decide (V.str "to" = V.str "few") = false; decide +kernel)) fun _ => et_not (et_B (bool_ed (ed_call (eds_cons (ed_var rfl (hx11.tk (tk_ex e12))) (eds_cons (ed_int ev_c) (eds_cons (ed_int (ev_var rfl)) eds_nil))) ⟨x, 0, atop, rfl, rfl⟩)))) (Bool.false_or _)) (fun hb H13 e13 => ?_) fun hb H13 e13 => ?_
        · refine done (e12.trans e13) ev_c ?_ rfl
          rw [eq]
          have : between x 0 atop = false := by simpa using hb
          show (between x 0 atop && isA b r) = false
          rw [this]
          rfl
        · have bt : between x 0 atop = true := by simpa using hb
          have hk13 := hk12.tk (tk_ex e13)
          refine q_when (D := { nx := _, rt := _, bk := _, ct := _ }) (b := false) (et_sw (s := .to b) (ed_var rfl hk13) (by show decide (V.str "to" = V.str "rows") = false; decide +kernel)) (fun z => by cases z) fun _ H14 e14 => ?_
          have hk14 := hk13.tk (tk_ex e14)
          refine sd_asg (d := skD b) (ed_ifD (b := false) (et_sw (s := .to b) (ed_var rfl hk14) (by show decide (V.str "to" = V.str "both") = false; decide +kernel)) (fun z => by cases z) fun _ => ed_to (ed_var rfl hk14)) fun yk' H15 e15 hk15 => ?_
          refine ⟨yk', b, _, _, _, rfl, (((e910.trans e12).trans e13).trans e14).trans e15, hk15, ?_⟩
          rw [eq]
          show (between x 0 atop && isA b r) = _
          rw [bt]
          rfl
      | both aa b =>
        refine q_asg (D := { nx := _, rt := _, bk := _, ct := _ }) (i := 4) (v := .int 1) (ev_if (b := true) (et_sw (s := .both aa b) (ed_var rfl hk11) (by show decide (V.str "both" = V.str "both") = true; decide +kernel)) (fun _ => ev_c) fun z => by cases z) fun H12 e12 => ?_
        have hk12 := hk11.tk (tk_ex e12)
        refine q_when (D := { nx := _, rt := _, bk := _, ct := _ }) (b := !between x 0 1) (et_is (et_or (a := false) (et_sw (s := .both aa b) (ed_var rfl hk12) (by show decide (V.str "both" = V.str "few") = false; decide +kernel)) fun _ => et_not (et_B (bool_ed (ed_call (eds_cons (ed_var rfl (hx11.tk (tk_ex e12))) (eds_cons (ed_int ev_c) (eds_cons (ed_int (ev_var rfl)) eds_nil))) ⟨x, 0, 1, rfl, rfl⟩)))) (Bool.false_or _)) (fun hb H13 e13 => ?_) fun hb H13 e13 => ?_
        · refine done (e12.trans e13) ev_c ?_ rfl
          rw [eq]
          exact isA_both (by simpa using hb)
        · have bt : between x 0 1 = true := by simpa using hb
          obtain ⟨n, rfl, n0, n1⟩ := bet_int bt
          cases dt_int hx11
          have hk13 := hk12.tk (tk_ex e13)
          refine q_when (D := { nx := _, rt := _, bk := _, ct := _ }) (b := false) (et_sw (s := .both aa b) (ed_var rfl hk13) (by show decide (V.str "both" = V.str "rows") = false; decide +kernel)) (fun z => by cases z) fun _ H14 e14 => ?_
          have hk14 := hk13.tk (tk_ex e14)
          refine sd_asg (d := skD (nxt aa b n)) (ed_ifD (b := true) (et_sw (s := .both aa b) (ed_var rfl hk14) (by show decide (V.str "both" = V.str "both") = true; decide +kernel)) (fun _ => ed_both (ed_var rfl hk14) (by omega) (ev_var rfl)) fun z => by cases z) fun yk' H15 e15 hk15 => ?_
          refine ⟨yk', nxt aa b n, _, _, _, rfl, (((e910.trans e12).trans e13).trans e14).trans e15, hk15, ?_⟩
          rw [eq]
          show (if n = 0 then isA aa r else if n = 1 then isA b r else false) = isA (if n = 0 then aa else b) r
          by_cases z : n = 0
          · rw [if_pos z, if_pos z]
          · rw [if_neg z, if_neg z, if_pos (by omega)]
    · obtain ⟨yk, st, z2, z3, z4, rfl, e9, hk, eq⟩ := p
      rw [allb.len, List.drop_length] at eq
      have fin : ∀ b : Bool, decide (V.str (swd st) = V.str "few") = b → isA st [] = b → tRet (tOp rEq (tOp (rIxT K) (tVar 0) (tC (.int 0))) (tC (.str "few"))) { nx := fun x H' => Q V.non H', rt := Q } [some yk, some (.ref a), z2, z3, z4] H'' := fun b h1 h2 => by
        rw [eq, h2] at q
        refine sd_ret (D := { nx := _, rt := _ }) (ed_bool (ev_is (ev_eqW (ev_wd (g := gk st) (ed_var rfl hk))) (by rw [swd_gk, h1]))) fun y H10 e10 hy => q y H10 ((e1.trans e9).trans e10) hy
      cases st with
      | few n => exact fin true (by show decide (V.str "few" = V.str "few") = true; decide +kernel) rfl
      | rows n => exact fin false (by show decide (V.str "rows" = V.str "few") = false; decide +kernel) rfl
      | to b => exact fin false (by show decide (V.str "to" = V.str "few") = false; decide +kernel) rfl
      | both a b => exact fin false (by show decide (V.str "both" = V.str "few") = false; decide +kernel) rfl
end
end K10
set_option Elab.async false
set_option linter.all false
set_option maxRecDepth 100000
set_option maxHeartbeats 1000000
namespace K10
open PySem PySem.Spec PyProof.Rows L2 Evl
def rIsqrt : List V → Hp → VK → Prop := fun vs H Q => ∃ a : Int, vs = [.int a] ∧ 0 ≤ a ∧ a < 2 ^ 64 ∧ Q (.int ((Float64.isqrt a.toNat : Nat) : Int)) H
theorem cr_isqrt {X : Cx} : CallR X (.builtin "math.isqrt") rIsqrt := by
  intro pins s σ H vs us Q I r h
  obtain ⟨a, rfl, h0, h1, q⟩ := h
  obtain ⟨u, rfl, ru⟩ := vals1 r
  obtain ⟨t, rfl⟩ := ru
  exact PySem.W.mg_isqrt h0 h1 ⟨.int _, H, I.tok _, ⟨_, rfl⟩, q⟩
theorem ev_isqrt {σ : L2.St} {H : Hp} {te : TE} {a : Int} (h : Ev te σ H (.int a)) (h0 : 0 ≤ a) (h1 : a < 2 ^ 64) : Ev (tCB rIsqrt (tCons te tNil)) σ H (.int ((Float64.isqrt a.toNat : Nat) : Int)) := fun H1 e1 Q q => h H1 e1 _ fun H2 e2 => ⟨a, rfl, h0, h1, q H2 e2⟩
theorem trI_eq {i : Int} (h : 0 ≤ i) : ((Float64.isqrt (8 * i + 1).toNat : Nat) - 1 : Int) / 2 = trI i := by
  unfold trI tri
  have e : (8 * i + 1).toNat = 8 * i.toNat + 1 := by omega
  rw [e]
  have := isqrt_ok (8 * i.toNat + 1)
  have s1 : 1 ≤ Float64.isqrt (8 * i.toNat + 1) := by
    rcases Nat.eq_zero_or_pos (Float64.isqrt (8 * i.toNat + 1)) with z | z
    · have h2 := this.2
      rw [z] at h2
      omega
    · exact z
  omega
theorem ev_chain2L {σ : L2.St} {H : Hp} {ta tb tc : TE} {a b c : Int} (ha : Ev ta σ H (.int a)) (hb : Ev tb σ H (.int b)) (hc : Ev tc σ H (.int c)) :
    Ev (tChain (rI0 fun i j => .bl (decide (i ≤ j))) (rI0 fun i j => .bl (decide (i < j))) ta tb tc) σ H (.bl (decide (a ≤ b) && decide (b < c))) := fun H1 e Q q =>
  ha H1 e _ fun H2 e2 => hb H2 (e.trans e2) _ fun H3 e3 => ⟨a, b, rfl, rfl, _, rfl, by
    by_cases h : a ≤ b
    · rw [decide_eq_true h, if_pos rfl]
      refine hc H3 ((e.trans e2).trans e3) _ fun H4 e4 => ⟨b, c, rfl, rfl, ?_⟩
      have z := q H4 ((e2.trans e3).trans e4)
      rw [decide_eq_true h, Bool.true_and] at z
      exact z
    · rw [decide_eq_false h, if_neg (by decide)]
      have z := q H3 (e2.trans e3)
      rw [decide_eq_false h, Bool.false_and] at z
      exact z⟩
/-! ### the way of an address -/
def parts : SK → List Int → List (Str × Int)
  | .few _, _ => []
  | .rows _, l => [("rows", l.headD 0)]
  | .to b, l => ("to", l.headD 0) :: parts b l.tail
  | .both a b, l => ("both", l.headD 0) :: (if l.headD 0 = 0 then parts a l.tail else parts b l.tail)
def comb (p : Str × Int) (i : Int) : Int := if p.1 = "rows" then p.2 else if p.1 = "both" then min (2 * i + p.2) atop else joinI p.2 i
def pD (p : Str × Int) : PyData := .tuple [.str p.1, .int p.2]
theorem idx_parts : ∀ (s : SK) (l : List Int), adr s l → idx s l = (parts s l).foldr comb 0
  | .few n, l, h => rfl
  | .rows n, l, h => by
    show l.headD 0 = comb ("rows", l.headD 0) 0
    unfold comb
    rw [if_pos rfl]
  | .to b, l, h => by
    obtain ⟨x, r, rfl, h0, h1, h2⟩ := h
    show joinI x (idx b r) = comb ("to", x) ((parts b r).foldr comb 0)
    unfold comb
    rw [if_neg (by show ¬ ("to" : Str) = "rows"; decide +kernel), if_neg (by show ¬ ("to" : Str) = "both"; decide +kernel), idx_parts b r h2]
    rfl
  | .both a b, l, h => by
    obtain ⟨x, r, rfl, h | h⟩ := h
    · obtain ⟨rfl, h⟩ := h
      show min atop (2 * idx a r + 0) = comb ("both", 0) ((parts a r).foldr comb 0)
      unfold comb
      rw [if_neg (by decide +kernel), if_pos rfl, idx_parts a r h, Int.min_comm]
      rfl
    · obtain ⟨rfl, h⟩ := h
      show min atop (2 * idx b r + 1) = comb ("both", 1) ((parts b r).foldr comb 0)
      unfold comb
      rw [if_neg (by decide +kernel), if_pos rfl, idx_parts b r h, Int.min_comm]
      rfl
def POk (p : Str × Int) : Prop := 0 ≤ p.2 ∧ p.2 ≤ atop ∧ (p.1 = "rows" ∨ p.1 = "both" ∨ p.1 = "to")
theorem parts_ok : ∀ (s : SK) (l : List Int), adr s l → (∀ p ∈ parts s l, POk p) ∧ (parts s l).length = l.length
  | .few n, l, h => by cases (show l = [] from h); exact ⟨fun p hp => absurd hp List.not_mem_nil, rfl⟩
  | .rows n, l, h => by
    obtain ⟨x, rfl, h0, h1⟩ := h
    exact ⟨fun p hp => by rw [List.mem_singleton.mp hp]; exact ⟨h0, h1, .inl rfl⟩, rfl⟩
  | .to b, l, h => by
    obtain ⟨x, r, rfl, h0, h1, h2⟩ := h
    obtain ⟨k1, k2⟩ := parts_ok b r h2
    refine ⟨fun p hp => ?_, congrArg Nat.succ k2⟩
    rcases List.mem_cons.mp hp with rfl | hp
    · exact ⟨h0, h1, .inr (.inr rfl)⟩
    · exact k1 p hp
  | .both a b, l, h => by
    obtain ⟨x, r, rfl, h | h⟩ := h
    · obtain ⟨rfl, h⟩ := h
      obtain ⟨k1, k2⟩ := parts_ok a r h
      refine ⟨fun p hp => ?_, congrArg Nat.succ k2⟩
      rcases List.mem_cons.mp hp with rfl | hp
      · exact ⟨by show (0 : Int) ≤ 0; decide, by show (0 : Int) ≤ atop; decide, .inr (.inl rfl)⟩
      · exact k1 p hp
    · obtain ⟨rfl, h⟩ := h
      obtain ⟨k1, k2⟩ := parts_ok b r h
      refine ⟨fun p hp => ?_, congrArg Nat.succ k2⟩
      rcases List.mem_cons.mp hp with rfl | hp
      · exact ⟨by show (0 : Int) ≤ 1; decide, by show (1 : Int) ≤ atop; decide, .inr (.inl rfl)⟩
      · exact k1 p hp
theorem comb_rng {p : Str × Int} {i : Int} (h : POk p) (h0 : 0 ≤ i) (h1 : i ≤ atop) : 0 ≤ comb p i ∧ comb p i ≤ atop := by
  obtain ⟨p0, p1, _⟩ := h
  unfold comb
  have ha : (0 : Int) ≤ atop := by decide
  split
  · omega
  · split
    · omega
    · exact joinI_rng p0 h0
theorem fold_rng : ∀ (ps : List (Str × Int)), (∀ p ∈ ps, POk p) → 0 ≤ ps.foldr comb 0 ∧ ps.foldr comb 0 ≤ atop
  | [], _ => by show (0 : Int) ≤ 0 ∧ (0 : Int) ≤ atop; decide
  | p :: ps, h => by
    have ih := fold_rng ps fun q hq => h q (List.mem_cons_of_mem _ hq)
    exact comb_rng (h p List.mem_cons_self) ih.1 ih.2
section
variable {P : Program} {w : World} {K : PySem.W.Frag} {mg : Str → Option Value} {base0 : Heap} {f f1 f2 f3 : Addr} {fd fd1 fd2 fd3 : FuncData} {k : Nat}
theorem ok_join {t1 t2 : Tok} (F : Fun K "_joined_index" "_joined_index" sJoinedIndex f fd) (m1 : mg "JOIN_BOUND" = some (.int 1000000000 t1)) (m2 : mg "TOP" = some (.int 999999999999999999 t2)) : FnOk P w K mg base0 CX0 (k + 1) f fd ["a", "b"] (spD okJoin) := by
  refine F.ok scJoinedIndex (fun vs H Q E h => ?_) (fun cdv A outer s H vs Q E hr h => ?_)
  · obtain ⟨ds, d, all, ⟨a, b, rfl, _⟩, _⟩ := h
    exact all.len
  · obtain ⟨ds, d, all, ⟨a, b, rfl, a0, a1, b0, b1, rfl⟩, q⟩ := h
    obtain ⟨x, y, rfl, hx, hy⟩ := dts2 all
    cases dt_int hx
    cases dt_int hy
    refine ⟨_, pss_cons (ps_if (pt_cmpR op_ge (pe_op op_add (pv 0) (pv 1)) (pe_glob (v := .int 1000000000) (by rfl) m1 ⟨_, rfl⟩) (nomark _)) (pss_one (ps_ret (pe_glob (v := .int 999999999999999999) (by rfl) m2 ⟨_, rfl⟩))) pss_nil)
      (pss_one (ps_ret (pe_op op_add (pe_op op_fdiv (pe_op op_mul (pe_op op_add (pv 0) (pv 1)) (pe_op op_add (pe_op op_add (pv 0) (pv 1)) pe_int)) pe_int) (pv 1)))), ?_⟩
    refine q_when (D := { nx := _, rt := _ }) (b := decide (1000000000 ≤ a + b)) (et_test (ev_op (ev_op (ev_var rfl) (ev_var rfl) rv_I0) ev_c rv_I0)) (fun hb H1 e1 => ?_) fun hb H1 e1 => ?_
    · have hb := of_decide_eq_true hb
      have : joinI a b = 999999999999999999 := by unfold joinI; rw [if_neg (by omega)]; rfl
      rw [this] at q
      exact sd_ret (ed_int ev_c) fun y H2 e2 hy => q y H2 (e1.trans e2) hy
    · have hb := of_decide_eq_false hb
      have : joinI a b = (a + b) * (a + b + 1) / 2 + b := by unfold joinI; rw [if_pos (by omega)]
      rw [this] at q
      exact sd_ret (ed_int (ev_op (ev_op (ev_op (ev_op (ev_var rfl) (ev_var rfl) rv_I0) (ev_op (ev_op (ev_var rfl) (ev_var rfl) rv_I0) ev_c rv_I0) (rv_I (.inl (by omega)))) ev_c (rv_I (by unfold CDiv; omega))) (ev_var rfl) rv_I0)) fun y H2 e2 hy => q y H2 (e1.trans e2) hy
theorem ok_indexAddr {t1 t2 : Tok} (F : Fun K "index_address" "index_address" sIndexAddress f fd) (m1 : mg "JOIN_BOUND" = some (.int 1000000000 t1)) (m2 : mg "TOP" = some (.int 999999999999999999 t2)) (m3 : mg "isqrt" = some (.builtin "math.isqrt")) : FnOk P w K mg base0 CX0 (k + 1) f fd ["kind", "index"] (spD okIAd) := by
  refine F.ok scIndexAddress (fun vs H Q E h => ?_) (fun cdv A outer s H vs Q E hr h => ?_)
  · obtain ⟨ds, d, all, ⟨s, i, rfl, _⟩, _⟩ := h
    exact all.len
  · obtain ⟨ds, d, all, ⟨s, i, rfl, sd, i0, i1, rfl⟩, q⟩ := h
    obtain ⟨v, y, rfl, hv, hy⟩ := dts2 all
    cases dt_int hy
    refine ⟨_, pss_cons (ps_if (pt_not (pt_chain op_le op_lt pe_int (pv 1) (pe_glob (v := .int 999999999999999999) (by rfl) m2 ⟨_, rfl⟩))) (pss_one (ps_ret pe_non)) pss_nil)
      (pss_cons (ps_set (i := 2) scIndexAddress.nd rfl (.inl rfl) (pe_tup pa_nil))
      (pss_cons (ps_while PassesOwn.never (pt_cmpR op_in_seq (pe_ix ix_tup (pv 0) pe_int (fun _ _ => rfl)) (pe_tup (pa_cons pe_str (pa_cons pe_str pa_nil))) rfl)
        (pss_cons (ps_if (pt_cmpR op_eq (pe_ix ix_tup (pv 0) pe_int (fun _ _ => rfl)) pe_str (nomark _))
          (pss_cons (ps_set (i := 3) scIndexAddress.nd rfl (.inl rfl) (pe_op op_mod (pv 1) pe_int))
          (pss_cons (ps_set (i := 0) scIndexAddress.nd rfl (.inl rfl) (pe_ix ix_tup (pv 0) (pe_op op_add pe_int (pv 3)) (fun _ _ => rfl)))
          (pss_one (ps_set (i := 1) scIndexAddress.nd rfl (.inl rfl) (pe_op op_fdiv (pv 1) pe_int)))))
          (pss_cons (ps_set (i := 4) scIndexAddress.nd rfl (.inl rfl) (pe_op op_fdiv (pe_op op_sub (pe_callBfun cr_isqrt (by rfl) m3 (pa_cons (pe_op op_add (pe_op op_mul pe_int (pv 1)) pe_int) pa_nil)) pe_int) pe_int))
          (pss_cons (ps_if (pt_cmpR op_ge (pv 4) (pe_glob (v := .int 1000000000) (by rfl) m1 ⟨_, rfl⟩) (nomark _)) (pss_one (ps_ret pe_non)) pss_nil)
          (pss_cons (ps_set (i := 1) scIndexAddress.nd rfl (.inl rfl) (pe_op op_sub (pv 1) (pe_op op_fdiv (pe_op op_mul (pv 4) (pe_op op_add (pv 4) pe_int)) pe_int)))
          (pss_cons (ps_set (i := 3) scIndexAddress.nd rfl (.inl rfl) (pe_op op_sub (pv 4) (pv 1)))
          (pss_one (ps_set (i := 0) scIndexAddress.nd rfl (.inl rfl) (pe_ix ix_tup (pv 0) pe_int (fun _ _ => rfl)))))))))
        (pss_one (ps_set (i := 2) scIndexAddress.nd rfl (.inl rfl) (pe_op op_catA (pv 2) (pe_tup (pa_cons (pv 3) pa_nil)))))))
      (pss_cons (ps_if (pt_cmpR op_eq (pe_ix ix_tup (pv 0) pe_int (fun _ _ => rfl)) pe_str (nomark _)) (pss_one (ps_ret (pe_op op_catA (pv 2) (pe_tup (pa_cons (pv 1) pa_nil))))) pss_nil)
      (pss_one (ps_ret (pe_ifExp (pt_cmpR op_eq (pv 1) pe_int (nomark _)) (pv 2) pe_non)))))), ?_⟩
    refine q_when (D := { nx := _, rt := _ }) (b := !decide (i < atop)) (et_not (et_is (et_test (ev_chain2L ev_c (ev_var rfl) ev_c)) (by rw [decide_eq_true i0]; rfl))) (fun hb H1 e1 => ?_) fun hb H1 e1 => ?_
    · have : ¬ i < atop := by simpa using hb
      rw [if_neg this] at q
      exact sd_ret ed_non fun y H2 e2 hy => q y H2 (e1.trans e2) hy
    have lt : i < atop := by simpa using hb
    rw [if_pos lt] at q
    have hv1 := hv.tk (tk_ex e1)
    refine q_asgD (D := { nx := _, rt := _ }) (i := 2) (d := intsD []) (ed_tup eds_nil (by show (0 : Nat) ≤ 100000; decide)) fun av H2 e2 hav => ?_
    refine q_while (D := { nx := _, rt := _ }) (fun m σ' H' => ∃ (yk ya : V) (st : SK) (j : Int) (acc : List Int) (z3 z4 : Option V), σ' = [some yk, some (.int j), some ya, z3, z4] ∧ Ex H1 H' ∧ Dt H' yk (skD st) ∧ Dt H' ya (intsD acc) ∧ 0 ≤ j ∧ j < atop ∧ acc.length + dep st ≤ dep s ∧ iad s i = (iad st j).map (acc ++ ·) ∧ m = dep st) (dep s)
      ⟨v, av, s, i, [], none, none, rfl, e2, hv1.tk (tk_ex e2), hav, i0, lt, by show 0 + dep s ≤ dep s; omega, by cases iad s i <;> rfl, rfl⟩ fun m σ' H' inv => ?_
    obtain ⟨yk, ya, st, j, acc, z3, z4, rfl, e3, hk, hya, j0, j1, lens, eq, rfl⟩ := inv
    have j1' : j < 999999999999999999 := j1
    have accl : acc.length + 1 ≤ 100 := by
      have := dep_pos st
      omega
    have whileT : ∀ {b : Bool}, inV (.str (swd st)) [.str "both", .str "to"] = b → EvT (tTest (tOp (rIn K false) (tOp (rIxT K) (tVar 0) (tC (.int 0))) (tTup (tCons (tC (.str "both")) (tCons (tC (.str "to")) tNil))))) [some yk, some (.int j), some ya, z3, z4] H' b := fun h => et_word2 (g := gk st) (ed_var rfl hk) (by rw [swd_gk]; exact h)
    cases st with
    | few n =>
      refine ⟨false, whileT (by show inV (.str "few") _ = false; decide +kernel), fun z => (by cases z), fun _ H4 e4 => ?_⟩
      refine q_when (D := { nx := _, rt := _ }) (b := false) (et_sw (s := .few n) (ed_var rfl (hk.tk (tk_ex e4))) (by show decide (V.str "few" = V.str "rows") = false; decide +kernel)) (fun z => by cases z) fun _ H5 e5 => ?_
      have eq : iad s i = (if j = 0 then some [] else none).map (acc ++ ·) := eq
      rw [eq] at q
      refine sd_ret (D := { nx := _, rt := _ }) (ed_ifD (b := decide (j = 0)) (et_is (et_test (ev_op (ev_var rfl) ev_c (rv_eq rfl))) (decide_eq_decide.mpr ⟨fun z => by injection z, fun z => by rw [z]⟩)) (fun hb => ?_) fun hb => ?_) fun y H6 e6 hy => q y H6 ((((e1.trans e3).trans e4).trans e5).trans e6) hy
      · rw [if_pos (of_decide_eq_true hb)]
        have : adD (Option.map (acc ++ ·) (some [])) = intsD acc := by show intsD (acc ++ []) = _; rw [List.append_nil]
        rw [this]
        exact ed_var rfl (hya.tk (tk_ex (e4.trans e5)))
      · rw [if_neg (of_decide_eq_false hb)]
        exact ed_non
    | rows n =>
      refine ⟨false, whileT (by show inV (.str "rows") _ = false; decide +kernel), fun z => (by cases z), fun _ H4 e4 => ?_⟩
      refine q_when (D := { nx := _, rt := _ }) (b := true) (et_sw (s := .rows n) (ed_var rfl (hk.tk (tk_ex e4))) (by show decide (V.str "rows" = V.str "rows") = true; decide +kernel)) (fun _ H5 e5 => ?_) fun z => by cases z
      have eq : iad s i = some (acc ++ [j]) := eq
      rw [eq] at q
      refine sd_ret (D := { nx := _, rt := _ }) (d := intsD (acc ++ [j])) ?_ fun y H6 e6 hy => q y H6 ((((e1.trans e3).trans e4).trans e5).trans e6) hy
      unfold intsD
      rw [List.map_append]
      exact ed_cat (ed_var rfl (hya.tk (tk_ex (e4.trans e5)))) (ed_tup (eds_cons (ed_int (ev_var rfl)) eds_nil) (by show (1 : Nat) ≤ 100000; decide)) (by rw [List.length_map]; show acc.length + 1 ≤ 100000; omega)
    | both a b =>
      refine ⟨true, whileT (by show inV (.str "both") _ = true; decide +kernel), fun _ H4 e4 => ?_, fun z => by cases z⟩
      have hk4 := hk.tk (tk_ex e4)
      have nd : dep (nxt a b (j % 2)) < dep (.both a b) := by
        show _ < 1 + max (dep b) (dep a)
        unfold nxt
        split <;> omega
      refine ⟨_, fun _ _ h => h, ?_⟩
      refine q_if (D := { nx := _, rt := _, bk := _, ct := _ }) (b := true) (et_sw (s := .both a b) (ed_var rfl hk4) (by show decide (V.str "both" = V.str "both") = true; decide +kernel)) (fun _ H5 e5 => ?_) fun z => by cases z
      refine q_asg (D := { nx := _, rt := _, bk := _, ct := _ }) (i := 3) (ev_op (ev_var rfl) ev_c (rv_I (by show (0 : Int) < 2; decide))) fun H6 e6 => ?_
      refine q_asgD (D := { nx := _, rt := _, bk := _, ct := _ }) (i := 0) (d := skD (nxt a b (j % 2))) (ed_both (ed_var rfl (hk4.tk (tk_ex (e5.trans e6)))) (by omega) (ev_var rfl)) fun yk' H7 e7 hk7 => ?_
      refine s_asg (i := 1) (ev_op (ev_var rfl) ev_c (rv_I (by unfold CDiv; omega))) fun H8 e8 => ?_
      have e48 := (((e4.trans e5).trans e6).trans e7).trans e8
      dsimp only
      refine sd_asg (i := 2) (d := intsD (acc ++ [j % 2])) ?_ fun ya' H9 e9 hya' => ?_
      · unfold intsD
        rw [List.map_append]
        exact ed_cat (ed_var rfl (hya.tk (tk_ex e48))) (ed_tup (eds_cons (ed_int (ev_var rfl)) eds_nil) (by show (1 : Nat) ≤ 100000; decide)) (by rw [List.length_map]; show acc.length + 1 ≤ 100000; omega)
      · refine ⟨dep (nxt a b (j % 2)), nd, yk', ya', nxt a b (j % 2), j / 2, acc ++ [j % 2], _, _, rfl, (e3.trans e48).trans e9, hk7.tk (tk_ex (e8.trans e9)), hya', by omega, by omega, ?_, ?_, rfl⟩
        · rw [List.length_append]
          show acc.length + 1 + _ ≤ _
          omega
        · rw [eq]
          show ((if j % 2 = 0 then iad a (j / 2) else iad b (j / 2)).map fun l => (j % 2) :: l).map _ = (iad (if j % 2 = 0 then a else b) (j / 2)).map _
          have : (if j % 2 = 0 then iad a (j / 2) else iad b (j / 2)) = iad (if j % 2 = 0 then a else b) (j / 2) := by split <;> rfl
          rw [this, Option.map_map]
          congr 1
          funext l
          show acc ++ (j % 2 :: l) = acc ++ [j % 2] ++ l
          rw [List.append_assoc]
          rfl
    | to b =>
      refine ⟨true, whileT (by show inV (.str "to") _ = true; decide +kernel), fun _ H4 e4 => ?_, fun z => by cases z⟩
      have hk4 := hk.tk (tk_ex e4)
      obtain ⟨t0, tA, tB⟩ := trI_ok j0
      have q0 : 0 ≤ trI j * (trI j + 1) / 2 := by rw [tri_half t0]; exact Int.natCast_nonneg _
      refine ⟨_, fun _ _ h => h, ?_⟩
      refine q_if (D := { nx := _, rt := _, bk := _, ct := _ }) (b := false) (et_sw (s := .to b) (ed_var rfl hk4) (by show decide (V.str "to" = V.str "both") = false; decide +kernel)) (fun z => by cases z) fun _ H5 e5 => ?_
      refine q_asg (D := { nx := _, rt := _, bk := _, ct := _ }) (i := 4) (v := .int (trI j)) (ev_is (ev_op (ev_op (ev_isqrt (ev_op (ev_op ev_c (ev_var rfl) (rv_I (.inl (by decide)))) ev_c rv_I0) (by omega) (by omega)) ev_c rv_I0) ev_c (rv_I (by unfold CDiv; decide))) (congrArg V.int (trI_eq j0))) fun H6 e6 => ?_
      have eq : iad s i = (if 1000000000 ≤ trI j then none else (iad b (j - trI j * (trI j + 1) / 2)).map fun l => (trI j - (j - trI j * (trI j + 1) / 2)) :: l).map (acc ++ ·) := eq
      refine q_when (D := { nx := _, rt := _, bk := _, ct := _ }) (b := decide (1000000000 ≤ trI j)) (et_test (ev_op (ev_var rfl) ev_c rv_I0)) (fun hb H7 e7 => ?_) fun hb H7 e7 => ?_
      · rw [if_pos (of_decide_eq_true hb)] at eq
        rw [eq] at q
        exact sd_ret ed_non fun y H8 e8 hy => q y H8 ((((((e1.trans e3).trans e4).trans e5).trans e6).trans e7).trans e8) hy
      have hb := of_decide_eq_false hb
      rw [if_neg hb] at eq
      refine q_asg (D := { nx := _, rt := _, bk := _, ct := _ }) (i := 1) (ev_op (ev_var rfl) (ev_op (ev_op (ev_var rfl) (ev_op (ev_var rfl) ev_c rv_I0) (rv_I (.inl (by omega)))) ev_c (rv_I (by unfold CDiv; decide))) rv_I0) fun H8 e8 => ?_
      refine q_asg (D := { nx := _, rt := _, bk := _, ct := _ }) (i := 3) (ev_op (ev_var rfl) (ev_var rfl) rv_I0) fun H9 e9 => ?_
      have e49 := ((((e4.trans e5).trans e6).trans e7).trans e8).trans e9
      refine sd_asg (i := 0) (d := skD b) (ed_to (ed_var rfl (hk.tk (tk_ex e49)))) fun yk' HA eA hkA => ?_
      generalize trI j * (trI j + 1) / 2 = qq at *
      dsimp only
      refine sd_asg (i := 2) (d := intsD (acc ++ [trI j - (j - qq)])) ?_ fun ya' HB eB hya' => ?_
      · unfold intsD
        rw [List.map_append]
        exact ed_cat (ed_var rfl (hya.tk (tk_ex (e49.trans eA)))) (ed_tup (eds_cons (ed_int (ev_var rfl)) eds_nil) (by show (1 : Nat) ≤ 100000; decide)) (by rw [List.length_map]; show acc.length + 1 ≤ 100000; omega)
      · refine ⟨dep b, by show dep b < 1 + dep b; omega, yk', ya', b, j - qq, acc ++ [trI j - (j - qq)], _, _, rfl, ((e3.trans e49).trans eA).trans eB, hkA.tk (tk_ex eB), hya', by omega, by omega, ?_, ?_, rfl⟩
        · have lens : acc.length + (1 + dep b) ≤ dep s := lens
          rw [List.length_append]
          show acc.length + 1 + dep b ≤ _
          omega
        · rw [eq, Option.map_map]
          congr 1
          funext l
          show acc ++ (_ :: l) = acc ++ [_] ++ l
          rw [List.append_assoc]
          rfl
end
end K10
set_option Elab.async false
set_option linter.all false
set_option maxRecDepth 100000
set_option maxHeartbeats 1000000
namespace K10
open PySem PySem.Spec PyProof.Rows L2 Evl
theorem comb_rows {x i : Int} : comb ("rows", x) i = x := by unfold comb; rw [if_pos rfl]
theorem comb_both {x i : Int} : comb ("both", x) i = min (2 * i + x) atop := by unfold comb; rw [if_neg (by show ¬ ("both" : Str) = "rows"; decide +kernel), if_pos rfl]
theorem comb_to {x i : Int} : comb ("to", x) i = joinI x i := by unfold comb; rw [if_neg (by show ¬ ("to" : Str) = "rows"; decide +kernel), if_neg (by show ¬ ("to" : Str) = "both"; decide +kernel)]
section
variable {P : Program} {w : World} {K : PySem.W.Frag} {mg : Str → Option Value} {base0 : Heap} {f f1 f2 f3 : Addr} {fd fd1 fd2 fd3 : FuncData} {k : Nat}
theorem ok_addrIdx {t1 : Tok} (F : Fun K "address_index" "address_index" sAddressIndex f fd) (m1 : mg "TOP" = some (.int 999999999999999999 t1)) (m2 : mg "reversed" = none) (m3 : mg "min" = none)
    (G1 : FnOk P w K mg base0 CX0 k f1 fd1 ["a", "b"] (spD okJoin)) (g1 : mg "_joined_index" = some (.ref f1)) (kp1 : PySem.W.keepIn K (.ref f1) = true) (b1 : Binds K fd1 ["a", "b"] []) :
    FnOk P w K mg base0 CX0 (k + 1) f fd ["kind", "address"] (spD okAIdx) := by
  refine F.ok scAddressIndex (fun vs H Q E h => ?_) (fun cdv A outer s H vs Q E hr h => ?_)
  · obtain ⟨ds, d, all, ⟨s, l, rfl, _⟩, _⟩ := h
    exact all.len
  · obtain ⟨ds, d, all, ⟨s, l, rfl, had, few, rfl⟩, q⟩ := h
    obtain ⟨v, va, rfl, hv, hva⟩ := dts2 all
    refine ⟨_, pss_cons (ps_set (i := 2) scAddressIndex.nd rfl (.inl rfl) (pe_lst pa_nil))
      (pss_cons (ps_for PassesOwn.never rfl (pi_tup (pv 1)) (pg_name (i := 3) scAddressIndex.nd rfl (Or.inl rfl))
        (pss_cons (ps_expr (pe_bm PySem.F.plainAttrs_list PySem.F.slot_list_append PySem.F.type_list_append mt_append (pv 2) (pa_cons (pe_tup (pa_cons (pe_ix ix_tup (pv 0) pe_int (fun _ _ => rfl)) (pa_cons (pv 3) pa_nil))) pa_nil)))
        (pss_one (ps_if (pt_cmpR op_eq (pe_ix ix_tup (pv 0) pe_int (fun _ _ => rfl)) pe_str (nomark _))
          (pss_one (ps_set (i := 0) scAddressIndex.nd rfl (.inl rfl) (pe_ix ix_tup (pv 0) (pe_op op_add pe_int (pv 3)) (fun _ _ => rfl))))
          (pss_one (ps_if (pt_cmpR op_eq (pe_ix ix_tup (pv 0) pe_int (fun _ _ => rfl)) pe_str (nomark _))
            (pss_one (ps_set (i := 0) scAddressIndex.nd rfl (.inl rfl) (pe_ix ix_tup (pv 0) pe_int (fun _ _ => rfl)))) pss_nil))))))
      (pss_cons (ps_set (i := 4) scAddressIndex.nd rfl (.inl rfl) pe_int)
      (pss_cons (ps_for PassesOwn.never rfl (pi_reversed (by rfl) m2 (pa_cons (pv 2) pa_nil)) (pg_tup (n := 2) (by rfl) (pgs_cons (pg_name (i := 5) scAddressIndex.nd rfl (Or.inl rfl)) (pgs_cons (pg_name (i := 3) scAddressIndex.nd rfl (Or.inl rfl)) pgs_nil)))
        (pss_one (ps_if (pt_cmpR op_eq (pv 5) pe_str (nomark _)) (pss_one (ps_set (i := 4) scAddressIndex.nd rfl (.inl rfl) (pv 3)))
          (pss_one (ps_if (pt_cmpR op_eq (pv 5) pe_str (nomark _)) (pss_one (ps_set (i := 4) scAddressIndex.nd rfl (.inl rfl) (pe_callB (call_min2 (by rfl)) (by rfl) m3 (by decide +kernel) (pa_cons (pe_op op_add (pe_op op_mul pe_int (pv 4)) (pv 3)) (pa_cons (pe_glob (v := .int 999999999999999999) (by rfl) m1 ⟨_, rfl⟩) pa_nil)))))
            (pss_one (ps_set (i := 4) scAddressIndex.nd rfl (.inl rfl) (pe_call G1 hr (by rfl) g1 kp1 b1 .nil pass0 (pa_cons (pv 3) (pa_cons (pv 4) pa_nil))))))))))
      (pss_one (ps_ret (pv 4)))))), ?_⟩
    obtain ⟨pok, plen⟩ := parts_ok s l had
    refine q_asgL (D := { nx := _, rt := _ }) (i := 2) (xs := []) (el_lst ea_nil (by show (0 : Nat) ≤ 100000; decide)) fun A H1 nA e1 hA => ?_
    have hva1 := hva.tk (tk_ex e1)
    obtain ⟨a, bx, rfl, ha, allb⟩ := dt_tup hva1
    refine q_forT (D := { nx := _, rt := _ }) (ev_var rfl) (SqT.of ha) (fun t σ' H' => ∃ (y : V) (done : List (Str × Int)) (ys : List V) (z3 : Option V), σ' = [some y, some (.ref a), some (.ref A), z3, none, none] ∧ Ex H H' ∧ Tk H1 H' ∧ H' A = some (.lst ys) ∧ DtAll H' ys (done.map pD) ∧
        ((∃ st, adr st (l.drop t) ∧ Dt H' y (skD st) ∧ parts s l = done ++ parts st (l.drop t)) ∨ (l.drop t = [] ∧ parts s l = done)))
      (fun H2 e2 => ⟨v, [], [], none, rfl, e1.trans e2, tk_ex e2, e2 _ _ hA, .nil, .inl ⟨s, had, hv.tk (tk_ex (e1.trans e2)), rfl⟩⟩) (fun t σ' H' _ p => ?_) (fun t x σ' H' ht p => ?_) (fun σ' H' p => ?_)
    · obtain ⟨y, done, ys, z3, rfl, e2, t2, _⟩ := p
      exact SqT.of (t2 _ _ ha)
    · obtain ⟨y, done, ys, z3, rfl, e2, t2, hA2, all2, alt⟩ := p
      obtain ⟨n, hn, rfl⟩ := map_at (show (l.map V.int)[t]? = some x by
        have := dts_ints allb
        rw [← this]
        exact ht)
      have lt := (List.getElem?_eq_some_iff.mp hn).1
      have hd : l.drop t = n :: l.drop (t + 1) := by
        rw [List.drop_eq_getElem_cons lt, (List.getElem?_eq_some_iff.mp hn).2]
      rw [hd] at alt
      generalize l.drop (t + 1) = r at alt ⊢
      obtain ⟨st, had2, hk, eq⟩ := alt.resolve_right fun h => by cases h.1
      have dl : done.length ≤ 1000 := by
        have := congrArg List.length eq
        rw [List.length_append] at this
        omega
      refine qd_app (D := { nx := _, rt := _, bk := _, ct := _ }) hA2 (ev_var rfl) (d := pD (swd st, n)) (ed_tup (eds_cons (by rw [← swd_gk]; exact ed_of (ev_wd (g := gk st) (ed_var rfl hk)) fun _ => .str _) (eds_cons (ed_int (ev_var rfl)) eds_nil)) (by show (2 : Nat) ≤ 100000; decide)) (by rw [all2.len, List.length_map]; omega) fun w3 H3 e3 hw3 => ?_
      have still : Tk H3 (upd H3 A (.lst (ys ++ [w3]))) := tk_lst (e3 _ _ hA2)
      have hA4 : upd H3 A (.lst (ys ++ [w3])) A = some (.lst (ys ++ [w3])) := upd_same
      have all4 : DtAll (upd H3 A (.lst (ys ++ [w3]))) (ys ++ [w3]) ((done ++ [(swd st, n)]).map pD) := by
        rw [List.map_append]
        exact ((all2.tk (tk_ex e3)).append (.cons hw3 .nil)).tk still
      have hk4 := (hk.tk (tk_ex e3)).tk still
      have e04 : Ex H (upd H3 A (.lst (ys ++ [w3]))) := (e2.trans e3).mut nA
      have t14 : Tk H1 (upd H3 A (.lst (ys ++ [w3]))) := (t2.trans (tk_ex e3)).trans still
      generalize upd H3 A (.lst (ys ++ [w3])) = H4 at hA4 all4 hk4 e04 t14 ⊢
      cases st with
      | few m => cases (show n :: r = [] from had2)
      | rows m =>
        obtain ⟨x', ex, x0, x1⟩ := had2
        cases ex
        refine s_if (D := { nx := _, rt := _, bk := _, ct := _ }) (b := false) (et_sw (s := .rows m) (ed_var rfl hk4) (by show decide (V.str "rows" = V.str "both") = false; decide +kernel)) (fun z => by cases z) fun _ H5 e5 => ?_
        refine s_when (D := { nx := _, rt := _, bk := _, ct := _ }) (b := false) (et_sw (s := .rows m) (ed_var rfl (hk4.tk (tk_ex e5))) (by show decide (V.str "rows" = V.str "to") = false; decide +kernel)) (fun z => by cases z) fun _ H6 e6 => ?_
        exact ⟨y, _, _, _, rfl, (e04.trans e5).trans e6, t14.trans (tk_ex (e5.trans e6)), (e5.trans e6) _ _ hA4, all4.tk (tk_ex (e5.trans e6)), .inr ⟨rfl, eq⟩⟩
      | to b =>
        obtain ⟨x', r', ex, x0, x1, had3⟩ := had2
        cases ex
        refine s_if (D := { nx := _, rt := _, bk := _, ct := _ }) (b := false) (et_sw (s := .to b) (ed_var rfl hk4) (by show decide (V.str "to" = V.str "both") = false; decide +kernel)) (fun z => by cases z) fun _ H5 e5 => ?_
        refine s_when (D := { nx := _, rt := _, bk := _, ct := _ }) (b := true) (et_sw (s := .to b) (ed_var rfl (hk4.tk (tk_ex e5))) (by show decide (V.str "to" = V.str "to") = true; decide +kernel)) (fun _ H6 e6 => ?_) fun z => by cases z
        refine sd_asg (i := 0) (d := skD b) (ed_to (ed_var rfl (hk4.tk (tk_ex (e5.trans e6))))) fun y7 H7 e7 hk7 => ?_
        have e47 := (e5.trans e6).trans e7
        exact ⟨y7, _, _, _, rfl, e04.trans e47, t14.trans (tk_ex e47), e47 _ _ hA4, all4.tk (tk_ex e47), .inl ⟨b, had3, hk7, by rw [eq, List.append_assoc]; rfl⟩⟩
      | both a' b =>
        obtain ⟨x', r', ex, had3⟩ := had2
        cases ex
        refine s_if (D := { nx := _, rt := _, bk := _, ct := _ }) (b := true) (et_sw (s := .both a' b) (ed_var rfl hk4) (by show decide (V.str "both" = V.str "both") = true; decide +kernel)) (fun _ H5 e5 => ?_) fun z => by cases z
        refine sd_asg (i := 0) (d := skD (nxt a' b n)) (ed_both (ed_var rfl (hk4.tk (tk_ex e5))) (by rcases had3 with ⟨z, _⟩ | ⟨z, _⟩ <;> omega) (ev_var rfl)) fun y7 H7 e7 hk7 => ?_
        have e47 := e5.trans e7
        refine ⟨y7, _, _, _, rfl, e04.trans e47, t14.trans (tk_ex e47), e47 _ _ hA4, all4.tk (tk_ex e47), .inl ⟨nxt a' b n, ?_, hk7, ?_⟩⟩
        · rcases had3 with ⟨rfl, h⟩ | ⟨rfl, h⟩
          · exact h
          · exact h
        · rw [eq, List.append_assoc]
          show done ++ (((("both" : Str), n) : Str × Int) :: (if n = 0 then parts a' r else parts b r)) = done ++ (((("both" : Str), n) : Str × Int) :: parts (if n = 0 then a' else b) r)
          congr 2
          split <;> rfl
    · obtain ⟨y, done, ys, z3, rfl, e2, t2, hA2, all2, alt⟩ := p
      have bl : bx.length = l.length := by rw [allb.len, List.length_map]
      rw [bl, List.drop_length] at alt
      have eq : parts s l = done := by
        rcases alt with ⟨st, had2, _, eq⟩ | ⟨_, eq⟩
        · have : parts st [] = [] := by
            have := (parts_ok st [] had2).2
            exact List.length_eq_zero_iff.mp this
          rw [this, List.append_nil] at eq
          exact eq
        · exact eq
      refine q_asg (D := { nx := _, rt := _ }) (i := 4) (v := .int 0) ev_c fun H3 e3 => ?_
      have hA3 := e3 _ _ hA2
      have all3 := all2.tk (tk_ex e3)
      have yl : ys.length = done.length := by rw [all3.len, List.length_map]
      refine ⟨_, rfl, A, ys, rfl, SqL.of hA3, ?_⟩
      refine for_it (walk_rev (K := K) (a := A) (xs := ys)) (fun t σ'' H'' => ∃ (z3 z5 : Option V) (j : Int), σ'' = [some y, some (.ref a), some (.ref A), z3, some (.int j), z5] ∧ Ex H3 H'' ∧ j = (done.drop (done.length - t)).foldr comb 0)
        ⟨z3, none, 0, rfl, Ex.refl _, by rw [Nat.sub_zero, List.drop_length]; rfl⟩ (fun t σ'' H'' _ p => ?_) (fun t x σ'' H9 H10 ht p hy => ?_) (fun σ'' H'' p => ?_)
      · obtain ⟨z3, z5, j, rfl, e9, _⟩ := p
        exact SqL.of (e9 _ _ hA3)
      · obtain ⟨z3, z5, j, rfl, e9, ej⟩ := p
        obtain ⟨rfl, hx⟩ := hy
        have ht2 : t < done.length := by omega
        have ix : done.length - 1 - t < done.length := by omega
        obtain ⟨x', hx', hdx⟩ := all3.get (d := pD done[done.length - 1 - t]) (i := done.length - 1 - t) (by rw [List.getElem?_map, List.getElem?_eq_getElem ix]; rfl)
        rw [yl] at hx
        rw [hx] at hx'
        cases hx'
        have pk' : POk done[done.length - 1 - t] := pok _ (by rw [eq]; exact List.getElem_mem ix)
        have dd : done.drop (done.length - (t + 1)) = done[done.length - 1 - t] :: done.drop (done.length - t) := by
          have e0 : done.length - (t + 1) = done.length - 1 - t := by omega
          have e1 : done.length - t = done.length - 1 - t + 1 := by omega
          rw [e0, e1]
          exact List.drop_eq_getElem_cons ix
        have jr : 0 ≤ j ∧ j ≤ atop := by
          rw [ej]
          exact fold_rng _ fun p hp => pok p (by rw [eq]; exact List.mem_of_mem_drop hp)
        rw [dd]
        generalize done[done.length - 1 - t] = p at hdx pk' ⊢
        obtain ⟨wp, n⟩ := p
        obtain ⟨n0, n1, wo⟩ := pk'
        have n0 : 0 ≤ n := n0
        have n1 : n ≤ 999999999999999999 := n1
        refine gd_two (hdx.tk (tk_ex e9)) fun yw yn hyw hyn => ?_
        cases dt_int hyn
        cases hyw
        have jr' : j ≤ 999999999999999999 := jr.2
        have fold : ∀ i : Int, i = comb (wp, n) j → i = List.foldr comb 0 ((wp, n) :: done.drop (done.length - t)) := fun i h => by
          rw [h, ej]
          rfl
        rcases wo with wo | wo | wo <;> (have wo : wp = _ := wo; subst wo)
        · refine s_if (D := { nx := _, rt := _, bk := _, ct := _ }) (b := true) (et_eqW (s := "rows") (ev_var rfl) (by decide +kernel)) (fun _ H5 e5 => ?_) fun z => by cases z
          refine s_asg (i := 4) (v := .int n) (ev_var rfl) fun H6 e6 => ?_
          exact ⟨_, _, n, rfl, (e9.trans e5).trans e6, fold _ comb_rows.symm⟩
        · refine s_if (D := { nx := _, rt := _, bk := _, ct := _ }) (b := false) (et_eqW (s := "both") (ev_var rfl) (by decide +kernel)) (fun z => by cases z) fun _ H5 e5 => ?_
          refine s_if (D := { nx := _, rt := _, bk := _, ct := _ }) (b := true) (et_eqW (s := "both") (ev_var rfl) (by decide +kernel)) (fun _ H6 e6 => ?_) fun z => by cases z
          refine s_asg (i := 4) (ev_min2 (ev_op (ev_op ev_c (ev_var rfl) (rv_I (.inl (by decide)))) (ev_var rfl) rv_I0) ev_c) fun H7 e7 => ?_
          refine ⟨_, _, _, rfl, ((e9.trans e5).trans e6).trans e7, fold _ ?_⟩
          rw [comb_both]
          have : atop = 999999999999999999 := rfl
          split <;> omega
        · refine s_if (D := { nx := _, rt := _, bk := _, ct := _ }) (b := false) (et_eqW (s := "to") (ev_var rfl) (by decide +kernel)) (fun z => by cases z) fun _ H5 e5 => ?_
          refine s_if (D := { nx := _, rt := _, bk := _, ct := _ }) (b := false) (et_eqW (s := "to") (ev_var rfl) (by decide +kernel)) (fun z => by cases z) fun _ H6 e6 => ?_
          refine s_asg (i := 4) (v := .int (joinI n j)) (int_ed (ed_call (eds_cons (ed_int (ev_var rfl)) (eds_cons (ed_int (ev_var rfl)) eds_nil)) ⟨n, j, rfl, n0, n1, jr.1, jr.2, rfl⟩)) fun H7 e7 => ?_
          exact ⟨_, _, _, rfl, ((e9.trans e5).trans e6).trans e7, fold _ comb_to.symm⟩
      · obtain ⟨z3, z5, j, rfl, e9, ej⟩ := p
        have : idx s l = j := by
          rw [idx_parts s l had, eq, ej, yl, Nat.sub_self]
          rfl
        rw [this] at q
        exact sd_ret (D := { nx := _, rt := _ }) (ed_int (n := j) (ev_var rfl)) fun y H10 e10 hy => q y H10 (((e2.trans e3).trans e9).trans e10) hy
end
end K10
set_option Elab.async false
set_option linter.all false
set_option maxRecDepth 100000
set_option maxHeartbeats 1000000
namespace K10
open PySem PySem.Spec PyProof.Rows L2 Evl
/-! ### the law: defs that call themselves -/
theorem fn_none {P : Program} {w : World} {K : PySem.W.Frag} {mg : Str → Option Value} {base0 : Heap} {f : Addr} {fd : FuncData} {ps : List Str} {sp : Sp} (h : ∀ vs H Q E, ¬ sp vs H Q E) : FnOk P w K mg base0 CX0 0 f fd ps sp :=
  ⟨fun vs H Q E z => (h _ _ _ _ z).elim, fun _ _ _ _ _ _ _ _ _ _ _ _ _ z => (h _ _ _ _ z).elim⟩
def spLSz (d : Nat) : Sp := fun vs H Q _ => ∃ (x : V) (s : SK), vs = [x] ∧ Dt H x (skD s) ∧ dep s ≤ d ∧ d ≤ 6 ∧ ∀ p H', H p = none → Ex H H' → H' p = some (.lst ((szs s).map V.int)) → Q (.ref p) H'
theorem el_lsz {σ : L2.St} {H : Hp} {te : TE} {s : SK} {E : XK} {d : Nat} (h : EvD te σ H (skD s)) (few : dep s ≤ d) (d6 : d ≤ 6) : EvL (tCall (spLSz d) [] E (tCons te tNil)) σ H ((szs s).map V.int) := fun H1 e1 Q q =>
  h H1 e1 _ fun x H2 e2 hx => ⟨x, s, rfl, hx, few, d6, fun p H3 np e3 hp => q p H3 (fresh_back e2 np) (e2.trans e3) hp⟩
def okLJoin (ds : List PyData) (d : PyData) : Prop := ∃ a b : Int, ds = [.int a, .int b] ∧ 0 ≤ a ∧ 0 ≤ b ∧ d = .int (joinI a b)
def okLIdx (n : Nat) (ds : List PyData) (d : PyData) : Prop := ∃ (s : SK) (l : List Int), ds = [skD s, intsD l] ∧ adr s l ∧ dep s ≤ n ∧ n ≤ 6 ∧ d = .int (idx s l)
def okLCnt (n : Nat) (ds : List PyData) (d : PyData) : Prop := ∃ s : SK, ds = [skD s] ∧ s.ok ∧ dep s ≤ n ∧ n ≤ 5 ∧ d = optD (cnt s)
def okLDep (n : Nat) (ds : List PyData) (d : PyData) : Prop := ∃ s : SK, ds = [skD s] ∧ dep s ≤ n ∧ d = .int (dep s : Int)
theorem cut_tail {α : Type} (x : α) (l : List α) : cutD (x :: l) (some 1) none = l := by
  have h1 : HT.sIx (x :: l).length 0 (some 1) = 1 := by
    unfold HT.sIx
    simp
  have h2 : HT.sIx (x :: l).length (x :: l).length none = l.length + 1 := by
    unfold HT.sIx
    simp
  unfold cutD
  rw [h1, h2]
  show l.take (l.length + 1 - 1) = l
  rw [Nat.add_sub_cancel, List.take_length]
theorem el_ifL {σ : L2.St} {H : Hp} {t : TT} {ta tb : TE} {xs : List V} {b : Bool} (h : EvT t σ H b) (h1 : b = true → EvL ta σ H xs) (h2 : b = false → EvL tb σ H xs) : EvL (tIf t ta tb) σ H xs := fun H1 e Q q => h H1 e _ fun H2 e2 => by
  cases b with
  | true => exact h1 rfl H2 (e.trans e2) Q fun p H3 np e3 hp => q p H3 (fresh_back e2 np) (e2.trans e3) hp
  | false => exact h2 rfl H2 (e.trans e2) Q fun p H3 np e3 hp => q p H3 (fresh_back e2 np) (e2.trans e3) hp
theorem ed_sub1 {K : PySem.W.Frag} {σ : L2.St} {H : Hp} {te : TE} {s a b : SK} (h : EvD te σ H (skD (.both a b))) : EvD (tOp (rIxT K) te (tC (.int 1))) σ H (skD a) := ed_ix (ed_k (g := gk (.both a b)) h) ev_c ax1
theorem ed_sub2 {K : PySem.W.Frag} {σ : L2.St} {H : Hp} {te : TE} {a b : SK} (h : EvD te σ H (skD (.both a b))) : EvD (tOp (rIxT K) te (tC (.int 2))) σ H (skD b) := ed_ix (ed_k (g := gk (.both a b)) h) ev_c ax2
theorem ed_tail {K : PySem.W.Frag} {σ : L2.St} {H : Hp} {te : TE} {x : Int} {r : List Int} (h : EvD te σ H (intsD (x :: r))) : EvD (tSl (rSlA K) te (tPart (tC (.int 1))) tNoPart) σ H (intsD r) := by
  have z := ed_sl (K := K) (lo := some 1) (hi := none) h (eo_some ev_c) eo_none
  have e : cutD ((x :: r).map PyData.int) (some 1) none = r.map .int := cut_tail _ _
  rw [e] at z
  exact z
theorem ev_hd {K : PySem.W.Frag} {σ : L2.St} {H : Hp} {te : TE} {x : Int} {r : List Int} (h : EvD te σ H (intsD (x :: r))) : Ev (tOp (rIxT K) te (tC (.int 0))) σ H (.int x) := int_ed (ed_ix h ev_c ax0)
section
variable {P : Program} {w : World} {K : PySem.W.Frag} {mg : Str → Option Value} {base0 : Heap} {f f1 f2 f3 : Addr} {fd fd1 fd2 fd3 : FuncData} {k : Nat}
theorem ok_ljoin (F : Fun K "_law_join" "_law_join" sLJoin f fd) : FnOk P w K mg base0 CX0 (k + 1) f fd ["a", "b"] (spD okLJoin) := by
  refine F.ok scLJoin (fun vs H Q E h => ?_) (fun cdv A outer s H vs Q E hr h => ?_)
  · obtain ⟨ds, d, all, ⟨a, b, rfl, _⟩, _⟩ := h
    exact all.len
  · obtain ⟨ds, d, all, ⟨a, b, rfl, a0, b0, rfl⟩, q⟩ := h
    obtain ⟨x, y, rfl, hx, hy⟩ := dts2 all
    cases dt_int hx
    cases dt_int hy
    refine ⟨_, pss_cons (ps_set (i := 2) scLJoin.nd rfl (.inl rfl) (pe_op op_add (pv 0) (pv 1)))
      (pss_one (ps_ret (pe_ifExp (pt_cmpR op_lt (pv 2) (pe_op op_pow pe_int pe_int) (nomark _)) (pe_op op_add (pe_op op_fdiv (pe_op op_mul (pv 2) (pe_op op_add (pv 2) pe_int)) pe_int) (pv 1)) (pe_op op_sub (pe_op op_pow pe_int pe_int) pe_int)))), ?_⟩
    refine q_asg (D := { nx := _, rt := _ }) (i := 2) (ev_op (ev_var rfl) (ev_var rfl) rv_I0) fun H1 e1 => ?_
    refine sd_ret (D := { nx := _, rt := _ }) (d := .int (joinI a b)) (ed_int (ev_if (b := decide (a + b < 1000000000)) (et_test (ev_op (ev_var rfl) (ev_op ev_c ev_c (rv_I (by unfold CPow; decide))) rv_I0)) (fun hb => ?_) fun hb => ?_)) fun y H2 e2 hy => q y H2 (e1.trans e2) hy
    · have hb := of_decide_eq_true hb
      unfold joinI
      rw [if_pos hb]
      exact ev_op (ev_op (ev_op (ev_var rfl) (ev_op (ev_var rfl) ev_c rv_I0) (rv_I (.inl (by omega)))) ev_c (rv_I (by unfold CDiv; decide))) (ev_var rfl) rv_I0
    · have hb := of_decide_eq_false hb
      unfold joinI
      rw [if_neg hb]
      exact ev_op (ev_op ev_c ev_c (rv_I (by unfold CPow; decide))) ev_c rv_I0
theorem ok_lsz (F : Fun K "_law_sizes_in" "_law_sizes_in" sLSizesIn f fd) (g0 : mg "_law_sizes_in" = some (.ref f)) (kp0 : PySem.W.keepIn K (.ref f) = true) (b0 : Binds K fd ["kind"] []) : ∀ d : Nat, FnOk P w K mg base0 CX0 d f fd ["kind"] (spLSz d)
  | 0 => fn_none fun vs H Q E ⟨x, s, _, _, h, _⟩ => by have := dep_pos s; omega
  | d + 1 => by
    have G := ok_lsz F g0 kp0 b0 d
    refine F.ok scLSizesIn (fun vs H Q E h => ?_) (fun cdv A outer s0 H vs Q E hr h => ?_)
    · obtain ⟨x, s, rfl, _⟩ := h
      rfl
    · obtain ⟨v, s, rfl, hv, hd, d6, q⟩ := h
      refine ⟨_, pss_cons (ps_if (pt_cmpR op_in_seq (pe_ix ix_tup (pv 0) pe_int (fun _ _ => rfl)) (pe_tup (pa_cons pe_str (pa_cons pe_str pa_nil))) rfl) (pss_one (ps_ret (pe_lst (pa_cons (pe_ix ix_tup (pv 0) pe_int (fun _ _ => rfl)) pa_nil)))) pss_nil)
        (pss_one (ps_ret (pe_op op_cat (pe_call G hr (by rfl) g0 kp0 b0 .nil pass0 (pa_cons (pe_ix ix_tup (pv 0) pe_int (fun _ _ => rfl)) pa_nil)) (pe_ifExp (pt_cmpR op_eq (pe_ix ix_tup (pv 0) pe_int (fun _ _ => rfl)) pe_str (nomark _)) (pe_call G hr (by rfl) g0 kp0 b0 .nil pass0 (pa_cons (pe_ix ix_tup (pv 0) pe_int (fun _ _ => rfl)) pa_nil)) (pe_lst pa_nil))))), ?_⟩
      have fin : ∀ {te : TE} {H1 : Hp} {D : Ends}, Ex H H1 → EvL te [some v] H1 ((szs s).map V.int) → D.rt = Q → tRet te D [some v] H1 := fun {te H1 D} e1 h eD => h H1 (Ex.refl _) _ fun p H2 np e2 hp => by
        show D.rt _ _
        rw [eD]
        exact q p H2 (fresh_back e1 np) (e1.trans e2) hp
      cases s with
      | few n =>
        refine q_when (D := { nx := _, rt := _ }) (b := true) (et_word2 (g := .few n) (ed_var rfl hv) (by show inV (.str "few") _ = true; decide +kernel)) (fun _ H1 e1 => ?_) fun z => by cases z
        exact fin e1 (el_lst (ea_cons (int_ed (ed_ix (ed_k (g := .few n) (ed_var rfl (hv.tk (tk_ex e1)))) ev_c ax1)) ea_nil) (by show (1 : Nat) ≤ 100000; decide)) rfl
      | rows n =>
        refine q_when (D := { nx := _, rt := _ }) (b := true) (et_word2 (g := .rows n) (ed_var rfl hv) (by show inV (.str "rows") _ = true; decide +kernel)) (fun _ H1 e1 => ?_) fun z => by cases z
        exact fin e1 (el_lst (ea_cons (int_ed (ed_ix (ed_k (g := .rows n) (ed_var rfl (hv.tk (tk_ex e1)))) ev_c ax1)) ea_nil) (by show (1 : Nat) ≤ 100000; decide)) rfl
      | to b =>
        refine q_when (D := { nx := _, rt := _ }) (b := false) (et_word2 (g := gk (.to b)) (ed_var rfl hv) (by show inV (.str "to") _ = false; decide +kernel)) (fun z => by cases z) fun _ H1 e1 => ?_
        have hb : dep b ≤ d := by have hd : 1 + dep b ≤ d + 1 := hd; omega
        have hv1 := hv.tk (tk_ex e1)
        have sl := szs_len b
        have pw : (2 : Nat) ^ (dep b - 1) ≤ 2 ^ 6 := Nat.pow_le_pow_right (by decide) (by omega)
        refine fin e1 (el_is (el_cat (el_lsz (ed_to (ed_var rfl hv1)) hb (by omega)) (el_ifL (b := false) (et_sw (s := .to b) (ed_var rfl hv1) (by show decide (V.str "to" = V.str "both") = false; decide +kernel)) (fun z => by cases z) fun _ => el_lst (vs := []) ea_nil (by show (0 : Nat) ≤ 100000; decide)) (by rw [List.length_map]; show (szs b).length + 0 ≤ 100000; omega)) ?_) rfl
        rw [List.append_nil]
        rfl
      | both a b =>
        refine q_when (D := { nx := _, rt := _ }) (b := false) (et_word2 (g := gk (.both a b)) (ed_var rfl hv) (by show inV (.str "both") _ = false; decide +kernel)) (fun z => by cases z) fun _ H1 e1 => ?_
        have hd' : dep b ≤ d ∧ dep a ≤ d := by have hd : 1 + max (dep b) (dep a) ≤ d + 1 := hd; omega
        have hv1 := hv.tk (tk_ex e1)
        have sa := szs_len a
        have sb := szs_len b
        have pa : (2 : Nat) ^ (dep a - 1) ≤ 2 ^ 6 := Nat.pow_le_pow_right (by decide) (by omega)
        have pb : (2 : Nat) ^ (dep b - 1) ≤ 2 ^ 6 := Nat.pow_le_pow_right (by decide) (by omega)
        refine fin e1 (el_is (el_cat (el_lsz (ed_sub2 (ed_var rfl hv1)) hd'.1 (by omega)) (el_ifL (b := true) (et_sw (s := .both a b) (ed_var rfl hv1) (by show decide (V.str "both" = V.str "both") = true; decide +kernel)) (fun _ => el_lsz (ed_sub1 (s := a) (ed_var rfl hv1)) hd'.2 (by omega)) fun z => by cases z) (by rw [List.length_map, List.length_map]; omega)) ?_) rfl
        show _ = (szs b ++ szs a).map V.int
        rw [List.map_append]
theorem ok_lidx (F : Fun K "_law_index_of" "_law_index_of" sLIndexOf f fd) (g0 : mg "_law_index_of" = some (.ref f)) (kp0 : PySem.W.keepIn K (.ref f) = true) (b0 : Binds K fd ["kind", "address"] []) (m1 : mg "min" = none)
    (G1 : FnOk P w K mg base0 CX0 1 f1 fd1 ["a", "b"] (spD okLJoin)) (g1 : mg "_law_join" = some (.ref f1)) (kp1 : PySem.W.keepIn K (.ref f1) = true) (b1 : Binds K fd1 ["a", "b"] []) : ∀ d : Nat, FnOk P w K mg base0 CX0 (d + 1) f fd ["kind", "address"] (spD (okLIdx d))
  | 0 => (fn_none (sp := spD (okLIdx 0)) fun vs H Q E h => by obtain ⟨ds, d, all, ⟨s, l, _, _, h, _⟩, _⟩ := h; have := dep_pos s; omega).mono (by decide)
  | d + 1 => by
    have G := ok_lidx F g0 kp0 b0 m1 G1 g1 kp1 b1 d
    have G1' := G1.mono (show 1 ≤ d + 1 by omega)
    refine F.ok scLIndexOf (fun vs H Q E h => ?_) (fun cdv A outer s0 H vs Q E hr h => ?_)
    · obtain ⟨ds, d, all, ⟨s, l, rfl, _⟩, _⟩ := h
      exact all.len
    · obtain ⟨ds, dd, all, ⟨s, l, rfl, had, hd, d6, rfl⟩, q⟩ := h
      obtain ⟨v, va, rfl, hv, hva⟩ := dts2 all
      refine ⟨_, pss_cons (ps_if (pt_cmpR op_eq (pe_ix ix_tup (pv 0) pe_int (fun _ _ => rfl)) pe_str (nomark _)) (pss_one (ps_ret pe_int)) pss_nil)
        (pss_cons (ps_if (pt_cmpR op_eq (pe_ix ix_tup (pv 0) pe_int (fun _ _ => rfl)) pe_str (nomark _)) (pss_one (ps_ret (pe_ix ix_tup (pv 1) pe_int (fun _ _ => rfl)))) pss_nil)
        (pss_cons (ps_if (pt_cmpR op_eq (pe_ix ix_tup (pv 0) pe_int (fun _ _ => rfl)) pe_str (nomark _)) (pss_one (ps_ret (pe_call G1' hr (by rfl) g1 kp1 b1 .nil pass0 (pa_cons (pe_ix ix_tup (pv 1) pe_int (fun _ _ => rfl)) (pa_cons (pe_call G hr (by rfl) g0 kp0 b0 .nil pass0 (pa_cons (pe_ix ix_tup (pv 0) pe_int (fun _ _ => rfl)) (pa_cons (pe_slice sl_tupA (pv 1) (po_some pe_int) po_none) pa_nil))) pa_nil))))) pss_nil)
        (pss_one (ps_ret (pe_callB (call_min2 (by rfl)) (by rfl) m1 (by decide +kernel) (pa_cons (pe_op op_sub (pe_op op_pow pe_int pe_int) pe_int) (pa_cons (pe_op op_add (pe_op op_mul pe_int (pe_call G hr (by rfl) g0 kp0 b0 .nil pass0 (pa_cons (pe_ix ix_tup (pv 0) (pe_op op_add pe_int (pe_ix ix_tup (pv 1) pe_int (fun _ _ => rfl))) (fun _ _ => rfl)) (pa_cons (pe_slice sl_tupA (pv 1) (po_some pe_int) po_none) pa_nil)))) (pe_ix ix_tup (pv 1) pe_int (fun _ _ => rfl))) pa_nil))))))), ?_⟩
      cases s with
      | few n =>
        refine q_when (D := { nx := _, rt := _ }) (b := true) (et_sw (s := .few n) (ed_var rfl hv) (by show decide (V.str "few" = V.str "few") = true; decide +kernel)) (fun _ H1 e1 => ?_) fun z => by cases z
        exact sd_ret (ed_int ev_c) fun y H2 e2 hy => q y H2 (e1.trans e2) hy
      | rows n =>
        obtain ⟨x, rfl, x0, x1⟩ := had
        refine q_when (D := { nx := _, rt := _ }) (b := false) (et_sw (s := .rows n) (ed_var rfl hv) (by show decide (V.str "rows" = V.str "few") = false; decide +kernel)) (fun z => by cases z) fun _ H1 e1 => ?_
        refine q_when (D := { nx := _, rt := _ }) (b := true) (et_sw (s := .rows n) (ed_var rfl (hv.tk (tk_ex e1))) (by show decide (V.str "rows" = V.str "rows") = true; decide +kernel)) (fun _ H2 e2 => ?_) fun z => by cases z
        exact sd_ret (ed_int (ev_hd (ed_var rfl (hva.tk (tk_ex (e1.trans e2)))))) fun y H3 e3 hy => q y H3 ((e1.trans e2).trans e3) hy
      | to b =>
        obtain ⟨x, r, rfl, x0, x1, hadr⟩ := had
        have hb : dep b ≤ d := by have hd : 1 + dep b ≤ d + 1 := hd; omega
        have ir := idx_rng b r hadr
        refine q_when (D := { nx := _, rt := _ }) (b := false) (et_sw (s := .to b) (ed_var rfl hv) (by show decide (V.str "to" = V.str "few") = false; decide +kernel)) (fun z => by cases z) fun _ H1 e1 => ?_
        refine q_when (D := { nx := _, rt := _ }) (b := false) (et_sw (s := .to b) (ed_var rfl (hv.tk (tk_ex e1))) (by show decide (V.str "to" = V.str "rows") = false; decide +kernel)) (fun z => by cases z) fun _ H2 e2 => ?_
        refine q_when (D := { nx := _, rt := _ }) (b := true) (et_sw (s := .to b) (ed_var rfl (hv.tk (tk_ex (e1.trans e2)))) (by show decide (V.str "to" = V.str "to") = true; decide +kernel)) (fun _ H3 e3 => ?_) fun z => by cases z
        have e13 := (e1.trans e2).trans e3
        have hv3 := hv.tk (tk_ex e13)
        have hva3 := hva.tk (tk_ex e13)
        exact sd_ret (ed_call (eds_cons (ed_int (ev_hd (ed_var rfl hva3))) (eds_cons (ed_call (eds_cons (ed_to (ed_var rfl hv3)) (eds_cons (ed_tail (ed_var rfl hva3)) eds_nil)) ⟨b, r, rfl, hadr, hb, by omega, rfl⟩) eds_nil)) ⟨x, idx b r, rfl, x0, ir.1, rfl⟩) fun y H4 e4 hy => q y H4 (e13.trans e4) hy
      | both a b =>
        obtain ⟨x, r, rfl, hadr⟩ := had
        have hd' : dep b ≤ d ∧ dep a ≤ d := by have hd : 1 + max (dep b) (dep a) ≤ d + 1 := hd; omega
        have x01 : x = 0 ∨ x = 1 := by rcases hadr with ⟨z, _⟩ | ⟨z, _⟩ <;> omega
        have had' : adr (nxt a b x) r := by rcases hadr with ⟨rfl, h⟩ | ⟨rfl, h⟩ <;> exact h
        have hdn : dep (nxt a b x) ≤ d := by unfold nxt; split <;> omega
        have ir := idx_rng _ r had'
        refine q_when (D := { nx := _, rt := _ }) (b := false) (et_sw (s := .both a b) (ed_var rfl hv) (by show decide (V.str "both" = V.str "few") = false; decide +kernel)) (fun z => by cases z) fun _ H1 e1 => ?_
        refine q_when (D := { nx := _, rt := _ }) (b := false) (et_sw (s := .both a b) (ed_var rfl (hv.tk (tk_ex e1))) (by show decide (V.str "both" = V.str "rows") = false; decide +kernel)) (fun z => by cases z) fun _ H2 e2 => ?_
        refine q_when (D := { nx := _, rt := _ }) (b := false) (et_sw (s := .both a b) (ed_var rfl (hv.tk (tk_ex (e1.trans e2)))) (by show decide (V.str "both" = V.str "to") = false; decide +kernel)) (fun z => by cases z) fun _ H3 e3 => ?_
        have e13 := (e1.trans e2).trans e3
        have hv3 := hv.tk (tk_ex e13)
        have hva3 := hva.tk (tk_ex e13)
        refine sd_ret (D := { nx := _, rt := _ }) (d := .int (idx (.both a b) (x :: r))) (ed_int (ev_is (ev_min2 (ev_op (ev_op ev_c ev_c (rv_I (by unfold CPow; decide))) ev_c rv_I0) (ev_op (ev_op ev_c (int_ed (ed_call (eds_cons (ed_both (ed_var rfl hv3) x01 (ev_hd (ed_var rfl hva3))) (eds_cons (ed_tail (ed_var rfl hva3)) eds_nil)) ⟨nxt a b x, r, rfl, had', hdn, by omega, rfl⟩)) (rv_I (.inl (by decide)))) (ev_hd (ed_var rfl hva3)) rv_I0)) (congrArg V.int ?_))) fun y H4 e4 hy => q y H4 (e13.trans e4) hy
        have e : idx (.both a b) (x :: r) = min atop (2 * idx (nxt a b x) r + x) := by
          show min atop (2 * (if x = 0 then idx a r else idx b r) + x) = min atop (2 * idx (if x = 0 then a else b) r + x)
          split <;> rfl
        rw [e]
        show (if 2 * idx (nxt a b x) r + x < 10 ^ 18 - 1 then 2 * idx (nxt a b x) r + x else 10 ^ 18 - 1) = _
        have : atop = 10 ^ 18 - 1 := by decide
        rw [this]
        split <;> omega
end
end K10
set_option Elab.async false
set_option linter.all false
set_option maxRecDepth 100000
set_option maxHeartbeats 1000000
namespace K10
open PySem PySem.Spec PyProof.Rows L2 Evl
theorem ev_max2 {σ : L2.St} {H : Hp} {ta tb : TE} {i j : Int} (ha : Ev ta σ H (.int i)) (hb : Ev tb σ H (.int j)) : Ev (tCB (fun xs H Q => ∃ i j, xs = [V.int i, V.int j] ∧ Q (.int (if j > i then j else i)) H) (tCons ta (tCons tb tNil))) σ H (.int (if j > i then j else i)) := fun H1 e Q q =>
  ha H1 e _ fun H2 e2 => hb H2 (e.trans e2) _ fun H3 e3 => ⟨i, j, rfl, q H3 (e2.trans e3)⟩
theorem q_parD {σ : L2.St} {H : Hp} {D : Ends} {tz : TS} {ta : TA} {i j : Nat} {d1 d2 : PyData} (h : EvDs ta σ H [d1, d2]) (k : ∀ y z H1, Ex H H1 → Dt H1 y d1 → Dt H1 z d2 → tz D ((σ.set i (some y)).set j (some z)) H1) : tSeq (tPar i j ta) tz D σ H := sd_par (D := { D with nx := tz D }) h k
theorem et_isNone {σ : L2.St} {H : Hp} {i : Nat} {o : Option Int} {x : V} (h : σ[i]? = some (some x)) (hx : Dt H x (optD o)) : EvT (tTest (tOp rIsN (tVar i) (tC .non))) σ H o.isNone := fun H2 e2 Q2 q2 => ⟨x, h, rfl, o.isNone, by
  cases o with
  | none => cases hx; rfl
  | some n => cases hx; rfl, q2 H2 (Ex.refl _)⟩
def flatE (e : PyData) : Prop := (∃ n, e = .int n) ∨ (∃ b, e = .bool b) ∨ e = .none ∨ e = .str "0"
theorem flat_lay : ∀ es : List PyData, (∀ e ∈ es, flatE e) → PyData.canLayAll0 es = true ∧ PyData.depthAll es = 0
  | [], _ => ⟨by simp [PyData.canLayAll0], by simp [PyData.depthAll]⟩
  | e :: es, h => by
    obtain ⟨h1, h2⟩ := flat_lay es fun x hx => h x (List.mem_cons_of_mem _ hx)
    rw [PyData.canLayAll0, PyData.depthAll, h1, h2]
    rcases h e List.mem_cons_self with ⟨n, rfl⟩ | ⟨b, rfl⟩ | rfl | rfl
    · exact ⟨by simp [PyData.canLay0], by simp [PyData.depth]⟩
    · exact ⟨by simp [PyData.canLay0], by simp [PyData.depth]⟩
    · exact ⟨by simp [PyData.canLay0], by simp [PyData.depth]⟩
    · exact ⟨by simp [PyData.canLay0] <;> decide +kernel, by simp [PyData.depth]⟩
theorem flat_shaped {es : List PyData} (h : ∀ e ∈ es, flatE e) : SeqAt.shaped (.tuple es) = true := by
  obtain ⟨h1, h2⟩ := flat_lay es h
  unfold SeqAt.shaped
  rw [PyData.canLay0, PyData.depth, h1, h2]
  rfl
theorem eqv_empty (es : List PyData) : PyData.eqv (.tuple es) (.tuple []) = es.isEmpty := by
  cases es <;> simp [PyData.eqv, PyData.eqvAll]
def okLIsA2 (n : Nat) (ds : List PyData) (d : PyData) : Prop := ∃ (s : SK) (es : List PyData), ds = [skD s, .tuple es] ∧ dep s ≤ n ∧ (∀ e ∈ es, flatE e) ∧ es.length ≤ 1000 ∧ d = .bool (isA s es)
section
variable {P : Program} {w : World} {K : PySem.W.Frag} {mg : Str → Option Value} {base0 : Heap} {f f1 f2 f3 : Addr} {fd fd1 fd2 fd3 : FuncData} {k : Nat}
theorem ok_ldep (F : Fun K "_law_depth" "_law_depth" sLDepth f fd) (g0 : mg "_law_depth" = some (.ref f)) (kp0 : PySem.W.keepIn K (.ref f) = true) (b0 : Binds K fd ["kind"] []) (m1 : mg "max" = none) : ∀ d : Nat, FnOk P w K mg base0 CX0 d f fd ["kind"] (spD (okLDep d))
  | 0 => fn_none fun vs H Q E h => by obtain ⟨ds, d, all, ⟨s, _, h, _⟩, _⟩ := h; have := dep_pos s; omega
  | d + 1 => by
    have G := ok_ldep F g0 kp0 b0 m1 d
    refine F.ok scLDepth (fun vs H Q E h => ?_) (fun cdv A outer s0 H vs Q E hr h => ?_)
    · obtain ⟨ds, d, all, ⟨s, rfl, _⟩, _⟩ := h
      exact all.len
    · obtain ⟨ds, dd, all, ⟨s, rfl, hd, rfl⟩, q⟩ := h
      obtain ⟨v, rfl, hv⟩ := dts1 all
      refine ⟨_, pss_cons (ps_if (pt_cmpR op_in_seq (pe_ix ix_tup (pv 0) pe_int (fun _ _ => rfl)) (pe_tup (pa_cons pe_str (pa_cons pe_str pa_nil))) rfl) (pss_one (ps_ret pe_int)) pss_nil)
        (pss_one (ps_ret (pe_op op_add pe_int (pe_callB (call_max2 (by rfl)) (by rfl) m1 (by decide +kernel) (pa_cons (pe_call G hr (by rfl) g0 kp0 b0 .nil pass0 (pa_cons (pe_ix ix_tup (pv 0) pe_int (fun _ _ => rfl)) pa_nil)) (pa_cons (pe_ifExp (pt_cmpR op_eq (pe_ix ix_tup (pv 0) pe_int (fun _ _ => rfl)) pe_str (nomark _)) (pe_call G hr (by rfl) g0 kp0 b0 .nil pass0 (pa_cons (pe_ix ix_tup (pv 0) pe_int (fun _ _ => rfl)) pa_nil)) pe_int) pa_nil)))))), ?_⟩
      cases s with
      | few n =>
        refine q_when (D := { nx := _, rt := _ }) (b := true) (et_word2 (g := .few n) (ed_var rfl hv) (by show inV (.str "few") _ = true; decide +kernel)) (fun _ H1 e1 => ?_) fun z => by cases z
        exact sd_ret (ed_int ev_c) fun y H2 e2 hy => q y H2 (e1.trans e2) hy
      | rows n =>
        refine q_when (D := { nx := _, rt := _ }) (b := true) (et_word2 (g := .rows n) (ed_var rfl hv) (by show inV (.str "rows") _ = true; decide +kernel)) (fun _ H1 e1 => ?_) fun z => by cases z
        exact sd_ret (ed_int ev_c) fun y H2 e2 hy => q y H2 (e1.trans e2) hy
      | to b =>
        refine q_when (D := { nx := _, rt := _ }) (b := false) (et_word2 (g := gk (.to b)) (ed_var rfl hv) (by show inV (.str "to") _ = false; decide +kernel)) (fun z => by cases z) fun _ H1 e1 => ?_
        have hb : dep b ≤ d := by have hd : 1 + dep b ≤ d + 1 := hd; omega
        have hv1 := hv.tk (tk_ex e1)
        refine sd_ret (D := { nx := _, rt := _ }) (ed_int (ev_is (ev_op ev_c (ev_max2 (int_ed (ed_call (eds_cons (ed_to (ed_var rfl hv1)) eds_nil) ⟨b, rfl, hb, rfl⟩)) (ev_if (b := false) (et_sw (s := .to b) (ed_var rfl hv1) (by show decide (V.str "to" = V.str "both") = false; decide +kernel)) (fun z => by cases z) fun _ => ev_c)) rv_I0) (congrArg V.int ?_))) fun y H2 e2 hy => q y H2 (e1.trans e2) hy
        show 1 + (if (0 : Int) > (dep b : Int) then (0 : Int) else (dep b : Int)) = ((1 + dep b : Nat) : Int)
        rw [if_neg (by omega)]
        omega
      | both a b =>
        refine q_when (D := { nx := _, rt := _ }) (b := false) (et_word2 (g := gk (.both a b)) (ed_var rfl hv) (by show inV (.str "both") _ = false; decide +kernel)) (fun z => by cases z) fun _ H1 e1 => ?_
        have hd' : dep b ≤ d ∧ dep a ≤ d := by have hd : 1 + max (dep b) (dep a) ≤ d + 1 := hd; omega
        have hv1 := hv.tk (tk_ex e1)
        refine sd_ret (D := { nx := _, rt := _ }) (ed_int (ev_is (ev_op ev_c (ev_max2 (int_ed (ed_call (eds_cons (ed_sub2 (ed_var rfl hv1)) eds_nil) ⟨b, rfl, hd'.1, rfl⟩)) (ev_if (b := true) (et_sw (s := .both a b) (ed_var rfl hv1) (by show decide (V.str "both" = V.str "both") = true; decide +kernel)) (fun _ => int_ed (ed_call (eds_cons (ed_sub1 (s := a) (ed_var rfl hv1)) eds_nil) ⟨a, rfl, hd'.2, rfl⟩)) fun z => by cases z)) rv_I0) (congrArg V.int ?_))) fun y H2 e2 hy => q y H2 (e1.trans e2) hy
        show 1 + (if (dep a : Int) > (dep b : Int) then (dep a : Int) else (dep b : Int)) = ((1 + max (dep b) (dep a) : Nat) : Int)
        split <;> omega
theorem ok_lcnt (F : Fun K "_law_count" "_law_count" sLCount f fd) (g0 : mg "_law_count" = some (.ref f)) (kp0 : PySem.W.keepIn K (.ref f) = true) (b0 : Binds K fd ["kind"] []) : ∀ d : Nat, FnOk P w K mg base0 CX0 d f fd ["kind"] (spD (okLCnt d))
  | 0 => fn_none fun vs H Q E h => by obtain ⟨ds, d, all, ⟨s, _, _, h, _⟩, _⟩ := h; have := dep_pos s; omega
  | d + 1 => by
    have G := ok_lcnt F g0 kp0 b0 d
    refine F.ok scLCount (fun vs H Q E h => ?_) (fun cdv A outer s0 H vs Q E hr h => ?_)
    · obtain ⟨ds, d, all, ⟨s, rfl, _⟩, _⟩ := h
      exact all.len
    · obtain ⟨ds, dd, all, ⟨s, rfl, sok, hd, d5, rfl⟩, q⟩ := h
      obtain ⟨v, rfl, hv⟩ := dts1 all
      refine ⟨_, pss_cons (ps_if (pt_cmpR op_ne (pe_ix ix_tup (pv 0) pe_int (fun _ _ => rfl)) pe_str (nomark _)) (pss_one (ps_ret (pe_ifExp (pt_cmpR op_eq (pe_ix ix_tup (pv 0) pe_int (fun _ _ => rfl)) pe_str (nomark _)) (pe_ix ix_tup (pv 0) pe_int (fun _ _ => rfl)) pe_non))) pss_nil)
        (pss_cons (ps_par (i := 1) (j := 2) (by rfl) scLCount.nd rfl rfl (by decide) rfl rfl (pa_cons (pe_call G hr (by rfl) g0 kp0 b0 .nil pass0 (pa_cons (pe_ix ix_tup (pv 0) pe_int (fun _ _ => rfl)) pa_nil)) (pa_cons (pe_call G hr (by rfl) g0 kp0 b0 .nil pass0 (pa_cons (pe_ix ix_tup (pv 0) pe_int (fun _ _ => rfl)) pa_nil)) pa_nil)) (by rfl))
        (pss_one (ps_ret (pe_ifExp (PW.pt (pw_or (pt_cmpR op_isN1 (pv 1) pe_non (nomark _)) (pw_or1 (pt_cmpR op_isN1 (pv 2) pe_non (nomark _))))) pe_non (pe_op op_mul (pv 1) (pv 2)))))), ?_⟩
      have ne : ∀ {r : Bool}, (!decide (V.str (swd s) = V.str "both")) = r → EvT (tTest (tOp rNe (tOp (rIxT K) (tVar 0) (tC (.int 0))) (tC (.str "both")))) [some v, none, none] H r := fun h => et_is (et_test (ev_op (ev_wd (g := gk s) (ed_var rfl hv)) ev_c (rv_ne rfl))) (by rw [swd_gk]; exact h)
      cases s with
      | few n =>
        refine q_when (D := { nx := _, rt := _ }) (b := true) (ne (by show (!decide (V.str "few" = V.str "both")) = true; decide +kernel)) (fun _ H1 e1 => ?_) fun z => by cases z
        have hv1 := hv.tk (tk_ex e1)
        exact sd_ret (D := { nx := _, rt := _ }) (ed_ifD (b := true) (et_sw (s := .few n) (ed_var rfl hv1) (by show decide (V.str "few" = V.str "few") = true; decide +kernel)) (fun _ => ed_ix (ed_k (g := .few n) (ed_var rfl hv1)) ev_c ax1) fun z => by cases z) fun y H2 e2 hy => q y H2 (e1.trans e2) hy
      | rows n =>
        refine q_when (D := { nx := _, rt := _ }) (b := true) (ne (by show (!decide (V.str "rows" = V.str "both")) = true; decide +kernel)) (fun _ H1 e1 => ?_) fun z => by cases z
        have hv1 := hv.tk (tk_ex e1)
        exact sd_ret (D := { nx := _, rt := _ }) (ed_ifD (b := false) (et_sw (s := .rows n) (ed_var rfl hv1) (by show decide (V.str "rows" = V.str "few") = false; decide +kernel)) (fun z => by cases z) fun _ => ed_non) fun y H2 e2 hy => q y H2 (e1.trans e2) hy
      | to b =>
        refine q_when (D := { nx := _, rt := _ }) (b := true) (ne (by show (!decide (V.str "to" = V.str "both")) = true; decide +kernel)) (fun _ H1 e1 => ?_) fun z => by cases z
        have hv1 := hv.tk (tk_ex e1)
        exact sd_ret (D := { nx := _, rt := _ }) (ed_ifD (b := false) (et_sw (s := .to b) (ed_var rfl hv1) (by show decide (V.str "to" = V.str "few") = false; decide +kernel)) (fun z => by cases z) fun _ => ed_non) fun y H2 e2 hy => q y H2 (e1.trans e2) hy
      | both a b =>
        refine q_when (D := { nx := _, rt := _ }) (b := false) (ne (by show (!decide (V.str "both" = V.str "both")) = false; decide +kernel)) (fun z => by cases z) fun _ H1 e1 => ?_
        have hd' : dep b ≤ d ∧ dep a ≤ d := by have hd : 1 + max (dep b) (dep a) ≤ d + 1 := hd; omega
        have sok : a.ok ∧ b.ok := sok
        have hv1 := hv.tk (tk_ex e1)
        refine q_parD (D := { nx := _, rt := _ }) (eds_cons (ed_call (eds_cons (ed_sub1 (s := a) (ed_var rfl hv1)) eds_nil) ⟨a, rfl, sok.1, hd'.2, by omega, rfl⟩) (eds_cons (ed_call (eds_cons (ed_sub2 (ed_var rfl hv1)) eds_nil) ⟨b, rfl, sok.2, hd'.1, by omega, rfl⟩) eds_nil)) fun y z H2 e2 hy hz => ?_
        have ec : cnt (.both a b) = (cnt a).bind fun x => (cnt b).map fun y => x * y := rfl
        rw [ec] at q
        refine sd_ret (D := { nx := _, rt := _ }) (ed_ifD (b := (cnt a).isNone || (cnt b).isNone) (et_or (et_isNone rfl hy) fun _ => et_isNone rfl hz) (fun hb => ?_) fun hb => ?_) fun y H3 e3 hy => q y H3 ((e1.trans e2).trans e3) hy
        · have : ((cnt a).bind fun x => (cnt b).map fun y => x * y) = none := by
            revert hb
            cases cnt a <;> cases cnt b <;> simp
          rw [this]
          exact ed_non
        · cases ca : cnt a with
          | none => rw [ca] at hb; cases hb
          | some n =>
            cases cb : cnt b with
            | none => rw [ca, cb] at hb; cases hb
            | some n' =>
              rw [ca] at hy
              rw [cb] at hz
              cases hy
              cases hz
              have := cnt_small sok.1 (by omega) ca
              exact ed_int (ev_op (ev_var rfl) (ev_var rfl) (rv_I (.inl (by omega))))
theorem ok_lisA (F : Fun K "_law_is_address" "_law_is_address" sLIsAddress f fd) (g0 : mg "_law_is_address" = some (.ref f)) (kp0 : PySem.W.keepIn K (.ref f) = true) (b0 : Binds K fd ["kind", "value"] []) (m1 : mg "isinstance" = none) (m2 : mg "tuple" = none) (m3 : mg "int" = none) (m4 : mg "bool" = none) (m5 : mg "len" = none) :
    ∀ d : Nat, FnOk P w K mg base0 CX0 d f fd ["kind", "value"] (spD (okLIsA2 d))
  | 0 => fn_none fun vs H Q E h => by obtain ⟨ds, d, all, ⟨s, es, _, h, _⟩, _⟩ := h; have := dep_pos s; omega
  | d + 1 => by
    have G := ok_lisA F g0 kp0 b0 m1 m2 m3 m4 m5 d
    refine F.ok scLIsAddress (fun vs H Q E h => ?_) (fun cdv A outer s0 H vs Q E hr h => ?_)
    · obtain ⟨ds, d, all, ⟨s, es, rfl, _⟩, _⟩ := h
      exact all.len
    · obtain ⟨ds, dd, all, ⟨s, es, rfl, hd, fl, few, rfl⟩, q⟩ := h
      obtain ⟨v, vv, rfl, hv, hvv⟩ := dts2 all
      refine ⟨_, pss_cons (ps_if (PW.pt (pw_or (pt_not (pt_val (pe_callB call_isi (by rfl) m1 (by decide +kernel) (pa_cons (pv 1) (pa_cons (pe_bltn (v := .ty "tuple") (by rfl) m2 (by decide +kernel) rfl) pa_nil))))) (pw_or1 (pt_cmpR op_eq (pe_ix ix_tup (pv 0) pe_int (fun _ _ => rfl)) pe_str (nomark _)))))
          (pss_one (ps_ret (pe_and (pe_callB call_isi (by rfl) m1 (by decide +kernel) (pa_cons (pv 1) (pa_cons (pe_bltn (v := .ty "tuple") (by rfl) m2 (by decide +kernel) rfl) pa_nil))) (pe_one (pe_cmpR (op_eqD hr.units) (pv 1) (pe_tup pa_nil) rfl))))) pss_nil)
        (pss_cons (ps_if (PW.pt (pw_or (pt_cmpR (op_eqD hr.units) (pv 1) (pe_tup pa_nil) rfl) (pw_or (pt_not (pt_val (pe_callB call_isi (by rfl) m1 (by decide +kernel) (pa_cons (pe_ix ix_tup (pv 1) pe_int (fun _ _ => rfl)) (pa_cons (pe_bltn (v := .ty "int") (by rfl) m3 boot_int rfl) pa_nil))))) (pw_or (pt_val (pe_callB call_isi (by rfl) m1 (by decide +kernel) (pa_cons (pe_ix ix_tup (pv 1) pe_int (fun _ _ => rfl)) (pa_cons (pe_bltn (v := .ty "bool") (by rfl) m4 (by decide +kernel) rfl) pa_nil))))
            (pw_or1 (pt_not (pt_chain op_le op_lt pe_int (pe_ix ix_tup (pv 1) pe_int (fun _ _ => rfl)) (pe_op op_pow pe_int pe_int)))))))) (pss_one (ps_ret pe_bl)) pss_nil)
        (pss_cons (ps_if (pt_cmpR op_eq (pe_ix ix_tup (pv 0) pe_int (fun _ _ => rfl)) pe_str (nomark _)) (pss_one (ps_ret (pe_cmpR op_eq (pe_callB call_len_seq (by rfl) m5 (by decide +kernel) (pa_cons (pv 1) pa_nil)) pe_int (nomark _)))) pss_nil)
        (pss_cons (ps_if (pt_cmpR op_eq (pe_ix ix_tup (pv 0) pe_int (fun _ _ => rfl)) pe_str (nomark _)) (pss_one (ps_ret (pe_and (pe_cmpR op_lt (pe_ix ix_tup (pv 1) pe_int (fun _ _ => rfl)) pe_int (nomark _)) (pe_one (pe_call G hr (by rfl) g0 kp0 b0 .nil pass0 (pa_cons (pe_ix ix_tup (pv 0) (pe_op op_add pe_int (pe_ix ix_tup (pv 1) pe_int (fun _ _ => rfl))) (fun _ _ => rfl)) (pa_cons (pe_slice sl_tupA (pv 1) (po_some pe_int) po_none) pa_nil))))))) pss_nil)
        (pss_one (ps_ret (pe_call G hr (by rfl) g0 kp0 b0 .nil pass0 (pa_cons (pe_ix ix_tup (pv 0) pe_int (fun _ _ => rfl)) (pa_cons (pe_slice sl_tupA (pv 1) (po_some pe_int) po_none) pa_nil)))))))), ?_⟩
      have shp := flat_shaped fl
      have hvT : EvD (tVar 1) [some v, some vv] H (.tuple es) := ed_var rfl hvv
      have eqE : ∀ {H1 : Hp}, Ex H H1 → Ev (tOp (rEqD K) (tVar 1) (tTup tNil)) [some v, some vv] H1 (.bl es.isEmpty) := fun e1 => ev_is (ev_eqD (hvT.mono e1) (ed_tup eds_nil (by show (0 : Nat) ≤ 100000; decide)) shp (by decide +kernel)) (by rw [eqv_empty])
      have done : ∀ {H9 : Hp} {te : TE} {D : Ends} {b : Bool}, Ex H H9 → Ev te [some v, some vv] H9 (.bl b) → isA s es = b → D.rt = Q → tRet te D [some v, some vv] H9 := fun e9 h9 eb eD => by
        refine sd_ret (ed_bool h9) fun y H10 e10 hy => ?_
        rw [eD]
        rw [eb] at q
        exact q y H10 (e9.trans e10) hy
      by_cases isf : ∃ n, s = .few n
      · obtain ⟨n, rfl⟩ := isf
        refine q_when (D := { nx := _, rt := _ }) (b := true) (et_is (et_or (a := false) (b := true) (et_notTup hvT) fun _ => et_sw (s := .few n) (ed_var rfl hv) (by show decide (V.str "few" = V.str "few") = true; decide +kernel)) rfl) (fun _ H1 e1 => ?_) fun z => by cases z
        exact done (b := es.isEmpty) e1 (ev_andV (a := true) (ev_isTup (hvT.mono e1)) fun _ => eqE e1) rfl rfl
      have nf : decide (V.str (swd s) = V.str "few") = false := by
        cases s with
        | few n => exact absurd ⟨n, rfl⟩ isf
        | rows n => show decide (V.str "rows" = V.str "few") = false; decide +kernel
        | to b => show decide (V.str "to" = V.str "few") = false; decide +kernel
        | both a b => show decide (V.str "both" = V.str "few") = false; decide +kernel
      refine q_when (D := { nx := _, rt := _ }) (b := false) (et_is (et_or (a := false) (b := false) (et_notTup hvT) fun _ => et_sw (ed_var rfl hv) nf) rfl) (fun z => by cases z) fun _ H1 e1 => ?_
      cases es with
      | nil =>
        refine q_when (D := { nx := _, rt := _ }) (b := true) (et_is (et_or (a := true) (b := true) (et_is (et_test (eqE e1)) rfl) fun z => by cases z) rfl) (fun _ H2 e2 => ?_) fun z => by cases z
        refine done (e1.trans e2) ev_c ?_ rfl
        cases s with
        | few n => exact absurd ⟨n, rfl⟩ isf
        | _ => rfl
      | cons x r =>
        have hx1 : EvD (tOp (rIxT K) (tVar 1) (tC (.int 0))) [some v, some vv] H1 x := ed_ix (hvT.mono e1) ev_c ax0
        have tailE : ∀ {H2 : Hp}, Ex H H2 → EvD (tSl (rSlA K) (tVar 1) (tPart (tC (.int 1))) tNoPart) [some v, some vv] H2 (.tuple r) := fun e => by
          have z := ed_sl (K := K) (lo := some 1) (hi := none) (hvT.mono e) (eo_some ev_c) eo_none
          rw [cut_tail] at z
          exact z
        have bads : EvT (tOr (tTest (tOp (rEqD K) (tVar 1) (tTup tNil))) (tOr (tNot (tB (tCB (rIsi K) (tCons (tOp (rIxT K) (tVar 1) (tC (.int 0))) (tCons (tC (.ty "int")) tNil))))) (tOr (tB (tCB (rIsi K) (tCons (tOp (rIxT K) (tVar 1) (tC (.int 0))) (tCons (tC (.ty "bool")) tNil)))) (tNot (tTest (tChain (rI0 fun i j => .bl (decide (i ≤ j))) (rI0 fun i j => .bl (decide (i < j))) (tC (.int 0)) (tOp (rIxT K) (tVar 1) (tC (.int 0))) (tOp (rI CPow fun i j => .int (i ^ j.toNat)) (tC (.int 10)) (tC (.int 18)))))))))
            [some v, some vv] H1 (!between x 0 atop) := by
          have e0 : EvT (tTest (tOp (rEqD K) (tVar 1) (tTup tNil))) [some v, some vv] H1 false := et_is (et_test (eqE e1)) rfl
          rcases fl x List.mem_cons_self with ⟨n, rfl⟩ | ⟨b, rfl⟩ | rfl | rfl
          · refine et_is (et_or (a := false) e0 fun _ => et_or (a := false) (et_not (a := true) (et_B (ev_isInt hx1))) fun _ => et_or (a := false) (et_B (ev_isBool hx1)) fun _ => et_not (et_test (ev_chain2L ev_c (int_ed hx1) (ev_op ev_c ev_c (rv_I (by unfold CPow; decide)))))) ?_
            show (!(decide (0 ≤ n) && decide (n < 10 ^ 18))) = !(decide (0 ≤ n) && decide (n ≤ atop))
            have : decide (n < 10 ^ 18) = decide (n ≤ atop) := decide_eq_decide.mpr (by unfold atop; omega)
            rw [this]
          · exact et_is (et_or (a := false) e0 fun _ => et_or (a := false) (et_not (a := true) (et_B (ev_isInt hx1))) fun _ => et_or (a := true) (b := true) (et_B (ev_isBool hx1)) fun z => by cases z) rfl
          · exact et_is (et_or (a := false) e0 fun _ => et_or (a := true) (b := true) (et_not (a := false) (et_B (ev_isInt hx1))) fun z => by cases z) rfl
          · exact et_is (et_or (a := false) e0 fun _ => et_or (a := true) (b := true) (et_not (a := false) (et_B (ev_isInt hx1))) fun z => by cases z) rfl
        refine q_when (D := { nx := _, rt := _ }) (b := !between x 0 atop) bads (fun hb H2 e2 => ?_) fun hb H2 e2 => ?_
        · have nb : between x 0 atop = false := by simpa using hb
          refine done (e1.trans e2) ev_c ?_ rfl
          cases s with
          | few n => exact absurd ⟨n, rfl⟩ isf
          | rows n =>
            cases r with
            | nil => exact nb
            | cons _ _ => rfl
          | to b => show (between x 0 atop && isA b r) = false; rw [nb]; rfl
          | both a b =>
            refine isA_both ?_
            cases x with
            | int n =>
              have nb : (decide (0 ≤ n) && decide (n ≤ atop)) = false := nb
              show (decide (0 ≤ n) && decide (n ≤ 1)) = false
              by_cases z : 0 ≤ n
              · rw [decide_eq_true z] at nb ⊢
                have : ¬ n ≤ atop := by simpa using nb
                rw [decide_eq_false (by unfold atop at this; omega)]
                rfl
              · rw [decide_eq_false z]
                rfl
            | _ => rfl
        · have bt : between x 0 atop = true := by simpa using hb
          obtain ⟨n, rfl, n0, n1⟩ := bet_int bt
          have e12 := e1.trans e2
          have hv2 := hv.tk (tk_ex e12)
          have few' : r.length ≤ 1000 := by have few : r.length + 1 ≤ 1000 := few; omega
          have fl' : ∀ e ∈ r, flatE e := fun e he => fl e (List.mem_cons_of_mem _ he)
          have hn : ∀ {H3 : Hp}, Ex H H3 → Ev (tOp (rIxT K) (tVar 1) (tC (.int 0))) [some v, some vv] H3 (.int n) := fun e => int_ed (ed_ix (hvT.mono e) ev_c ax0)
          cases s with
          | few n => exact absurd ⟨n, rfl⟩ isf
          | rows m =>
            refine q_when (D := { nx := _, rt := _ }) (b := true) (et_sw (s := .rows m) (ed_var rfl hv2) (by show decide (V.str "rows" = V.str "rows") = true; decide +kernel)) (fun _ H3 e3 => ?_) fun z => by cases z
            refine done (b := decide (r.length + 1 = 1)) (e12.trans e3) (ev_lenN (n := 1) (hvT.mono (e12.trans e3)) rfl) ?_ rfl
            cases r with
            | nil => exact bt
            | cons _ _ => rfl
          | to b =>
            refine q_when (D := { nx := _, rt := _ }) (b := false) (et_sw (s := .to b) (ed_var rfl hv2) (by show decide (V.str "to" = V.str "rows") = false; decide +kernel)) (fun z => by cases z) fun _ H3 e3 => ?_
            refine q_when (D := { nx := _, rt := _ }) (b := false) (et_sw (s := .to b) (ed_var rfl (hv2.tk (tk_ex e3))) (by show decide (V.str "to" = V.str "both") = false; decide +kernel)) (fun z => by cases z) fun _ H4 e4 => ?_
            have e14 := (e12.trans e3).trans e4
            refine done (b := isA b r) e14 (bool_ed (ed_call (eds_cons (ed_to (ed_var rfl (hv.tk (tk_ex e14)))) (eds_cons (tailE e14) eds_nil)) ⟨b, r, rfl, by have hd : 1 + dep b ≤ d + 1 := hd; omega, fl', few', rfl⟩)) ?_ rfl
            show (between (.int n) 0 atop && isA b r) = isA b r
            rw [bt]
            rfl
          | both a b =>
            refine q_when (D := { nx := _, rt := _ }) (b := false) (et_sw (s := .both a b) (ed_var rfl hv2) (by show decide (V.str "both" = V.str "rows") = false; decide +kernel)) (fun z => by cases z) fun _ H3 e3 => ?_
            refine q_when (D := { nx := _, rt := _ }) (b := true) (et_sw (s := .both a b) (ed_var rfl (hv2.tk (tk_ex e3))) (by show decide (V.str "both" = V.str "both") = true; decide +kernel)) (fun _ H4 e4 => ?_) fun z => by cases z
            have e14 := (e12.trans e3).trans e4
            have hd' : dep b ≤ d ∧ dep a ≤ d := by have hd : 1 + max (dep b) (dep a) ≤ d + 1 := hd; omega
            refine done (b := decide (n < 2) && isA (nxt a b n) r) e14 (ev_andV (ev_op (hn e14) ev_c rv_I0) fun hlt => bool_ed (ed_call (eds_cons (ed_both (ed_var rfl (hv.tk (tk_ex e14))) (by have := of_decide_eq_true hlt; omega) (hn e14)) (eds_cons (tailE e14) eds_nil)) ⟨nxt a b n, r, rfl, by unfold nxt; split <;> omega, fl', few', rfl⟩)) ?_ rfl
            show (if n = 0 then isA a r else if n = 1 then isA b r else false) = (decide (n < 2) && isA (if n = 0 then a else b) r)
            by_cases z : n = 0
            · rw [if_pos z, if_pos z, decide_eq_true (by omega)]; rfl
            · by_cases z1 : n = 1
              · rw [if_neg z, if_pos z1, if_neg z, decide_eq_true (by omega)]; rfl
              · rw [if_neg z, if_neg z1, decide_eq_false (by omega)]; rfl
end
end K10
set_option Elab.async false
set_option linter.all false
set_option maxRecDepth 100000
set_option maxHeartbeats 1000000
namespace K10
open PySem PySem.Spec PyProof.Rows L2 Evl
def backL : Option (List Int) → List PyData
  | some l => [intsD l]
  | none => []
def spBack (d : Nat) : Sp := fun vs H Q _ => ∃ (x : V) (s : SK) (i : Int), vs = [x, .int i] ∧ Dt H x (skD s) ∧ dep s ≤ d ∧ d ≤ 6 ∧ 0 ≤ i ∧ i < atop ∧ ∀ p xs H', H p = none → Ex H H' → H' p = some (.lst xs) → DtAll H' xs (backL (iad s i)) → Q (.ref p) H'
theorem eld_back {σ : L2.St} {H : Hp} {te ti : TE} {s : SK} {E : XK} {d : Nat} {i : Int} (h : EvD te σ H (skD s)) (hi : Ev ti σ H (.int i)) (few : dep s ≤ d) (d6 : d ≤ 6) (i0 : 0 ≤ i) (i1 : i < atop) : EvLd (tCall (spBack d) [] E (tCons te (tCons ti tNil))) σ H (backL (iad s i)) := fun H1 e1 Q q =>
  h H1 e1 _ fun x H2 e2 hx => hi H2 (e1.trans e2) _ fun H3 e3 => ⟨x, s, i, rfl, hx.tk (tk_ex e3), few, d6, i0, i1, fun p xs H4 np e4 hp all => q p xs H4 (fresh_back (e2.trans e3) np) ((e2.trans e3).trans e4) hp all⟩
theorem eld_ifD {σ : L2.St} {H : Hp} {t : TT} {ta tb : TE} {ds : List PyData} {b : Bool} (h : EvT t σ H b) (h1 : b = true → EvLd ta σ H ds) (h2 : b = false → EvLd tb σ H ds) : EvLd (tIf t ta tb) σ H ds := fun H1 e Q q => h H1 e _ fun H2 e2 => by
  cases b with
  | true => exact h1 rfl H2 (e.trans e2) Q fun p xs H3 np e3 hp => q p xs H3 (fresh_back e2 np) (e2.trans e3) hp
  | false => exact h2 rfl H2 (e.trans e2) Q fun p xs H3 np e3 hp => q p xs H3 (fresh_back e2 np) (e2.trans e3) hp
theorem wipe_len (σ : L2.St) : (wipe σ [2]).length = σ.length := by simp [wipe]
theorem q_two {K : PySem.W.Frag} {σ : L2.St} {H : Hp} {D : Ends} {tz : TS} {te : TE} {i j : Nat} {d1 d2 : PyData} (h : EvD te σ H (.tuple [d1, d2])) (k : ∀ y z H1, Ex H H1 → Dt H1 y d1 → Dt H1 z d2 → tz D ((σ.set i (some y)).set j (some z)) H1) : tSeq (tAsg te (gTup K 2 (gCons (gName i) (gCons (gName j) gNil)))) tz D σ H := sd_two (D := { D with nx := tz D }) h k
theorem T_ge (t : Nat) : t ≤ T t := by
  induction t with
  | zero => exact Nat.zero_le _
  | succ t ih => rw [T_succ]; omega
theorem len_iad (s : SK) (i : Int) (h0 : 0 ≤ i) (h1 : i < atop) (d : dep s ≤ 6) : ∀ l, iad s i = some l → l.length ≤ 7 := fun l e => by
  have := (iad_rng s i l h0 h1 e).2
  omega
section
variable {P : Program} {w : World} {K : PySem.W.Frag} {mg : Str → Option Value} {base0 : Heap} {f f1 f2 f3 : Addr} {fd fd1 fd2 fd3 : FuncData} {k : Nat}
theorem ok_lback (F : Fun K "_law_back" "_law_back" sLBack f fd) (g0 : mg "_law_back" = some (.ref f)) (kp0 : PySem.W.keepIn K (.ref f) = true) (b0 : Binds K fd ["kind", "index"] []) : ∀ d : Nat, FnOk P w K mg base0 CX0 d f fd ["kind", "index"] (spBack d)
  | 0 => fn_none fun vs H Q E ⟨x, s, i, _, _, h, _⟩ => by have := dep_pos s; omega
  | d + 1 => by
    have G := ok_lback F g0 kp0 b0 d
    refine F.ok scLBack (fun vs H Q E h => ?_) (fun cdv A outer s0 H vs Q E hr h => ?_)
    · obtain ⟨x, s, i, rfl, _⟩ := h
      rfl
    · obtain ⟨v, s, i, rfl, hv, hd, d6, i0, i1, q⟩ := h
      refine ⟨_, pss_cons (ps_if (pt_cmpR op_eq (pe_ix ix_tup (pv 0) pe_int (fun _ _ => rfl)) pe_str (nomark _)) (pss_one (ps_ret (pe_ifExp (pt_cmpR op_eq (pv 1) pe_int (nomark _)) (pe_lst (pa_cons (pe_tup pa_nil) pa_nil)) (pe_lst pa_nil)))) pss_nil)
        (pss_cons (ps_if (pt_cmpR op_eq (pe_ix ix_tup (pv 0) pe_int (fun _ _ => rfl)) pe_str (nomark _)) (pss_one (ps_ret (pe_lst (pa_cons (pe_tup (pa_cons (pv 1) pa_nil)) pa_nil)))) pss_nil)
        (pss_cons (ps_if (pt_cmpR op_eq (pe_ix ix_tup (pv 0) pe_int (fun _ _ => rfl)) pe_str (nomark _)) (pss_one (ps_ret (pe_lc (own := [("rest", 2)]) (g := gName 2) rfl scLBack.nd (pi_list (pe_call G hr (by rfl) g0 kp0 b0 .nil pass0 (pa_cons (pe_ix ix_tup (pv 0) (pe_op op_add pe_int (pe_op op_mod (pv 1) pe_int)) (fun _ _ => rfl)) (pa_cons (pe_op op_fdiv (pv 1) pe_int) pa_nil)))) (blkOk_by (N := nLBack) (sc := defScope sLBack) (by decide +kernel))
            (fun _ _ _ _ _ => pg_name (i := 2) scLBack.nd rfl (Or.inl rfl)) (fun _ _ _ _ _ => pts_nil) (fun _ _ _ _ _ => pe_op (catK K rfl) (pe_tup (pa_cons (pe_op op_mod (pv 1) pe_int) pa_nil)) (pv 2))))) pss_nil)
        (pss_cons (ps_asg (pe_tup (pa_cons pe_int (pa_cons (pe_op op_pow pe_int pe_int) pa_nil))) (pg_tup (n := 2) (by rfl) (pgs_cons (pg_name (i := 3) scLBack.nd rfl (Or.inr rfl)) (pgs_cons (pg_name (i := 4) scLBack.nd rfl (Or.inl rfl)) pgs_nil))))
        (pss_cons (ps_while PassesOwn.never (pt_cmpR op_gt (pv 4) pe_int (nomark _))
          (pss_cons (ps_while PassesOwn.never (pt_cmpR op_le (pe_op op_fdiv (pe_op op_mul (pe_op op_add (pv 3) (pv 4)) (pe_op op_add (pe_op op_add (pv 3) (pv 4)) pe_int)) pe_int) (pv 1) (nomark _))
            (pss_one (ps_set (i := 3) scLBack.nd rfl (.inr rfl) (pe_op op_add (pv 3) (pv 4)))))
          (pss_one (ps_set (i := 4) scLBack.nd rfl (.inl rfl) (pe_op op_fdiv (pv 4) pe_int)))))
        (pss_cons (ps_set (i := 5) scLBack.nd rfl (.inr rfl) (pe_op op_sub (pv 1) (pe_op op_fdiv (pe_op op_mul (pv 3) (pe_op op_add (pv 3) pe_int)) pe_int)))
        (pss_cons (ps_if (pt_cmpR op_ge (pv 3) (pe_op op_pow pe_int pe_int) (nomark _)) (pss_one (ps_ret (pe_lst pa_nil))) pss_nil)
        (pss_one (ps_ret (pe_lc (own := [("rest", 2)]) (g := gName 2) rfl scLBack.nd (pi_list (pe_call G hr (by rfl) g0 kp0 b0 .nil pass0 (pa_cons (pe_ix ix_tup (pv 0) pe_int (fun _ _ => rfl)) (pa_cons (pv 5) pa_nil)))) (blkOk_by (N := nLBack) (sc := defScope sLBack) (by decide +kernel))
            (fun _ _ _ _ _ => pg_name (i := 2) scLBack.nd rfl (Or.inl rfl)) (fun _ _ _ _ _ => pts_nil) (fun _ _ _ _ _ => pe_op (catK K rfl) (pe_tup (pa_cons (pe_op op_sub (pv 3) (pv 5)) pa_nil)) (pv 2))))))))))), ?_⟩
      have fin : ∀ {te : TE} {σ : L2.St} {H1 : Hp} {D : Ends}, Ex H H1 → EvLd te σ H1 (backL (iad s i)) → D.rt = Q → tRet te D σ H1 := fun {te σ H1 D} e1 h eD => h H1 (Ex.refl _) _ fun p xs H2 np e2 hp all => by
        show D.rt _ _
        rw [eD]
        exact q p xs H2 (fresh_back e1 np) (e1.trans e2) hp all
      have comp : ∀ {x : Int} {o : Option (List Int)} {tl tx : TE} {σ : L2.St} {H1 : Hp}, (∀ l, o = some l → l.length ≤ 7) → EvLd tl σ H1 (backL o) → (σ.length = 6) → (∀ y H2, Ex H1 H2 → Ev tx ((wipe σ [2]).set 2 (some y)) H2 (.int x)) → (∀ y, wipe ((wipe σ [2]).set 2 (some y)) [2] = wipe σ [2]) →
          EvLd (tLc (iList K tl) (gName 2) tYes (tOp (rCatA K) (tTup (tCons tx tNil)) (tVar 2)) [2]) σ H1 (backL (o.map fun l => x :: l)) := fun {x o tl tx σ H1} hl h sl hx hw => by
        refine eld_is (eld_lcL (fun _ => true) (fun j => (backL (o.map fun l => x :: l)).getD j .none) h (by cases o <;> simp [backL]) fun j dd y H2 e2 hdd hy => ?_) ?_
        · cases o with
          | none => simp [backL] at hdd
          | some l =>
            cases j with
            | succ j => simp [backL] at hdd
            | zero =>
              cases hdd
              refine turn_name (hw y) (et_yes rfl) fun _ => ?_
              show EvD _ _ _ (intsD (x :: l))
              exact ed_cat (ds := [.int x]) (ed_tup (eds_cons (ed_int (hx y H2 e2)) eds_nil) (by show (1 : Nat) ≤ 100000; decide)) (ed_var (by
                rw [List.getElem?_set_self]
                rw [wipe_len, sl]
                decide) hy) (by rw [List.length_map]; show 1 + l.length ≤ 100000; have := hl l rfl; omega)
        · cases o with
          | none => rfl
          | some l => rfl
      cases s with
      | few n =>
        refine q_when (D := { nx := _, rt := _ }) (b := true) (et_sw (s := .few n) (ed_var rfl hv) (by show decide (V.str "few" = V.str "few") = true; decide +kernel)) (fun _ H1 e1 => ?_) fun z => by cases z
        refine fin e1 (eld_ifD (b := decide (i = 0)) (et_is (et_test (ev_op (ev_var rfl) ev_c (rv_eq rfl))) (decide_eq_decide.mpr ⟨fun z => by injection z, fun z => by rw [z]⟩)) (fun hb => ?_) fun hb => ?_) rfl
        · show EvLd _ _ _ (backL (if i = 0 then some [] else none))
          rw [if_pos (of_decide_eq_true hb)]
          exact eld_lst (eds_cons (ed_tup eds_nil (by show (0 : Nat) ≤ 100000; decide)) eds_nil) (by show (1 : Nat) ≤ 100000; decide)
        · show EvLd _ _ _ (backL (if i = 0 then some [] else none))
          rw [if_neg (of_decide_eq_false hb)]
          exact eld_lst eds_nil (by show (0 : Nat) ≤ 100000; decide)
      | rows n =>
        refine q_when (D := { nx := _, rt := _ }) (b := false) (et_sw (s := .rows n) (ed_var rfl hv) (by show decide (V.str "rows" = V.str "few") = false; decide +kernel)) (fun z => by cases z) fun _ H1 e1 => ?_
        refine q_when (D := { nx := _, rt := _ }) (b := true) (et_sw (s := .rows n) (ed_var rfl (hv.tk (tk_ex e1))) (by show decide (V.str "rows" = V.str "rows") = true; decide +kernel)) (fun _ H2 e2 => ?_) fun z => by cases z
        exact fin (e1.trans e2) (eld_lst (eds_cons (ed_tup (eds_cons (ed_int (ev_var rfl)) eds_nil) (by show (1 : Nat) ≤ 100000; decide)) eds_nil) (by show (1 : Nat) ≤ 100000; decide)) rfl
      | both a b =>
        have hd' : dep b ≤ d ∧ dep a ≤ d := by have hd : 1 + max (dep b) (dep a) ≤ d + 1 := hd; omega
        have hdn : dep (nxt a b (i % 2)) ≤ d := by unfold nxt; split <;> omega
        refine q_when (D := { nx := _, rt := _ }) (b := false) (et_sw (s := .both a b) (ed_var rfl hv) (by show decide (V.str "both" = V.str "few") = false; decide +kernel)) (fun z => by cases z) fun _ H1 e1 => ?_
        refine q_when (D := { nx := _, rt := _ }) (b := false) (et_sw (s := .both a b) (ed_var rfl (hv.tk (tk_ex e1))) (by show decide (V.str "both" = V.str "rows") = false; decide +kernel)) (fun z => by cases z) fun _ H2 e2 => ?_
        refine q_when (D := { nx := _, rt := _ }) (b := true) (et_sw (s := .both a b) (ed_var rfl (hv.tk (tk_ex (e1.trans e2)))) (by show decide (V.str "both" = V.str "both") = true; decide +kernel)) (fun _ H3 e3 => ?_) fun z => by cases z
        have e13 := (e1.trans e2).trans e3
        have i1' : i / 2 < atop := by omega
        have ei : iad (.both a b) i = (iad (nxt a b (i % 2)) (i / 2)).map fun l => (i % 2) :: l := by
          show (if i % 2 = 0 then iad a (i / 2) else iad b (i / 2)).map _ = (iad (if i % 2 = 0 then a else b) (i / 2)).map _
          split <;> rfl
        rw [ei] at fin
        refine fin e13 (comp (fun l e => len_iad _ _ (by omega) i1' (by omega) l e) (eld_back (ed_both (ed_var rfl (hv.tk (tk_ex e13))) (by omega) (ev_op (ev_var rfl) ev_c (rv_I (by show (0 : Int) < 2; decide)))) (ev_op (ev_var rfl) ev_c (rv_I (by unfold CDiv; decide))) hdn (by omega) (by omega) i1') rfl (fun y H4 e4 => ev_op (ev_var rfl) ev_c (rv_I (by show (0 : Int) < 2; decide))) fun y => rfl) rfl
      | to b =>
        have hb : dep b ≤ d := by have hd : 1 + dep b ≤ d + 1 := hd; omega
        refine q_when (D := { nx := _, rt := _ }) (b := false) (et_sw (s := .to b) (ed_var rfl hv) (by show decide (V.str "to" = V.str "few") = false; decide +kernel)) (fun z => by cases z) fun _ H1 e1 => ?_
        refine q_when (D := { nx := _, rt := _ }) (b := false) (et_sw (s := .to b) (ed_var rfl (hv.tk (tk_ex e1))) (by show decide (V.str "to" = V.str "rows") = false; decide +kernel)) (fun z => by cases z) fun _ H2 e2 => ?_
        refine q_when (D := { nx := _, rt := _ }) (b := false) (et_sw (s := .to b) (ed_var rfl (hv.tk (tk_ex (e1.trans e2)))) (by show decide (V.str "to" = V.str "both") = false; decide +kernel)) (fun z => by cases z) fun _ H3 e3 => ?_
        have e13 := (e1.trans e2).trans e3
        obtain ⟨N, rfl⟩ : ∃ N : Nat, i = (N : Int) := ⟨i.toNat, by omega⟩
        have N1 : (N : Int) < 999999999999999999 := i1
        refine q_two (D := { nx := _, rt := _ }) (d1 := .int 0) (d2 := .int 1000000000) (ed_tup (eds_cons (ed_int ev_c) (eds_cons (ed_int (ev_op ev_c ev_c (rv_I (by unfold CPow; decide)))) eds_nil)) (by show (2 : Nat) ≤ 100000; decide)) fun y4 z4 H4 e4 hy4 hz4 => ?_
        cases dt_int hy4
        cases dt_int hz4
        have pw10 : (10 : Nat) ^ 9 = 1000000000 := by decide
        refine q_while (D := { nx := _, rt := _ }) (fun m σ' H' => ∃ (t sn : Nat), σ' = [some v, some (.int (N : Int)), none, some (.int (t : Int)), some (.int (sn : Int)), none] ∧ Ex H H' ∧ T t ≤ N ∧ ((sn = 0 ∧ N < T (t + 1)) ∨ ∃ k, k ≤ 9 ∧ sn = 10 ^ k ∧ N < T (t + 10 * sn)) ∧ m = sn) 1000000000
          ⟨0, 1000000000, rfl, e13.trans e4, Nat.zero_le _, .inr ⟨9, by decide, by decide, by
            show N < T (0 + 10 * 1000000000)
            have : T (0 + 10 * 1000000000) = 50000000005000000000 := by decide +kernel
            omega⟩, rfl⟩ fun m σ' H' inv => ?_
        obtain ⟨t, sn, rfl, e5, tl, alt, hm⟩ := inv
        refine ⟨decide (0 < (sn : Int)), et_test (ev_op (ev_var rfl) ev_c rv_I0), fun hb6 H6 e6 => ?_, fun hb6 H6 e6 => ?_⟩
        · have s1 : 0 < sn := by have := of_decide_eq_true hb6; omega
          obtain ⟨k, k9, ek, up⟩ := alt.resolve_left fun h => by omega
          have sb : sn ≤ 1000000000 := by
            rw [ek, ← pw10]
            exact Nat.pow_le_pow_right (by decide) k9
          have tN : t ≤ N := Nat.le_trans (T_ge t) tl
          refine ⟨_, fun _ _ h => h, ?_⟩
          refine q_while (D := { nx := _, rt := _, bk := _, ct := _ }) (fun m σ'' H'' => ∃ t2 : Nat, σ'' = [some v, some (.int (N : Int)), none, some (.int (t2 : Int)), some (.int (sn : Int)), none] ∧ Ex H H'' ∧ T t2 ≤ N ∧ m = N + 1 - t2) (N + 1 - t)
            ⟨t, rfl, e5.trans e6, tl, rfl⟩ fun m σ'' H'' inv2 => ?_
          obtain ⟨t2, rfl, e7, tl2, rfl⟩ := inv2
          have tN2 : t2 ≤ N := Nat.le_trans (T_ge t2) tl2
          have half : ((t2 : Int) + (sn : Int)) * ((t2 : Int) + (sn : Int) + 1) / 2 = ((T (t2 + sn) : Nat) : Int) := by
            rw [tri_half (by omega)]
            congr 1
          refine ⟨decide (((T (t2 + sn) : Nat) : Int) ≤ (N : Int)), et_test (ev_op (ev_is (ev_op (ev_op (ev_op (ev_var rfl) (ev_var rfl) rv_I0) (ev_op (ev_op (ev_var rfl) (ev_var rfl) rv_I0) ev_c rv_I0) (rv_I (.inl (by omega)))) ev_c (rv_I (by unfold CDiv; decide))) (congrArg V.int half)) (ev_var rfl) rv_I0), fun hb8 H8 e8 => ?_, fun hb8 H8 e8 => ?_⟩
          · have le2 : T (t2 + sn) ≤ N := by have := of_decide_eq_true hb8; omega
            have := T_ge (t2 + sn)
            refine ⟨_, fun _ _ h => h, ?_⟩
            refine s_asg (i := 3) (v := .int ((t2 + sn : Nat) : Int)) (ev_is (ev_op (ev_var rfl) (ev_var rfl) rv_I0) (congrArg V.int (by omega))) fun H9 e9 => ?_
            exact ⟨N + 1 - (t2 + sn), by omega, t2 + sn, rfl, (e7.trans e8).trans e9, le2, rfl⟩
          · have gt2 : N < T (t2 + sn) := by have := of_decide_eq_false hb8; omega
            refine s_asg (i := 4) (v := .int ((sn / 10 : Nat) : Int)) (ev_is (ev_op (ev_var rfl) ev_c (rv_I (by unfold CDiv; decide))) (congrArg V.int (by omega))) fun H9 e9 => ?_
            refine ⟨sn / 10, by omega, t2, sn / 10, rfl, (e7.trans e8).trans e9, tl2, ?_, rfl⟩
            cases k with
            | zero =>
              rw [Nat.pow_zero] at ek
              exact .inl ⟨by omega, by rw [ek] at gt2; exact gt2⟩
            | succ k =>
              have e10 : sn / 10 = 10 ^ k := by
                rw [ek, Nat.pow_succ]
                exact Nat.mul_div_cancel _ (by decide)
              refine .inr ⟨k, by omega, e10, ?_⟩
              rw [e10]
              have : 10 * 10 ^ k = sn := by rw [ek, Nat.pow_succ, Nat.mul_comm]
              rw [this]
              exact gt2
        · have s0 : sn = 0 := by have := of_decide_eq_false hb6; omega
          subst s0
          have up : N < T (t + 1) := by
            rcases alt with h | ⟨k, _, ek, _⟩
            · exact h.2
            · have : 0 < (10 : Nat) ^ k := Nat.pow_pos (by decide)
              omega
          have et : trI (N : Int) = (t : Int) := by
            unfold trI
            rw [Int.toNat_natCast, (tri_ok N).one ⟨tl, up⟩]
          have tN : t ≤ N := Nat.le_trans (T_ge t) tl
          have e56 := e5.trans e6
          obtain ⟨r0, rA, rB⟩ := trI_ok i0
          have q0 : 0 ≤ trI (N : Int) * (trI (N : Int) + 1) / 2 := by rw [tri_half r0]; exact Int.natCast_nonneg _
          have ei : iad (.to b) (N : Int) = (if 1000000000 ≤ trI (N : Int) then none else (iad b ((N : Int) - trI (N : Int) * (trI (N : Int) + 1) / 2)).map fun l => (trI (N : Int) - ((N : Int) - trI (N : Int) * (trI (N : Int) + 1) / 2)) :: l) := rfl
          rw [ei, et] at fin
          rw [et] at q0 rA rB
          refine q_asg (D := { nx := _, rt := _ }) (i := 5) (ev_op (ev_var rfl) (ev_op (ev_op (ev_var rfl) (ev_op (ev_var rfl) ev_c rv_I0) (rv_I (.inl (by omega)))) ev_c (rv_I (by unfold CDiv; decide))) rv_I0) fun H7 e7 => ?_
          generalize hq : (t : Int) * ((t : Int) + 1) / 2 = qq at *
          refine q_when (D := { nx := _, rt := _ }) (b := decide (1000000000 ≤ (t : Int))) (et_test (ev_op (ev_var rfl) (ev_op ev_c ev_c (rv_I (by unfold CPow; decide))) rv_I0)) (fun hb8 H8 e8 => ?_) fun hb8 H8 e8 => ?_
          · rw [if_pos (of_decide_eq_true hb8)] at fin
            exact fin ((e56.trans e7).trans e8) (eld_lst eds_nil (by show (0 : Nat) ≤ 100000; decide)) rfl
          · rw [if_neg (of_decide_eq_false hb8)] at fin
            have e68 := (e56.trans e7).trans e8
            have i1' : (N : Int) - qq < atop := by unfold atop; omega
            exact fin e68 (comp (fun l e => len_iad _ _ (by omega) i1' (by omega) l e) (eld_back (ed_to (ed_var rfl (hv.tk (tk_ex e68)))) (ev_var rfl) hb (by omega) (by omega) i1') rfl (fun y H9 e9 => ev_op (ev_var rfl) (ev_var rfl) rv_I0) fun y => rfl) rfl
end
end K10
set_option Elab.async false
set_option linter.all false
set_option maxRecDepth 100000
set_option maxHeartbeats 1000000
namespace K10
open PySem PySem.Spec PyProof.Rows L2 Evl
theorem eqDK {X : Cx} (K : PySem.W.Frag) (e : X.K = K) (hu : X.A.units + 64 < cLine) : OpR X (compareOp .Eq) (rEqD K) := by
  subst e
  exact op_eqD hu
theorem pilK {X : Cx} (K : PySem.W.Frag) (e : X.K = K) {tg : Expr} {it : Expr} {t : TE} (h : PE X it t) : PI X tg it (iList K t) := by
  subst e
  exact pi_list h
def okLWid (ds : List PyData) (d : PyData) : Prop := ∃ (s : SK) (w : Int), ds = [skD s] ∧ s.ok ∧ dep s ≤ 6 ∧ Wid (szs s) w ∧ d = .tuple [.int w, .bool (ew (szs s)).isSome]
def gsOf (sz : List Int) : List Int := ((List.range 8).filter fun j : Nat => fits sz (2 + (j : Int))).map fun j : Nat => 2 + (j : Int)
def badOf (sz : List Int) (w : Int) : List Int := ((List.range sz.length).filter fun j => !decide (w / (sz.getD j 1) * (sz.getD j 1) = w)).map fun j => sz.getD j 1
theorem ew_gs (sz : List Int) : ew sz = (gsOf sz).head? := by
  have e : gsOf sz = (([2, 3, 4, 5, 6, 7, 8, 9] : List Int)).filter (fits sz) := by
    have e2 : ([2, 3, 4, 5, 6, 7, 8, 9] : List Int) = (List.range 8).map fun j : Nat => 2 + (j : Int) := by decide
    rw [e2, List.filter_map]
    rfl
  rw [e, List.head?_filter]
  rfl
theorem bad_fits {sz : List Int} {w : Int} (ok : ∀ x ∈ sz, 1 ≤ x ∧ x ≤ 9) : ((badOf sz w).map PyData.int).isEmpty = fits sz w := by
  rw [Bool.eq_iff_iff]
  unfold badOf fits
  rw [List.isEmpty_iff, List.map_map, List.map_eq_nil_iff, List.filter_eq_nil_iff, List.all_eq_true]
  constructor
  · intro h x hx
    obtain ⟨j, hj⟩ := List.getElem?_of_mem hx
    have lt := (List.getElem?_eq_some_iff.mp hj).1
    have es : sz.getD j 1 = x := by rw [List.getD_eq_getElem?_getD, hj]; rfl
    have := h j (List.mem_range.mpr lt)
    rw [es] at this
    have k : w / x * x = w := by simpa using this
    refine decide_eq_true ?_
    have := Int.emod_add_mul_ediv w x
    rw [Int.mul_comm x] at this
    omega
  · intro h j hj
    have lt := List.mem_range.mp hj
    have es : sz.getD j 1 = sz[j] := by rw [List.getD_eq_getElem?_getD, List.getElem?_eq_getElem lt]; rfl
    rw [es]
    have k := of_decide_eq_true (h _ (List.getElem_mem lt))
    have := Int.emod_add_mul_ediv w sz[j]
    rw [k, Int.mul_comm sz[j]] at this
    simp
    omega
theorem el_data {σ : L2.St} {H : Hp} {te : TE} {ns : List Int} (h : EvL te σ H (ns.map V.int)) : EvLd te σ H (ns.map .int) := fun H1 e Q q => h H1 e Q fun p H2 np e2 hp => q p _ H2 np e2 hp (dts_of_ints ns)
theorem ev_neVar {K : PySem.W.Frag} {σ : L2.St} {H : Hp} {ta tb : TE} {a : Addr} {xs : List V} {ds es : List PyData} (h : Ev ta σ H (.ref a)) (hp : H a = some (.lst xs)) (all : DtAll H xs ds) (hb : EvLd tb σ H es) (sd : SeqAt.shaped (.list ds) = true) (se : SeqAt.shaped (.list es) = true) : Ev (tOp (rNeD K) ta tb) σ H (.bl (!PyData.eqv (.list ds) (.list es))) := fun H1 e1 _ q =>
  h H1 e1 _ fun H2 e2 => hb H2 (e1.trans e2) _ fun b ys H3 _ e3 h3 all3 => ⟨_, _, dp_list (((e1.trans e2).trans e3) _ _ hp) (all.tk (tk_ex ((e1.trans e2).trans e3))), dp_list h3 all3, sd, se, q H3 (e2.trans e3)⟩
section
variable {P : Program} {w : World} {K : PySem.W.Frag} {mg : Str → Option Value} {base0 : Heap} {f f1 f2 f3 : Addr} {fd fd1 fd2 fd3 : FuncData} {k : Nat}
theorem ok_lwid (F : Fun K "_law_width" "_law_width" sLWidth f fd) (m1 : mg "range" = none) (m2 : mg "max" = none)
    (G1 : FnOk P w K mg base0 CX0 k f1 fd1 ["kind"] (spLSz 6)) (g1 : mg "_law_sizes_in" = some (.ref f1)) (kp1 : PySem.W.keepIn K (.ref f1) = true) (b1 : Binds K fd1 ["kind"] []) :
    FnOk P w K mg base0 CX0 (k + 1) f fd ["kind"] (spD okLWid) := by
  refine F.ok scLWidth (fun vs H Q E h => ?_) (fun cdv A outer s0 H vs Q E hr h => ?_)
  · obtain ⟨ds, d, all, ⟨s, w, rfl, _⟩, _⟩ := h
    exact all.len
  · obtain ⟨ds, dd, all, ⟨s, w, rfl, sok, sd, wid, rfl⟩, q⟩ := h
    obtain ⟨v, rfl, hv⟩ := dts1 all
    refine ⟨_, pss_cons (ps_set (i := 1) scLWidth.nd rfl (.inr rfl) (pe_call G1 hr (by rfl) g1 kp1 b1 .nil pass0 (pa_cons (pv 0) pa_nil)))
      (pss_cons (ps_setLc (i := 2) (own := [("wide", 3)]) (g := gName 3) rfl scLWidth.nd rfl rfl (by rfl) (pi_range2 (by rfl) m1 (pa_cons pe_int (pa_cons pe_int pa_nil))) (blkOk_by (N := nLWidth) (sc := defScope sLWidth) (by decide +kernel))
          (fun _ _ _ _ _ => pg_name (i := 3) scLWidth.nd rfl (Or.inr rfl)) (fun _ _ _ _ _ => pts_one (pt_cmpR (eqDK K rfl hr.units) (pe_lc (own := [("size", 4)]) (g := gName 4) rfl scLWidth.nd (pilK K rfl (pv 1)) (blkOk_by (N := nLWidth) (sc := { kind := .function, names := [(".0", .local), ("wide", .cell), ("sizes", .cell)], isGenerator := false, isCoroutine := false, more := [] }) (by decide +kernel))
            (fun _ _ _ _ _ => pg_name (i := 4) scLWidth.nd rfl (Or.inl rfl)) (fun _ _ _ _ _ => pts_one (pt_cmpR op_ne (pe_op op_mul (pe_op op_fdiv (pv 3) (pv 4)) (pv 4)) (pv 3) (nomark _))) (fun _ _ _ _ _ => pv 4)) (pe_lst pa_nil) rfl)) (fun _ _ _ _ _ => pv 3))
      (pss_one (ps_ret (pe_ifExp (pt_cmpR (op_neD hr.units) (pv 2) (pe_lst pa_nil) rfl) (pe_tup (pa_cons (pe_ix ix_list (pv 2) pe_int (fun _ _ => rfl)) (pa_cons pe_bl pa_nil))) (pe_tup (pa_cons (pe_callB (cr_max rfl) (by rfl) m2 (by decide +kernel) (pa_cons (pv 1) pa_nil)) (pa_cons pe_bl pa_nil))))))), ?_⟩
    have okS := szs_ok s sok
    have sl : (szs s).length ≤ 64 := by
      have h1 := szs_len s
      have h2 : (2 : Nat) ^ (dep s - 1) ≤ 2 ^ 6 := Nat.pow_le_pow_right (by decide) (by omega)
      omega
    refine q_asgL (D := { nx := _, rt := _ }) (i := 1) (el_lsz (ed_var rfl hv) sd (by decide)) fun S H1 nS e1 hS => ?_
    generalize szs s = sz at *
    refine q_asgLn (D := { nx := _, rt := _ }) (i := 2) (ds := (gsOf sz).map .int) (eld_is (eld_lcR2 (lo := 2) (hi := 10) (fun j => fits sz (2 + (j : Int))) (fun j => .int (2 + (j : Int))) (ea_cons ev_c (ea_cons ev_c ea_nil)) (by decide) fun i H2 e2 lt => ?_) ?_) fun G xs H2 nG e2 hG allG => ?_
    · refine turn_name rfl ?_ fun _ => ed_int (ev_var rfl)
      refine et_is (et_test (ev_eqL (K := K) (ds := (badOf sz (2 + (i : Int))).map .int) (es := []) (el_data (el_is (el_lcL (fun j => !decide ((2 + (i : Int)) / (sz.getD j 1) * (sz.getD j 1) = 2 + (i : Int))) (fun j => .int (sz.getD j 1)) (ev_var rfl) (SqL.of (e2 _ _ hS)) (by rw [List.length_map]; omega) (fun _ => rfl) (fun j x H3 e3 hx => ?_) (fun j x H3 e3 hx _ => ?_)) ?_)) (eld_lst eds_nil (by show (0 : Nat) ≤ 100000; decide)) (shaped_list _) (by decide +kernel))) ?_
      · obtain ⟨x', hx', rfl⟩ := map_at hx
        have ok1 := okS x' (List.mem_of_getElem? hx')
        have es : sz.getD j 1 = x' := by rw [List.getD_eq_getElem?_getD, hx']; rfl
        rw [es]
        refine et_is (et_test (ev_op (ev_op (ev_op (ev_var rfl) (ev_var rfl) (rv_I (by unfold CDiv; omega))) (ev_var rfl) (rv_I (.inr (by omega)))) (ev_var rfl) (rv_ne rfl))) ?_
        congr 1
        exact decide_eq_decide.mpr ⟨fun z => by injection z, fun z => by rw [z]⟩
      · obtain ⟨x', hx', rfl⟩ := map_at hx
        have es : sz.getD j 1 = x' := by rw [List.getD_eq_getElem?_getD, hx']; rfl
        rw [es]
        exact ev_var rfl
      · unfold given badOf
        rw [List.length_map, List.map_map]
        rfl
      · rw [eqv_nil]
        exact bad_fits okS
    · unfold givD gsOf
      rw [List.map_map]
      rfl
    have hgs : ew sz = (gsOf sz).head? := ew_gs sz
    refine sd_ret (D := { nx := _, rt := _ }) (d := .tuple [.int w, .bool (ew sz).isSome]) (ed_ifD (b := !(gsOf sz).isEmpty) (et_is (et_test (ev_neVar (K := K) (ev_var rfl) hG allG (eld_lst eds_nil (by show (0 : Nat) ≤ 100000; decide)) (shaped_list _) (by decide +kernel))) (by rw [eqv_nil]; cases gsOf sz <;> rfl)) (fun hb => ?_) fun hb => ?_) fun y H3 e3 hy => q y H3 ((e1.trans e2).trans e3) hy
    · cases hg : gsOf sz with
      | nil => rw [hg] at hb; cases hb
      | cons g gs =>
        rw [hg] at hgs allG
        have eg : g = w := Wid.one (.inl hgs) wid
        rw [hgs]
        have hx0 := dts_ints allG
        rw [hx0] at hG
        refine ed_tup (eds_cons (ed_int (ev_op (ev_var rfl) ev_c (rv_ixL (K := K) (SqL.of hG) ?_))) (eds_cons (ed_bool ev_c) eds_nil)) (by show (2 : Nat) ≤ 100000; decide)
        rw [eg]
        exact ax0
    · have hg : gsOf sz = [] := by
        cases hg : gsOf sz with
        | nil => rfl
        | cons g gs => rw [hg] at hb; cases hb
      rw [hg] at hgs
      have hn : ew sz = none := hgs
      have mx : IsMax w sz := by
        rcases wid with z | z
        · rw [hn] at z; cases z
        · exact z.2
      rw [hn]
      refine ed_tup (eds_cons (ed_int (fun H3 e3 Q3 q3 => ⟨_, rfl, S, sz, rfl, SqL.of ((e2.trans e3) _ _ hS), List.length_pos_iff.mpr (fun z => by rw [z] at mx; cases mx.1), fun m hm hx => ?_⟩)) (eds_cons (ed_bool ev_c) eds_nil)) (by show (2 : Nat) ≤ 100000; decide)
      have : m = w := by
        have := mx.2 m hm
        have := hx w mx.1
        omega
      rw [this]
      exact q3 H3 (Ex.refl _)
end
end K10
set_option Elab.async false
set_option linter.all false
set_option maxRecDepth 100000
set_option maxHeartbeats 1000000
namespace K10
open PySem PySem.Spec PyProof.Rows L2 Evl
def tK : Nat → Nat
  | 0 => 0
  | d + 1 => 3 + 2 * tK d
def IsK (d : Nat) (x : PyData) : Prop := ∃ s : SK, x = skD s ∧ s.ok ∧ dep s ≤ d
def okLK (d : Nat) (ds : List PyData) (P : PyData → Prop) : Prop := ∃ k : Nat, ds = [.int (k : Int)] ∧ 1 ≤ k ∧ k ≤ d ∧ P = IsK k
def IsAd (s : SK) (x : PyData) : Prop := ∃ (a : List Int) (z : Int), x = .tuple [intsD a, .int z] ∧ adr s a
def okLA (d : Nat) (ds : List PyData) (P : PyData → Prop) : Prop := ∃ (s : SK) (most : Int), ds = [skD s, .int most] ∧ s.ok ∧ dep s ≤ d ∧ d ≤ 6 ∧ 1 ≤ most ∧ most ≤ 10000000000 ∧ P = IsAd s
def IsFlat (x : PyData) : Prop := ∃ es : List PyData, x = .tuple es ∧ (∀ e ∈ es, flatE e) ∧ es.length ≤ 1000
def okLBent (ds : List PyData) (P : PyData → Prop) : Prop := ∃ a : List Int, ds = [intsD a] ∧ a.length ≤ 20 ∧ P = IsFlat
def IsBad (x : PyData) : Prop := ∃ g : GK, x = kD g ∧ g.ok ∧ g.nodes ≤ 1000 ∧ gdep g ≤ 30 ∧ srch g 1 = false
def okLBad (ds : List PyData) (P : PyData → Prop) : Prop := ∃ s : SK, ds = [skD s] ∧ s.ok ∧ dep s ≤ 5 ∧ P = IsBad
section
variable {K : PySem.W.Frag} {σ : L2.St} {H H' : Hp} {ta tb te td tx : TE} {m c : Addr} {n n' n1 n2 : Nat} {P P1 P2 : PyData → Prop} {PP : List PyData → Prop} {ds : List PyData}
theorem em_ifT (h : EvM m c te σ H n n1 fun d => ∃ b, d = .bool b) (h1 : EvM m c ta σ H n1 n2 P) (h2 : EvM m c tb σ H n1 n2 P) : EvM m c (tIf (tTest te) ta tb) σ H n n2 P := fun H1 e1 mk Q q =>
  h H1 e1 mk _ fun x d H2 pd e2 mk2 hx => by
    obtain ⟨b, rfl⟩ := pd
    cases dt_bool hx
    refine ⟨b, rfl, ?_⟩
    cases b with
    | true => exact h1 H2 (e1.trans e2) mk2 Q fun x d H3 pd e3 mk3 hx => q x d H3 pd (e2.trans e3) mk3 hx
    | false => exact h2 H2 (e1.trans e2) mk2 Q fun x d H3 pd e3 mk3 hx => q x d H3 pd (e2.trans e3) mk3 hx
theorem em_plus {a b : Int} (hb : EvM m c tb σ H n n1 (Below b)) : EvM m c (tOp (rI0 fun i j => .int (i + j)) (tC (.int a)) tb) σ H n n1 fun d => ∃ z : Int, d = .int z ∧ a ≤ z ∧ z < a + b :=
  em_op (em_of (d := .int a) (P := fun d => d = .int a) (fun _ _ => ed_int ev_c) rfl) hb fun x y d e H3 pd pe hx hy => by
    subst pd
    obtain ⟨z, rfl, z0, z1⟩ := pe
    cases dt_int hx
    cases dt_int hy
    exact ⟨.int (a + z), ⟨a + z, rfl, by omega, by omega⟩, ed_int (ev_op (ev_var rfl) (ev_var rfl) rv_I0)⟩
theorem em_pair {w : Str} (h : EvM m c te σ H n n1 P1) (hp : ∀ d, P1 d → P (.tuple [.str w, d])) : EvM m c (tTup (tCons (tC (.str w)) (tCons te tNil))) σ H n n1 P :=
  em_tup (PP := fun ds => ∃ d, P1 d ∧ ds = [.str w, d]) (ems_cons (P := fun d => d = .str w) (PP := fun ds => ∃ d, P1 d ∧ ds = [d]) (PP' := fun ds => ∃ d, P1 d ∧ ds = [.str w, d]) (em_of (fun _ _ => ed_str) rfl) (ems_cons (P := P1) (PP := fun ds => ds = []) (PP' := fun ds => ∃ d, P1 d ∧ ds = [d]) h (ems_nil rfl) fun d ds h1 h2 => ⟨d, h1, by rw [h2]⟩) fun d ds h1 h2 => by
    obtain ⟨d', h3, h4⟩ := h2
    exact ⟨d', h3, by rw [h1, h4]⟩) fun ds h => by
    obtain ⟨d', h3, rfl⟩ := h
    exact ⟨by show (2 : Nat) ≤ 1000; decide, hp d' h3⟩
theorem em_trip {w : Str} (h : EvM m c te σ H n n1 P1) (h' : EvM m c td σ H n1 n2 P2) (hp : ∀ d e, P1 d → P2 e → P (.tuple [.str w, d, e])) : EvM m c (tTup (tCons (tC (.str w)) (tCons te (tCons td tNil)))) σ H n n2 P :=
  em_tup (PP := fun ds => ∃ d e, P1 d ∧ P2 e ∧ ds = [.str w, d, e]) (ems_cons (P := fun d => d = .str w) (PP := fun ds => ∃ d e, P1 d ∧ P2 e ∧ ds = [d, e]) (PP' := fun ds => ∃ d e, P1 d ∧ P2 e ∧ ds = [.str w, d, e]) (em_of (fun _ _ => ed_str) rfl) (ems_cons (P := P1) (PP := fun ds => ∃ e, P2 e ∧ ds = [e]) (PP' := fun ds => ∃ d e, P1 d ∧ P2 e ∧ ds = [d, e]) h (ems_cons (P := P2) (PP := fun ds => ds = []) (PP' := fun ds => ∃ e, P2 e ∧ ds = [e]) h' (ems_nil rfl) fun d ds h1 h2 => ⟨d, h1, by rw [h2]⟩) fun d ds h1 h2 => by
    obtain ⟨d', h3, h4⟩ := h2
    exact ⟨d, d', h1, h3, by rw [h4]⟩) fun d ds h1 h2 => by
    obtain ⟨d', e', h3, h4, h5⟩ := h2
    exact ⟨d', e', h3, h4, by rw [h1, h5]⟩) fun ds h => by
    obtain ⟨d', e', h3, h4, rfl⟩ := h
    exact ⟨by show (3 : Nat) ≤ 1000; decide, hp d' e' h3 h4⟩
theorem em_pickD {i : Nat} {E : XK} (hi : σ[i]? = some (some (.ref m))) (h : ∀ H1, Kin H H1 → EvLd te σ H1 ds) (full : ds ≠ []) (small : ds.length ≤ 1000) (few : n + 1 < 1000000) : EvM m c (tCall (spPick K) [] E (tCons (tVar i) (tCons te tNil))) σ H n (n + 1) (fun d => d ∈ ds) := fun H1 e1 mk Q q =>
  ⟨_, hi, h H1 e1 H1 (Ex.refl _) _ fun p xs H2 np e2 hp all => ⟨m, c, p, n, xs, rfl, SqL.of hp, all.ne full, by rw [all.len]; exact small, mk.ex e2, few, fun z H' hz e3 mk3 => by
    obtain ⟨d, hd, y⟩ := dt_mem all hz
    exact q z d H' hd ((kin_ex e2).trans e3) mk3 (y.tk (tk_kin e3))⟩⟩
end
section
variable {P : Program} {w : World} {K : PySem.W.Frag} {mg : Str → Option Value} {base0 : Heap} {f f1 f2 f3 : Addr} {fd fd1 fd2 fd3 : FuncData} {k : Nat}
theorem ok_lkind (F : Fun K "_law_kind" "_law_kind" sLKind f fd) (g0 : mg "_law_kind" = some (.ref f)) (kp0 : PySem.W.keepIn K (.ref f) = true) (b0 : Binds K fd ["m", "deep"] [])
    (G1 : FnOk P w K mg base0 CX0 1 f1 fd1 ["m", "below"] spDraw) (g1 : mg "_law_draw" = some (.ref f1)) (kp1 : PySem.W.keepIn K (.ref f1) = true) (b1 : Binds K fd1 ["m", "below"] []) :
    ∀ d : Nat, FnOk P w K mg base0 CX0 (d + 1) f fd ["m", "deep"] (spM (tK d) (okLK d))
  | 0 => (fn_none (sp := spM (tK 0) (okLK 0)) fun vs H Q E h => by obtain ⟨m, c, n, xs, ds, P, _, _, ⟨k, _, h1, h2, _⟩, _⟩ := h; omega).mono (by decide)
  | d + 1 => by
    have G := ok_lkind F g0 kp0 b0 G1 g1 kp1 b1 d
    have G1' := G1.mono (show 1 ≤ d + 1 by omega)
    refine F.ok scLKind (fun vs H Q E h => ?_) (fun cdv A outer s0 H vs Q E hr h => ?_)
    · obtain ⟨m, c, n, xs, ds, P, rfl, all, ⟨k, rfl, _⟩, _⟩ := h
      show xs.length + 1 = 2
      rw [all.len]
      rfl
    · obtain ⟨m, c, n, xs, ds, P, rfl, all, ⟨k, rfl, k1, kd, rfl⟩, mk, few, q⟩ := h
      obtain ⟨x, rfl, hx⟩ := dts1 all
      cases dt_int hx
      have few : n + (3 + 2 * tK d) < 1000000 := few
      refine ⟨_, pss_cons (ps_set (i := 2) scLKind.nd rfl (.inl rfl) (pe_call G1' hr (by rfl) g1 kp1 b1 .nil pass0 (pa_cons (pv 0) (pa_cons pe_int pa_nil))))
        (pss_cons (ps_if (PW.pt (pw_or (pt_cmpR op_lt (pv 1) pe_int (nomark _)) (pw_or1 (pt_cmpR op_lt (pv 2) pe_int (nomark _)))))
          (pss_cons (ps_if (pt_cmpR op_eq (pe_op op_mod (pv 2) pe_int) pe_int (nomark _)) (pss_one (ps_ret (pe_tup (pa_cons pe_str (pa_cons (pe_ifExp (pt_cmpR op_eq (pe_call G1' hr (by rfl) g1 kp1 b1 .nil pass0 (pa_cons (pv 0) (pa_cons pe_int pa_nil))) pe_int (nomark _)) (pe_op op_add pe_int (pe_call G1' hr (by rfl) g1 kp1 b1 .nil pass0 (pa_cons (pv 0) (pa_cons pe_int pa_nil)))) (pe_op op_add pe_int (pe_call G1' hr (by rfl) g1 kp1 b1 .nil pass0 (pa_cons (pv 0) (pa_cons pe_int pa_nil))))) pa_nil))))) pss_nil)
          (pss_one (ps_ret (pe_tup (pa_cons pe_str (pa_cons (pe_ifExp (pt_cmpR op_eq (pe_call G1' hr (by rfl) g1 kp1 b1 .nil pass0 (pa_cons (pv 0) (pa_cons pe_int pa_nil))) pe_int (nomark _)) (pe_op op_add pe_int (pe_call G1' hr (by rfl) g1 kp1 b1 .nil pass0 (pa_cons (pv 0) (pa_cons pe_int pa_nil)))) (pe_op op_add pe_int (pe_call G1' hr (by rfl) g1 kp1 b1 .nil pass0 (pa_cons (pv 0) (pa_cons pe_int pa_nil))))) pa_nil)))))) pss_nil)
        (pss_cons (ps_if (pt_cmpR op_lt (pv 2) pe_int (nomark _)) (pss_one (ps_ret (pe_tup (pa_cons pe_str (pa_cons (pe_call G hr (by rfl) g0 kp0 b0 .nil pass0 (pa_cons (pv 0) (pa_cons (pe_op op_sub (pv 1) pe_int) pa_nil))) (pa_cons (pe_call G hr (by rfl) g0 kp0 b0 .nil pass0 (pa_cons (pv 0) (pa_cons (pe_op op_sub (pv 1) pe_int) pa_nil))) pa_nil)))))) pss_nil)
        (pss_one (ps_ret (pe_tup (pa_cons pe_str (pa_cons (pe_tup (pa_cons pe_str pa_nil)) (pa_cons (pe_call G hr (by rfl) g0 kp0 b0 .nil pass0 (pa_cons (pv 0) (pa_cons (pe_op op_sub (pv 1) pe_int) pa_nil))) pa_nil)))))))), ?_⟩
      refine qm_asg (D := { nx := _, rt := _ }) (i := 2) mk (em_draw (b := 6) rfl (fun _ _ => ev_c) (by decide) (by decide) (by omega)) fun x2 d2 H1 pd e1 mk1 hx2 => ?_
      obtain ⟨way, rfl, w0, w1⟩ := pd
      cases dt_int hx2
      have leaf : ∀ {σ : L2.St} {H2 : Hp} {a1 b1' : Int}, σ[0]? = some (some (.ref m)) → 1 ≤ b1' → b1' ≤ 9 → EvM m c (tIf (tTest (tOp rEq (tCall spDraw [] E0 (tCons (tVar 0) (tCons (tC (.int 3)) tNil))) (tC (.int 0)))) (tOp (rI0 fun i j => .int (i + j)) (tC (.int a1)) (tCall spDraw [] E0 (tCons (tVar 0) (tCons (tC (.int b1')) tNil)))) (tOp (rI0 fun i j => .int (i + j)) (tC (.int 2)) (tCall spDraw [] E0 (tCons (tVar 0) (tCons (tC (.int 2)) tNil))))) σ H2 (n + 1) (n + 3) fun d => ∃ z : Int, d = .int z ∧ min a1 2 ≤ z ∧ z < max (a1 + b1') 4 := fun {σ H2 a1 b1'} hi h1 h2 =>
        em_ifT (n1 := n + 2) (em_zero (em_draw (b := 3) hi (fun _ _ => ev_c) (by decide) (by decide) (by omega))) ((em_plus (em_draw (b := b1') hi (fun _ _ => ev_c) h1 (by omega) (by omega))).is fun d h => by
          obtain ⟨z, rfl, z0, z1⟩ := h
          exact ⟨z, rfl, by omega, by omega⟩) ((em_plus (em_draw (b := 2) hi (fun _ _ => ev_c) (by decide) (by decide) (by omega))).is fun d h => by
          obtain ⟨z, rfl, z0, z1⟩ := h
          exact ⟨z, rfl, by omega, by omega⟩)
      have out : ∀ {x : V} {d' : PyData} {H2 : Hp} {n2 : Nat}, IsK k d' → Kin H H2 → Mok H2 m c n2 → n2 ≤ n + (3 + 2 * tK d) → Dt H2 x d' → Q x H2 := fun h1 h2 h3 h4 h5 => q _ _ _ h1 h2 (h3.mono h4) h5
      refine q_when (D := { nx := _, rt := _ }) (b := decide ((k : Int) < 2) || decide (way < 2)) (et_or (et_test (ev_op (ev_var rfl) ev_c rv_I0)) fun _ => et_test (ev_op (ev_var rfl) ev_c rv_I0)) (fun hb H2 e2 => ?_) fun hb H2 e2 => ?_
      · refine q_when (D := { nx := _, rt := _ }) (b := decide (way % 2 = 0)) (et_is (et_test (ev_op (ev_op (ev_var rfl) ev_c (rv_I (by show (0 : Int) < 2; decide))) ev_c (rv_eq rfl))) (decide_eq_decide.mpr ⟨fun z => by injection z, fun z => by rw [z]⟩)) (fun hb3 H3 e3 => ?_) fun hb3 H3 e3 => ?_
        · refine sm_ret (D := { nx := _, rt := _ }) ((mk1.ex e2).ex e3) (em_pair (P := IsK k) (leaf (a1 := 1) (b1' := 9) rfl (by decide) (by decide)) fun d h => ?_) fun x d' H4 pd e4 mk4 hx => out pd (((e1.trans (kin_ex e2)).trans (kin_ex e3)).trans e4) mk4 (by omega) hx
          obtain ⟨z, rfl, z0, z1⟩ := h
          exact ⟨.few z, rfl, ⟨by omega, by omega⟩, k1⟩
        · refine sm_ret (D := { nx := _, rt := _ }) ((mk1.ex e2).ex e3) (em_pair (P := IsK k) (leaf (a1 := 2) (b1' := 8) rfl (by decide) (by decide)) fun d h => ?_) fun x d' H4 pd e4 mk4 hx => out pd (((e1.trans (kin_ex e2)).trans (kin_ex e3)).trans e4) mk4 (by omega) hx
          obtain ⟨z, rfl, z0, z1⟩ := h
          exact ⟨.rows z, rfl, ⟨by omega, by omega⟩, k1⟩
      · have k2 : 2 ≤ k := by
          have := Bool.or_eq_false_iff.mp hb
          have := of_decide_eq_false this.1
          omega
        have rec_ : ∀ {σ : L2.St} {H3 : Hp} {n3 : Nat}, σ[0]? = some (some (.ref m)) → σ[1]? = some (some (.int (k : Int))) → n3 + tK d < 1000000 → EvM m c (tCall (spM (tK d) (okLK d)) [] E0 (tCons (tVar 0) (tCons (tOp (rI0 fun i j => .int (i - j)) (tVar 1) (tC (.int 1))) tNil))) σ H3 n3 (n3 + tK d) (IsK (k - 1)) := fun h0 h1 hf =>
          em_call (ds := [.int ((k - 1 : Nat) : Int)]) h0 (fun H4 _ => eds_cons (ed_int (ev_is (ev_op (ev_var h1) ev_c rv_I0) (congrArg V.int (by omega)))) eds_nil) ⟨k - 1, rfl, by omega, by omega, rfl⟩ hf
        refine q_when (D := { nx := _, rt := _ }) (b := decide (way < 4)) (et_test (ev_op (ev_var rfl) ev_c rv_I0)) (fun hb3 H3 e3 => ?_) fun hb3 H3 e3 => ?_
        · refine sm_ret (D := { nx := _, rt := _ }) ((mk1.ex e2).ex e3) (em_trip (P := IsK k) (rec_ rfl rfl (by omega)) (rec_ rfl rfl (by omega)) fun d e h1 h2 => ?_) fun x d' H4 pd e4 mk4 hx => out pd (((e1.trans (kin_ex e2)).trans (kin_ex e3)).trans e4) mk4 (by omega) hx
          obtain ⟨sa, rfl, oka, da⟩ := h1
          obtain ⟨sb, rfl, okb, db⟩ := h2
          exact ⟨.both sa sb, rfl, ⟨oka, okb⟩, by show 1 + max (dep sb) (dep sa) ≤ k; omega⟩
        · refine sm_ret (D := { nx := _, rt := _ }) ((mk1.ex e2).ex e3) (em_trip (P := IsK k) (n1 := n + 1) (P1 := fun d => d = .tuple [.str "num"]) (em_of (fun _ _ => ed_tup (eds_cons ed_str eds_nil) (by show (1 : Nat) ≤ 100000; decide)) rfl) (rec_ rfl rfl (by omega)) fun d e h1 h2 => ?_) fun x d' H4 pd e4 mk4 hx => out pd (((e1.trans (kin_ex e2)).trans (kin_ex e3)).trans e4) mk4 (by omega) hx
          subst h1
          obtain ⟨sb, rfl, okb, db⟩ := h2
          exact ⟨.to sb, rfl, okb, by show 1 + dep sb ≤ k; omega⟩
end
end K10
set_option Elab.async false
set_option linter.all false
set_option maxRecDepth 100000
set_option maxHeartbeats 1000000
namespace K10
open PySem PySem.Spec PyProof.Rows L2 Evl
theorem qm_asgG {m c : Addr} {σ : L2.St} {H : Hp} {n n1 : Nat} {P : PyData → Prop} {te : TE} {D : Ends} {tz : TS} {g : TG} (mk : Mok H m c n) (h : EvM m c te σ H n n1 P) (k : ∀ x d H1, P d → Kin H H1 → Mok H1 m c n1 → Dt H1 x d → g x σ H1 fun σ2 H2 => tz D σ2 H2) : tSeq (tAsg te g) tz D σ H := h H (Kin.refl _) mk _ fun x d H1 p e1 mk1 hx => k x d H1 p e1 mk1 hx
section
variable {P : Program} {w : World} {K : PySem.W.Frag} {mg : Str → Option Value} {base0 : Heap} {f f1 f2 f3 : Addr} {fd fd1 fd2 fd3 : FuncData} {k : Nat}
theorem ok_laddr (F : Fun K "_law_address" "_law_address" sLAddress f fd) (g0 : mg "_law_address" = some (.ref f)) (kp0 : PySem.W.keepIn K (.ref f) = true) (b0 : Binds K fd ["m", "kind", "most"] [])
    (G1 : FnOk P w K mg base0 CX0 1 f1 fd1 ["m", "below"] spDraw) (g1 : mg "_law_draw" = some (.ref f1)) (kp1 : PySem.W.keepIn K (.ref f1) = true) (b1 : Binds K fd1 ["m", "below"] []) :
    ∀ d : Nat, FnOk P w K mg base0 CX0 (d + 1) f fd ["m", "kind", "most"] (spM d (okLA d))
  | 0 => (fn_none (sp := spM 0 (okLA 0)) fun vs H Q E h => by obtain ⟨m, c, n, xs, ds, P, _, _, ⟨s, _, _, _, h1, _⟩, _⟩ := h; have := dep_pos s; omega).mono (by decide)
  | d + 1 => by
    have G := ok_laddr F g0 kp0 b0 G1 g1 kp1 b1 d
    have G1' := G1.mono (show 1 ≤ d + 1 by omega)
    refine F.ok scLAddress (fun vs H Q E h => ?_) (fun cdv A outer s0 H vs Q E hr h => ?_)
    · obtain ⟨m, c, n, xs, ds, P, rfl, all, ⟨s, most, rfl, _⟩, _⟩ := h
      show xs.length + 1 = 3
      rw [all.len]
      rfl
    · obtain ⟨m, c, n, xs, ds, P, rfl, all, ⟨s, most, rfl, sok, hd, d6, m1, m2, rfl⟩, mk, few, q⟩ := h
      obtain ⟨v, y, rfl, hv, hy⟩ := dts2 all
      cases dt_int hy
      refine ⟨_, pss_cons (ps_if (pt_cmpR op_eq (pe_ix ix_tup (pv 1) pe_int (fun _ _ => rfl)) pe_str (nomark _)) (pss_one (ps_ret (pe_tup (pa_cons (pe_tup pa_nil) (pa_cons (pe_ix ix_tup (pv 1) pe_int (fun _ _ => rfl)) pa_nil))))) pss_nil)
        (pss_cons (ps_if (pt_cmpR op_eq (pe_ix ix_tup (pv 1) pe_int (fun _ _ => rfl)) pe_str (nomark _)) (pss_one (ps_ret (pe_tup (pa_cons (pe_tup (pa_cons (pe_call G1' hr (by rfl) g1 kp1 b1 .nil pass0 (pa_cons (pv 0) (pa_cons (pv 2) pa_nil))) pa_nil)) (pa_cons (pe_ix ix_tup (pv 1) pe_int (fun _ _ => rfl)) pa_nil))))) pss_nil)
        (pss_cons (ps_set (i := 3) scLAddress.nd rfl (.inl rfl) (pe_call G1' hr (by rfl) g1 kp1 b1 .nil pass0 (pa_cons (pv 0) (pa_cons (pe_ifExp (pt_cmpR op_eq (pe_ix ix_tup (pv 1) pe_int (fun _ _ => rfl)) pe_str (nomark _)) pe_int (pv 2)) pa_nil))))
        (pss_cons (ps_asg (pe_call G hr (by rfl) g0 kp0 b0 .nil pass0 (pa_cons (pv 0) (pa_cons (pe_ifExp (pt_cmpR op_eq (pe_ix ix_tup (pv 1) pe_int (fun _ _ => rfl)) pe_str (nomark _)) (pe_ix ix_tup (pv 1) (pe_op op_add pe_int (pv 3)) (fun _ _ => rfl)) (pe_ix ix_tup (pv 1) pe_int (fun _ _ => rfl))) (pa_cons (pv 2) pa_nil)))) (pg_tup (n := 2) (by rfl) (pgs_cons (pg_name (i := 4) scLAddress.nd rfl (Or.inl rfl)) (pgs_cons (pg_name (i := 5) scLAddress.nd rfl (Or.inl rfl)) pgs_nil))))
        (pss_one (ps_ret (pe_tup (pa_cons (pe_op op_catA (pe_tup (pa_cons (pv 3) pa_nil)) (pv 4)) (pa_cons (pv 5) pa_nil)))))))), ?_⟩
      have ha : (10000000000 : Int) ≤ atop := by decide
      have out : ∀ {x : V} {d' : PyData} {H2 : Hp} {n2 : Nat}, IsAd s d' → Kin H H2 → Mok H2 m c n2 → n2 ≤ n + (d + 1) → Dt H2 x d' → Q x H2 := fun h1 h2 h3 h4 h5 => q _ _ _ h1 h2 (h3.mono h4) h5
      cases s with
      | few z =>
        refine q_when (D := { nx := _, rt := _ }) (b := true) (et_sw (s := .few z) (ed_var rfl hv) (by show decide (V.str "few" = V.str "few") = true; decide +kernel)) (fun _ H1 e1 => ?_) fun z => by cases z
        exact sd_ret (D := { nx := _, rt := _ }) (d := .tuple [intsD [], .int z]) (ed_tup (eds_cons (ed_tup eds_nil (by show (0 : Nat) ≤ 100000; decide)) (eds_cons (ed_ix (ed_k (g := .few z) (ed_var rfl (hv.tk (tk_ex e1)))) ev_c ax1) eds_nil)) (by show (2 : Nat) ≤ 100000; decide)) fun x H2 e2 hx => out ⟨[], z, rfl, rfl⟩ (kin_ex (e1.trans e2)) (mk.ex (e1.trans e2)) (by omega) hx
      | rows z =>
        refine q_when (D := { nx := _, rt := _ }) (b := false) (et_sw (s := .rows z) (ed_var rfl hv) (by show decide (V.str "rows" = V.str "few") = false; decide +kernel)) (fun z => by cases z) fun _ H1 e1 => ?_
        refine q_when (D := { nx := _, rt := _ }) (b := true) (et_sw (s := .rows z) (ed_var rfl (hv.tk (tk_ex e1))) (by show decide (V.str "rows" = V.str "rows") = true; decide +kernel)) (fun _ H2 e2 => ?_) fun z => by cases z
        have e12 := e1.trans e2
        refine sm_ret (D := { nx := _, rt := _ }) (P := IsAd (.rows z)) (n1 := n + 1) (mk.ex e12) (em_tup (PP := fun ds => ∃ x : Int, ds = [intsD [x], .int z] ∧ 0 ≤ x ∧ x < most) (ems_cons (P := fun d => ∃ x : Int, d = intsD [x] ∧ 0 ≤ x ∧ x < most) (PP := fun ds => ds = [.int z]) (PP' := fun ds => ∃ x : Int, ds = [intsD [x], .int z] ∧ 0 ≤ x ∧ x < most)
          (em_tup (PP := fun ds => ∃ x : Int, ds = [.int x] ∧ 0 ≤ x ∧ x < most) (ems_cons (PP := fun ds => ds = []) (PP' := fun ds => ∃ x : Int, ds = [.int x] ∧ 0 ≤ x ∧ x < most) (em_draw (b := most) rfl (fun _ _ => ev_var rfl) m1 (by omega) (by omega)) (ems_nil rfl) fun d ds h1 h2 => by
            obtain ⟨x, rfl, x0, x1⟩ := h1
            exact ⟨x, by rw [h2], x0, x1⟩) fun ds h => by
            obtain ⟨x, rfl, x0, x1⟩ := h
            exact ⟨by show (1 : Nat) ≤ 1000; decide, x, rfl, x0, x1⟩)
          (ems_cons (P := fun d => d = .int z) (PP := fun ds => ds = []) (PP' := fun ds => ds = [.int z]) (em_of (fun H3 e3 => ed_ix (ed_k (g := .rows z) (ed_var rfl (rc_tk e3 (hv.tk (tk_ex e12))))) ev_c ax1) rfl) (ems_nil rfl) fun d ds h1 h2 => by rw [h1, h2]) fun d ds h1 h2 => by
            obtain ⟨x, rfl, x0, x1⟩ := h1
            exact ⟨x, by rw [h2], x0, x1⟩) fun ds h => by
            obtain ⟨x, rfl, x0, x1⟩ := h
            exact ⟨by show (2 : Nat) ≤ 1000; decide, [x], z, rfl, x, rfl, x0, by omega⟩) fun x d' H3 pd e3 mk3 hx => out pd ((kin_ex e12).trans e3) mk3 (by omega) hx
      | to b =>
        have hb : dep b ≤ d := by have hd : 1 + dep b ≤ d + 1 := hd; omega
        have noB : ∀ {σ : L2.St} {H2 : Hp}, σ[1]? = some (some v) → Kin H H2 → EvT (tTest (tOp rEq (tOp (rIxT K) (tVar 1) (tC (.int 0))) (tC (.str "both")))) σ H2 false := fun h e => et_sw (s := .to b) (ed_var h (rc_tk e hv)) (by show decide (V.str "to" = V.str "both") = false; decide +kernel)
        refine q_when (D := { nx := _, rt := _ }) (b := false) (et_sw (s := .to b) (ed_var rfl hv) (by show decide (V.str "to" = V.str "few") = false; decide +kernel)) (fun z => by cases z) fun _ H1 e1 => ?_
        refine q_when (D := { nx := _, rt := _ }) (b := false) (et_sw (s := .to b) (ed_var rfl (hv.tk (tk_ex e1))) (by show decide (V.str "to" = V.str "rows") = false; decide +kernel)) (fun z => by cases z) fun _ H2 e2 => ?_
        have e12 := e1.trans e2
        refine qm_asg (D := { nx := _, rt := _ }) (i := 3) (mk.ex e12) (em_draw (b := most) rfl (fun H3 e3 => ev_if (b := false) (noB rfl ((kin_ex e12).trans e3)) (fun z => by cases z) fun _ => ev_var rfl) m1 (by omega) (by omega)) fun x3 d3 H3 pd e3 mk3 hx3 => ?_
        obtain ⟨x, rfl, x0, x1⟩ := pd
        cases dt_int hx3
        have k13 := (kin_ex e12).trans e3
        refine qm_asgG (D := { nx := _, rt := _ }) mk3 (em_call (t := d) (ok := okLA d) (ds := [skD b, .int most]) rfl (fun H4 e4 => eds_cons (ed_ifD (b := false) (noB rfl (k13.trans e4)) (fun z => by cases z) fun _ => ed_to (ed_var rfl (rc_tk (k13.trans e4) hv))) (eds_cons (ed_int (ev_var rfl)) eds_nil)) ⟨b, most, rfl, sok, hb, by omega, m1, m2, rfl⟩ (by omega)) fun x4 d4 H4 pd e4 mk4 hx4 => ?_
        obtain ⟨a, z, rfl, had⟩ := pd
        refine gd_two hx4 fun ya yz hya hyz => ?_
        cases dt_int hyz
        have al := adr_len b a had
        refine sd_ret (D := { nx := _, rt := _ }) (d := .tuple [intsD (x :: a), .int z]) (ed_tup (eds_cons (ed_cat (ds := [.int x]) (ed_tup (eds_cons (ed_int (ev_var rfl)) eds_nil) (by show (1 : Nat) ≤ 100000; decide)) (ed_var rfl hya) (by rw [List.length_map]; show 1 + a.length ≤ 100000; omega)) (eds_cons (ed_int (ev_var rfl)) eds_nil)) (by show (2 : Nat) ≤ 100000; decide)) fun y5 H5 e5 hy5 => out ⟨x :: a, z, rfl, x, a, rfl, x0, by omega, had⟩ ((k13.trans e4).trans (kin_ex e5)) (mk4.ex e5) (by omega) hy5
      | both a' b =>
        have hd' : dep b ≤ d ∧ dep a' ≤ d := by have hd : 1 + max (dep b) (dep a') ≤ d + 1 := hd; omega
        have sok : a'.ok ∧ b.ok := sok
        have isB : ∀ {σ : L2.St} {H2 : Hp}, σ[1]? = some (some v) → Kin H H2 → EvT (tTest (tOp rEq (tOp (rIxT K) (tVar 1) (tC (.int 0))) (tC (.str "both")))) σ H2 true := fun h e => et_sw (s := .both a' b) (ed_var h (rc_tk e hv)) (by show decide (V.str "both" = V.str "both") = true; decide +kernel)
        refine q_when (D := { nx := _, rt := _ }) (b := false) (et_sw (s := .both a' b) (ed_var rfl hv) (by show decide (V.str "both" = V.str "few") = false; decide +kernel)) (fun z => by cases z) fun _ H1 e1 => ?_
        refine q_when (D := { nx := _, rt := _ }) (b := false) (et_sw (s := .both a' b) (ed_var rfl (hv.tk (tk_ex e1))) (by show decide (V.str "both" = V.str "rows") = false; decide +kernel)) (fun z => by cases z) fun _ H2 e2 => ?_
        have e12 := e1.trans e2
        refine qm_asg (D := { nx := _, rt := _ }) (i := 3) (mk.ex e12) (em_draw (b := 2) rfl (fun H3 e3 => ev_if (b := true) (isB rfl ((kin_ex e12).trans e3)) (fun _ => ev_c) fun z => by cases z) (by decide) (by decide) (by omega)) fun x3 d3 H3 pd e3 mk3 hx3 => ?_
        obtain ⟨x, rfl, x0, x1⟩ := pd
        cases dt_int hx3
        have k13 := (kin_ex e12).trans e3
        have nok : (nxt a' b x).ok := by unfold nxt; split <;> first | exact sok.1 | exact sok.2
        have ndp : dep (nxt a' b x) ≤ d := by unfold nxt; split <;> omega
        refine qm_asgG (D := { nx := _, rt := _ }) mk3 (em_call (t := d) (ok := okLA d) (ds := [skD (nxt a' b x), .int most]) rfl (fun H4 e4 => eds_cons (ed_ifD (b := true) (isB rfl (k13.trans e4)) (fun _ => ed_both (ed_var rfl (rc_tk (k13.trans e4) hv)) (by omega) (ev_var rfl)) fun z => by cases z) (eds_cons (ed_int (ev_var rfl)) eds_nil)) ⟨nxt a' b x, most, rfl, nok, ndp, by omega, m1, m2, rfl⟩ (by omega)) fun x4 d4 H4 pd e4 mk4 hx4 => ?_
        obtain ⟨a, z, rfl, had⟩ := pd
        refine gd_two hx4 fun ya yz hya hyz => ?_
        cases dt_int hyz
        have al := adr_len _ a had
        have hx01 : x = 0 ∨ x = 1 := by omega
        refine sd_ret (D := { nx := _, rt := _ }) (d := .tuple [intsD (x :: a), .int z]) (ed_tup (eds_cons (ed_cat (ds := [.int x]) (ed_tup (eds_cons (ed_int (ev_var rfl)) eds_nil) (by show (1 : Nat) ≤ 100000; decide)) (ed_var rfl hya) (by rw [List.length_map]; show 1 + a.length ≤ 100000; omega)) (eds_cons (ed_int (ev_var rfl)) eds_nil)) (by show (2 : Nat) ≤ 100000; decide)) fun y5 H5 e5 hy5 => out ⟨x :: a, z, rfl, x, a, rfl, ?_⟩ ((k13.trans e4).trans (kin_ex e5)) (mk4.ex e5) (by omega) hy5
        rcases hx01 with rfl | rfl
        · exact .inl ⟨rfl, had⟩
        · exact .inr ⟨rfl, had⟩
end
end K10
set_option Elab.async false
set_option linter.all false
set_option maxRecDepth 100000
set_option maxHeartbeats 1000000
namespace K10
open PySem PySem.Spec PyProof.Rows L2 Evl
theorem flat_int (n : Int) : flatE (.int n) := .inl ⟨n, rfl⟩
theorem flat_cut {a : List Int} {lo hi : Option Int} : ∀ e ∈ cutD (a.map PyData.int) lo hi, flatE e := fun e he => by
  obtain ⟨n, _, rfl⟩ := List.mem_map.mp (cutD_mem he)
  exact flat_int n
abbrev oddD : List PyData := [.int (-1), .int 2, .bool true, .none, .int (10 ^ 18), .int (10 ^ 18 - 1), .str "0"]
theorem odd_flat {e : PyData} (h : e ∈ oddD) : flatE e := by
  simp only [List.mem_cons, List.not_mem_nil, or_false] at h
  rcases h with rfl | rfl | rfl | rfl | rfl | rfl | rfl
  · exact flat_int _
  · exact flat_int _
  · exact .inr (.inl ⟨_, rfl⟩)
  · exact .inr (.inr (.inl rfl))
  · exact flat_int _
  · exact flat_int _
  · exact .inr (.inr (.inr rfl))
theorem sm_asg {m c : Addr} {σ : L2.St} {H : Hp} {n n1 : Nat} {P : PyData → Prop} {te : TE} {D : Ends} {i : Nat} (mk : Mok H m c n) (h : EvM m c te σ H n n1 P) (k : ∀ x d H1, P d → Kin H H1 → Mok H1 m c n1 → Dt H1 x d → D.nx (σ.set i (some x)) H1) : tAsg te (gName i) D σ H := h H (Kin.refl _) mk _ fun x d H1 p e1 mk1 hx => k x d H1 p e1 mk1 hx
/-- l + a new list, l a list that stands -/
theorem eld_catV {σ : L2.St} {H : Hp} {ta tb : TE} {a : Addr} {xs : List V} {ds es : List PyData} (ha : Ev ta σ H (.ref a)) (h : H a = some (.lst xs)) (all : DtAll H xs ds) (hb : EvLd tb σ H es) (few : ds.length + es.length ≤ 100000) : EvLd (tOp rCat ta tb) σ H (ds ++ es) := fun H1 e1 Q q =>
  ha H1 e1 _ fun H2 e2 => hb H2 (e1.trans e2) _ fun b ys H3 nb e3 hb3 all3 => ⟨a, b, xs, ys, rfl, rfl, ((e1.trans e2).trans e3) _ _ h, hb3, sz_of (by rw [all.len, all3.len]; exact few), fun l hl =>
    q l _ _ (fresh_back (e2.trans e3) hl) ((e2.trans e3).trans (Ex.new hl)) upd_same (((all.tk (tk_ex ((e1.trans e2).trans e3))).append all3).tk (tk_new hl))⟩
/-- the kinds that are not searchable, from one that is -/
def badsOf (s : SK) : List GK := [.num, .to (.rows 2) (gk s), .to (.few 3) (gk s), .to (gk s) (gk s), .both (gk s) .num]
theorem bads_bad {s : SK} (ok : s.ok) (d5 : dep s ≤ 5) : ∀ g ∈ badsOf s, IsBad (kD g) := fun g hg => by
  have n1 := nodes_few (s := s) (by omega)
  have g1 := gdep_gk s
  have o1 := gk_ok s ok
  simp only [badsOf, List.mem_cons, List.not_mem_nil, or_false] at hg
  rcases hg with rfl | rfl | rfl | rfl | rfl
  · exact ⟨_, rfl, trivial, by decide, by decide, rfl⟩
  · exact ⟨_, rfl, ⟨by show (2 : Int) ≤ 2 ∧ (2 : Int) ≤ 9; decide, o1⟩, by show 1 + (gk s).nodes + 1 ≤ 1000; omega, by show 1 + max 1 (gdep (gk s)) ≤ 30; omega, by show (decide (1 ≤ 6) && false && _) = false; rfl⟩
  · exact ⟨_, rfl, ⟨by show (1 : Int) ≤ 3 ∧ (3 : Int) ≤ 9; decide, o1⟩, by show 1 + (gk s).nodes + 1 ≤ 1000; omega, by show 1 + max 1 (gdep (gk s)) ≤ 30; omega, by show (decide (1 ≤ 6) && false && _) = false; rfl⟩
  · refine ⟨_, rfl, ⟨o1, o1⟩, by show (gk s).nodes + (gk s).nodes + 1 ≤ 1000; omega, by show 1 + max (gdep (gk s)) (gdep (gk s)) ≤ 30; omega, ?_⟩
    show (decide (1 ≤ 6) && isNum (gk s) && _) = false
    rw [not_num]
    rfl
  · refine ⟨_, rfl, ⟨o1, trivial⟩, by show (gk s).nodes + 1 + 1 ≤ 1000; omega, by show 1 + max (gdep (gk s)) 1 ≤ 30; omega, ?_⟩
    show (decide (1 ≤ 6) && srch (gk s) 2 && false) = false
    rw [Bool.and_false]
section
variable {P : Program} {w : World} {K : PySem.W.Frag} {mg : Str → Option Value} {base0 : Heap} {f f1 f2 f3 : Addr} {fd fd1 fd2 fd3 : FuncData} {k : Nat}
theorem ok_lbent (F : Fun K "_law_bent" "_law_bent" sLBent f fd) (m1 : mg "len" = none)
    (G1 : FnOk P w K mg base0 CX0 k f1 fd1 ["m", "below"] spDraw) (g1 : mg "_law_draw" = some (.ref f1)) (kp1 : PySem.W.keepIn K (.ref f1) = true) (b1 : Binds K fd1 ["m", "below"] [])
    (G2 : FnOk P w K mg base0 CX0 k f2 fd2 ["m", "some"] (spPick K)) (g2 : mg "_law_of" = some (.ref f2)) (kp2 : PySem.W.keepIn K (.ref f2) = true) (b2 : Binds K fd2 ["m", "some"] []) :
    FnOk P w K mg base0 CX0 (k + 1) f fd ["m", "address"] (spM 4 okLBent) := by
  refine F.ok scLBent (fun vs H Q E h => ?_) (fun cdv A outer s0 H vs Q E hr h => ?_)
  · obtain ⟨m, c, n, xs, ds, P, rfl, all, ⟨a, rfl, _⟩, _⟩ := h
    show xs.length + 1 = 2
    rw [all.len]
    rfl
  · obtain ⟨m, c, n, xs, ds, P, rfl, all, ⟨a, rfl, a20, rfl⟩, mk, few, q⟩ := h
    obtain ⟨v, rfl, hv⟩ := dts1 all
    refine ⟨_, pss_cons (ps_set (i := 2) scLBent.nd rfl (.inl rfl) (pe_call G1 hr (by rfl) g1 kp1 b1 .nil pass0 (pa_cons (pv 0) (pa_cons pe_int pa_nil))))
      (pss_cons (ps_if (PW.pt (pw_or (pt_cmpR op_eq (pv 2) pe_int (nomark _)) (pw_or1 (pt_cmpR (op_eqD hr.units) (pv 1) (pe_tup pa_nil) rfl)))) (pss_one (ps_ret (pe_op op_catA (pv 1) (pe_tup (pa_cons (pe_call G1 hr (by rfl) g1 kp1 b1 .nil pass0 (pa_cons (pv 0) (pa_cons pe_int pa_nil))) pa_nil))))) pss_nil)
      (pss_cons (ps_set (i := 3) scLBent.nd rfl (.inl rfl) (pe_call G1 hr (by rfl) g1 kp1 b1 .nil pass0 (pa_cons (pv 0) (pa_cons (pe_callB call_len_seq (by rfl) m1 (by decide +kernel) (pa_cons (pv 1) pa_nil)) pa_nil))))
      (pss_cons (ps_set (i := 4) scLBent.nd rfl (.inl rfl) (pe_call G2 hr (by rfl) g2 kp2 b2 .nil pass0 (pa_cons (pv 0) (pa_cons (pe_lst (pa_cons (pe_un un_neg pe_int) (pa_cons pe_int (pa_cons pe_bl (pa_cons pe_non (pa_cons (pe_op op_pow pe_int pe_int) (pa_cons (pe_op op_sub (pe_op op_pow pe_int pe_int) pe_int) (pa_cons pe_str pa_nil)))))))) pa_nil))))
      (pss_one (ps_ret (pe_ifExp (pt_cmpR op_eq (pv 2) pe_int (nomark _)) (pe_op op_catA (pe_slice sl_tupA (pv 1) po_none (po_some (pv 3))) (pe_slice sl_tupA (pv 1) (po_some (pe_op op_add (pv 3) pe_int)) po_none))
        (pe_op op_catA (pe_op op_catA (pe_slice sl_tupA (pv 1) po_none (po_some (pv 3))) (pe_tup (pa_cons (pv 4) pa_nil))) (pe_slice sl_tupA (pv 1) (po_some (pe_op op_add (pv 3) pe_int)) po_none)))))))), ?_⟩
    have out : ∀ {x : V} {d' : PyData} {H2 : Hp} {n2 : Nat}, IsFlat d' → Kin H H2 → Mok H2 m c n2 → n2 ≤ n + 4 → Dt H2 x d' → Q x H2 := fun h1 h2 h3 h4 h5 => q _ _ _ h1 h2 (h3.mono h4) h5
    have aflat : ∀ e ∈ a.map PyData.int, flatE e := fun e he => by
      obtain ⟨n, _, rfl⟩ := List.mem_map.mp he
      exact flat_int n
    refine qm_asg (D := { nx := _, rt := _ }) (i := 2) mk (em_draw (b := 5) rfl (fun _ _ => ev_c) (by decide) (by decide) (by omega)) fun x2 d2 H1 pd e1 mk1 hx2 => ?_
    obtain ⟨way, rfl, w0, w1⟩ := pd
    cases dt_int hx2
    have hv1 := rc_tk e1 hv
    refine q_when (D := { nx := _, rt := _ }) (b := decide (way = 0) || (a.map PyData.int).isEmpty) (et_or (et_is (et_test (ev_op (ev_var rfl) ev_c (rv_eq rfl))) (decide_eq_decide.mpr ⟨fun z => by injection z, fun z => by rw [z]⟩)) fun _ => et_is (et_test (ev_eqD (ed_var rfl hv1) (ed_tup eds_nil (by show (0 : Nat) ≤ 100000; decide)) (flat_shaped aflat) (by decide +kernel))) (eqv_empty _)) (fun hb H2 e2 => ?_) fun hb H2 e2 => ?_
    · refine sm_ret (D := { nx := _, rt := _ }) (P := IsFlat) (n1 := n + 2) (mk1.ex e2) (em_op (P1 := fun d => d = intsD a) (P2 := fun d => ∃ z : Int, d = .tuple [.int z]) (em_of (fun H3 e3 => ed_var rfl (rc_tk e3 (hv1.tk (tk_ex e2)))) rfl) (em_tup (PP := fun ds => ∃ z : Int, ds = [.int z]) (ems_cons (PP := fun ds => ds = []) (PP' := fun ds => ∃ z : Int, ds = [.int z]) (em_draw (b := 3) rfl (fun _ _ => ev_c) (by decide) (by decide) (by omega)) (ems_nil rfl) fun d ds h1 h2 => by
          obtain ⟨z, rfl, _⟩ := h1
          exact ⟨z, by rw [h2]⟩) fun ds h => by
          obtain ⟨z, rfl⟩ := h
          exact ⟨by show (1 : Nat) ≤ 1000; decide, z, rfl⟩) fun x y d e H3 h1 h2 hx hy => ?_) fun x d' H4 pd e4 mk4 hx => out pd ((e1.trans (kin_ex e2)).trans e4) mk4 (by omega) hx
      subst h1
      obtain ⟨z, rfl⟩ := h2
      refine ⟨_, ⟨a.map PyData.int ++ [.int z], rfl, fun e he => ?_, by rw [List.length_append, List.length_map]; show a.length + 1 ≤ 1000; omega⟩, ed_cat (ed_var rfl hx) (ed_var rfl hy) (by rw [List.length_map]; show a.length + 1 ≤ 100000; omega)⟩
      rcases List.mem_append.mp he with h | h
      · exact aflat e h
      · rw [List.mem_singleton.mp h]; exact flat_int z
    · have ne : a ≠ [] := fun z => by subst z; have := (Bool.or_eq_false_iff.mp hb).2; cases this
      have lp : 0 < a.length := List.length_pos_iff.mpr ne
      have k2 := e1.trans (kin_ex e2)
      refine qm_asg (D := { nx := _, rt := _ }) (i := 3) (mk1.ex e2) (em_draw (b := (a.length : Int)) rfl (fun H3 e3 => ev_lenI (ed_var rfl (rc_tk (k2.trans e3) hv))) (by omega) (by omega) (by omega)) fun x3 d3 H3 pd e3 mk3 hx3 => ?_
      obtain ⟨kk, rfl, kk0, kk1⟩ := pd
      cases dt_int hx3
      refine qm_asg (D := { nx := _, rt := _ }) (i := 4) mk3 (em_pickD (ds := oddD) rfl (fun H4 e4 => eld_lst (eds_cons (ed_int (fun H5 e5 Q5 q5 => ⟨1, rfl, q5 H5 (Ex.refl _)⟩)) (eds_cons (ed_int ev_c) (eds_cons (ed_bool ev_c) (eds_cons ed_non (eds_cons (ed_int (ev_op ev_c ev_c (rv_I (by unfold CPow; decide)))) (eds_cons (ed_int (ev_op (ev_op ev_c ev_c (rv_I (by unfold CPow; decide))) ev_c rv_I0)) (eds_cons ed_str eds_nil))))))) (by show (7 : Nat) ≤ 100000; decide)) (by simp) (by show (7 : Nat) ≤ 1000; decide) (by omega)) fun x4 od H4 pd e4 mk4 hx4 => ?_
      have k24 := (k2.trans e3).trans e4
      have hv4 := rc_tk k24 hv
      have oflat := odd_flat pd
      have c1 := cutD_len (a.map PyData.int) none (some kk)
      have c2 := cutD_len (a.map PyData.int) (some (kk + 1)) none
      rw [List.length_map] at c1 c2
      have s1 : EvD (tSl (rSlA K) (tVar 1) tNoPart (tPart (tVar 3))) [some (.ref m), some v, some (.int way), some (.int kk), some x4] H4 (.tuple (cutD (a.map PyData.int) none (some kk))) := ed_sl (ed_var rfl hv4) eo_none (eo_some (ev_var rfl))
      have s2 : EvD (tSl (rSlA K) (tVar 1) (tPart (tOp (rI0 fun i j => .int (i + j)) (tVar 3) (tC (.int 1)))) tNoPart) [some (.ref m), some v, some (.int way), some (.int kk), some x4] H4 (.tuple (cutD (a.map PyData.int) (some (kk + 1)) none)) := ed_sl (ed_var rfl hv4) (eo_some (ev_op (ev_var rfl) ev_c rv_I0)) eo_none
      refine (fun (h : ∃ d', IsFlat d' ∧ EvD _ [some (.ref m), some v, some (.int way), some (.int kk), some x4] H4 d') => by
        obtain ⟨d', hf, hev⟩ := h
        exact sd_ret (D := { nx := _, rt := _ }) hev fun y H5 e5 hy => out hf (k24.trans (kin_ex e5)) (mk4.ex e5) (by omega) hy) ?_
      by_cases z1 : way = 1
      · refine ⟨.tuple (cutD (a.map PyData.int) none (some kk) ++ cutD (a.map PyData.int) (some (kk + 1)) none), ⟨_, rfl, fun e he => ?_, by rw [List.length_append]; omega⟩, ed_ifD (b := true) (et_is (et_test (ev_op (ev_var rfl) ev_c (rv_eq rfl))) (decide_eq_true (by rw [z1]))) (fun _ => ed_cat s1 s2 (by omega)) fun z => by cases z⟩
        rcases List.mem_append.mp he with h | h
        · exact flat_cut e h
        · exact flat_cut e h
      · refine ⟨.tuple (cutD (a.map PyData.int) none (some kk) ++ [od] ++ cutD (a.map PyData.int) (some (kk + 1)) none), ⟨_, rfl, fun e he => ?_, by rw [List.length_append, List.length_append]; show _ + 1 + _ ≤ 1000; omega⟩, ed_ifD (b := false) (et_is (et_test (ev_op (ev_var rfl) ev_c (rv_eq rfl))) (decide_eq_false fun z => by injection z with z; exact z1 z)) (fun z => by cases z) fun _ => ed_cat (ed_cat s1 (ed_tup (eds_cons (ed_var rfl hx4) eds_nil) (by show (1 : Nat) ≤ 100000; decide)) (by show _ + 1 ≤ 100000; omega)) s2 (by rw [List.length_append]; show _ + 1 + _ ≤ 100000; omega)⟩
        rcases List.mem_append.mp he with h | h
        · rcases List.mem_append.mp h with h | h
          · exact flat_cut e h
          · rw [List.mem_singleton.mp h]; exact oflat
        · exact flat_cut e h
theorem ok_lbad (F : Fun K "_law_bad_kind" "_law_bad_kind" sLBadKind f fd) (m1 : mg "range" = none)
    (G1 : FnOk P w K mg base0 CX0 k f1 fd1 ["m", "below"] spDraw) (g1 : mg "_law_draw" = some (.ref f1)) (kp1 : PySem.W.keepIn K (.ref f1) = true) (b1 : Binds K fd1 ["m", "below"] [])
    (G2 : FnOk P w K mg base0 CX0 k f2 fd2 ["m", "some"] (spPick K)) (g2 : mg "_law_of" = some (.ref f2)) (kp2 : PySem.W.keepIn K (.ref f2) = true) (b2 : Binds K fd2 ["m", "some"] []) :
    FnOk P w K mg base0 CX0 (k + 1) f fd ["m", "kind"] (spM 7 okLBad) := by
  refine F.ok scLBadKind (fun vs H Q E h => ?_) (fun cdv A outer s0 H vs Q E hr h => ?_)
  · obtain ⟨m, c, n, xs, ds, P, rfl, all, ⟨s, rfl, _⟩, _⟩ := h
    show xs.length + 1 = 2
    rw [all.len]
    rfl
  · obtain ⟨m, c, n, xs, ds, P, rfl, all, ⟨s, rfl, sok, sd, rfl⟩, mk, few, q⟩ := h
    obtain ⟨v, rfl, hv⟩ := dts1 all
    refine ⟨_, pss_cons (ps_set (i := 2) scLBadKind.nd rfl (.inl rfl) (pe_lst (pa_cons (pe_tup (pa_cons pe_str pa_nil)) (pa_cons (pe_tup (pa_cons pe_str (pa_cons (pe_tup (pa_cons pe_str (pa_cons pe_int pa_nil))) (pa_cons (pv 1) pa_nil)))) (pa_cons (pe_tup (pa_cons pe_str (pa_cons (pe_tup (pa_cons pe_str (pa_cons pe_int pa_nil))) (pa_cons (pv 1) pa_nil)))) (pa_cons (pe_tup (pa_cons pe_str (pa_cons (pv 1) (pa_cons (pv 1) pa_nil)))) (pa_cons (pe_tup (pa_cons pe_str (pa_cons (pv 1) (pa_cons (pe_tup (pa_cons pe_str pa_nil)) pa_nil)))) pa_nil)))))))
      (pss_cons (ps_for PassesOwn.never rfl (pi_range1 (by rfl) m1 (pa_cons pe_int pa_nil)) (pg_name (i := 3) scLBadKind.nd rfl (Or.inl rfl))
        (pss_one (ps_set (i := 1) scLBadKind.nd rfl (.inl rfl) (pe_ifExp (pt_cmpR op_eq (pe_call G1 hr (by rfl) g1 kp1 b1 .nil pass0 (pa_cons (pv 0) (pa_cons pe_int pa_nil))) pe_int (nomark _)) (pe_tup (pa_cons pe_str (pa_cons (pe_tup (pa_cons pe_str pa_nil)) (pa_cons (pv 1) pa_nil)))) (pe_tup (pa_cons pe_str (pa_cons (pe_tup (pa_cons pe_str (pa_cons pe_int pa_nil))) (pa_cons (pv 1) pa_nil))))))))
      (pss_one (ps_ret (pe_call G2 hr (by rfl) g2 kp2 b2 .nil pass0 (pa_cons (pv 0) (pa_cons (pe_op op_cat (pv 2) (pe_lst (pa_cons (pv 1) pa_nil))) pa_nil)))))), ?_⟩
    have nd5 : (gk s).nodes ≤ 31 := by
      have h1 := nodes_gk s
      have h2 : (2 : Nat) ^ dep s ≤ 2 ^ 5 := Nat.pow_le_pow_right (by decide) sd
      omega
    have two : (2 : Nat) ≤ 100000 := by decide
    have three : (3 : Nat) ≤ 100000 := by decide
    refine q_asgLn (D := { nx := _, rt := _ }) (i := 2) (ds := (badsOf s).map kD) (eld_lst (eds_cons (ed_tup (eds_cons ed_str eds_nil) (by show (1 : Nat) ≤ 100000; decide)) (eds_cons (ed_tup (eds_cons ed_str (eds_cons (ed_tup (eds_cons ed_str (eds_cons (ed_int ev_c) eds_nil)) two) (eds_cons (ed_var rfl hv) eds_nil))) three) (eds_cons (ed_tup (eds_cons ed_str (eds_cons (ed_tup (eds_cons ed_str (eds_cons (ed_int ev_c) eds_nil)) two) (eds_cons (ed_var rfl hv) eds_nil))) three)
      (eds_cons (ed_tup (eds_cons ed_str (eds_cons (ed_var rfl hv) (eds_cons (ed_var rfl hv) eds_nil))) three) (eds_cons (ed_tup (eds_cons ed_str (eds_cons (ed_var rfl hv) (eds_cons (ed_tup (eds_cons ed_str eds_nil) (by show (1 : Nat) ≤ 100000; decide)) eds_nil))) three) eds_nil))))) (by show (5 : Nat) ≤ 100000; decide)) fun S xs1 H1 nS e1 hS allS => ?_
    refine q_forR1 (D := { nx := _, rt := _ }) (n := 6) (ea_cons ev_c ea_nil) (by decide) (fun t σ' H' => ∃ (y : V) (s' : SK) (z3 : Option V), σ' = [some (.ref m), some y, some (.ref S), z3] ∧ Kin H1 H' ∧ Mok H' m c (n + t) ∧ Dt H' y (skD s') ∧ s'.ok ∧ t + 1 ≤ dep s' ∧ dep s' ≤ 5 + t ∧ (gk s').nodes ≤ 31 + 2 * t)
      (fun H2 e2 => ⟨v, s, none, rfl, kin_ex e2, mk.ex (e1.trans e2), hv.tk (tk_ex (e1.trans e2)), sok, dep_pos s, sd, nd5⟩) (fun t σ' H' lt inv => ?_) (fun σ' H' inv => ?_)
    · obtain ⟨y, s', z3, rfl, k2, mk2, hy, ok', d1, d2, nn⟩ := inv
      refine sm_asg (D := { nx := _, rt := _, bk := _, ct := _ }) (i := 1) (n1 := n + t + 1) (P := fun d => d = skD (.to s') ∨ d = skD (.both (.few 2) s')) mk2 (em_ifT (n1 := n + t + 1) (em_zero (em_draw (b := 2) rfl (fun _ _ => ev_c) (by decide) (by decide) (by omega))) (em_of (fun H3 e3 => ed_tup (eds_cons ed_str (eds_cons (ed_tup (eds_cons ed_str eds_nil) (by show (1 : Nat) ≤ 100000; decide)) (eds_cons (ed_var rfl (rc_tk e3 hy)) eds_nil))) three) (.inl rfl)) (em_of (fun H3 e3 => ed_tup (eds_cons ed_str (eds_cons (ed_tup (eds_cons ed_str (eds_cons (ed_int ev_c) eds_nil)) two) (eds_cons (ed_var rfl (rc_tk e3 hy)) eds_nil))) three) (.inr rfl))) fun x3 d3 H3 pd e3 mk3 hx3 => ?_
      rcases pd with rfl | rfl
      · exact ⟨x3, .to s', _, rfl, k2.trans e3, mk3, hx3, ok', by show t + 1 + 1 ≤ 1 + dep s'; omega, by show 1 + dep s' ≤ 5 + (t + 1); omega, by show 1 + (gk s').nodes + 1 ≤ 31 + 2 * (t + 1); omega⟩
      · exact ⟨x3, .both (.few 2) s', _, rfl, k2.trans e3, mk3, hx3, ⟨by show (1 : Int) ≤ 2 ∧ (2 : Int) ≤ 9; decide, ok'⟩, by show t + 1 + 1 ≤ 1 + max (dep s') 1; omega, by show 1 + max (dep s') 1 ≤ 5 + (t + 1); omega, by show 1 + (gk s').nodes + 1 ≤ 31 + 2 * (t + 1); omega⟩
    · obtain ⟨y, s', z3, rfl, k2, mk2, hy, ok', d1, d2, nn⟩ := inv
      have kH := (kin_ex e1).trans k2
      have lastBad : IsBad (skD s') := ⟨gk s', rfl, gk_ok s' ok', by omega, by have := gdep_gk s'; omega, by rw [srch_gk]; exact decide_eq_false (by omega)⟩
      refine sm_ret (D := { nx := _, rt := _ }) mk2 (em_pickD (ds := (badsOf s).map kD ++ [skD s']) rfl (fun H3 e3 => eld_catV (ev_var rfl) (kin_l (k2.trans e3) hS) (allS.tk (tk_kin (k2.trans e3))) (eld_lst (eds_cons (ed_var rfl (rc_tk e3 hy)) eds_nil) (by show (1 : Nat) ≤ 100000; decide)) (by show 5 + 1 ≤ 100000; decide)) (by simp [badsOf]) (by show 5 + 1 ≤ 1000; decide) (by omega)) fun x4 d4 H4 pd e4 mk4 hx4 => ?_
      refine q _ _ _ ?_ (kH.trans e4) (mk4.mono (by omega)) hx4
      rcases List.mem_append.mp pd with h | h
      · obtain ⟨g, hg, rfl⟩ := List.mem_map.mp h
        exact bads_bad sok sd g hg
      · rw [List.mem_singleton.mp h]
        exact lastBad
end
end K10
set_option Elab.async false
set_option linter.all false
set_option maxRecDepth 100000
set_option maxHeartbeats 1000000
namespace K10
open PySem PySem.Spec PyProof.Rows L2 Evl
/-! ### repr of numbers and None too -/
def rShow2 (K : PySem.W.Frag) : List V → Hp → VK → Prop := fun xs H Q => rShow K xs H Q ∨ (∃ i : Int, xs = [.int i] ∧ i.natAbs.log2 < 1920 ∧ Q (.str (PyData.int i).shown) H) ∨ (xs = [.non] ∧ Q (.str PyData.none.shown) H)
theorem call_show2 {X : Cx} (guard : X.A.guards = some []) (hu : X.A.units + 64 < cLine) : CallR X (.builtin "repr") (rShow2 X.K) := by
  intro pins s σ H xs us Q I r h
  rcases h with h | ⟨i, rfl, sm, q⟩ | ⟨rfl, q⟩
  · exact call_show guard hu pins s σ H xs us Q I r h
  · obtain ⟨u, rfl, ru⟩ := vals1 r
    obtain ⟨t, rfl⟩ := ru
    refine PySem.P.repr_of_int sm ⟨.str _, H, I.tok _, ⟨_, rfl⟩, ?_⟩
    rw [PyData.shown_int] at q
    exact q
  · obtain ⟨u, rfl, ru⟩ := vals1 r
    cases (show u = Value.none from ru)
    refine PySem.P.repr_of_none ⟨.str _, H, I.tok _, ⟨_, rfl⟩, ?_⟩
    rw [PyData.shown_none] at q
    exact q
theorem f_none : Fine 0 0 .none := ⟨rfl, rfl, Nat.le_refl _, by decide +kernel, Nat.le_refl _⟩
theorem f_addr {l : List Int} (h : ∀ x ∈ l, 0 ≤ x ∧ x ≤ atop) (few : l.length ≤ 20) : Fine 20 1 (intsD l) := by
  refine (f_tuple (fa_each (n := 0) (t := 0) fun d hd => ?_)).up (by rw [List.length_map]; omega) (by decide)
  obtain ⟨x, hx, rfl⟩ := List.mem_map.mp hd
  have := h x hx
  unfold atop at this
  exact f_int (by omega) (by omega)
theorem adr_rng : ∀ (s : SK) (l : List Int), adr s l → ∀ x ∈ l, 0 ≤ x ∧ x ≤ atop
  | .few n, l, h, x, hx => by cases (show l = [] from h); cases hx
  | .rows n, l, h, x, hx => by
    obtain ⟨y, rfl, h0, h1⟩ := h
    rw [List.mem_singleton.mp hx]
    exact ⟨h0, h1⟩
  | .to b, l, h, x, hx => by
    obtain ⟨y, r, rfl, h0, h1, h2⟩ := h
    rcases List.mem_cons.mp hx with rfl | hx
    · exact ⟨h0, h1⟩
    · exact adr_rng b r h2 x hx
  | .both a b, l, h, x, hx => by
    have ha : (1 : Int) ≤ atop := by decide
    obtain ⟨y, r, rfl, h | h⟩ := h
    · rcases List.mem_cons.mp hx with rfl | hx
      · exact ⟨by omega, by omega⟩
      · exact adr_rng a r h.2 x hx
    · rcases List.mem_cons.mp hx with rfl | hx
      · exact ⟨by omega, by omega⟩
      · exact adr_rng b r h.2 x hx
section
variable {K : PySem.W.Frag} {σ : L2.St} {H H' : Hp} {te : TE} {ds : List PyData} {n t : Nat} {i : Int}
theorem ev_show2D {d : PyData} (h : EvD te σ H d) (f : Fine n t d) (hn : n ≤ 100000) (ht : t ≤ 60) (form : (∃ i : Int, d = .int i ∧ i.natAbs.log2 < 1920) ∨ d = .none ∨ ∃ ds, d = .tuple ds) : Ev (tCB (rShow2 K) (tCons te tNil)) σ H (.str d.shown) := fun H1 e1 Q q =>
  h H1 e1 _ fun x H2 e2 hx => by
    rcases form with ⟨i, rfl, sm⟩ | rfl | ⟨ds, rfl⟩
    · cases dt_int hx
      exact .inr (.inl ⟨i, rfl, sm, q H2 e2⟩)
    · cases hx
      exact .inr (.inr ⟨rfl, q H2 e2⟩)
    · exact .inl ⟨x, .tuple ds, rfl, hx.dp, .inr (.inr ⟨ds, rfl⟩), f.sh, f.nd, by have := f.deep; omega, shown_small f hn, q H2 e2⟩
end
theorem log_small {i : Int} (h0 : 0 ≤ i) (h1 : i ≤ atop) : i.natAbs.log2 < 1920 := by
  unfold atop at h1
  by_cases z : i.natAbs = 0
  · rw [z]; decide
  · exact (Nat.log2_lt z).mpr (Nat.lt_of_lt_of_le (show i.natAbs < 2 ^ 64 by omega) (by decide +kernel))
theorem qm_par {m c : Addr} {σ : L2.St} {H : Hp} {n n1 : Nat} {ta : TA} {D : Ends} {tz : TS} {i j : Nat} {PP : List PyData → Prop} (mk : Mok H m c n) (h : EvMs m c ta σ H n n1 PP) (hp : ∀ ds, PP ds → ds.length = 2) (k : ∀ x y d e H1, PP [d, e] → Kin H H1 → Mok H1 m c n1 → Dt H1 x d → Dt H1 y e → tz D ((σ.set i (some x)).set j (some y)) H1) : tSeq (tPar i j ta) tz D σ H :=
  h H (Kin.refl _) mk _ fun xs ds H1 pp e1 mk1 all => by
    have l := hp ds pp
    match ds, l, pp, all with
    | [d, e], _, pp, all =>
      obtain ⟨x, y, rfl, hx, hy⟩ := dts2 all
      exact ⟨x, y, rfl, k x y d e H1 pp e1 mk1 hx hy⟩
theorem em_pickM {K : PySem.W.Frag} {m c : Addr} {σ : L2.St} {H : Hp} {n n1 : Nat} {te : TE} {PP : List PyData → Prop} {i : Nat} {E : XK} (hi : σ[i]? = some (some (.ref m))) (h : EvMl m c te σ H n n1 PP) (full : ∀ ds, PP ds → ds ≠ [] ∧ ds.length ≤ 1000) (few : n1 + 1 < 1000000) : EvM m c (tCall (spPick K) [] E (tCons (tVar i) (tCons te tNil))) σ H n (n1 + 1) (fun d => ∃ ds, PP ds ∧ d ∈ ds) := fun H1 e1 mk Q q =>
  ⟨_, hi, h H1 e1 mk _ fun p xs ds H2 pp e2 mk2 hp all => ⟨m, c, p, n1, xs, rfl, SqL.of hp, all.ne (full ds pp).1, by rw [all.len]; exact (full ds pp).2, mk2, few, fun z H' hz e3 mk3 => by
    obtain ⟨d, hd, y⟩ := dt_mem all hz
    exact q z d H' ⟨ds, pp, hd⟩ (e2.trans e3) mk3 (y.tk (tk_kin e3))⟩⟩
theorem eml_catV {m c : Addr} {σ : L2.St} {H : Hp} {n n1 : Nat} {tb : TE} {PP : List PyData → Prop} {i : Nat} {a : Addr} {xs : List V} {ds : List PyData} (hi : σ[i]? = some (some (.ref a))) (h : H a = some (.lst xs)) (all : DtAll H xs ds) (hb : EvMl m c tb σ H n n1 PP) (few : ∀ es, PP es → ds.length + es.length ≤ 1000) : EvMl m c (tOp rCat (tVar i) tb) σ H n n1 (fun r => ∃ es, PP es ∧ r = ds ++ es) := fun H1 e1 mk Q q =>
  ⟨_, hi, hb H1 e1 mk _ fun b ys es H2 pe e2 mk2 hb2 all2 => ⟨a, b, xs, ys, rfl, rfl, kin_l (e1.trans e2) h, hb2, sz_of (by rw [all.len, all2.len]; have := few es pe; omega), fun l hl => q l _ _ _ ⟨es, pe, rfl⟩ (e2.trans (kin_ex (Ex.new hl))) (mk2.ex (Ex.new hl)) upd_same (((all.tk (tk_kin (e1.trans e2))).append all2).tk (tk_new hl))⟩⟩
/-- [a, b, te], te drawn -/
theorem eml_three {m c : Addr} {σ : L2.St} {H : Hp} {n n1 : Nat} {ta tb te : TE} {a b : PyData} {P : PyData → Prop} (ha : ∀ H1, Kin H H1 → EvD ta σ H1 a) (hb : ∀ H1, Kin H H1 → EvD tb σ H1 b) (h : EvM m c te σ H n n1 P) : EvMl m c (tLst (tCons ta (tCons tb (tCons te tNil)))) σ H n n1 (fun ds => ∃ d, ds = [a, b, d] ∧ P d) :=
  eml_lst (ems_cons (P := fun d => d = a) (PP := fun ds => ∃ d, ds = [b, d] ∧ P d) (PP' := fun ds => ∃ d, ds = [a, b, d] ∧ P d) (em_of ha rfl) (ems_cons (P := fun d => d = b) (PP := fun ds => ∃ d, ds = [d] ∧ P d) (PP' := fun ds => ∃ d, ds = [b, d] ∧ P d) (em_of hb rfl) (ems_cons (P := P) (PP := fun ds => ds = []) (PP' := fun ds => ∃ d, ds = [d] ∧ P d) h (ems_nil rfl) fun d ds h1 h2 => ⟨d, by rw [h2], h1⟩) fun d ds h1 h2 => by
    obtain ⟨d', h3, h4⟩ := h2
    exact ⟨d', by rw [h1, h3], h4⟩) fun d ds h1 h2 => by
    obtain ⟨d', h3, h4⟩ := h2
    exact ⟨d', by rw [h1, h3], h4⟩) fun ds h => by
    obtain ⟨d, rfl, _⟩ := h
    show (3 : Nat) ≤ 1000
    decide
theorem em_one {m c : Addr} {σ : L2.St} {H : Hp} {n n1 : Nat} {te : TE} {P P1 : PyData → Prop} (h : EvM m c te σ H n n1 P1) (hp : ∀ d, P1 d → P (.tuple [d])) : EvM m c (tTup (tCons te tNil)) σ H n n1 P :=
  em_tup (PP := fun ds => ∃ d, ds = [d] ∧ P1 d) (ems_cons (PP := fun ds => ds = []) (PP' := fun ds => ∃ d, ds = [d] ∧ P1 d) h (ems_nil rfl) fun d ds h1 h2 => ⟨d, by rw [h2], h1⟩) fun ds h => by
    obtain ⟨d, rfl, h1⟩ := h
    exact ⟨by show (1 : Nat) ≤ 1000; decide, hp d h1⟩
theorem em_duo {m c : Addr} {σ : L2.St} {H : Hp} {n n1 : Nat} {ta te : TE} {a : PyData} {P P1 : PyData → Prop} (ha : ∀ H1, Kin H H1 → EvD ta σ H1 a) (h : EvM m c te σ H n n1 P1) (hp : ∀ d, P1 d → P (.tuple [a, d])) : EvM m c (tTup (tCons ta (tCons te tNil))) σ H n n1 P :=
  em_tup (PP := fun ds => ∃ d, ds = [a, d] ∧ P1 d) (ems_cons (P := fun d => d = a) (PP := fun ds => ∃ d, ds = [d] ∧ P1 d) (PP' := fun ds => ∃ d, ds = [a, d] ∧ P1 d) (em_of ha rfl) (ems_cons (PP := fun ds => ds = []) (PP' := fun ds => ∃ d, ds = [d] ∧ P1 d) h (ems_nil rfl) fun d ds h1 h2 => ⟨d, by rw [h2], h1⟩) fun d ds h1 h2 => by
    obtain ⟨d', h3, h4⟩ := h2
    exact ⟨d', by rw [h1, h3], h4⟩) fun ds h => by
    obtain ⟨d, rfl, h1⟩ := h
    exact ⟨by show (2 : Nat) ≤ 1000; decide, hp d h1⟩
theorem s_asgLd {σ : L2.St} {H : Hp} {te : TE} {D : Ends} {i : Nat} {ds : List PyData} (h : EvLd te σ H ds) (k : ∀ p xs H1, Ex H H1 → H1 p = some (.lst xs) → DtAll H1 xs ds → D.nx (σ.set i (some (.ref p))) H1) : tAsg te (gName i) D σ H := h H (Ex.refl H) _ fun p xs H1 _ e hp all => k p xs H1 e hp all
theorem ev_showVL {K : PySem.W.Frag} {σ : L2.St} {H : Hp} {te : TE} {a : Addr} {xs : List V} {ds : List PyData} {n t : Nat} (h : Ev te σ H (.ref a)) (hp : H a = some (.lst xs)) (all : DtAll H xs ds) (f : Fine n t (.list ds)) (hn : n ≤ 100000) (ht : t ≤ 60) : Ev (tCB (rShow K) (tCons te tNil)) σ H (.str (PyData.list ds).shown) := fun H1 e1 Q q =>
  h H1 e1 _ fun H2 e2 => ⟨.ref a, .list ds, rfl, dp_list ((e1.trans e2) _ _ hp) (all.tk (tk_ex (e1.trans e2))), .inr (.inl ⟨ds, rfl⟩), f.sh, f.nd, by have := f.deep; omega, shown_small f hn, q H2 e2⟩
theorem q_forNT {K : PySem.W.Frag} {σ : L2.St} {H : Hp} {D : Ends} {tz : TS} {tl : TE} {g : TG} {tu : TS} {ds : List PyData} (h : EvD tl σ H (.tuple ds)) (k : ∀ a xs H1, Ex H H1 → H1 a = some (.tup xs) → DtAll H1 xs ds → tSeq (tFor (iTup K (fun _ H Q => Q (.ref a) H)) g tu) tz D σ H1) : tSeq (tFor (iTup K tl) g tu) tz D σ H := h H (Ex.refl H) _ fun x H1 e hx => by
  obtain ⟨a, xs, rfl, hp, all⟩ := dt_tup hx
  exact k a xs H1 e hp all
def pairD (p : SK × List Int) : PyData := .tuple [skD p.1, intsD p.2]
def POk2 (p : SK × List Int) : Prop := adr p.1 p.2 ∧ dep p.1 ≤ 5 ∧ p.2.length ≤ 10
def sKToN : SK := .to (.rows 3)
def sKB : SK := .both (.rows 2) (.rows 3)
def spBor : Sp := fun vs H Q _ => ∃ (m c : Addr) (n : Nat), vs = [.ref m] ∧ Mok H m c n ∧ n + 200 < 1000000 ∧ ∀ H', Kin H H' → Mok H' m c (n + 200) → Q (.bl true) H'
theorem idx_show {s : SK} {l : List Int} (h : adr s l) : (if idx s l < atop then iad s (idx s l) else none) = (if idx s l < atop then some l else none) := by
  split
  · rename_i lt
    rw [iad_idx s l h lt]
  · rfl
section
variable {P : Program} {w : World} {K : PySem.W.Frag} {mg : Str → Option Value} {base : Heap} {f f1 f2 f3 f4 f5 f6 f7 f8 f9 : Addr} {fd fd1 fd2 fd3 fd4 fd5 fd6 fd7 fd8 fd9 : FuncData} {k : Nat}
theorem ok_border (F : Fun K "_law_border_right" "_law_border_right" sLBorderRight f fd) (m1 : mg "repr" = none)
    (G1 : FnOk P w K mg base CX0 k f1 fd1 ["m", "below"] spDraw) (g1 : mg "_law_draw" = some (.ref f1)) (kp1 : PySem.W.keepIn K (.ref f1) = true) (b1 : Binds K fd1 ["m", "below"] [])
    (G2 : FnOk P w K mg base CX0 k f2 fd2 ["m", "some"] (spPick K)) (g2 : mg "_law_of" = some (.ref f2)) (kp2 : PySem.W.keepIn K (.ref f2) = true) (b2 : Binds K fd2 ["m", "some"] [])
    (G3 : FnOk P w K mg base CX0 k f3 fd3 ["m", "deep"] (spM (tK 5) (okLK 5))) (g3 : mg "_law_kind" = some (.ref f3)) (kp3 : PySem.W.keepIn K (.ref f3) = true) (b3 : Binds K fd3 ["m", "deep"] [])
    (G4 : FnOk P w K mg base CX0 k f4 fd4 ["kind"] (spD (okLDep 6))) (g4 : mg "_law_depth" = some (.ref f4)) (kp4 : PySem.W.keepIn K (.ref f4) = true) (b4 : Binds K fd4 ["kind"] [])
    (G5 : FnOk P w K mg base CX0 k f5 fd5 ["kind"] (spD okSearch2)) (g5 : mg "is_searchable" = some (.ref f5)) (kp5 : PySem.W.keepIn K (.ref f5) = true) (b5 : Binds K fd5 ["kind"] [])
    (G6 : FnOk P w K mg base CX0 k f6 fd6 ["kind", "address"] (spD (okLIdx 5))) (g6 : mg "_law_index_of" = some (.ref f6)) (kp6 : PySem.W.keepIn K (.ref f6) = true) (b6 : Binds K fd6 ["kind", "address"] [])
    (G7 : FnOk P w K mg base CX0 k f7 fd7 ["kind", "value"] (spD okIsAddr)) (g7 : mg "is_address" = some (.ref f7)) (kp7 : PySem.W.keepIn K (.ref f7) = true) (b7 : Binds K fd7 ["kind", "value"] [])
    (G8 : FnOk P w K mg base CX0 k f8 fd8 ["kind", "address"] (spD okAIdx)) (g8 : mg "address_index" = some (.ref f8)) (kp8 : PySem.W.keepIn K (.ref f8) = true) (b8 : Binds K fd8 ["kind", "address"] [])
    (G9 : FnOk P w K mg base CX0 k f9 fd9 ["kind", "index"] (spD okIAd)) (g9 : mg "index_address" = some (.ref f9)) (kp9 : PySem.W.keepIn K (.ref f9) = true) (b9 : Binds K fd9 ["kind", "index"] []) :
    Ok1 P w K mg base (k + 1) f fd ["m"] spBor := by
  refine ok1_of F scLBorderRight (fun vs H Q E h => ?_) (fun cdv A outer s H vs Q E guard hr h => ?_)
  · obtain ⟨m, c, n, rfl, _⟩ := h
    rfl
  · obtain ⟨m, c, n, rfl, mk, few, q⟩ := h
    refine ⟨_, pss_cons (ps_set (i := 1) scLBorderRight.nd rfl (.inl rfl) (pe_call G3 hr (by rfl) g3 kp3 b3 .nil pass0 (pa_cons (pv 0) (pa_cons pe_int pa_nil))))
      (pss_cons (ps_while PassesOwn.never (pt_cmpR op_lt (pe_call G4 hr (by rfl) g4 kp4 b4 .nil pass0 (pa_cons (pv 1) pa_nil)) pe_int (nomark _))
        (pss_one (ps_set (i := 1) scLBorderRight.nd rfl (.inl rfl) (pe_ifExp (pt_cmpR op_eq (pe_call G1 hr (by rfl) g1 kp1 b1 .nil pass0 (pa_cons (pv 0) (pa_cons pe_int pa_nil))) pe_int (nomark _)) (pe_tup (pa_cons pe_str (pa_cons (pe_tup (pa_cons pe_str pa_nil)) (pa_cons (pv 1) pa_nil)))) (pe_tup (pa_cons pe_str (pa_cons (pe_tup (pa_cons pe_str (pa_cons pe_int pa_nil))) (pa_cons (pv 1) pa_nil))))))))
      (pss_cons (ps_if (pt_cmpR op_ne (pe_callB (showK K rfl guard hr.units) (by rfl) m1 (by decide +kernel) (pa_cons (pe_lst (pa_cons (pe_call G5 hr (by rfl) g5 kp5 b5 .nil pass0 (pa_cons (pv 1) pa_nil)) (pa_cons (pe_call G5 hr (by rfl) g5 kp5 b5 .nil pass0 (pa_cons (pe_tup (pa_cons pe_str (pa_cons (pe_tup (pa_cons pe_str pa_nil)) (pa_cons (pv 1) pa_nil)))) pa_nil)) pa_nil))) pa_nil)) pe_str (nomark _)) (pss_one (ps_ret pe_bl)) pss_nil)
      (pss_cons (ps_par (i := 2) (j := 3) (by rfl) scLBorderRight.nd rfl rfl (by decide) rfl rfl (pa_cons (pe_call G2 hr (by rfl) g2 kp2 b2 .nil pass0 (pa_cons (pv 0) (pa_cons (pe_lst (pa_cons pe_int (pa_cons pe_int (pa_cons (pe_call G1 hr (by rfl) g1 kp1 b1 .nil pass0 (pa_cons (pv 0) (pa_cons (pe_op op_pow pe_int pe_int) pa_nil))) pa_nil)))) pa_nil))) (pa_cons (pe_op op_sub (pe_op op_pow pe_int pe_int) pe_int) pa_nil)) (by rfl))
      (pss_cons (ps_set (i := 4) scLBorderRight.nd rfl (.inl rfl) (pe_lst (pa_cons (pe_tup (pa_cons (pe_tup (pa_cons pe_str (pa_cons (pe_tup (pa_cons pe_str pa_nil)) (pa_cons (pe_tup (pa_cons pe_str (pa_cons pe_int pa_nil))) pa_nil)))) (pa_cons (pe_tup (pa_cons (pe_op op_sub (pe_op op_sub (pe_op op_pow pe_int pe_int) pe_int) (pv 2)) (pa_cons (pv 2) pa_nil))) pa_nil)))
          (pa_cons (pe_tup (pa_cons (pe_tup (pa_cons pe_str (pa_cons (pe_tup (pa_cons pe_str pa_nil)) (pa_cons (pe_tup (pa_cons pe_str (pa_cons pe_int pa_nil))) pa_nil)))) (pa_cons (pe_tup (pa_cons (pe_op op_sub (pe_op op_pow pe_int pe_int) (pv 2)) (pa_cons (pv 2) pa_nil))) pa_nil))) pa_nil))))
      (pss_cons (ps_set (i := 4) scLBorderRight.nd rfl (.inl rfl) (pe_op op_cat (pv 4) (pe_lst (pa_cons (pe_tup (pa_cons (pe_tup (pa_cons pe_str (pa_cons pe_int pa_nil))) (pa_cons (pe_tup (pa_cons (pv 3) pa_nil)) pa_nil)))
          (pa_cons (pe_tup (pa_cons (pe_tup (pa_cons pe_str (pa_cons pe_int pa_nil))) (pa_cons (pe_tup (pa_cons (pe_op op_sub (pv 3) pe_int) pa_nil)) pa_nil)))
          (pa_cons (pe_tup (pa_cons (pe_tup (pa_cons pe_str (pa_cons pe_int pa_nil))) (pa_cons (pe_tup (pa_cons (pe_call G1 hr (by rfl) g1 kp1 b1 .nil pass0 (pa_cons (pv 0) (pa_cons (pe_op op_pow pe_int pe_int) pa_nil))) pa_nil)) pa_nil))) pa_nil))))))
      (pss_cons (ps_for PassesOwn.never rfl (pi_tup (pe_tup (pa_cons (pe_op op_fdiv (pe_op op_add (pv 3) pe_int) pe_int) (pa_cons (pe_op op_fdiv (pe_op op_sub (pv 3) pe_int) pe_int) (pa_cons (pe_op op_fdiv (pe_op op_sub (pv 3) pe_int) pe_int) pa_nil))))) (pg_name (i := 5) scLBorderRight.nd rfl (Or.inl rfl))
        (pss_one (ps_set (i := 4) scLBorderRight.nd rfl (.inl rfl) (pe_op op_cat (pv 4) (pe_lst (pa_cons (pe_tup (pa_cons (pe_tup (pa_cons pe_str (pa_cons (pe_tup (pa_cons pe_str (pa_cons pe_int pa_nil))) (pa_cons (pe_tup (pa_cons pe_str (pa_cons pe_int pa_nil))) pa_nil)))) (pa_cons (pe_tup (pa_cons pe_int (pa_cons (pv 5) pa_nil))) pa_nil)))
          (pa_cons (pe_tup (pa_cons (pe_tup (pa_cons pe_str (pa_cons (pe_tup (pa_cons pe_str (pa_cons pe_int pa_nil))) (pa_cons (pe_tup (pa_cons pe_str (pa_cons pe_int pa_nil))) pa_nil)))) (pa_cons (pe_tup (pa_cons pe_int (pa_cons (pv 5) pa_nil))) pa_nil))) pa_nil)))))))
      (pss_cons (ps_for PassesOwn.never rfl (pi_list (pv 4)) (pg_tup (n := 2) (by rfl) (pgs_cons (pg_name (i := 6) scLBorderRight.nd rfl (Or.inl rfl)) (pgs_cons (pg_name (i := 7) scLBorderRight.nd rfl (Or.inl rfl)) pgs_nil)))
        (pss_cons (ps_set (i := 8) scLBorderRight.nd rfl (.inl rfl) (pe_call G6 hr (by rfl) g6 kp6 b6 .nil pass0 (pa_cons (pv 6) (pa_cons (pv 7) pa_nil))))
        (pss_cons (ps_set (i := 9) scLBorderRight.nd rfl (.inl rfl) (pe_lst (pa_cons (pe_call G7 hr (by rfl) g7 kp7 b7 .nil pass0 (pa_cons (pv 6) (pa_cons (pv 7) pa_nil))) (pa_cons (pe_call G8 hr (by rfl) g8 kp8 b8 .nil pass0 (pa_cons (pv 6) (pa_cons (pv 7) pa_nil))) (pa_cons (pe_call G9 hr (by rfl) g9 kp9 b9 .nil pass0 (pa_cons (pv 6) (pa_cons (pv 8) pa_nil))) pa_nil)))))
        (pss_one (ps_if (pt_cmpR op_ne (pe_callB (showK K rfl guard hr.units) (by rfl) m1 (by decide +kernel) (pa_cons (pv 9) pa_nil)) (pe_callB (showK K rfl guard hr.units) (by rfl) m1 (by decide +kernel) (pa_cons (pe_lst (pa_cons pe_bl (pa_cons (pv 8) (pa_cons (pe_ifExp (pt_cmpR op_lt (pv 8) (pv 3) (nomark _)) (pv 7) pe_non) pa_nil)))) pa_nil)) (nomark _)) (pss_one (ps_ret pe_bl)) pss_nil)))))
      (pss_one (ps_ret pe_bl))))))))), ?_⟩
    have t5 : tK 5 = 93 := by decide
    have one : (1 : Nat) ≤ 100000 := by decide
    have two : (2 : Nat) ≤ 100000 := by decide
    have three : (3 : Nat) ≤ 100000 := by decide
    refine qm_asg (D := { nx := _, rt := _ }) (i := 1) mk (em_call (t := tK 5) (ok := okLK 5) (ds := [.int ((5 : Nat) : Int)]) rfl (fun _ _ => eds_cons (ed_int ev_c) eds_nil) ⟨5, rfl, by decide, by decide, rfl⟩ (by omega)) fun kv d H1 pd e1 mk1 hk => ?_
    obtain ⟨s0, rfl, sok0, sd0⟩ := pd
    rw [t5] at mk1
    refine q_while (D := { nx := _, rt := _ }) (fun mm σ' H' => ∃ (y : V) (s' : SK), σ' = [some (.ref m), some y, none, none, none, none, none, none, none, none] ∧ Kin H H' ∧ Mok H' m c (n + 93 + dep s') ∧ Dt H' y (skD s') ∧ s'.ok ∧ dep s' ≤ 6 ∧ mm = 6 - dep s') (6 - dep s0)
      ⟨kv, s0, rfl, e1, mk1.mono (by omega), hk, sok0, by omega, rfl⟩ fun mm σ' H' inv => ?_
    obtain ⟨y, s', rfl, k2, mk2, hy, sok, sd, rfl⟩ := inv
    refine ⟨decide (((dep s' : Nat) : Int) < 6), et_test (ev_op (int_ed (ed_call (eds_cons (ed_var rfl hy) eds_nil) ⟨s', rfl, sd, rfl⟩)) ev_c rv_I0), fun hb H3 e3 => ?_, fun hb H3 e3 => ?_⟩
    · have lt := of_decide_eq_true hb
      have dp := dep_pos s'
      refine ⟨_, fun _ _ h => h, ?_⟩
      refine sm_asg (D := { nx := _, rt := _, bk := _, ct := _ }) (i := 1) (n1 := n + 93 + dep s' + 1) (P := fun d => d = skD (.to s') ∨ d = skD (.both (.rows 2) s')) (mk2.ex e3) (em_ifT (n1 := n + 93 + dep s' + 1) (em_zero (em_draw (b := 2) rfl (fun _ _ => ev_c) (by decide) (by decide) (by omega))) (em_of (fun H4 e4 => ed_tup (eds_cons ed_str (eds_cons (ed_tup (eds_cons ed_str eds_nil) one) (eds_cons (ed_var rfl (rc_tk e4 (hy.tk (tk_ex e3)))) eds_nil))) three) (.inl rfl)) (em_of (fun H4 e4 => ed_tup (eds_cons ed_str (eds_cons (ed_tup (eds_cons ed_str (eds_cons (ed_int ev_c) eds_nil)) two) (eds_cons (ed_var rfl (rc_tk e4 (hy.tk (tk_ex e3)))) eds_nil))) three) (.inr rfl))) fun x4 d4 H4 pd e4 mk4 hx4 => ?_
      rcases pd with rfl | rfl
      · have en : dep (.to s') = 1 + dep s' := rfl
        exact ⟨6 - dep (.to s'), by rw [en]; omega, x4, .to s', rfl, (k2.trans (kin_ex e3)).trans e4, mk4.mono (by rw [en]; omega), hx4, sok, by rw [en]; omega, rfl⟩
      · have en : dep (.both (.rows 2) s') = 1 + dep s' := by show 1 + max (dep s') 1 = _; omega
        exact ⟨6 - dep (.both (.rows 2) s'), by rw [en]; omega, x4, .both (.rows 2) s', rfl, (k2.trans (kin_ex e3)).trans e4, mk4.mono (by rw [en]; omega), hx4, ⟨by show (2 : Int) ≤ 2 ∧ (2 : Int) ≤ 9; decide, sok⟩, by rw [en]; omega, rfl⟩
    have d6 : dep s' = 6 := by have := of_decide_eq_false hb; omega
    have k3 := k2.trans (kin_ex e3)
    have mk3 := mk2.ex e3
    have hy3 := hy.tk (tk_ex e3)
    have n6 := nodes_few sd
    have gd6 := gdep_gk s'
    refine q_when (D := { nx := _, rt := _ }) (b := false) (et_is (et_neS (ev_showL (ds := [.bool true, .bool false]) (eld_lst (eds_cons (ed_call (eds_cons (ed_var rfl hy3) eds_nil) ⟨gk s', rfl, gk_ok s' sok, by omega, by omega, by rw [srch_gk, decide_eq_true (by omega)]⟩) (eds_cons (ed_call (eds_cons (ed_tup (eds_cons ed_str (eds_cons (ed_tup (eds_cons ed_str eds_nil) one) (eds_cons (ed_var rfl hy3) eds_nil))) three) eds_nil) ⟨gk (.to s'), rfl, ⟨trivial, gk_ok s' sok⟩, by show 1 + (gk s').nodes + 1 ≤ 1000; omega, by have := gdep_gk (.to s'); have : dep (.to s') = 1 + dep s' := rfl; omega, by rw [srch_gk, decide_eq_false (by show ¬ 1 + (1 + dep s') ≤ 7; omega)]⟩) eds_nil)) two) (f_list (fa_cons (f_bool true) (fa_cons (f_bool false) fa_nil))) (by decide) (by decide)) ev_c) (neS (by decide +kernel))) (fun z => by cases z) fun _ H4 e4 => ?_
    have k4 := k3.trans (kin_ex e4)
    have mk4 := (mk3.ex e4).mono (show n + 93 + dep s' ≤ n + 99 by omega)
    refine qm_par (D := { nx := _, rt := _ }) (i := 2) (j := 3) (n1 := n + 101) (PP := fun ds => ∃ z : Int, ds = [.int z, .int 999999999999999999] ∧ 0 ≤ z ∧ z < 1000000000) mk4 (ems_cons (P := fun d => ∃ z : Int, d = .int z ∧ 0 ≤ z ∧ z < 1000000000) (PP := fun ds => ds = [.int 999999999999999999]) (PP' := fun ds => ∃ z : Int, ds = [.int z, .int 999999999999999999] ∧ 0 ≤ z ∧ z < 1000000000)
      ((em_pickM (n1 := n + 100) rfl (eml_three (a := .int 0) (b := .int 1) (fun _ _ => ed_int ev_c) (fun _ _ => ed_int ev_c) (em_draw (b := 1000000000) rfl (fun _ _ => ev_op ev_c ev_c (rv_I (by unfold CPow; decide))) (by decide) (by decide) (by omega))) (fun ds h => by
        obtain ⟨d, rfl, _⟩ := h
        exact ⟨by simp, by show (3 : Nat) ≤ 1000; decide⟩) (by omega)).is fun d h => by
        obtain ⟨ds, ⟨d', rfl, z, rfl, z0, z1⟩, hd⟩ := h
        simp only [List.mem_cons, List.not_mem_nil, or_false] at hd
        rcases hd with rfl | rfl | rfl
        · exact ⟨0, rfl, by decide, by decide⟩
        · exact ⟨1, rfl, by decide, by decide⟩
        · exact ⟨z, rfl, z0, z1⟩)
      (ems_cons (P := fun d => d = .int 999999999999999999) (PP := fun ds => ds = []) (PP' := fun ds => ds = [.int 999999999999999999]) (em_of (fun _ _ => ed_int (ev_op (ev_op ev_c ev_c (rv_I (by unfold CPow; decide))) ev_c rv_I0)) rfl) (ems_nil rfl) fun d ds h1 h2 => by rw [h1, h2]) fun d ds h1 h2 => by
        obtain ⟨z, rfl, z0, z1⟩ := h1
        exact ⟨z, by rw [h2], z0, z1⟩) (fun ds h => by
        obtain ⟨z, rfl, _⟩ := h
        rfl) fun xb xt db dt H5 pd e5 mk5 hb5 ht5 => ?_
    obtain ⟨b, eb, b0', b1'⟩ := pd
    cases eb
    cases dt_int hb5
    cases dt_int ht5
    have k5 := k4.trans e5
    have vTo : ∀ {σ : L2.St} {H : Hp}, EvD (tTup (tCons (tC (.str "to")) (tCons (tTup (tCons (tC (.str "num")) tNil)) (tCons (tTup (tCons (tC (.str "rows")) (tCons (tC (.int 3)) tNil))) tNil)))) σ H (skD sKToN) := ed_tup (eds_cons ed_str (eds_cons (ed_tup (eds_cons ed_str eds_nil) one) (eds_cons (ed_tup (eds_cons ed_str (eds_cons (ed_int ev_c) eds_nil)) two) eds_nil))) three
    have vRow : ∀ {σ : L2.St} {H : Hp} {z : Int}, EvD (tTup (tCons (tC (.str "rows")) (tCons (tC (.int z)) tNil))) σ H (skD (.rows z)) := ed_tup (eds_cons ed_str (eds_cons (ed_int ev_c) eds_nil)) two
    have vBo : ∀ {σ : L2.St} {H : Hp}, EvD (tTup (tCons (tC (.str "both")) (tCons (tTup (tCons (tC (.str "rows")) (tCons (tC (.int 2)) tNil))) (tCons (tTup (tCons (tC (.str "rows")) (tCons (tC (.int 3)) tNil))) tNil)))) σ H (skD sKB) := ed_tup (eds_cons ed_str (eds_cons (ed_tup (eds_cons ed_str (eds_cons (ed_int ev_c) eds_nil)) two) (eds_cons (ed_tup (eds_cons ed_str (eds_cons (ed_int ev_c) eds_nil)) two) eds_nil))) three
    have at9 : atop = 999999999999999999 := rfl
    refine q_asgLn (D := { nx := _, rt := _ }) (i := 4) (ds := [(sKToN, [10 ^ 9 - 1 - b, b]), (sKToN, [10 ^ 9 - b, b])].map pairD) (eld_lst (eds_cons (ed_tup (eds_cons vTo (eds_cons (ed_tup (eds_cons (ed_int (ev_op (ev_op (ev_op ev_c ev_c (rv_I (by unfold CPow; decide))) ev_c rv_I0) (ev_var rfl) rv_I0)) (eds_cons (ed_int (ev_var rfl)) eds_nil)) two) eds_nil)) two) (eds_cons (ed_tup (eds_cons vTo (eds_cons (ed_tup (eds_cons (ed_int (ev_op (ev_op ev_c ev_c (rv_I (by unfold CPow; decide))) (ev_var rfl) rv_I0)) (eds_cons (ed_int (ev_var rfl)) eds_nil)) two) eds_nil)) two) eds_nil)) two) fun S6 xs6 H6 n6' e6 hS6 all6 => ?_
    have k6 := k5.trans (kin_ex e6)
    refine qm_asgL (D := { nx := _, rt := _ }) (i := 4) (n1 := n + 102) (mk5.ex e6) (eml_catV (i := 4) rfl hS6 all6 (eml_three (a := pairD (.rows 4, [999999999999999999])) (b := pairD (.rows 4, [999999999999999999 - 1])) (P := fun d => ∃ z : Int, d = pairD (.rows 2, [z]) ∧ 0 ≤ z ∧ z < 1000000000000000000) (fun _ _ => ed_tup (eds_cons vRow (eds_cons (ed_tup (eds_cons (ed_int (ev_var rfl)) eds_nil) one) eds_nil)) two) (fun _ _ => ed_tup (eds_cons vRow (eds_cons (ed_tup (eds_cons (ed_int (ev_op (ev_var rfl) ev_c rv_I0)) eds_nil) one) eds_nil)) two)
      (em_duo (a := skD (.rows 2)) (P1 := fun d => ∃ z : Int, d = intsD [z] ∧ 0 ≤ z ∧ z < 1000000000000000000) (fun _ _ => vRow) (em_one (em_draw (b := 1000000000000000000) rfl (fun _ _ => ev_op ev_c ev_c (rv_I (by unfold CPow; decide))) (by decide) (by decide) (by omega)) fun d h => by
        obtain ⟨z, rfl, z0, z1⟩ := h
        exact ⟨z, rfl, z0, z1⟩) fun d h => by
        obtain ⟨z, rfl, z0, z1⟩ := h
        exact ⟨z, rfl, z0, z1⟩)) fun es h => by
        obtain ⟨d, rfl, _⟩ := h
        show 2 + 3 ≤ 1000
        decide) fun S7 xs7 ds7 H7 pd e7 mk7 hS7 all7 => ?_
    obtain ⟨es, ⟨d7, rfl, z, rfl, z0, z1⟩, rfl⟩ := pd
    have k7 := k6.trans e7
    have base5 : ∀ p ∈ [(sKToN, [10 ^ 9 - 1 - b, b]), (sKToN, [10 ^ 9 - b, b]), (SK.rows 4, [999999999999999999]), (SK.rows 4, [999999999999999999 - 1]), (SK.rows 2, [z])], POk2 p := fun p hp => by
      simp only [List.mem_cons, List.not_mem_nil, or_false] at hp
      rcases hp with rfl | rfl | rfl | rfl | rfl
      · exact ⟨⟨_, _, rfl, by omega, by omega, _, rfl, by omega, by omega⟩, by show (2 : Nat) ≤ 5; decide, by show (2 : Nat) ≤ 10; decide⟩
      · exact ⟨⟨_, _, rfl, by omega, by omega, _, rfl, by omega, by omega⟩, by show (2 : Nat) ≤ 5; decide, by show (2 : Nat) ≤ 10; decide⟩
      · exact ⟨⟨_, rfl, by omega, by omega⟩, by show (1 : Nat) ≤ 5; decide, by show (1 : Nat) ≤ 10; decide⟩
      · exact ⟨⟨_, rfl, by omega, by omega⟩, by show (1 : Nat) ≤ 5; decide, by show (1 : Nat) ≤ 10; decide⟩
      · exact ⟨⟨_, rfl, by omega, by omega⟩, by show (1 : Nat) ≤ 5; decide, by show (1 : Nat) ≤ 10; decide⟩
    have hT : EvD (tTup (tCons (tOp (rI CDiv fun i j => .int (i / j)) (tOp (rI0 fun i j => .int (i + j)) (tVar 3) (tC (.int 1))) (tC (.int 2))) (tCons (tOp (rI CDiv fun i j => .int (i / j)) (tOp (rI0 fun i j => .int (i - j)) (tVar 3) (tC (.int 1))) (tC (.int 2))) (tCons (tOp (rI CDiv fun i j => .int (i / j)) (tOp (rI0 fun i j => .int (i - j)) (tVar 3) (tC (.int 3))) (tC (.int 2))) tNil)))) [some (.ref m), some y, some (.int b), some (.int 999999999999999999), some (.ref S7), none, none, none, none, none] H7 (intsD [500000000000000000, 499999999999999999, 499999999999999998]) :=
      ed_tup (eds_cons (ed_int (ev_op (ev_op (ev_var rfl) ev_c rv_I0) ev_c (rv_I (by unfold CDiv; decide)))) (eds_cons (ed_int (ev_op (ev_op (ev_var rfl) ev_c rv_I0) ev_c (rv_I (by unfold CDiv; decide)))) (eds_cons (ed_int (ev_op (ev_op (ev_var rfl) ev_c rv_I0) ev_c (rv_I (by unfold CDiv; decide)))) eds_nil))) three
    refine q_forNT (D := { nx := _, rt := _ }) hT fun J js H8 e8 hJ allJ => ?_
    cases dts_ints allJ
    refine ⟨J, rfl, ⟨_, SqT.of hJ⟩, ?_⟩
    refine for_it (walk_tup (K := K) (a := J) (xs := ([500000000000000000, 499999999999999999, 499999999999999998] : List Int).map V.int)) (fun t σ' H' => ∃ (A : Addr) (ys : List V) (ps : List (SK × List Int)) (z5 : Option V), σ' = [some (.ref m), some y, some (.int b), some (.int 999999999999999999), some (.ref A), z5, none, none, none, none] ∧ Ex H8 H' ∧ H' A = some (.lst ys) ∧ DtAll H' ys (ps.map pairD) ∧ (∀ p ∈ ps, POk2 p) ∧ ps.length ≤ 5 + 2 * t)
      ⟨S7, xs7, [(sKToN, [10 ^ 9 - 1 - b, b]), (sKToN, [10 ^ 9 - b, b]), (SK.rows 4, [999999999999999999]), (SK.rows 4, [999999999999999999 - 1]), (SK.rows 2, [z])], none, rfl, Ex.refl _, e8 _ _ hS7, all7.tk (tk_ex e8), base5, Nat.le_refl _⟩ (fun t σ' H' _ p => ?_) (fun t x σ' H' H'' ht p hy => ?_) (fun σ' H' p => ?_)
    · obtain ⟨A, ys, ps, z5, rfl, e9, _⟩ := p
      exact SqT.of (e9 _ _ hJ)
    · obtain ⟨A, ys, ps, z5, rfl, e9, hA, allA, oks, len⟩ := p
      obtain ⟨rfl, hx⟩ := hy
      obtain ⟨j, hj, rfl⟩ := map_at hx
      have ht3 : t < 3 := ht
      have jr : 0 ≤ j ∧ j ≤ 500000000000000000 := by
        have := List.mem_of_getElem? hj
        simp only [List.mem_cons, List.not_mem_nil, or_false] at this
        omega
      refine s_asgLd (D := { nx := _, rt := _, bk := _, ct := _ }) (i := 4) (eld_catV (ev_var rfl) hA allA (eld_lst (ds := [pairD (sKB, [0, j]), pairD (sKB, [1, j])]) (eds_cons (ed_tup (eds_cons vBo (eds_cons (ed_tup (eds_cons (ed_int ev_c) (eds_cons (ed_int (ev_var rfl)) eds_nil)) two) eds_nil)) two) (eds_cons (ed_tup (eds_cons vBo (eds_cons (ed_tup (eds_cons (ed_int ev_c) (eds_cons (ed_int (ev_var rfl)) eds_nil)) two) eds_nil)) two) eds_nil)) two) (by rw [List.length_map]; show ps.length + 2 ≤ 100000; omega)) fun A' ys' H10 e10 hA' allA' => ?_
      refine ⟨A', ys', ps ++ [(sKB, [0, j]), (sKB, [1, j])], _, rfl, e9.trans e10, hA', by rw [List.map_append]; exact allA', fun p hp => ?_, by rw [List.length_append]; show ps.length + 2 ≤ _; omega⟩
      rcases List.mem_append.mp hp with h | h
      · exact oks p h
      · simp only [List.mem_cons, List.not_mem_nil, or_false] at h
        rcases h with rfl | rfl
        · exact ⟨⟨_, _, rfl, .inl ⟨rfl, _, rfl, by omega, by omega⟩⟩, by show (2 : Nat) ≤ 5; decide, by show (2 : Nat) ≤ 10; decide⟩
        · exact ⟨⟨_, _, rfl, .inr ⟨rfl, _, rfl, by omega, by omega⟩⟩, by show (2 : Nat) ≤ 5; decide, by show (2 : Nat) ≤ 10; decide⟩
    obtain ⟨A, ys, ps, z5, rfl, e9, hA, allA, oks, len⟩ := p
    have k9 := (k7.trans (kin_ex e8)).trans (kin_ex e9)
    have mk9 := mk7.ex (e8.trans e9)
    refine q_forL (D := { nx := _, rt := _ }) (ev_var rfl) (SqL.of hA) (fun t σ' H'' => ∃ z6 z7 z8 z9 : Option V, σ' = [some (.ref m), some y, some (.int b), some (.int 999999999999999999), some (.ref A), z5, z6, z7, z8, z9] ∧ Ex H' H'') (fun H10 e10 => ⟨none, none, none, none, rfl, e10⟩) (fun t σ' H'' _ p => ?_) (fun t x σ' H'' hx p => ?_) (fun σ' H'' p => ?_)
    · obtain ⟨z6, z7, z8, z9, rfl, e10⟩ := p
      exact SqL.of (e10 _ _ hA)
    · obtain ⟨z6, z7, z8, z9, rfl, e10⟩ := p
      obtain ⟨d, hd, hxd⟩ := dt_mem allA (List.mem_of_getElem? hx)
      obtain ⟨⟨so, l⟩, hp, rfl⟩ := List.mem_map.mp hd
      obtain ⟨had, dp5, l10⟩ := oks _ hp
      have had : adr so l := had
      have l10 : l.length ≤ 10 := l10
      have dp5 : dep so ≤ 5 := dp5
      have ir := idx_rng so l had
      refine gd_two (hxd.tk (tk_ex e10)) fun yo yl hyo hyl => ?_
      refine q_asg (D := { nx := _, rt := _, bk := _, ct := _ }) (i := 8) (v := .int (idx so l)) (int_ed (ed_call (eds_cons (ed_var rfl hyo) (eds_cons (ed_var rfl hyl) eds_nil)) ⟨so, l, rfl, had, dp5, by decide, rfl⟩)) fun H11 e11 => ?_
      have hyo11 := hyo.tk (tk_ex e11)
      have hyl11 := hyl.tk (tk_ex e11)
      refine q_asgLn (D := { nx := _, rt := _, bk := _, ct := _ }) (i := 9) (ds := [.bool true, .int (idx so l), adD (if idx so l < atop then some l else none)]) (eld_lst (eds_cons (ed_call (eds_cons (ed_var rfl hyo11) (eds_cons (ed_var rfl hyl11) eds_nil)) ⟨so, l.map .int, rfl, by rw [List.length_map]; omega, by rw [isA_adr so l had]⟩) (eds_cons (ed_call (eds_cons (ed_var rfl hyo11) (eds_cons (ed_var rfl hyl11) eds_nil)) ⟨so, l, rfl, had, by omega, rfl⟩) (eds_cons (ed_call (eds_cons (ed_var rfl hyo11) (eds_cons (ed_int (ev_var rfl)) eds_nil)) ⟨so, idx so l, rfl, by omega, ir.1, ir.2, by rw [idx_show had]⟩) eds_nil))) three) fun W12 xs12 H12 n12 e12 hW12 all12 => ?_
      have fA : Fine 20 1 (adD (if idx so l < atop then some l else none)) := by
        split
        · exact f_addr (adr_rng so l had) (by omega)
        · exact f_none.up (by decide) (by decide)
      have fL : Fine 100 2 (.list [.bool true, .int (idx so l), adD (if idx so l < atop then some l else none)]) := (f_list (fa_cons (f_bool true) (fa_cons (f_int (by omega) (by omega)) (fa_cons fA fa_nil)))).up (by decide) (by decide)
      have hyl12 := hyl11.tk (tk_ex e12)
      refine s_when (D := { nx := _, rt := _, bk := _, ct := _ }) (b := false) (et_is (et_neS (ev_showVL (ev_var rfl) hW12 all12 fL (by decide) (by decide)) (ev_showL (eld_lst (eds_cons (ed_bool ev_c) (eds_cons (ed_int (ev_var rfl)) (eds_cons (ed_ifD (b := decide (idx so l < atop)) (et_test (ev_op (ev_var rfl) (ev_var rfl) rv_I0)) (fun hb => by rw [if_pos (of_decide_eq_true hb)]; exact ed_var rfl hyl12) fun hb => by rw [if_neg (of_decide_eq_false hb)]; exact ed_non) eds_nil))) three) fL (by decide) (by decide))) (neS rfl)) (fun z => by cases z) fun _ H13 e13 => ?_
      exact ⟨_, _, _, _, rfl, ((e10.trans e11).trans e12).trans e13⟩
    · obtain ⟨z6, z7, z8, z9, rfl, e10⟩ := p
      exact s_ret (D := { nx := _, rt := _ }) (v := .bl true) ev_c fun H11 e11 => q H11 ((k9.trans (kin_ex e10)).trans (kin_ex e11)) ((mk9.ex (e10.trans e11)).mono (by omega))
end
end K10
set_option Elab.async false
set_option linter.all false
set_option maxRecDepth 100000
set_option maxHeartbeats 1000000
namespace K10
open PySem PySem.Spec PyProof.Rows L2 Evl
theorem showK2 {X : Cx} (K : PySem.W.Frag) (e : X.K = K) (guard : X.A.guards = some []) (hu : X.A.units + 64 < cLine) : CallR X (.builtin "repr") (rShow2 K) := by
  subst e
  exact call_show2 guard hu
theorem em_callM {m c : Addr} {σ : L2.St} {H : Hp} {n n1 : Nat} {i t : Nat} {ok : List PyData → (PyData → Prop) → Prop} {tr : TA} {E : XK} {PP : List PyData → Prop} {P : PyData → Prop} (hi : σ[i]? = some (some (.ref m))) (h : EvMs m c tr σ H n n1 PP) (hk : ∀ ds, PP ds → ok ds P) (few : n1 + t < 1000000) : EvM m c (tCall (spM t ok) [] E (tCons (tVar i) tr)) σ H n (n1 + t) P := fun H1 e1 mk Q q =>
  ⟨_, hi, h H1 e1 mk _ fun xs ds H2 pp e2 mk2 hxs => ⟨m, c, n1, xs, ds, P, by rw [List.append_nil], hxs, hk ds pp, mk2, few, fun x d H' p e3 mk3 hx => q x d H' p (e2.trans e3) mk3 hx⟩⟩
theorem ed_ixL {K : PySem.W.Frag} {σ : L2.St} {H : Hp} {ta tb : TE} {a : Addr} {xs : List V} {d : PyData} {ds : List PyData} (h : Ev ta σ H (.ref a)) (hp : H a = some (.lst xs)) (all : DtAll H xs (d :: ds)) (hb : Ev tb σ H (.int 0)) : EvD (tOp (rIxL K) ta tb) σ H d := fun H1 e1 Q q =>
  h H1 e1 _ fun H2 e2 => hb H2 (e1.trans e2) _ fun H3 e3 => by
    have e13 := (e1.trans e2).trans e3
    cases all with
    | cons h1 t => exact ⟨a, _, 0, _, rfl, rfl, SqL.of (e13 _ _ hp), ax0, q _ H3 (e2.trans e3) (h1.tk (tk_ex e13))⟩
theorem q_ifPut {σ : L2.St} {H : Hp} {D : Ends} {tz : TS} {td ty tv : TE} {t : TT} {b : Bool} {N : Addr} {kvs : List (Key × V)} {i : Int} {v : V} {G : Hp → Prop} (h : EvT t σ H b) (hd : Ev td σ H (.ref N)) (hi : Ev ty σ H (.int i)) (hv : Ev tv σ H v) (hN : H N = some (.dK kvs)) (few : kvs.length ≤ 100)
    (g1 : b = true → ∀ H1, Ex H H1 → G (upd H1 N (.dK (putK kvs (Sum.inl i) v)))) (g2 : b = false → ∀ H1, Ex H H1 → G H1) (k : ∀ H1, G H1 → tz D σ H1) : tSeq (tIfS t (sDPut td ty tv) tNext) tz D σ H :=
  q_when h (fun hb H1 e1 => hv H1 e1 _ fun H2 e2 => hd H2 (e1.trans e2) _ fun H3 e3 => hi H3 ((e1.trans e2).trans e3) _ fun H4 e4 => ⟨N, _, rfl, DPut.k (k := (Sum.inl i : Key)) ((((e1.trans e2).trans e3).trans e4) _ _ hN) (sz_lt (by omega)), k _ (g1 hb H4 (((e1.trans e2).trans e3).trans e4))⟩) (fun hb H1 e1 => k H1 (g2 hb H1 e1))
theorem shaped_back (o : Option (List Int)) : SeqAt.shaped (.list (backL o)) = true := by
  unfold SeqAt.shaped
  cases o with
  | none => decide +kernel
  | some l =>
    show (PyData.canLay0 (.list [.tuple (l.map .int)]) && decide (PyData.depth (.list [.tuple (l.map .int)]) ≤ 64)) = true
    simp [PyData.canLay0, PyData.depth, PyData.canLayAll0, PyData.depthAll, canLay_ints, depth_ints]
theorem kin_near {H H' : Hp} {N : Addr} {kvs : List (Key × V)} (e : Kin H H') (h : H N = some (.dK kvs)) (no : valV kvs (Sum.inr "left") = none) : H' N = some (.dK kvs) := e _ _ h fun q z => by
  injection z with z
  rw [z, st_left] at no
  cases no
theorem ad_form (o : Option (List Int)) : (∃ i : Int, adD o = .int i ∧ i.natAbs.log2 < 1920) ∨ adD o = .none ∨ ∃ ds, adD o = .tuple ds := by
  cases o with
  | none => exact .inr (.inl rfl)
  | some l => exact .inr (.inr ⟨_, rfl⟩)
/-- if f(te) is not False: .., te drawn -/
theorem qm_callIf {m c : Addr} {σ : L2.St} {H : Hp} {n n1 : Nat} {te : TE} {P : PyData → Prop} {ok : List PyData → PyData → Prop} {D : Ends} {tu tz : TS} {E : XK} (mk : Mok H m c n) (h : EvM m c te σ H n n1 P) (hk : ∀ x d H1, P d → Dt H1 x d → ∃ ds e, DtAll H1 [x] ds ∧ ok ds e ∧ e = .bool false) (k : ∀ H1, Kin H H1 → Mok H1 m c n1 → tz D σ H1) :
    tSeq (tIfS (tTest (tOp rNotB (tCall (spD ok) [] E (tCons te tNil)) (tC (.bl false)))) tu tNext) tz D σ H := h H (Kin.refl _) mk _ fun x d H1 pd e1 mk1 hx => by
  obtain ⟨ds, e, all, okk, rfl⟩ := hk x d H1 pd hx
  refine ⟨ds, .bool false, all, okk, fun y H2 e2 hy => ?_⟩
  cases dt_bool hy
  exact ⟨false, false, rfl, rfl, false, rfl, k H2 (e1.trans (kin_ex e2)) (mk1.ex e2)⟩
/-- the addresses that were met, by their indices -/
def Near (s : SK) (H : Hp) (kvs : List (Key × V)) : Prop := ∀ (i : Int) (v : V), valV kvs (Sum.inl i) = some v → ∃ l, adr s l ∧ idx s l = i ∧ i < atop ∧ Dt H v (intsD l)
theorem Near.tk {s : SK} {H H' : Hp} {kvs : List (Key × V)} (e : Tk H H') (h : Near s H kvs) : Near s H' kvs := fun i v hv => by
  obtain ⟨l, h1, h2, h3, h4⟩ := h i v hv
  exact ⟨l, h1, h2, h3, h4.tk e⟩
theorem Near.put {s : SK} {H : Hp} {kvs : List (Key × V)} {l : List Int} {v : V} (h : Near s H kvs) (h1 : adr s l) (h2 : idx s l < atop) (h3 : Dt H v (intsD l)) : Near s H (putK kvs (Sum.inl (idx s l)) v) := fun i u hu => by
  rw [valV_put] at hu
  by_cases z : (Sum.inl i : Key) = Sum.inl (idx s l)
  · rw [if_pos z] at hu
    cases hu
    cases z
    exact ⟨l, h1, rfl, h2, h3⟩
  · rw [if_neg z] at hu
    exact h i u hu
theorem ed_near {σ : L2.St} {H : Hp} {td ty tx : TE} {s : SK} {N : Addr} {kvs : List (Key × V)} {l : List Int} (hd : Ev td σ H (.ref N)) (hN : H N = some (.dK kvs)) (near : Near s H kvs) (had : adr s l) (hi : Ev ty σ H (.int (idx s l))) (hx : EvD tx σ H (intsD l)) : EvD (tDGet2 td ty tx) σ H (intsD l) := fun H1 e1 Q q =>
  hd H1 e1 _ fun H2 e2 => ⟨N, rfl, .inl ⟨kvs, .inl ((e1.trans e2) _ _ hN)⟩, hi H2 (e1.trans e2) _ fun H3 e3 => hx H3 ((e1.trans e2).trans e3) _ fun z H4 e4 hz => by
    have e14 := ((e1.trans e2).trans e3).trans e4
    refine ⟨_, DGet.k (k := (Sum.inl (idx s l) : Key)) (e14 _ _ hN), q _ H4 ((e2.trans e3).trans e4) ?_⟩
    cases hv : valV kvs (Sum.inl (idx s l)) with
    | none => exact hz
    | some v =>
      obtain ⟨l', a1, a2, a3, a4⟩ := near _ v hv
      have := iad_idx s l' a1 (by rw [a2]; exact a3)
      rw [a2, iad_idx s l had a3] at this
      cases this
      exact a4.tk (tk_ex e14)⟩
def spRight : Sp := fun vs H Q _ => ∃ (m c : Addr) (n : Nat), vs = [.ref m] ∧ Mok H m c n ∧ n + 300 < 1000000 ∧ ∀ H', Kin H H' → Mok H' m c (n + 300) → Q (.bl true) H'
theorem wid_ex (s : SK) : ∃ w, Wid (szs s) w := by
  cases h : ew (szs s) with
  | some w => exact ⟨w, .inl h⟩
  | none =>
    have key : ∀ l : List Int, l ≠ [] → ∃ w, IsMax w l := by
      intro l
      induction l with
      | nil => exact fun z => absurd rfl z
      | cons x l ih =>
        intro _
        by_cases z : l = []
        · subst z
          exact ⟨x, List.mem_cons_self, fun y hy => by rw [List.mem_singleton.mp hy]; exact Int.le_refl _⟩
        · obtain ⟨w, h1, h2⟩ := ih z
          by_cases c : w ≤ x
          · refine ⟨x, List.mem_cons_self, fun y hy => ?_⟩
            rcases List.mem_cons.mp hy with rfl | hy
            · exact Int.le_refl _
            · have := h2 y hy; omega
          · refine ⟨w, List.mem_cons_of_mem _ h1, fun y hy => ?_⟩
            rcases List.mem_cons.mp hy with rfl | hy
            · omega
            · exact h2 y hy
    obtain ⟨w, hw⟩ := key _ (szs_ne s)
    exact ⟨w, .inr ⟨h, hw⟩⟩
theorem wid_rng {s : SK} {w : Int} (ok : s.ok) (h : Wid (szs s) w) : 0 ≤ w ∧ w ≤ 100 := by
  rcases h with h | ⟨_, h1, _⟩
  · have := List.mem_of_find?_eq_some h
    simp only [List.mem_cons, List.not_mem_nil, or_false] at this
    omega
  · have := szs_ok s ok w h1
    omega
section
variable {P : Program} {w : World} {K : PySem.W.Frag} {mg : Str → Option Value} {base : Heap} {f f1 f2 f3 f4 f5 f6 f7 f8 f9 fa fb fc fe ff fg fh fi fj : Addr} {fd fd1 fd2 fd3 fd4 fd5 fd6 fd7 fd8 fd9 fda fdb fdc fde fdf fdg fdh fdi fdj : FuncData} {k : Nat}
theorem ok_right (F : Fun K "_law_right" "_law_right" sLRight f fd) (m1 : mg "repr" = none) (m2 : mg "range" = none)
    (G1 : FnOk P w K mg base CX0 k f1 fd1 ["m", "below"] spDraw) (g1 : mg "_law_draw" = some (.ref f1)) (kp1 : PySem.W.keepIn K (.ref f1) = true) (b1 : Binds K fd1 ["m", "below"] [])
    (G2 : FnOk P w K mg base CX0 k f2 fd2 ["m", "some"] (spPick K)) (g2 : mg "_law_of" = some (.ref f2)) (kp2 : PySem.W.keepIn K (.ref f2) = true) (b2 : Binds K fd2 ["m", "some"] [])
    (G3 : FnOk P w K mg base CX0 k f3 fd3 ["m", "deep"] (spM (tK 5) (okLK 5))) (g3 : mg "_law_kind" = some (.ref f3)) (kp3 : PySem.W.keepIn K (.ref f3) = true) (b3 : Binds K fd3 ["m", "deep"] [])
    (G4 : FnOk P w K mg base CX0 k f4 fd4 ["kind"] (spD okLWid)) (g4 : mg "_law_width" = some (.ref f4)) (kp4 : PySem.W.keepIn K (.ref f4) = true) (b4 : Binds K fd4 ["kind"] [])
    (G5 : FnOk P w K mg base CX0 k f5 fd5 ["kind"] (spD okSearch2)) (g5 : mg "is_searchable" = some (.ref f5)) (kp5 : PySem.W.keepIn K (.ref f5) = true) (b5 : Binds K fd5 ["kind"] [])
    (G6 : FnOk P w K mg base CX0 k f6 fd6 ["kind", "address"] (spD (okLIdx 5))) (g6 : mg "_law_index_of" = some (.ref f6)) (kp6 : PySem.W.keepIn K (.ref f6) = true) (b6 : Binds K fd6 ["kind", "address"] [])
    (G7 : FnOk P w K mg base CX0 k f7 fd7 ["kind", "value"] (spD okIsAddr)) (g7 : mg "is_address" = some (.ref f7)) (kp7 : PySem.W.keepIn K (.ref f7) = true) (b7 : Binds K fd7 ["kind", "value"] [])
    (G8 : FnOk P w K mg base CX0 k f8 fd8 ["kind", "address"] (spD okAIdx)) (g8 : mg "address_index" = some (.ref f8)) (kp8 : PySem.W.keepIn K (.ref f8) = true) (b8 : Binds K fd8 ["kind", "address"] [])
    (G9 : FnOk P w K mg base CX0 k f9 fd9 ["kind", "index"] (spD okIAd)) (g9 : mg "index_address" = some (.ref f9)) (kp9 : PySem.W.keepIn K (.ref f9) = true) (b9 : Binds K fd9 ["kind", "index"] [])
    (Ga : FnOk P w K mg base CX0 k fa fda ["kind"] (spD (okLCnt 5))) (ga : mg "_law_count" = some (.ref fa)) (kpa : PySem.W.keepIn K (.ref fa) = true) (ba : Binds K fda ["kind"] [])
    (Gb : FnOk P w K mg base CX0 k fb fdb ["kind"] (spD okWidth)) (gb : mg "width_of" = some (.ref fb)) (kpb : PySem.W.keepIn K (.ref fb) = true) (bb : Binds K fdb ["kind"] [])
    (Gc : FnOk P w K mg base CX0 k fc fdc ["kind"] (spD okIsEven)) (gc : mg "is_even" = some (.ref fc)) (kpc : PySem.W.keepIn K (.ref fc) = true) (bc : Binds K fdc ["kind"] [])
    (Ge : FnOk P w K mg base CX0 k fe fde ["kind"] (spD okCount)) (ge : mg "elements_count" = some (.ref fe)) (kpe : PySem.W.keepIn K (.ref fe) = true) (be : Binds K fde ["kind"] [])
    (Gf : FnOk P w K mg base CX0 k ff fdf ["m", "kind"] (spM 7 okLBad)) (gf : mg "_law_bad_kind" = some (.ref ff)) (kpf : PySem.W.keepIn K (.ref ff) = true) (bf : Binds K fdf ["m", "kind"] [])
    (Gg : FnOk P w K mg base CX0 k fg fdg ["m", "kind", "most"] (spM 5 (okLA 5))) (gg : mg "_law_address" = some (.ref fg)) (kpg : PySem.W.keepIn K (.ref fg) = true) (bg : Binds K fdg ["m", "kind", "most"] [])
    (Gh : FnOk P w K mg base CX0 k fh fdh ["m", "address"] (spM 4 okLBent)) (gh : mg "_law_bent" = some (.ref fh)) (kph : PySem.W.keepIn K (.ref fh) = true) (bh : Binds K fdh ["m", "address"] [])
    (Gi : FnOk P w K mg base CX0 k fi fdi ["kind", "value"] (spD (okLIsA2 5))) (gi : mg "_law_is_address" = some (.ref fi)) (kpi : PySem.W.keepIn K (.ref fi) = true) (bi : Binds K fdi ["kind", "value"] [])
    (Gj : FnOk P w K mg base CX0 k fj fdj ["kind", "index"] (spBack 5)) (gj : mg "_law_back" = some (.ref fj)) (kpj : PySem.W.keepIn K (.ref fj) = true) (bj : Binds K fdj ["kind", "index"] []) :
    Ok1 P w K mg base (k + 1) f fd ["m"] spRight := by
  refine ok1_of F scLRight (fun vs H Q E h => ?_) (fun cdv A outer s0 H vs Q E guard hr h => ?_)
  · obtain ⟨m, c, n, rfl, _⟩ := h
    rfl
  · obtain ⟨m, c, n, rfl, mk, few, q⟩ := h
    refine ⟨_, pss_cons (ps_set (i := 1) scLRight.nd rfl (.inl rfl) (pe_call G3 hr (by rfl) g3 kp3 b3 .nil pass0 (pa_cons (pv 0) (pa_cons pe_int pa_nil))))
      (pss_cons (ps_set (i := 2) scLRight.nd rfl (.inl rfl) (pe_lst (pa_cons pe_bl (pa_cons (pe_ix ix_tup (pe_call G4 hr (by rfl) g4 kp4 b4 .nil pass0 (pa_cons (pv 1) pa_nil)) pe_int (fun _ _ => rfl)) (pa_cons (pe_ix ix_tup (pe_call G4 hr (by rfl) g4 kp4 b4 .nil pass0 (pa_cons (pv 1) pa_nil)) pe_int (fun _ _ => rfl)) (pa_cons (pe_call Ga hr (by rfl) ga kpa ba .nil pass0 (pa_cons (pv 1) pa_nil)) pa_nil))))))
      (pss_cons (ps_if (pt_cmpR op_ne (pe_callB (showK K rfl guard hr.units) (by rfl) m1 (by decide +kernel) (pa_cons (pe_lst (pa_cons (pe_call G5 hr (by rfl) g5 kp5 b5 .nil pass0 (pa_cons (pv 1) pa_nil)) (pa_cons (pe_call Gb hr (by rfl) gb kpb bb .nil pass0 (pa_cons (pv 1) pa_nil)) (pa_cons (pe_call Gc hr (by rfl) gc kpc bc .nil pass0 (pa_cons (pv 1) pa_nil)) (pa_cons (pe_call Ge hr (by rfl) ge kpe be .nil pass0 (pa_cons (pv 1) pa_nil)) pa_nil))))) pa_nil)) (pe_callB (showK K rfl guard hr.units) (by rfl) m1 (by decide +kernel) (pa_cons (pv 2) pa_nil)) (nomark _)) (pss_one (ps_ret pe_bl)) pss_nil)
      (pss_cons (ps_if (pt_cmpR op_notBl (pe_call G5 hr (by rfl) g5 kp5 b5 .nil pass0 (pa_cons (pe_call Gf hr (by rfl) gf kpf bf .nil pass0 (pa_cons (pv 0) (pa_cons (pv 1) pa_nil))) pa_nil)) pe_bl (nomark _)) (pss_one (ps_ret pe_bl)) pss_nil)
      (pss_cons (ps_set (i := 3) scLRight.nd rfl (.inl rfl) pe_dnewK)
      (pss_cons (ps_for PassesOwn.never rfl (pi_range1 (by rfl) m2 (pa_cons pe_int pa_nil)) (pg_name (i := 4) scLRight.nd rfl (Or.inl rfl))
        (pss_cons (ps_asg (pe_call Gg hr (by rfl) gg kpg bg .nil pass0 (pa_cons (pv 0) (pa_cons (pv 1) (pa_cons (pe_call G2 hr (by rfl) g2 kp2 b2 .nil pass0 (pa_cons (pv 0) (pa_cons (pe_lst (pa_cons pe_int (pa_cons pe_int (pa_cons pe_int (pa_cons (pe_op op_pow pe_int pe_int) (pa_cons (pe_op op_pow pe_int pe_int) pa_nil)))))) pa_nil))) pa_nil)))) (pg_tup (n := 2) (by rfl) (pgs_cons (pg_name (i := 5) scLRight.nd rfl (Or.inl rfl)) (pgs_cons (pg_name (i := 6) scLRight.nd rfl (Or.inl rfl)) pgs_nil))))
        (pss_cons (ps_set (i := 7) scLRight.nd rfl (.inl rfl) (pe_call G6 hr (by rfl) g6 kp6 b6 .nil pass0 (pa_cons (pv 1) (pa_cons (pv 5) pa_nil))))
        (pss_cons (ps_if (PW.pt (pw_or (pt_cmpR op_notBl (pe_call G7 hr (by rfl) g7 kp7 b7 .nil pass0 (pa_cons (pv 1) (pa_cons (pv 5) pa_nil))) pe_bl (nomark _)) (pw_or1 (pt_cmpR op_ne (pe_callB (showK2 K rfl guard hr.units) (by rfl) m1 (by decide +kernel) (pa_cons (pe_call G8 hr (by rfl) g8 kp8 b8 .nil pass0 (pa_cons (pv 1) (pa_cons (pv 5) pa_nil))) pa_nil)) (pe_callB (showK2 K rfl guard hr.units) (by rfl) m1 (by decide +kernel) (pa_cons (pv 7) pa_nil)) (nomark _))))) (pss_one (ps_ret pe_bl)) pss_nil)
        (pss_cons (ps_set (i := 8) scLRight.nd rfl (.inl rfl) (pe_ifExp (pt_cmpR op_lt (pv 7) (pe_op op_sub (pe_op op_pow pe_int pe_int) pe_int) (nomark _)) (pv 5) pe_non))
        (pss_cons (ps_if (PW.pt (pw_or (pt_cmpR op_ne (pe_callB (showK2 K rfl guard hr.units) (by rfl) m1 (by decide +kernel) (pa_cons (pe_call G9 hr (by rfl) g9 kp9 b9 .nil pass0 (pa_cons (pv 1) (pa_cons (pv 7) pa_nil))) pa_nil)) (pe_callB (showK2 K rfl guard hr.units) (by rfl) m1 (by decide +kernel) (pa_cons (pv 8) pa_nil)) (nomark _)) (pw_or1 (pt_cmpR (op_neD hr.units) (pe_dget2 (hu_of hr) (pv 3) (pv 7) (pv 5) ⟨rfl, rfl, rfl, rfl⟩) (pv 5) (nomark _))))) (pss_one (ps_ret pe_bl)) pss_nil)
        (pss_cons (ps_if (pt_cmpR op_lt (pv 7) (pe_op op_sub (pe_op op_pow pe_int pe_int) pe_int) (nomark _)) (pss_one (ps_dput (hu_of hr) (pv 3) (pv 7) (pv 5) rfl)) pss_nil)
        (pss_cons (ps_set (i := 9) scLRight.nd rfl (.inl rfl) (pe_call Gh hr (by rfl) gh kph bh .nil pass0 (pa_cons (pv 0) (pa_cons (pv 5) pa_nil))))
        (pss_cons (ps_if (pt_cmpR op_ne (pe_call G7 hr (by rfl) g7 kp7 b7 .nil pass0 (pa_cons (pv 1) (pa_cons (pv 9) pa_nil))) (pe_call Gi hr (by rfl) gi kpi bi .nil pass0 (pa_cons (pv 1) (pa_cons (pv 9) pa_nil))) (nomark _)) (pss_one (ps_ret pe_bl)) pss_nil)
        (pss_cons (ps_set (i := 10) scLRight.nd rfl (.inl rfl) (pe_call G2 hr (by rfl) g2 kp2 b2 .nil pass0 (pa_cons (pv 0) (pa_cons (pe_lst (pa_cons (pv 4) (pa_cons (pe_call G1 hr (by rfl) g1 kp1 b1 .nil pass0 (pa_cons (pv 0) (pa_cons pe_int pa_nil))) (pa_cons (pe_call G1 hr (by rfl) g1 kp1 b1 .nil pass0 (pa_cons (pv 0) (pa_cons (pe_op op_pow pe_int pe_int) pa_nil))) pa_nil)))) pa_nil))))
        (pss_cons (ps_set (i := 11) scLRight.nd rfl (.inl rfl) (pe_call Gj hr (by rfl) gj kpj bj .nil pass0 (pa_cons (pv 1) (pa_cons (pv 10) pa_nil))))
        (pss_one (ps_if (pt_cmpR op_ne (pe_callB (showK2 K rfl guard hr.units) (by rfl) m1 (by decide +kernel) (pa_cons (pe_call G9 hr (by rfl) g9 kp9 b9 .nil pass0 (pa_cons (pv 1) (pa_cons (pv 10) pa_nil))) pa_nil)) (pe_callB (showK2 K rfl guard hr.units) (by rfl) m1 (by decide +kernel) (pa_cons (pe_ifExp (pt_cmpR (op_neD hr.units) (pv 11) (pe_lst pa_nil) rfl) (pe_ix ix_list (pv 11) pe_int (fun _ _ => rfl)) pe_non) pa_nil)) (nomark _)) (pss_one (ps_ret pe_bl)) pss_nil)))))))))))))
      (pss_one (ps_ret pe_bl))))))), ?_⟩
    have t5 : tK 5 = 93 := by decide
    have at9 : atop = 999999999999999999 := rfl
    have four : (4 : Nat) ≤ 100000 := by decide
    refine qm_asg (D := { nx := _, rt := _ }) (i := 1) mk (em_call (t := tK 5) (ok := okLK 5) (ds := [.int ((5 : Nat) : Int)]) rfl (fun _ _ => eds_cons (ed_int ev_c) eds_nil) ⟨5, rfl, by decide, by decide, rfl⟩ (by omega)) fun kv d H1 pd e1 mk1 hk => ?_
    obtain ⟨s, rfl, sok, sd⟩ := pd
    rw [t5] at mk1
    obtain ⟨wi, wid⟩ := wid_ex s
    have wr := wid_rng sok wid
    have n5 := nodes_few (s := s) (by omega)
    have gd5 := gdep_gk s
    have gok := gk_ok s sok
    refine q_asgLn (D := { nx := _, rt := _ }) (i := 2) (ds := [.bool true, .int wi, .bool (ew (szs s)).isSome, optD (cnt s)]) (eld_lst (eds_cons (ed_bool ev_c) (eds_cons (ed_ix (ed_call (eds_cons (ed_var rfl hk) eds_nil) ⟨s, wi, rfl, sok, by omega, wid, rfl⟩) ev_c ax0) (eds_cons (ed_ix (ed_call (eds_cons (ed_var rfl hk) eds_nil) ⟨s, wi, rfl, sok, by omega, wid, rfl⟩) ev_c ax1) (eds_cons (ed_call (eds_cons (ed_var rfl hk) eds_nil) ⟨s, rfl, sok, sd, by decide, rfl⟩) eds_nil)))) four) fun D2 xs2 H2 nD2 e2 hD2 all2 => ?_
    have hk2 := hk.tk (tk_ex e2)
    have fC : Fine 0 0 (optD (cnt s)) := by
      cases hc : cnt s with
      | none => exact f_none
      | some z =>
        have := cnt_small sok sd hc
        exact f_int (by omega) (by omega)
    have fD : Fine 100 2 (.list [.bool true, .int wi, .bool (ew (szs s)).isSome, optD (cnt s)]) := (f_list (fa_cons (f_bool true) (fa_cons (f_int (by omega) (by omega)) (fa_cons (f_bool _) (fa_cons fC fa_nil))))).up (by decide) (by decide)
    refine q_when (D := { nx := _, rt := _ }) (b := false) (et_is (et_neS (ev_showL (ds := [.bool true, .int wi, .bool (ew (szs s)).isSome, optD (cnt s)]) (eld_lst (eds_cons (ed_call (eds_cons (ed_var rfl hk2) eds_nil) ⟨gk s, rfl, gok, by omega, by omega, by rw [srch_gk, decide_eq_true (by omega)]⟩) (eds_cons (ed_call (eds_cons (ed_var rfl hk2) eds_nil) ⟨s, wi, rfl, sok, by omega, wid, rfl⟩) (eds_cons (ed_call (eds_cons (ed_var rfl hk2) eds_nil) ⟨gk s, rfl, gok, by omega, by rw [gszs_gk]⟩) (eds_cons (ed_call (eds_cons (ed_var rfl hk2) eds_nil) ⟨gk s, rfl, gok, by omega, by rw [gcnt_gk]⟩) eds_nil)))) four) fD (by decide) (by decide)) (ev_showVL (ev_var rfl) hD2 all2 fD (by decide) (by decide))) (neS rfl)) (fun z => by cases z) fun _ H3 e3 => ?_
    have hk3 := hk2.tk (tk_ex e3)
    have mk3 := (mk1.ex e2).ex e3
    have k3 : Kin H H3 := (e1.trans (kin_ex e2)).trans (kin_ex e3)
    refine qm_callIf (D := { nx := _, rt := _ }) mk3 (em_call (t := 7) (ok := okLBad) (ds := [skD s]) rfl (fun H4 e4 => eds_cons (ed_var rfl (rc_tk e4 hk3)) eds_nil) ⟨s, rfl, sok, sd, rfl⟩ (by omega)) (fun x d H4 pd hx => ?_) fun H4 e4 mk4 => ?_
    · obtain ⟨g, rfl, g1', g2', g3', g4'⟩ := pd
      exact ⟨[kD g], .bool false, .cons hx .nil, ⟨g, rfl, g1', g2', g3', by rw [g4']⟩, rfl⟩
    have hk4 := rc_tk e4 hk3
    have k4 := k3.trans e4
    intro N hN0
    have e5 : Ex H4 (upd H4 N (.dK [])) := Ex.new hN0
    have hN5 : upd H4 N (.dK []) N = some (.dK []) := upd_same
    have hk5 := hk4.tk (tk_ex e5)
    have mk5 := mk4.ex e5
    have fr5 := mk4.free hN0
    have k45 : Kin H4 (upd H4 N (.dK [])) := kin_ex e5
    generalize upd H4 N (.dK []) = H5 at e5 hN5 hk5 mk5 k45
    refine q_forR1 (D := { nx := _, rt := _ }) (n := 8) (ea_cons ev_c ea_nil) (by decide) (fun t σ' H' => ∃ (kvs : List (Key × V)) (z4 z5 z6 z7 z8 z9 z10 z11 : Option V), σ' = [some (.ref m), some kv, some (.ref D2), some (.ref N), z4, z5, z6, z7, z8, z9, z10, z11] ∧ Kin H4 H' ∧ Mok H' m c (n + 100 + 13 * t) ∧ H' N = some (.dK kvs) ∧ Near s H' kvs ∧ valV kvs (Sum.inr "left") = none ∧ kvs.length ≤ t)
      (fun H6 e6 => ⟨[], none, none, none, none, none, none, none, none, rfl, k45.trans (kin_ex e6), (mk5.ex e6).mono (by omega), e6 _ _ hN5, fun i v hv => (by cases hv), rfl, Nat.le_refl _⟩) (fun t σ' H6 lt inv => ?_) (fun σ' H6 inv => ?_)
    · obtain ⟨kvs, z4, z5, z6, z7, z8, z9, z10, z11, rfl, k6, mk6, hN6, near6, no6, len6⟩ := inv
      have lt8 : t < 8 := by omega
      have hk6 := rc_tk k6 hk4
      refine qm_asgG (D := { nx := _, rt := _, bk := _, ct := _ }) mk6 (em_callM (t := 5) (ok := okLA 5) (n1 := n + 100 + 13 * t + 1) (P := IsAd s) (PP := fun ds => ∃ most : Int, ds = [skD s, .int most] ∧ 1 ≤ most ∧ most ≤ 10000000000) rfl (ems_cons (P := fun d => d = skD s) (PP := fun ds => ∃ most : Int, ds = [.int most] ∧ 1 ≤ most ∧ most ≤ 10000000000) (PP' := fun ds => ∃ most : Int, ds = [skD s, .int most] ∧ 1 ≤ most ∧ most ≤ 10000000000) (em_of (fun H7 e7 => ed_var rfl (rc_tk e7 hk6)) rfl)
        (ems_cons (PP := fun ds => ds = []) (PP' := fun ds => ∃ most : Int, ds = [.int most] ∧ 1 ≤ most ∧ most ≤ 10000000000) (em_pickL (ns := [2, 5, 40, 1000000, 10000000000]) rfl (fun H7 e7 => ints_lst (ea_cons ev_c (ea_cons ev_c (ea_cons ev_c (ea_cons (ev_op ev_c ev_c (rv_I (by unfold CPow; decide))) (ea_cons (ev_op ev_c ev_c (rv_I (by unfold CPow; decide))) ea_nil))))) (by show (5 : Nat) ≤ 100000; decide)) (by simp) (by show (5 : Nat) ≤ 1000; decide) (by omega)) (ems_nil rfl) fun d ds h1 h2 => by
          obtain ⟨z, hz, rfl⟩ := h1
          simp only [List.mem_cons, List.not_mem_nil, or_false] at hz
          exact ⟨z, by rw [h2], by omega, by omega⟩) fun d ds h1 h2 => by
          obtain ⟨most, rfl, q1, q2⟩ := h2
          exact ⟨most, by rw [h1], q1, q2⟩) (fun ds h => by
          obtain ⟨most, rfl, q1, q2⟩ := h
          exact ⟨s, most, rfl, sok, sd, by decide, q1, q2, rfl⟩) (by omega)) fun xa da H7 pd e7 mk7 hxa => ?_
      obtain ⟨a, zz, rfl, had⟩ := pd
      have al := adr_len s a had
      have ir := idx_rng s a had
      have k7 := k6.trans e7
      have hN7 := kin_near e7 hN6 no6
      have near7 := near6.tk (tk_kin e7)
      refine gd_two hxa fun ya yz hya hyz => ?_
      have hk7 := rc_tk k7 hk4
      refine q_asg (D := { nx := _, rt := _, bk := _, ct := _ }) (i := 7) (v := .int (idx s a)) (int_ed (ed_call (eds_cons (ed_var rfl hk7) (eds_cons (ed_var rfl hya) eds_nil)) ⟨s, a, rfl, had, sd, by decide, rfl⟩)) fun H8 e8 => ?_
      have hk8 := hk7.tk (tk_ex e8)
      have hya8 := hya.tk (tk_ex e8)
      have fI : Fine 0 0 (.int (idx s a)) := f_int (by omega) (by omega)
      have sI := log_small ir.1 ir.2
      refine q_when (D := { nx := _, rt := _, bk := _, ct := _ }) (b := false) (et_f2 (et_is (et_test (ev_op (bool_ed (ed_call (d := .bool true) (eds_cons (ed_var rfl hk8) (eds_cons (ed_var rfl hya8) eds_nil)) ⟨s, a.map .int, rfl, by rw [List.length_map]; omega, by rw [isA_adr s a had]⟩)) ev_c rv_notB)) rfl) (et_is (et_neS (ev_show2D (d := .int (idx s a)) (ed_call (eds_cons (ed_var rfl hk8) (eds_cons (ed_var rfl hya8) eds_nil)) ⟨s, a, rfl, had, by omega, rfl⟩) fI (by decide) (by decide) (.inl ⟨_, rfl, sI⟩)) (ev_show2D (d := .int (idx s a)) (ed_int (ev_var rfl)) fI (by decide) (by decide) (.inl ⟨_, rfl, sI⟩))) (neS rfl))) (fun z => by cases z) fun _ H9 e9 => ?_
      have hk9 := hk8.tk (tk_ex e9)
      have hya9 := hya8.tk (tk_ex e9)
      have tests : ∀ {σ : L2.St} {H : Hp}, σ[7]? = some (some (.int (idx s a))) → EvT (tTest (tOp (rI0 fun i j => .bl (decide (i < j))) (tVar 7) (tOp (rI0 fun i j => .int (i - j)) (tOp (rI CPow fun i j => .int (i ^ j.toNat)) (tC (.int 10)) (tC (.int 18))) (tC (.int 1))))) σ H (decide (idx s a < atop)) := fun h => et_test (ev_op (ev_var h) (ev_op (ev_op ev_c ev_c (rv_I (by unfold CPow; decide))) ev_c rv_I0) rv_I0)
      refine q_asgD (D := { nx := _, rt := _, bk := _, ct := _ }) (i := 8) (d := adD (if idx s a < atop then some a else none)) (ed_ifD (b := decide (idx s a < atop)) (tests rfl) (fun hb => by rw [if_pos (of_decide_eq_true hb)]; exact ed_var rfl hya9) fun hb => by rw [if_neg (of_decide_eq_false hb)]; exact ed_non) fun yb H10 e10 hyb => ?_
      have fA : Fine 20 1 (adD (if idx s a < atop then some a else none)) := by
        split
        · exact f_addr (adr_rng s a had) (by omega)
        · exact f_none.up (by decide) (by decide)
      have e710 := (e8.trans e9).trans e10
      have hk10 := hk7.tk (tk_ex e710)
      have hya10 := hya.tk (tk_ex e710)
      have hN10 := e710 _ _ hN7
      have near10 := near7.tk (tk_ex e710)
      refine q_when (D := { nx := _, rt := _, bk := _, ct := _ }) (b := false) (et_f2 (et_is (et_neS (ev_show2D (ed_call (eds_cons (ed_var rfl hk10) (eds_cons (ed_int (ev_var rfl)) eds_nil)) ⟨s, idx s a, rfl, by omega, ir.1, ir.2, by rw [idx_show had]⟩) fA (by decide) (by decide) (ad_form _)) (ev_show2D (ed_var rfl hyb) fA (by decide) (by decide) (ad_form _))) (neS rfl)) (et_is (et_test (ev_neD (ed_near (ev_var rfl) hN10 near10 had (ev_var rfl) (ed_var rfl hya10)) (ed_var rfl hya10) (shaped_ints _) (shaped_ints _))) (by rw [eqv_ints]; simp))) (fun z => by cases z) fun _ H11 e11 => ?_
      have e711 := e710.trans e11
      have k11 := k7.trans (kin_ex e711)
      have mk11 := mk7.ex e711
      refine q_ifPut (D := { nx := _, rt := _, bk := _, ct := _ }) (kvs := kvs) (i := idx s a) (v := ya) (G := fun H9 => Kin H4 H9 ∧ Mok H9 m c (n + 100 + 13 * t + 6) ∧ Dt H9 ya (intsD a) ∧ ∃ kvs' : List (Key × V), H9 N = some (.dK kvs') ∧ Near s H9 kvs' ∧ valV kvs' (Sum.inr "left") = none ∧ kvs'.length ≤ t + 1) (tests rfl) (ev_var rfl) (ev_var rfl) (ev_var rfl) (e711 _ _ hN7) (by omega) (fun hb H12 e12 => ?_) (fun hb H12 e12 => ?_) fun H12 g => ?_
      · have e712 := e711.trans e12
        have still : Tk H12 (upd H12 N (.dK (putK kvs (Sum.inl (idx s a)) ya))) := tk_upd fun xs z => by
          rw [e712 _ _ hN7] at z
          cases z
        refine ⟨(k7.trans (kin_ex e712)).mut hN0, (mk7.ex e712).upd fr5, (hya.tk (tk_ex e712)).tk still, _, upd_same, ((near7.tk (tk_ex e712)).tk still).put had (of_decide_eq_true hb) ((hya.tk (tk_ex e712)).tk still), ?_, ?_⟩
        · rw [valV_put, if_neg (fun z => by cases z)]
          exact no6
        · exact Nat.le_trans (length_putK _ _ _) (by omega)
      · have e712 := e711.trans e12
        exact ⟨k7.trans (kin_ex e712), mk7.ex e712, hya.tk (tk_ex e712), kvs, e712 _ _ hN7, near7.tk (tk_ex e712), no6, by omega⟩
      obtain ⟨k12, mk12, hya12, kvs', hN12, near12, no12, len12⟩ := g
      have hk12 := rc_tk k12 hk4
      refine qm_asg (D := { nx := _, rt := _, bk := _, ct := _ }) (i := 9) mk12 (em_call (t := 4) (ok := okLBent) (ds := [intsD a]) rfl (fun H13 e13 => eds_cons (ed_var rfl (rc_tk e13 hya12)) eds_nil) ⟨a, rfl, by omega, rfl⟩ (by omega)) fun xb db H13 pd e13 mk13 hxb => ?_
      obtain ⟨es, rfl, fl, el⟩ := pd
      have hk13 := rc_tk e13 hk12
      refine q_when (D := { nx := _, rt := _, bk := _, ct := _ }) (b := false) (et_is (et_test (ev_op (bool_ed (ed_call (eds_cons (ed_var rfl hk13) (eds_cons (ed_var rfl hxb) eds_nil)) ⟨s, es, rfl, el, rfl⟩)) (bool_ed (ed_call (eds_cons (ed_var rfl hk13) (eds_cons (ed_var rfl hxb) eds_nil)) ⟨s, es, rfl, sd, fl, el, rfl⟩)) (rv_ne rfl))) (by simp)) (fun z => by cases z) fun _ H14 e14 => ?_
      have k1214 := e13.trans (kin_ex e14)
      refine qm_asg (D := { nx := _, rt := _, bk := _, ct := _ }) (i := 10) (n1 := n + 100 + 13 * t + 13) (P := fun d => ∃ z : Int, d = .int z ∧ 0 ≤ z ∧ z < 1000000000000) (mk13.ex e14) ((em_pickM (n1 := n + 100 + 13 * t + 12) (PP := fun ds => ∃ p q : Int, ds = [.int (t : Int), .int p, .int q] ∧ 0 ≤ p ∧ p < 100 ∧ 0 ≤ q ∧ q < 1000000000000) rfl (eml_lst (ems_cons (P := fun d => d = .int (t : Int)) (PP := fun ds => ∃ p q : Int, ds = [.int p, .int q] ∧ 0 ≤ p ∧ p < 100 ∧ 0 ≤ q ∧ q < 1000000000000) (PP' := fun ds => ∃ p q : Int, ds = [.int (t : Int), .int p, .int q] ∧ 0 ≤ p ∧ p < 100 ∧ 0 ≤ q ∧ q < 1000000000000) (em_of (fun _ _ => ed_int (ev_var rfl)) rfl)
        (ems_cons (PP := fun ds => ∃ q : Int, ds = [.int q] ∧ 0 ≤ q ∧ q < 1000000000000) (PP' := fun ds => ∃ p q : Int, ds = [.int p, .int q] ∧ 0 ≤ p ∧ p < 100 ∧ 0 ≤ q ∧ q < 1000000000000) (em_draw (b := 100) rfl (fun _ _ => ev_c) (by decide) (by decide) (by omega)) (ems_cons (PP := fun ds => ds = []) (PP' := fun ds => ∃ q : Int, ds = [.int q] ∧ 0 ≤ q ∧ q < 1000000000000) (em_draw (b := 1000000000000) rfl (fun _ _ => ev_op ev_c ev_c (rv_I (by unfold CPow; decide))) (by decide) (by decide) (by omega)) (ems_nil rfl) fun d ds h1 h2 => by
          obtain ⟨z, rfl, q1, q2⟩ := h1
          exact ⟨z, by rw [h2], q1, q2⟩) fun d ds h1 h2 => by
          obtain ⟨z, rfl, q1, q2⟩ := h1
          obtain ⟨z', rfl, q3, q4⟩ := h2
          exact ⟨z, z', rfl, q1, q2, q3, q4⟩) fun d ds h1 h2 => by
          obtain ⟨p, q, rfl, q1⟩ := h2
          exact ⟨p, q, by rw [h1], q1⟩) fun ds h => by
          obtain ⟨p, q, rfl, _⟩ := h
          show (3 : Nat) ≤ 1000
          decide) (fun ds h => by
          obtain ⟨p, q, rfl, _⟩ := h
          exact ⟨by simp, by show (3 : Nat) ≤ 1000; decide⟩) (by omega)).is fun d h => by
          obtain ⟨ds, ⟨p, q, rfl, q1, q2, q3, q4⟩, hd⟩ := h
          simp only [List.mem_cons, List.not_mem_nil, or_false] at hd
          rcases hd with rfl | rfl | rfl
          · exact ⟨_, rfl, by omega, by omega⟩
          · exact ⟨_, rfl, by omega, by omega⟩
          · exact ⟨_, rfl, by omega, by omega⟩) fun xo d15 H15 pd e15 mk15 hxo => ?_
      obtain ⟨o, rfl, o0, o1⟩ := pd
      cases dt_int hxo
      have k1215 := k1214.trans e15
      have hk15 := rc_tk k1215 hk12
      have olt : o < atop := by omega
      refine q_asgLn (D := { nx := _, rt := _, bk := _, ct := _ }) (i := 11) (eld_back (d := 5) (ed_var rfl hk15) (ev_var rfl) sd (by decide) o0 olt) fun L xsL H16 nL e16 hL allL => ?_
      have hk16 := hk15.tk (tk_ex e16)
      have fO : Fine 20 1 (adD (iad s o)) := by
        cases ho : iad s o with
        | none => exact f_none.up (by decide) (by decide)
        | some l =>
          obtain ⟨r1, r2⟩ := iad_rng s o l o0 olt ho
          exact f_addr (fun x hx => by have := r1 x hx; omega) (by omega)
      refine s_when (D := { nx := _, rt := _, bk := _, ct := _ }) (b := false) (et_is (et_neS (ev_show2D (d := adD (iad s o)) (ed_call (eds_cons (ed_var rfl hk16) (eds_cons (ed_int (ev_var rfl)) eds_nil)) ⟨s, o, rfl, by omega, o0, by omega, by rw [if_pos olt]⟩) fO (by decide) (by decide) (ad_form _)) (ev_show2D (d := adD (iad s o)) (ed_ifD (b := !(backL (iad s o)).isEmpty) (et_is (et_test (ev_neVar (K := K) (ev_var rfl) hL allL (eld_lst eds_nil (by show (0 : Nat) ≤ 100000; decide)) (shaped_back _) (by decide +kernel))) (by rw [eqv_nil])) (fun hb => ?_) fun hb => ?_) fO (by decide) (by decide) (ad_form _))) (neS rfl)) (fun z => by cases z) fun _ H17 e17 => ?_
      · cases ho : iad s o with
        | none => rw [ho] at hb; cases hb
        | some l =>
          rw [ho] at allL
          exact ed_ixL (ev_var rfl) hL allL ev_c
      · cases ho : iad s o with
        | none => exact ed_non
        | some l => rw [ho] at hb; cases hb
      · have k1217 := (k1215.trans (kin_ex e16)).trans (kin_ex e17)
        refine ⟨kvs', _, _, _, _, _, _, _, _, rfl, k12.trans k1217, ((mk15.ex e16).ex e17).mono (by omega), kin_near k1217 hN12 no12, near12.tk (tk_kin k1217), no12, len12⟩
    · obtain ⟨kvs, z4, z5, z6, z7, z8, z9, z10, z11, rfl, k6, mk6, hN6, near6, no6, len6⟩ := inv
      exact s_ret (D := { nx := _, rt := _ }) (v := .bl true) ev_c fun H7 e7 => q H7 ((k4.trans k6).trans (kin_ex e7)) ((mk6.ex e7).mono (by omega))
end
end K10
set_option Elab.async false
set_option linter.all false
set_option maxRecDepth 100000
set_option maxHeartbeats 1000000
namespace K10
open PySem PySem.Spec PyProof.Rows L2 Evl
def sK47 : SK := .both (.few 2) (.to (.rows 3))
theorem idx47 : idx sK47 [1, 4, 2] = 47 := by decide +kernel
theorem adr47 : adr sK47 [1, 4, 2] := ⟨1, [4, 2], rfl, .inr ⟨rfl, 4, [2], rfl, by decide, by decide, 2, rfl, by decide, by decide⟩⟩
theorem wid47 : Wid (szs sK47) 6 := .inl (by decide +kernel)
theorem iad47 : iad sK47 47 = some [1, 4, 2] := by
  have := iad_idx sK47 [1, 4, 2] adr47 (by rw [idx47]; decide)
  rw [idx47] at this
  exact this
theorem iad2 : iad sK47 2 = none := rfl
section
variable {P : Program} {w : World} {K : PySem.W.Frag} {mg : Str → Option Value} {base : Heap} {f f1 f2 f3 f4 f5 f6 : Addr} {fd fd1 fd2 fd3 fd4 fd5 fd6 : FuncData} {k : Nat}
theorem ok_law (F : Fun K "law" "law" sLaw f fd) (m1 : mg "len" = none) (m2 : mg "range" = none) (m3 : mg "min" = none) (m5 : mg "repr" = none)
    (G1 : FnOk P w K mg base CX0 k f1 fd1 ["script", "k"] (spBegn K)) (g1 : mg "_law_begun" = some (.ref f1)) (kp1 : PySem.W.keepIn K (.ref f1) = true) (b1 : Binds K fd1 ["script", "k"] [])
    (G2 : Ok1 P w K mg base k f2 fd2 ["m"] spRight) (g2 : mg "_law_right" = some (.ref f2)) (kp2 : PySem.W.keepIn K (.ref f2) = true) (b2 : Binds K fd2 ["m"] [])
    (G3 : Ok1 P w K mg base k f3 fd3 ["m"] spBor) (g3 : mg "_law_border_right" = some (.ref f3)) (kp3 : PySem.W.keepIn K (.ref f3) = true) (b3 : Binds K fd3 ["m"] [])
    (G4 : FnOk P w K mg base CX0 k f4 fd4 ["kind"] (spD okWidth)) (g4 : mg "width_of" = some (.ref f4)) (kp4 : PySem.W.keepIn K (.ref f4) = true) (b4 : Binds K fd4 ["kind"] [])
    (G5 : FnOk P w K mg base CX0 k f5 fd5 ["kind", "address"] (spD okAIdx)) (g5 : mg "address_index" = some (.ref f5)) (kp5 : PySem.W.keepIn K (.ref f5) = true) (b5 : Binds K fd5 ["kind", "address"] [])
    (G6 : FnOk P w K mg base CX0 k f6 fd6 ["kind", "index"] (spD okIAd)) (g6 : mg "index_address" = some (.ref f6)) (kp6 : PySem.W.keepIn K (.ref f6) = true) (b6 : Binds K fd6 ["kind", "index"] []) :
    Ok1 P w K mg base (k + 1) f fd ["script"] (spLaw K) := by
  refine ok1_of F scLaw (fun vs H Q E h => ?_) (fun cdv A outer s H vs Q E guard hr h => ?_)
  · obtain ⟨a, ns, rfl, _⟩ := h
    rfl
  · obtain ⟨a, ns, rfl, hl, few, q⟩ := h
    refine ⟨_, pss_cons (ps_for PassesOwn.never rfl (pi_range1 (by rfl) m2 (pa_cons (pe_op op_add pe_int (pe_callB (call_min2 (by rfl)) (by rfl) m3 (by decide +kernel) (pa_cons (pe_callB call_len_seq (by rfl) m1 (by decide +kernel) (pa_cons (pv 0) pa_nil)) (pa_cons pe_int pa_nil)))) pa_nil)) (pg_name (i := 1) scLaw.nd rfl (Or.inl rfl))
        (pss_cons (ps_set (i := 2) scLaw.nd rfl (.inl rfl) (pe_call G1 hr (by rfl) g1 kp1 b1 .nil pass0 (pa_cons (pv 0) (pa_cons (pv 1) pa_nil))))
        (pss_one (ps_if (PW.pt (pw_or (pt_not (pt_val (pe_call1 G2 guard hr (by rfl) g2 kp2 b2 (pa_cons (pv 2) pa_nil)))) (pw_or1 (pt_not (pt_val (pe_call1 G3 guard hr (by rfl) g3 kp3 b3 (pa_cons (pv 2) pa_nil))))))) (pss_one (ps_ret pe_bl)) pss_nil))))
      (pss_cons (ps_set (i := 3) scLaw.nd rfl (.inl rfl) (pe_tup (pa_cons pe_str (pa_cons (pe_tup (pa_cons pe_str (pa_cons pe_int pa_nil))) (pa_cons (pe_tup (pa_cons pe_str (pa_cons (pe_tup (pa_cons pe_str pa_nil)) (pa_cons (pe_tup (pa_cons pe_str (pa_cons pe_int pa_nil))) pa_nil)))) pa_nil)))))
      (pss_cons (ps_set (i := 4) scLaw.nd rfl (.inl rfl) (pe_lst (pa_cons (pe_call G4 hr (by rfl) g4 kp4 b4 .nil pass0 (pa_cons (pv 3) pa_nil)) (pa_cons (pe_call G5 hr (by rfl) g5 kp5 b5 .nil pass0 (pa_cons (pv 3) (pa_cons (pe_tup (pa_cons pe_int (pa_cons pe_int (pa_cons pe_int pa_nil)))) pa_nil))) (pa_cons (pe_call G6 hr (by rfl) g6 kp6 b6 .nil pass0 (pa_cons (pv 3) (pa_cons pe_int pa_nil))) (pa_cons (pe_call G6 hr (by rfl) g6 kp6 b6 .nil pass0 (pa_cons (pv 3) (pa_cons pe_int pa_nil))) pa_nil))))))
      (pss_one (ps_ret (pe_cmpR op_eq (pe_callB (showK K rfl guard hr.units) (by rfl) m5 (by decide +kernel) (pa_cons (pv 4) pa_nil)) (pe_callB (showK K rfl guard hr.units) (by rfl) m5 (by decide +kernel) (pa_cons (pe_lst (pa_cons pe_int (pa_cons pe_int (pa_cons (pe_tup (pa_cons pe_int (pa_cons pe_int (pa_cons pe_int pa_nil)))) (pa_cons pe_non pa_nil))))) pa_nil)) (nomark _)))))), ?_⟩
    have two : (2 : Nat) ≤ 100000 := by decide
    have three : (3 : Nat) ≤ 100000 := by decide
    have four : (4 : Nat) ≤ 100000 := by decide
    have ll : ((ns.map V.int).length : Int) ≤ 63 := by rw [List.length_map]; omega
    refine q_forR1 (D := { nx := _, rt := _ }) (n := 3 + (if (2 : Int) < ((ns.map V.int).length : Int) then 2 else ((ns.map V.int).length : Int))) (ea_cons (ev_op ev_c (ev_min2 (ev_len (ev_var rfl) hl) ev_c) rv_I0) ea_nil) (by split <;> omega) (fun i σ' H' => (∃ z1 z2, σ' = [some (.ref a), z1, z2, none, none]) ∧ Kin H H') (fun H1 e1 => ⟨⟨_, _, rfl⟩, kin_ex e1⟩) (fun i σ' H' lt p => ?_) (fun σ' H' p => ?_)
    · obtain ⟨⟨z1, z2, rfl⟩, k0⟩ := p
      have i5 : (i : Int) < 10 := by revert lt; split <;> omega
      refine ⟨_, rfl, _, rfl, a, ns, (i : Int), rfl, sq_kin k0 hl, few, by omega, by omega, fun m c H2 e2 mk2 => ?_⟩
      refine ⟨_, rfl, m, c, 0, rfl, mk2, by omega, fun H3 k3 mk3 => ⟨true, rfl, iteF ?_⟩⟩
      refine ⟨_, rfl, m, c, 300, rfl, mk3, by omega, fun H4 k4 mk4 => ⟨true, rfl, iteF ?_⟩⟩
      exact ⟨⟨_, _, rfl⟩, ((k0.trans (kin_ex e2)).trans k3).trans k4⟩
    · obtain ⟨⟨z1, z2, rfl⟩, k0⟩ := p
      refine q_asgD (D := { nx := _, rt := _ }) (i := 3) (d := skD sK47) (ed_tup (eds_cons ed_str (eds_cons (ed_tup (eds_cons ed_str (eds_cons (ed_int ev_c) eds_nil)) two) (eds_cons (ed_tup (eds_cons ed_str (eds_cons (ed_tup (eds_cons ed_str eds_nil) (by show (1 : Nat) ≤ 100000; decide)) (eds_cons (ed_tup (eds_cons ed_str (eds_cons (ed_int ev_c) eds_nil)) two) eds_nil))) three) eds_nil))) three) fun kv H1 e1 hk => ?_
      have ok47 : sK47.ok := ⟨by show (1 : Int) ≤ 2 ∧ (2 : Int) ≤ 9; decide, by show (2 : Int) ≤ 3 ∧ (3 : Int) ≤ 9; decide⟩
      refine q_asgLn (D := { nx := _, rt := _ }) (i := 4) (ds := [.int 6, .int 47, intsD [1, 4, 2], .none]) (eld_lst (eds_cons (ed_call (eds_cons (ed_var rfl hk) eds_nil) ⟨sK47, 6, rfl, ok47, by decide, wid47, rfl⟩) (eds_cons (ed_call (eds_cons (ed_var rfl hk) (eds_cons (ed_tup (eds_cons (ed_int ev_c) (eds_cons (ed_int ev_c) (eds_cons (ed_int ev_c) eds_nil))) three) eds_nil)) ⟨sK47, [1, 4, 2], rfl, adr47, by show (3 : Nat) ≤ 1000; decide, by rw [idx47]⟩) (eds_cons (ed_call (eds_cons (ed_var rfl hk) (eds_cons (ed_int ev_c) eds_nil)) ⟨sK47, 47, rfl, by decide, by decide, by decide, by rw [iad47]; rfl⟩) (eds_cons (ed_call (eds_cons (ed_var rfl hk) (eds_cons (ed_int ev_c) eds_nil)) ⟨sK47, 2, rfl, by decide, by decide, by decide, by rw [iad2]; rfl⟩) eds_nil)))) four) fun L xs H2 nL e2 hL all => ?_
      have fL : Fine 100 2 (.list [.int 6, .int 47, intsD [1, 4, 2], .none]) := (f_list (fa_cons (f_int (by decide) (by decide)) (fa_cons (f_int (by decide) (by decide)) (fa_cons (f_addr (l := [1, 4, 2]) (by decide) (by decide)) (fa_cons f_none fa_nil))))).up (by decide) (by decide)
      exact s_ret (D := { nx := _, rt := _ }) (v := .bl true) (ev_is (ev_op (ev_showVL (ev_var rfl) hL all fL (by decide) (by decide)) (ev_showL (ds := [.int 6, .int 47, intsD [1, 4, 2], .none]) (eld_lst (eds_cons (ed_int ev_c) (eds_cons (ed_int ev_c) (eds_cons (ed_tup (eds_cons (ed_int ev_c) (eds_cons (ed_int ev_c) (eds_cons (ed_int ev_c) eds_nil))) three) (eds_cons ed_non eds_nil)))) four) fL (by decide) (by decide)) (rv_eq rfl)) (by simp)) fun H3 _ => q H3
end
end K10
set_option Elab.async false
set_option linter.all false
set_option maxRecDepth 100000
set_option maxHeartbeats 0
namespace K10
open PySem PySem.Spec PyProof.Rows L2 Evl
/-! ### the head: facts by names, the run -/
def d0 : He.DefD := ⟨("is_between", none), "is_between", "is_between", defArgs sIsBetween, defBody sIsBetween, defScope sIsBetween, [], []⟩
def d1 : He.DefD := ⟨("_begins_kind", none), "_begins_kind", "_begins_kind", defArgs sBeginsKind, defBody sBeginsKind, defScope sBeginsKind, [], []⟩
def d2 : He.DefD := ⟨("is_kind", none), "is_kind", "is_kind", defArgs sIsKind, defBody sIsKind, defScope sIsKind, [], []⟩
def d3 : He.DefD := ⟨("is_searchable", none), "is_searchable", "is_searchable", defArgs sIsSearchable, defBody sIsSearchable, defScope sIsSearchable, [], []⟩
def d4 : He.DefD := ⟨("_sizes_in", none), "_sizes_in", "_sizes_in", defArgs sSizesIn, defBody sSizesIn, defScope sSizesIn, [], []⟩
def d5 : He.DefD := ⟨("_even_width", none), "_even_width", "_even_width", defArgs sEvenWidth, defBody sEvenWidth, defScope sEvenWidth, [], []⟩
def d6 : He.DefD := ⟨("width_of", none), "width_of", "width_of", defArgs sWidthOf, defBody sWidthOf, defScope sWidthOf, [], []⟩
def d7 : He.DefD := ⟨("is_even", none), "is_even", "is_even", defArgs sIsEven, defBody sIsEven, defScope sIsEven, [], []⟩
def d8 : He.DefD := ⟨("elements_count", none), "elements_count", "elements_count", defArgs sElementsCount, defBody sElementsCount, defScope sElementsCount, [], []⟩
def d9 : He.DefD := ⟨("is_address", none), "is_address", "is_address", defArgs sIsAddress, defBody sIsAddress, defScope sIsAddress, [], []⟩
def d10 : He.DefD := ⟨("_joined_index", none), "_joined_index", "_joined_index", defArgs sJoinedIndex, defBody sJoinedIndex, defScope sJoinedIndex, [], []⟩
def d11 : He.DefD := ⟨("address_index", none), "address_index", "address_index", defArgs sAddressIndex, defBody sAddressIndex, defScope sAddressIndex, [], []⟩
def d12 : He.DefD := ⟨("index_address", none), "index_address", "index_address", defArgs sIndexAddress, defBody sIndexAddress, defScope sIndexAddress, [], []⟩
def d13 : He.DefD := ⟨("_law_begun", none), "_law_begun", "_law_begun", defArgs sBegun, defBody sBegun, defScope sBegun, [], []⟩
def d14 : He.DefD := ⟨("_law_draw", none), "_law_draw", "_law_draw", defArgs sDraw, defBody sDraw, defScope sDraw, [], []⟩
def d15 : He.DefD := ⟨("_law_of", none), "_law_of", "_law_of", defArgs sOf, defBody sOf, defScope sOf, [], []⟩
def d16 : He.DefD := ⟨("_law_kind", none), "_law_kind", "_law_kind", defArgs sLKind, defBody sLKind, defScope sLKind, [], []⟩
def d17 : He.DefD := ⟨("_law_sizes_in", none), "_law_sizes_in", "_law_sizes_in", defArgs sLSizesIn, defBody sLSizesIn, defScope sLSizesIn, [], []⟩
def d18 : He.DefD := ⟨("_law_width", none), "_law_width", "_law_width", defArgs sLWidth, defBody sLWidth, defScope sLWidth, [], []⟩
def d19 : He.DefD := ⟨("_law_join", none), "_law_join", "_law_join", defArgs sLJoin, defBody sLJoin, defScope sLJoin, [], []⟩
def d20 : He.DefD := ⟨("_law_index_of", none), "_law_index_of", "_law_index_of", defArgs sLIndexOf, defBody sLIndexOf, defScope sLIndexOf, [], []⟩
def d21 : He.DefD := ⟨("_law_address", none), "_law_address", "_law_address", defArgs sLAddress, defBody sLAddress, defScope sLAddress, [], []⟩
def d22 : He.DefD := ⟨("_law_is_address", none), "_law_is_address", "_law_is_address", defArgs sLIsAddress, defBody sLIsAddress, defScope sLIsAddress, [], []⟩
def d23 : He.DefD := ⟨("_law_back", none), "_law_back", "_law_back", defArgs sLBack, defBody sLBack, defScope sLBack, [], []⟩
def d24 : He.DefD := ⟨("_law_count", none), "_law_count", "_law_count", defArgs sLCount, defBody sLCount, defScope sLCount, [], []⟩
def d25 : He.DefD := ⟨("_law_bent", none), "_law_bent", "_law_bent", defArgs sLBent, defBody sLBent, defScope sLBent, [], []⟩
def d26 : He.DefD := ⟨("_law_bad_kind", none), "_law_bad_kind", "_law_bad_kind", defArgs sLBadKind, defBody sLBadKind, defScope sLBadKind, [], []⟩
def d27 : He.DefD := ⟨("_law_depth", none), "_law_depth", "_law_depth", defArgs sLDepth, defBody sLDepth, defScope sLDepth, [], []⟩
def d28 : He.DefD := ⟨("_law_border_right", none), "_law_border_right", "_law_border_right", defArgs sLBorderRight, defBody sLBorderRight, defScope sLBorderRight, [], []⟩
def d29 : He.DefD := ⟨("_law_right", none), "_law_right", "_law_right", defArgs sLRight, defBody sLRight, defScope sLRight, [], []⟩
def d30 : He.DefD := ⟨("law", none), "law", "law", defArgs sLaw, defBody sLaw, defScope sLaw, [], []⟩
def fn : List He.DefD := [d0, d1, d2, d3, d4, d5, d6, d7, d8, d9, d10, d11, d12, d13, d14, d15, d16, d17, d18, d19, d20, d21, d22, d23, d24, d25, d26, d27, d28, d29, d30]
def fa : List He.Fa := [.glo "is_between", .glo "_begins_kind", .glo "is_kind", .glo "is_searchable", .glo "_sizes_in", .glo "_even_width", .glo "width_of", .glo "is_even", .glo "elements_count", .glo "is_address", .glo "_joined_index", .glo "address_index", .glo "index_address", .glo "_law_begun", .glo "_law_draw", .glo "_law_of", .glo "_law_kind", .glo "_law_sizes_in", .glo "_law_width", .glo "_law_join", .glo "_law_index_of", .glo "_law_address", .glo "_law_is_address", .glo "_law_back", .glo "_law_count", .glo "_law_bent", .glo "_law_bad_kind", .glo "_law_depth", .glo "_law_border_right", .glo "_law_right", .glo "law", .free "isinstance", .free "int", .free "bool", .free "tuple", .free "len", .free "str", .free "all", .free "enumerate", .free "range", .free "repr", .free "min", .free "max", .free "reversed", .int "TOP" 999999999999999999, .int "MOST_DEPTH" 6, .int "GREATEST_WIDTH" 9, .int "JOIN_BOUND" 1000000000]
abbrev R : PySem.W.OpenRow := PySem.W.OpenLaw.row PySem.Challenge.rw_allendless_k46_searchable_kinds
def tf : List He.Defn := []
def ex (K : PySem.W.Frag) : Bool := He.eqO (PySem.W.nsIn K mainGlobals "isqrt") (some (some (.builtin "math.isqrt")))
abbrev hk : PySem.W.Hook := He.hookX 4 fa fn [] tf ex
def ob (s : PySem.W.SharedT) : He.AlX := He.obsX 4 fa fn [] tf ex (HandSHeadRun.getT s)
theorem ob_eq (s : PySem.W.SharedT) : ob s = hk.obs s.abs := He.obsX_eq (HandSHeadRun.getT_eq s)
def loose : List PySem.Str := ("TOP" : PySem.Str) :: ("MOST_DEPTH" : PySem.Str) :: ("GREATEST_WIDTH" : PySem.Str) :: ("JOIN_BOUND" : PySem.Str) :: ("is_between" : PySem.Str) :: ("_begins_kind" : PySem.Str) :: ("is_kind" : PySem.Str) :: ("is_searchable" : PySem.Str) :: ("_sizes_in" : PySem.Str) :: ("_even_width" : PySem.Str) :: ("width_of" : PySem.Str) :: ("is_even" : PySem.Str) :: ("elements_count" : PySem.Str) :: ("is_address" : PySem.Str) :: ("_joined_index" : PySem.Str) :: ("address_index" : PySem.Str) :: ("index_address" : PySem.Str) :: ("_law_begun" : PySem.Str) :: ("_law_draw" : PySem.Str) :: ("_law_of" : PySem.Str) :: ("_law_kind" : PySem.Str) :: ("_law_sizes_in" : PySem.Str) :: ("_law_width" : PySem.Str) :: ("_law_join" : PySem.Str) :: ("_law_index_of" : PySem.Str) :: ("_law_address" : PySem.Str) :: ("_law_is_address" : PySem.Str) :: ("_law_back" : PySem.Str) :: ("_law_count" : PySem.Str) :: ("_law_bent" : PySem.Str) :: ("_law_bad_kind" : PySem.Str) :: ("_law_depth" : PySem.Str) :: ("_law_border_right" : PySem.Str) :: ("_law_right" : PySem.Str) :: []
theorem run (w : World) : HandSHeadRun.RunEqI R (PySem.W.view R.prog [0, 39]) hk ob 6000 loose w := by
  unfold HandSHeadRun.RunEqI
  kernel_rfl
end K10
set_option Elab.async false
set_option linter.all false
set_option maxRecDepth 100000
set_option maxHeartbeats 0
namespace K10
open PySem PySem.Spec PyProof.Rows L2 Evl
theorem facts {P : Program} {w : World} {K : PySem.W.Frag} {h : Heap} {mg : Str → Option Value} {f : Addr} (X : K.In h) (G : h.Ns mainGlobals mg) (hfa : mg ("law" : Str) = some (.ref f)) (cc : He.SaysX fa fn [] tf ex w h K) :
    ∃ fd : FuncData, (∀ (s : Shared) (v : Value), BindsTo s fd ⟨[v], []⟩ [("script", v)]) ∧ ∀ base : Heap, K.In base → base.Ns mainGlobals mg → Ok1 P w K mg base 9 f fd ["script"] (spLaw K) := by
  have c : He.SaysD fa fn K := He.SaysT.d cc.t
  have m_isqrt : mg "isqrt" = some (.builtin "math.isqrt") := PySem.W.mg_of X G (He.eqO_ok cc.more)
  obtain ⟨fd0, D0⟩ := c.def_ 0 (d := d0) rfl
  have F0 : Fun K "is_between" "is_between" sIsBetween (He.fAd K d0.at_) fd0 := fun_of D0
  have g0 : mg "is_between" = some (.ref (He.fAd K d0.at_)) := He.glo_ok X G (c.fact 0 (f := .glo "is_between") rfl)
  have b0 : Binds K fd0 ["value", "low", "high"] [] := F0.binds fun _ _ _ _ _ _ us hl => match us, hl with | [_, _, _], _ => rfl
  obtain ⟨fd1, D1⟩ := c.def_ 1 (d := d1) rfl
  have F1 : Fun K "_begins_kind" "_begins_kind" sBeginsKind (He.fAd K d1.at_) fd1 := fun_of D1
  have g1 : mg "_begins_kind" = some (.ref (He.fAd K d1.at_)) := He.glo_ok X G (c.fact 1 (f := .glo "_begins_kind") rfl)
  have b1 : Binds K fd1 ["value"] [] := F1.binds fun _ _ _ _ _ _ us hl => match us, hl with | [_], _ => rfl
  obtain ⟨fd2, D2⟩ := c.def_ 2 (d := d2) rfl
  have F2 : Fun K "is_kind" "is_kind" sIsKind (He.fAd K d2.at_) fd2 := fun_of D2
  have g2 : mg "is_kind" = some (.ref (He.fAd K d2.at_)) := He.glo_ok X G (c.fact 2 (f := .glo "is_kind") rfl)
  have b2 : Binds K fd2 ["value"] [] := F2.binds fun _ _ _ _ _ _ us hl => match us, hl with | [_], _ => rfl
  obtain ⟨fd3, D3⟩ := c.def_ 3 (d := d3) rfl
  have F3 : Fun K "is_searchable" "is_searchable" sIsSearchable (He.fAd K d3.at_) fd3 := fun_of D3
  have g3 : mg "is_searchable" = some (.ref (He.fAd K d3.at_)) := He.glo_ok X G (c.fact 3 (f := .glo "is_searchable") rfl)
  have b3 : Binds K fd3 ["kind"] [] := F3.binds fun _ _ _ _ _ _ us hl => match us, hl with | [_], _ => rfl
  obtain ⟨fd4, D4⟩ := c.def_ 4 (d := d4) rfl
  have F4 : Fun K "_sizes_in" "_sizes_in" sSizesIn (He.fAd K d4.at_) fd4 := fun_of D4
  have g4 : mg "_sizes_in" = some (.ref (He.fAd K d4.at_)) := He.glo_ok X G (c.fact 4 (f := .glo "_sizes_in") rfl)
  have b4 : Binds K fd4 ["kind"] [] := F4.binds fun _ _ _ _ _ _ us hl => match us, hl with | [_], _ => rfl
  obtain ⟨fd5, D5⟩ := c.def_ 5 (d := d5) rfl
  have F5 : Fun K "_even_width" "_even_width" sEvenWidth (He.fAd K d5.at_) fd5 := fun_of D5
  have g5 : mg "_even_width" = some (.ref (He.fAd K d5.at_)) := He.glo_ok X G (c.fact 5 (f := .glo "_even_width") rfl)
  have b5 : Binds K fd5 ["kind"] [] := F5.binds fun _ _ _ _ _ _ us hl => match us, hl with | [_], _ => rfl
  obtain ⟨fd6, D6⟩ := c.def_ 6 (d := d6) rfl
  have F6 : Fun K "width_of" "width_of" sWidthOf (He.fAd K d6.at_) fd6 := fun_of D6
  have g6 : mg "width_of" = some (.ref (He.fAd K d6.at_)) := He.glo_ok X G (c.fact 6 (f := .glo "width_of") rfl)
  have b6 : Binds K fd6 ["kind"] [] := F6.binds fun _ _ _ _ _ _ us hl => match us, hl with | [_], _ => rfl
  obtain ⟨fd7, D7⟩ := c.def_ 7 (d := d7) rfl
  have F7 : Fun K "is_even" "is_even" sIsEven (He.fAd K d7.at_) fd7 := fun_of D7
  have g7 : mg "is_even" = some (.ref (He.fAd K d7.at_)) := He.glo_ok X G (c.fact 7 (f := .glo "is_even") rfl)
  have b7 : Binds K fd7 ["kind"] [] := F7.binds fun _ _ _ _ _ _ us hl => match us, hl with | [_], _ => rfl
  obtain ⟨fd8, D8⟩ := c.def_ 8 (d := d8) rfl
  have F8 : Fun K "elements_count" "elements_count" sElementsCount (He.fAd K d8.at_) fd8 := fun_of D8
  have g8 : mg "elements_count" = some (.ref (He.fAd K d8.at_)) := He.glo_ok X G (c.fact 8 (f := .glo "elements_count") rfl)
  have b8 : Binds K fd8 ["kind"] [] := F8.binds fun _ _ _ _ _ _ us hl => match us, hl with | [_], _ => rfl
  obtain ⟨fd9, D9⟩ := c.def_ 9 (d := d9) rfl
  have F9 : Fun K "is_address" "is_address" sIsAddress (He.fAd K d9.at_) fd9 := fun_of D9
  have g9 : mg "is_address" = some (.ref (He.fAd K d9.at_)) := He.glo_ok X G (c.fact 9 (f := .glo "is_address") rfl)
  have b9 : Binds K fd9 ["kind", "value"] [] := F9.binds fun _ _ _ _ _ _ us hl => match us, hl with | [_, _], _ => rfl
  obtain ⟨fd10, D10⟩ := c.def_ 10 (d := d10) rfl
  have F10 : Fun K "_joined_index" "_joined_index" sJoinedIndex (He.fAd K d10.at_) fd10 := fun_of D10
  have g10 : mg "_joined_index" = some (.ref (He.fAd K d10.at_)) := He.glo_ok X G (c.fact 10 (f := .glo "_joined_index") rfl)
  have b10 : Binds K fd10 ["a", "b"] [] := F10.binds fun _ _ _ _ _ _ us hl => match us, hl with | [_, _], _ => rfl
  obtain ⟨fd11, D11⟩ := c.def_ 11 (d := d11) rfl
  have F11 : Fun K "address_index" "address_index" sAddressIndex (He.fAd K d11.at_) fd11 := fun_of D11
  have g11 : mg "address_index" = some (.ref (He.fAd K d11.at_)) := He.glo_ok X G (c.fact 11 (f := .glo "address_index") rfl)
  have b11 : Binds K fd11 ["kind", "address"] [] := F11.binds fun _ _ _ _ _ _ us hl => match us, hl with | [_, _], _ => rfl
  obtain ⟨fd12, D12⟩ := c.def_ 12 (d := d12) rfl
  have F12 : Fun K "index_address" "index_address" sIndexAddress (He.fAd K d12.at_) fd12 := fun_of D12
  have g12 : mg "index_address" = some (.ref (He.fAd K d12.at_)) := He.glo_ok X G (c.fact 12 (f := .glo "index_address") rfl)
  have b12 : Binds K fd12 ["kind", "index"] [] := F12.binds fun _ _ _ _ _ _ us hl => match us, hl with | [_, _], _ => rfl
  obtain ⟨fd13, D13⟩ := c.def_ 13 (d := d13) rfl
  have F13 : Fun K "_law_begun" "_law_begun" sBegun (He.fAd K d13.at_) fd13 := fun_of D13
  have g13 : mg "_law_begun" = some (.ref (He.fAd K d13.at_)) := He.glo_ok X G (c.fact 13 (f := .glo "_law_begun") rfl)
  have b13 : Binds K fd13 ["script", "k"] [] := F13.binds fun _ _ _ _ _ _ us hl => match us, hl with | [_, _], _ => rfl
  obtain ⟨fd14, D14⟩ := c.def_ 14 (d := d14) rfl
  have F14 : Fun K "_law_draw" "_law_draw" sDraw (He.fAd K d14.at_) fd14 := fun_of D14
  have g14 : mg "_law_draw" = some (.ref (He.fAd K d14.at_)) := He.glo_ok X G (c.fact 14 (f := .glo "_law_draw") rfl)
  have b14 : Binds K fd14 ["m", "below"] [] := F14.binds fun _ _ _ _ _ _ us hl => match us, hl with | [_, _], _ => rfl
  obtain ⟨fd15, D15⟩ := c.def_ 15 (d := d15) rfl
  have F15 : Fun K "_law_of" "_law_of" sOf (He.fAd K d15.at_) fd15 := fun_of D15
  have g15 : mg "_law_of" = some (.ref (He.fAd K d15.at_)) := He.glo_ok X G (c.fact 15 (f := .glo "_law_of") rfl)
  have b15 : Binds K fd15 ["m", "some"] [] := F15.binds fun _ _ _ _ _ _ us hl => match us, hl with | [_, _], _ => rfl
  obtain ⟨fd16, D16⟩ := c.def_ 16 (d := d16) rfl
  have F16 : Fun K "_law_kind" "_law_kind" sLKind (He.fAd K d16.at_) fd16 := fun_of D16
  have g16 : mg "_law_kind" = some (.ref (He.fAd K d16.at_)) := He.glo_ok X G (c.fact 16 (f := .glo "_law_kind") rfl)
  have b16 : Binds K fd16 ["m", "deep"] [] := F16.binds fun _ _ _ _ _ _ us hl => match us, hl with | [_, _], _ => rfl
  obtain ⟨fd17, D17⟩ := c.def_ 17 (d := d17) rfl
  have F17 : Fun K "_law_sizes_in" "_law_sizes_in" sLSizesIn (He.fAd K d17.at_) fd17 := fun_of D17
  have g17 : mg "_law_sizes_in" = some (.ref (He.fAd K d17.at_)) := He.glo_ok X G (c.fact 17 (f := .glo "_law_sizes_in") rfl)
  have b17 : Binds K fd17 ["kind"] [] := F17.binds fun _ _ _ _ _ _ us hl => match us, hl with | [_], _ => rfl
  obtain ⟨fd18, D18⟩ := c.def_ 18 (d := d18) rfl
  have F18 : Fun K "_law_width" "_law_width" sLWidth (He.fAd K d18.at_) fd18 := fun_of D18
  have g18 : mg "_law_width" = some (.ref (He.fAd K d18.at_)) := He.glo_ok X G (c.fact 18 (f := .glo "_law_width") rfl)
  have b18 : Binds K fd18 ["kind"] [] := F18.binds fun _ _ _ _ _ _ us hl => match us, hl with | [_], _ => rfl
  obtain ⟨fd19, D19⟩ := c.def_ 19 (d := d19) rfl
  have F19 : Fun K "_law_join" "_law_join" sLJoin (He.fAd K d19.at_) fd19 := fun_of D19
  have g19 : mg "_law_join" = some (.ref (He.fAd K d19.at_)) := He.glo_ok X G (c.fact 19 (f := .glo "_law_join") rfl)
  have b19 : Binds K fd19 ["a", "b"] [] := F19.binds fun _ _ _ _ _ _ us hl => match us, hl with | [_, _], _ => rfl
  obtain ⟨fd20, D20⟩ := c.def_ 20 (d := d20) rfl
  have F20 : Fun K "_law_index_of" "_law_index_of" sLIndexOf (He.fAd K d20.at_) fd20 := fun_of D20
  have g20 : mg "_law_index_of" = some (.ref (He.fAd K d20.at_)) := He.glo_ok X G (c.fact 20 (f := .glo "_law_index_of") rfl)
  have b20 : Binds K fd20 ["kind", "address"] [] := F20.binds fun _ _ _ _ _ _ us hl => match us, hl with | [_, _], _ => rfl
  obtain ⟨fd21, D21⟩ := c.def_ 21 (d := d21) rfl
  have F21 : Fun K "_law_address" "_law_address" sLAddress (He.fAd K d21.at_) fd21 := fun_of D21
  have g21 : mg "_law_address" = some (.ref (He.fAd K d21.at_)) := He.glo_ok X G (c.fact 21 (f := .glo "_law_address") rfl)
  have b21 : Binds K fd21 ["m", "kind", "most"] [] := F21.binds fun _ _ _ _ _ _ us hl => match us, hl with | [_, _, _], _ => rfl
  obtain ⟨fd22, D22⟩ := c.def_ 22 (d := d22) rfl
  have F22 : Fun K "_law_is_address" "_law_is_address" sLIsAddress (He.fAd K d22.at_) fd22 := fun_of D22
  have g22 : mg "_law_is_address" = some (.ref (He.fAd K d22.at_)) := He.glo_ok X G (c.fact 22 (f := .glo "_law_is_address") rfl)
  have b22 : Binds K fd22 ["kind", "value"] [] := F22.binds fun _ _ _ _ _ _ us hl => match us, hl with | [_, _], _ => rfl
  obtain ⟨fd23, D23⟩ := c.def_ 23 (d := d23) rfl
  have F23 : Fun K "_law_back" "_law_back" sLBack (He.fAd K d23.at_) fd23 := fun_of D23
  have g23 : mg "_law_back" = some (.ref (He.fAd K d23.at_)) := He.glo_ok X G (c.fact 23 (f := .glo "_law_back") rfl)
  have b23 : Binds K fd23 ["kind", "index"] [] := F23.binds fun _ _ _ _ _ _ us hl => match us, hl with | [_, _], _ => rfl
  obtain ⟨fd24, D24⟩ := c.def_ 24 (d := d24) rfl
  have F24 : Fun K "_law_count" "_law_count" sLCount (He.fAd K d24.at_) fd24 := fun_of D24
  have g24 : mg "_law_count" = some (.ref (He.fAd K d24.at_)) := He.glo_ok X G (c.fact 24 (f := .glo "_law_count") rfl)
  have b24 : Binds K fd24 ["kind"] [] := F24.binds fun _ _ _ _ _ _ us hl => match us, hl with | [_], _ => rfl
  obtain ⟨fd25, D25⟩ := c.def_ 25 (d := d25) rfl
  have F25 : Fun K "_law_bent" "_law_bent" sLBent (He.fAd K d25.at_) fd25 := fun_of D25
  have g25 : mg "_law_bent" = some (.ref (He.fAd K d25.at_)) := He.glo_ok X G (c.fact 25 (f := .glo "_law_bent") rfl)
  have b25 : Binds K fd25 ["m", "address"] [] := F25.binds fun _ _ _ _ _ _ us hl => match us, hl with | [_, _], _ => rfl
  obtain ⟨fd26, D26⟩ := c.def_ 26 (d := d26) rfl
  have F26 : Fun K "_law_bad_kind" "_law_bad_kind" sLBadKind (He.fAd K d26.at_) fd26 := fun_of D26
  have g26 : mg "_law_bad_kind" = some (.ref (He.fAd K d26.at_)) := He.glo_ok X G (c.fact 26 (f := .glo "_law_bad_kind") rfl)
  have b26 : Binds K fd26 ["m", "kind"] [] := F26.binds fun _ _ _ _ _ _ us hl => match us, hl with | [_, _], _ => rfl
  obtain ⟨fd27, D27⟩ := c.def_ 27 (d := d27) rfl
  have F27 : Fun K "_law_depth" "_law_depth" sLDepth (He.fAd K d27.at_) fd27 := fun_of D27
  have g27 : mg "_law_depth" = some (.ref (He.fAd K d27.at_)) := He.glo_ok X G (c.fact 27 (f := .glo "_law_depth") rfl)
  have b27 : Binds K fd27 ["kind"] [] := F27.binds fun _ _ _ _ _ _ us hl => match us, hl with | [_], _ => rfl
  obtain ⟨fd28, D28⟩ := c.def_ 28 (d := d28) rfl
  have F28 : Fun K "_law_border_right" "_law_border_right" sLBorderRight (He.fAd K d28.at_) fd28 := fun_of D28
  have g28 : mg "_law_border_right" = some (.ref (He.fAd K d28.at_)) := He.glo_ok X G (c.fact 28 (f := .glo "_law_border_right") rfl)
  have b28 : Binds K fd28 ["m"] [] := F28.binds fun _ _ _ _ _ _ us hl => match us, hl with | [_], _ => rfl
  obtain ⟨fd29, D29⟩ := c.def_ 29 (d := d29) rfl
  have F29 : Fun K "_law_right" "_law_right" sLRight (He.fAd K d29.at_) fd29 := fun_of D29
  have g29 : mg "_law_right" = some (.ref (He.fAd K d29.at_)) := He.glo_ok X G (c.fact 29 (f := .glo "_law_right") rfl)
  have b29 : Binds K fd29 ["m"] [] := F29.binds fun _ _ _ _ _ _ us hl => match us, hl with | [_], _ => rfl
  obtain ⟨fd30, D30⟩ := c.def_ 30 (d := d30) rfl
  have F30 : Fun K "law" "law" sLaw (He.fAd K d30.at_) fd30 := fun_of D30
  have g30 : mg "law" = some (.ref (He.fAd K d30.at_)) := He.glo_ok X G (c.fact 30 (f := .glo "law") rfl)
  have b30 : Binds K fd30 ["script"] [] := F30.binds fun _ _ _ _ _ _ us hl => match us, hl with | [_], _ => rfl
  have m_isinstance : mg "isinstance" = none := He.free_ok X G (c.fact 31 (f := .free "isinstance") rfl)
  have m_int : mg "int" = none := He.free_ok X G (c.fact 32 (f := .free "int") rfl)
  have m_bool : mg "bool" = none := He.free_ok X G (c.fact 33 (f := .free "bool") rfl)
  have m_tuple : mg "tuple" = none := He.free_ok X G (c.fact 34 (f := .free "tuple") rfl)
  have m_len : mg "len" = none := He.free_ok X G (c.fact 35 (f := .free "len") rfl)
  have m_str : mg "str" = none := He.free_ok X G (c.fact 36 (f := .free "str") rfl)
  have m_all : mg "all" = none := He.free_ok X G (c.fact 37 (f := .free "all") rfl)
  have m_enumerate : mg "enumerate" = none := He.free_ok X G (c.fact 38 (f := .free "enumerate") rfl)
  have m_range : mg "range" = none := He.free_ok X G (c.fact 39 (f := .free "range") rfl)
  have m_repr : mg "repr" = none := He.free_ok X G (c.fact 40 (f := .free "repr") rfl)
  have m_min : mg "min" = none := He.free_ok X G (c.fact 41 (f := .free "min") rfl)
  have m_max : mg "max" = none := He.free_ok X G (c.fact 42 (f := .free "max") rfl)
  have m_reversed : mg "reversed" = none := He.free_ok X G (c.fact 43 (f := .free "reversed") rfl)
  obtain ⟨t0, m_TOP⟩ := He.int_ok X G (c.fact 44 (f := .int "TOP" 999999999999999999) rfl)
  obtain ⟨t1, m_MOST_DEPTH⟩ := He.int_ok X G (c.fact 45 (f := .int "MOST_DEPTH" 6) rfl)
  obtain ⟨t2, m_GREATEST_WIDTH⟩ := He.int_ok X G (c.fact 46 (f := .int "GREATEST_WIDTH" 9) rfl)
  obtain ⟨t3, m_JOIN_BOUND⟩ := He.int_ok X G (c.fact 47 (f := .int "JOIN_BOUND" 1000000000) rfl)
  have e := hfa.symm.trans g30
  cases e
  have ba := FunD.bindsA (ps := ["script"]) D30 fun _ _ _ _ _ _ us hl => match us, hl with | [_], _ => rfl
  refine ⟨fd30, fun s v => ba s [v] rfl, fun base _ _ => ?_⟩
  have G0 := ok_between (P := P) (w := w) (mg := mg) (base0 := base) (k := 0) F0 m_isinstance m_int m_bool
  have G1 := ok_begins (P := P) (w := w) (mg := mg) (base0 := base) (k := 1) F1 m_isinstance m_tuple m_str m_len (G0.mono (by decide)) g0 F0.kp b0
  have G2 := ok_isKind (P := P) (w := w) (mg := mg) (base0 := base) (k := 2) F2  (G1.mono (by decide)) g1 F1.kp b1
  have G3 := ok_search (P := P) (w := w) (mg := mg) (base0 := base) (k := 3) F3 m_MOST_DEPTH (G2.mono (by decide)) g2 F2.kp b2
  have G4 := ok_sizesIn (P := P) (w := w) (mg := mg) (base0 := base) (k := 0) F4
  have G5 := ok_ew (P := P) (w := w) (mg := mg) (base0 := base) (k := 1) F5 m_range m_all m_GREATEST_WIDTH (G4.mono (by decide)) g4 F4.kp b4
  have G6 := ok_width (P := P) (w := w) (mg := mg) (base0 := base) (k := 2) F6 m_max (G5.mono (by decide)) g5 F5.kp b5 (G4.mono (by decide)) g4 F4.kp b4
  have G7 := ok_isEven (P := P) (w := w) (mg := mg) (base0 := base) (k := 2) F7  (G5.mono (by decide)) g5 F5.kp b5
  have G8 := ok_count (P := P) (w := w) (mg := mg) (base0 := base) (k := 0) F8
  have G9 := ok_isAddr (P := P) (w := w) (mg := mg) (base0 := base) (k := 1) F9 m_isinstance m_tuple m_enumerate m_len m_TOP (G0.mono (by decide)) g0 F0.kp b0
  have G10 := ok_join (P := P) (w := w) (mg := mg) (base0 := base) (k := 0) F10 m_JOIN_BOUND m_TOP
  have G11 := ok_addrIdx (P := P) (w := w) (mg := mg) (base0 := base) (k := 1) F11 m_TOP m_reversed m_min (G10.mono (by decide)) g10 F10.kp b10
  have G12 := ok_indexAddr (P := P) (w := w) (mg := mg) (base0 := base) (k := 0) F12 m_JOIN_BOUND m_TOP m_isqrt
  have G13 := ok_begun (P := P) (w := w) (mg := mg) (base := base) (k := 0) F13 m_int m_len
  have G14 := ok_draw (P := P) (w := w) (mg := mg) (base := base) (k := 0) F14 m_int m_len
  have G15 := ok_of (P := P) (w := w) (mg := mg) (base := base) (k := 1) F15 m_len (G14.mono (by decide)) g14 F14.kp b14
  have G16 := ok_lkind (P := P) (w := w) (mg := mg) (base0 := base) F16 g16 F16.kp b16  (G14.mono (by decide)) g14 F14.kp b14 5
  have G17 := ok_lsz (P := P) (w := w) (mg := mg) (base0 := base) F17 g17 F17.kp b17   6
  have G18 := ok_lwid (P := P) (w := w) (mg := mg) (base0 := base) (k := 6) F18 m_range m_max (G17.mono (by decide)) g17 F17.kp b17
  have G19 := ok_ljoin (P := P) (w := w) (mg := mg) (base0 := base) (k := 0) F19
  have G20 := ok_lidx (P := P) (w := w) (mg := mg) (base0 := base) F20 g20 F20.kp b20 m_min (G19.mono (by decide)) g19 F19.kp b19 5
  have G21 := ok_laddr (P := P) (w := w) (mg := mg) (base0 := base) F21 g21 F21.kp b21  (G14.mono (by decide)) g14 F14.kp b14 5
  have G22 := ok_lisA (P := P) (w := w) (mg := mg) (base0 := base) F22 g22 F22.kp b22 m_isinstance m_tuple m_int m_bool m_len  5
  have G23 := ok_lback (P := P) (w := w) (mg := mg) (base0 := base) F23 g23 F23.kp b23   5
  have G24 := ok_lcnt (P := P) (w := w) (mg := mg) (base0 := base) F24 g24 F24.kp b24   5
  have G25 := ok_lbent (P := P) (w := w) (mg := mg) (base0 := base) (k := 2) F25 m_len (G14.mono (by decide)) g14 F14.kp b14 (G15.mono (by decide)) g15 F15.kp b15
  have G26 := ok_lbad (P := P) (w := w) (mg := mg) (base0 := base) (k := 2) F26 m_range (G14.mono (by decide)) g14 F14.kp b14 (G15.mono (by decide)) g15 F15.kp b15
  have G27 := ok_ldep (P := P) (w := w) (mg := mg) (base0 := base) F27 g27 F27.kp b27 m_max  6
  have G28 := ok_border (P := P) (w := w) (mg := mg) (base := base) (k := 6) F28 m_repr (G14.mono (by decide)) g14 F14.kp b14 (G15.mono (by decide)) g15 F15.kp b15 (G16.mono (by decide)) g16 F16.kp b16 (G27.mono (by decide)) g27 F27.kp b27 (G3.mono (by decide)) g3 F3.kp b3 (G20.mono (by decide)) g20 F20.kp b20 (G9.mono (by decide)) g9 F9.kp b9 (G11.mono (by decide)) g11 F11.kp b11 (G12.mono (by decide)) g12 F12.kp b12
  have G29 := ok_right (P := P) (w := w) (mg := mg) (base := base) (k := 7) F29 m_repr m_range (G14.mono (by decide)) g14 F14.kp b14 (G15.mono (by decide)) g15 F15.kp b15 (G16.mono (by decide)) g16 F16.kp b16 (G18.mono (by decide)) g18 F18.kp b18 (G3.mono (by decide)) g3 F3.kp b3 (G20.mono (by decide)) g20 F20.kp b20 (G9.mono (by decide)) g9 F9.kp b9 (G11.mono (by decide)) g11 F11.kp b11 (G12.mono (by decide)) g12 F12.kp b12 (G24.mono (by decide)) g24 F24.kp b24 (G6.mono (by decide)) g6 F6.kp b6 (G7.mono (by decide)) g7 F7.kp b7 (G8.mono (by decide)) g8 F8.kp b8 (G26.mono (by decide)) g26 F26.kp b26 (G21.mono (by decide)) g21 F21.kp b21 (G25.mono (by decide)) g25 F25.kp b25 (G22.mono (by decide)) g22 F22.kp b22 (G23.mono (by decide)) g23 F23.kp b23
  have G30 := ok_law (P := P) (w := w) (mg := mg) (base := base) (k := 8) F30 m_len m_range m_min m_repr (G13.mono (by decide)) g13 F13.kp b13 (G29.mono (by decide)) g29 F29.kp b29 (G28.mono (by decide)) g28 F28.kp b28 (G6.mono (by decide)) g6 F6.kp b6 (G11.mono (by decide)) g11 F11.kp b11 (G12.mono (by decide)) g12 F12.kp b12
  exact G30
end K10
open PySem PySem.W PySem.Calls PyProof.Rows
theorem PySem.Challenge.cw_allendless_k46_searchable_kinds_holds : PySem.Challenge.rw_allendless_k46_searchable_kinds.Holds := by
  w_on; o_law
  refine HandSHeadRun.head_imp (r := OpenLaw.row PySem.Challenge.rw_allendless_k46_searchable_kinds) (q := view (OpenLaw.row PySem.Challenge.rw_allendless_k46_searchable_kinds).prog [0, 39]) (H := K10.hk) (ob := K10.ob) (M := 6000) (loose := K10.loose) (d := HandSHeadRun.topDef (OpenLaw.row PySem.Challenge.rw_allendless_k46_searchable_kinds).prog 39) (kwd := []) K10.ob_eq
    K10.run (by kernel_rfl) (by kernel_rfl) (by kernel_rfl) (by rfl) (by first | assumption | decide +kernel) (by decide +kernel) ⟨rfl, rfl, rfl, rfl, rfl, by decide +kernel⟩ ?hw ?hc
  case hw => w_witness2
  case hc =>
    refine K10.walk1E (l := PySem.Challenge.rw_allendless_k46_searchable_kinds) (n := 63) (k := 9) (x := "script") rfl (by decide) (by kernel_rfl) ⟨rfl, by decide, by decide⟩ ?F
    intro w mg fa h Y G hmg0
    obtain ⟨K, KX, c⟩ := Y
    have hmg : mg ("law" : PySem.Str) = some (.ref fa) := by
      have e : (HandSHeadRun.topDef (OpenLaw.row PySem.Challenge.rw_allendless_k46_searchable_kinds).prog 39).name = ("law" : PySem.Str) := by kernel_rfl
      rw [← e]
      exact hmg0
    obtain ⟨fd, hb, hF⟩ := K10.facts (P := (PySem.Challenge.rw_allendless_k46_searchable_kinds).prog) (w := w) KX G hmg c
    exact ⟨K, fd, K10.spLaw K, KX, hb, fun H a ns hl _ hS => ⟨a, ns, rfl, hS, hl, fun _ => rfl⟩, hF⟩

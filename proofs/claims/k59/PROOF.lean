import PyProof.Rows.All
import Wide.All
import OpenK.AllK
import Wide.FinOn
import HandS.ForMost
import HandS.IsInst
import HandS.TupAny
import HandS.TupMul
import HandS.DictComp
import HandS.DictTup
import HandS.Conv
import HandS.TupSets
import HandS.Style
import PyProof.ReprRoads
import PyProof.CallFns
import HandS.Evl
import KE.KDictPairs
import KE.KDictCopyH
import KE.KDictSum
import HandS.Flow
import HandS.Walk
import HandS.Defaults
import HandS.Wide
import HandS.Zip
import KE.GoesNew
import PyProof.EnumMake
import HandS.Small
import HandS.Head0
import HandS.Head1
import HandS.Head2
import HandS.HeadEnd
import HandS.HeadHook1
import HandS.HeadHook2
import PySem.Challenge.RW_allendless_k59_whole_readers
set_option linter.all false
namespace K10
/-! ### rows that go round: entries, short parts, turning back -/
def ent (bs rs : List Int) (i : Nat) : Int := if i < bs.length then bs.getD i 0 else rs.getD ((i - bs.length) % rs.length) 0
/-- ends turned back: what both programs do at the end of a beginning -/
inductive Rot : List Int → List Int → List Int → List Int → Prop
  | refl (bs rs : List Int) : Rot bs rs bs rs
  | step {bs rs bs' rs' : List Int} {x : Int} : Rot bs rs (bs' ++ [x]) (rs' ++ [x]) → Rot bs rs bs' (x :: rs')
theorem Rot.len {bs rs bs' rs' : List Int} (h : Rot bs rs bs' rs') : rs'.length = rs.length := by
  induction h with
  | refl => rfl
  | step _ ih => rw [← ih]; simp
/-! ### periods -/
end K10
set_option Elab.async false
set_option linter.all false
set_option maxRecDepth 100000
set_option maxHeartbeats 4000000
namespace K10
open PySem PySem.Spec PyProof.Rows L2
/-! ### defs that may show data: no repr is under way around them -/
/-- a promise of a def, where nothing is being shown around -/
structure Ok1 (P : Program) (w : World) (K : PySem.W.Frag) (mg : Str → Option Value) (base : Heap) (k : Nat) (f : Addr) (fd : FuncData) (ps : List Str) (sp : Sp) : Prop where
  many : ∀ vs H Q E, sp vs H Q E → vs.length = ps.length
  go : ∀ (A : Around) (outer : List Env) (s : Shared) (H : Hp) (us : List Value) (vs : List V) (Q : VK) (E : XK), A.guards = some [] → Room k A → Env0 P w K mg base A outer s H →
    (∀ t : Shared, K.In t.heap → BindsTo t fd ⟨us, []⟩ (ps.zip us)) → Vals vs us → sp vs H Q E →
    codeAny (model P w) A (.call (.ref f) ⟨us, []⟩) (CR CX0 outer P w H s Q E) s
section
variable {P : Program} {w : World} {K : PySem.W.Frag} {mg : Str → Option Value} {base : Heap}
theorem ok1_of {x qual : Str} {st : Stmt} {f : Addr} {fd : FuncData} {N ps : List Str} {k : Nat} {sp : Sp} (F : Fun K x qual st f fd) (S : FnScope N ps (defScope st)) (len : ∀ vs H Q E, sp vs H Q E → vs.length = ps.length)
    (body : ∀ (cdv : Value) (A : Around) (outer : List Env) (s : Shared) (H : Hp) (vs : List V) (Q : VK) (E : XK), A.guards = some [] → Room k (A.deeper (envOfC qual (defScope st) s.heap.objs.size f cdv)) → sp vs H Q E →
      ∃ t, PSs (cxOf CX0 P w K mg base N qual (defScope st) f cdv A outer s H E).nox (defBody st) t ∧ t { nx := fun _ H' => Q .non H', rt := Q } (start N vs) H) : Ok1 P w K mg base (k + 1) f fd ps sp := by
  obtain ⟨oc, od, kV, doc, pm, an, cdv, ct, osl, rfl, lk, code⟩ := F.ex
  constructor
  · exact len
  · intro A outer s H us vs Q E guard room e0 binds rel want
    have there : ∀ b o, base.get? b = some o → s.heap.get? b = some o := fun b o q => (e0.bs b o q).1
    have inK : K.In s.heap := e0.mod.kin.keeps there
    have many := len _ _ _ _ want
    have kinds : ∀ y ∈ ps.zip us, (defScope st).names.lookup y.1 = some .local ∨
        ((defScope st).names.lookup y.1 = some .cell ∧ ((cellsFrom (s.heap.objs.size + 1) (defScope st).names []).lookup y.1).isSome = true) := by
      rintro ⟨n, v⟩ mem
      have h := S.par n (List.of_mem_zip mem).1
      exact h.imp id fun q => ⟨q, PySem.W.cellsFrom_some _ _ _ (.inl q)⟩
    obtain ⟨t, term, reading⟩ := body cdv A outer s H vs Q E guard (room.deeper _) want
    refine codeAny_call_function room.depth (inK _ _ lk) rfl S.co S.gen rfl (PySem.W.codeRec_of inK code) (binds s inK _ _ _ _ ?_)
    refine wpAny_newFunctionEnv_cells S.kind kinds ?_
    rintro env rfl s1 entered
    refine ⟨(e0.mod.nolimit.keeps there).keeps entered.toInCall.keep, codeAny_func ?_⟩
    have inv := inv_start (CX := CX0) (E := E) S room.hd e0 many rel entered
    have back : ∀ {σ' : L2.St} {H' : Hp} {v : V} {u : Value} {s' : Shared}, Inv (cxOf CX0 P w K mg base N qual (defScope st) f cdv A outer s H E) [] σ' H' s' → RelV v u → Q v H' → CE outer P w H s Q u s' := by
      intro σ' H' v u s' J r q
      exact ⟨v, H', J.os, J.bare, J.base, J.hok, r, q⟩
    refine wpAny_mono (term.nox.run [] s1 (start N vs) H _ inv reading) ?_ (fun _ _ z => z)
    intro flow s' ended
    match flow, ended with
    | .ret u, ⟨v, σ', H', J, r, q⟩ => exact back J r q
    | .next, ⟨σ', H', J, q⟩ => exact back (v := V.non) (u := Value.none) J rfl q
    | .brk, ⟨_, _, _, q⟩ => exact q.elim
    | .cont, ⟨_, _, _, q⟩ => exact q.elim
end
section
variable {X : Cx} {k : Nat} {f : Addr} {fd : FuncData} {ps : List Str} {sp : Sp} {x : Str} {p pos : Pos} {e : Expr} {es : List Expr} {t : TA}
/-- f(e, ..), nothing being shown -/
theorem pe_call1 (F : Ok1 X.prog X.w X.K X.mg X.base k f fd ps sp) (guard : X.A.guards = some []) (room : Room k X.A) (hg : Gl X x) (hm : X.mg x = some (.ref f)) (hk : PySem.W.keepIn X.K (.ref f) = true) (hb : Binds X.K fd ps [])
    (ha : PA X (e :: es) t) (hdb : (x == ("__debug__" : Str)) = false := by decide) (he : starEach (e :: es) X.env = (false, eval e X.env) :: starEach es X.env := by rfl) (hpl : (backTo pos (starEach es X.env)).any (·.1) = false := by rfl) :
    PE X (.Call (.Name x p) (e :: es) [] pos) (tCall sp [] E0 t) := by
  constructor
  intro pins s σ H Q I h
  refine wpAny_Call_Name_kw (ld_glob I hg hm ?_ hdb)
  refine PySem.W.callWith_K (h₀ := X.base) I.ok.mod.kin hk (thn (ha.run pos pins s σ H _ I h) ?_) he hpl
  rintro us s1 ⟨vs, H1, I1, r, q⟩
  have q' : sp vs H1 Q E0 := by
    have h0 := q
    rw [List.append_nil] at h0
    exact h0
  refine ⟨I1.kIn, wpAny_call (codeAny_mono (F.go X.A X.stack s1 H1 us vs Q E0 guard room I1.env0 (fun t inK => ?_) r q') ?_)⟩
  · have hl : us.length = ps.length := by
      rw [← r.length]
      exact F.many _ _ _ _ q'
    have b := hb t us inK (by simpa using hl)
    simpa using b
  · intro res s' done
    match res, done with
    | .ok (.ret u), ended => exact I1.after ended
    | .ok .next, z => exact z.elim
    | .ok .brk, z => exact z.elim
    | .ok .cont, z => exact z.elim
    | .error _, z => exact z.elim
end
/-! ### repr of data -/
def rShow (K : PySem.W.Frag) : List V → Hp → VK → Prop := fun xs H Q => ∃ x d, xs = [x] ∧ Dp K H x d ∧ ((∃ b, d = .bool b) ∨ (∃ ds, d = .list ds) ∨ ∃ ds, d = .tuple ds) ∧ d.showable = true ∧ d.hasDict = false ∧ d.depth ≤ 60 ∧ d.shown.length ≤ sizeLine ∧ Q (.str d.shown) H
theorem call_show {X : Cx} (guard : X.A.guards = some []) (hu : X.A.units + 64 < cLine) : CallR X (.builtin "repr") (rShow X.K) := by
  intro pins s σ H xs us Q I r h
  obtain ⟨x, d, rfl, dp, form, sh, nd, deep, fits, q⟩ := h
  obtain ⟨u, rfl, rx⟩ := vals1 r
  obtain ⟨as, reads⟩ := Dp.reads I d x u dp rx
  rcases form with ⟨b, rfl⟩ | ⟨ds, rfl⟩ | ⟨ds, rfl⟩
  · cases dp
    cases (show u = Value.bool b from rx)
    refine PySem.P.repr_of_bool ⟨.str _, H, I.tok _, ⟨_, rfl⟩, ?_⟩
    rw [PyData.shown_bool] at q
    exact q
  · cases dp with
    | lst hs ha =>
      rename_i a xs
      cases (show u = Value.ref a from rx)
      refine repr_of_reads' reads sh (fun z => by rw [nd] at z; cases z) guard (by omega) (fun _ _ z => z) (fun h' u tk keep => ?_) fits
      exact ⟨.str _, H, I.kept keep, ⟨_, rfl⟩, q⟩
  · cases dp with
    | tup hs ha =>
      rename_i a xs
      cases (show u = Value.ref a from rx)
      refine repr_of_reads' reads sh (fun z => by rw [nd] at z; cases z) guard (by omega) (fun _ _ z => z) (fun h' u tk keep => ?_) fits
      exact ⟨.str _, H, I.kept keep, ⟨_, rfl⟩, q⟩
end K10
namespace K10
open PySem PySem.Spec PyProof.Rows L2
/-- the law's own call, from a promise that holds where nothing is being shown -/
theorem law1 {P : Program} {w : World} {K : PySem.W.Frag} {mg mb : Str → Option Value} {k : Nat} {fa a : Addr} {fd : FuncData} {x : Str} {sp : Sp} {s1 : Shared} {vs : List Value} {ns : List Int}
    (inK : K.In s1.heap) (names : s1.heap.Ns mainGlobals mg) (blt : s1.heap.Ns builtinsNs mb) (bltIs : ∀ x : Str, x ≠ "__name__" → mb x = bootBuiltins x) (nolim : s1.heap.NoLimit) (nogens : s1.gens = #[])
    (script : s1.heap.get? a = some { cls := .type "list", data := .seq vs.toArray }) (nums : IntsAre vs ns) (few : ns.length ≤ sizeLine) (room : Room k callerA)
    (F : ∀ base : Heap, K.In base → base.Ns mainGlobals mg → Ok1 P w K mg base k fa fd [x] sp) (bind : ∀ (s : Shared) (u : Value), BindsTo s fd ⟨[u], []⟩ [(x, u)])
    (promise : ∀ H : Hp, Only H → SqL K H a (ns.map V.int) → sp [.ref a] H (fun v _ => v = .bl true) fun _ _ _ => False) :
    codeAny (model P w) callerA (.call (.ref fa) ⟨[.ref a], []⟩) (fun r s' => r = .ok (.ret (.bool true)) ∧ OldK s1.heap s'.heap ∧ s'.os = s1.os ∧ AllBare s'.gens) s1 := by
  have rel : Vals (ns.map V.int) vs := vals_ints nums
  -- nothing but the script is tracked, and that only where it is no object of the written part
  have main : ∀ H : Hp, (∀ b u, H b = some u → b = a ∧ K.lookup a = none ∧ u = .frz { cls := .type "list", data := .seq vs.toArray } (.lst (ns.map V.int))) → SqL K H a (ns.map V.int) →
      codeAny (model P w) callerA (.call (.ref fa) ⟨[.ref a], []⟩) (fun r s' => r = .ok (.ret (.bool true)) ∧ OldK s1.heap s'.heap ∧ s'.os = s1.os ∧ AllBare s'.gens) s1 := by
    intro H only there
    have onlyH : Only H := fun b => by
      cases hb : H b with
      | none => exact .inl rfl
      | some u => exact .inr ⟨_, _, congrArg some (only b u hb).2.2⟩
    have ok : HOk P w H s1.heap := by
      intro b u hb
      obtain ⟨rfl, _, rfl⟩ := only b u hb
      exact ⟨script, by rw [List.length_map]; exact few, vs, _, rel, script⟩
    have hide : ∀ {b : Addr} {o : Obj}, s1.heap.get? b = some o → (H b = none ∨ ∃ es ep, o.data = .dict es ep) → (hidT s1.heap H).get? b = some o := by
      intro b o got why
      refine hidT_get got ?_
      rcases why with z | ⟨es, ep, hd⟩
      · exact z
      · cases hb : H b with
        | none => rfl
        | some u =>
          obtain ⟨rfl, _, _⟩ := only b u hb
          rw [script] at got
          cases got
          cases hd
    have nsT : ∀ {b : Addr} {m : Str → Option Value}, s1.heap.Ns b m → (hidT s1.heap H).Ns b m := by
      rintro b m ⟨o, es, ep, got, hd, rest⟩
      exact ⟨o, es, ep, hide got (.inr ⟨es, ep, hd⟩), hd, rest⟩
    have inT : K.In (hidT s1.heap H) := by
      intro b o kb
      refine hide (inK b o kb) (.inl ?_)
      cases hb : H b with
      | none => rfl
      | some u =>
        obtain ⟨rfl, kn, _⟩ := only b u hb
        rw [kn] at kb
        cases kb
    obtain ⟨mc, lim1, lim2⟩ := nolim
    have env : Env0 P w K mg (hidT s1.heap H) callerA [] s1 H :=
      { frames := rfl, mod := ⟨inT, nsT names, ⟨mb, nsT blt, bltIs⟩, ⟨mc, nsT lim1, lim2⟩⟩, bs := fun b o z => of_hidT z, bsz := Nat.le_of_eq (hidT_size _ _), funs := trivial,
        frf := fun b hb => (by cases (show b ∈ ([] : List Addr) from hb)), hok := ok, bare := .of_eq nogens }
    have run := (F _ inT (nsT names)).go callerA [] s1 H [.ref a] [.ref a] (fun v _ => v = .bl true) (fun _ _ _ => False) rfl room env (fun t _ => bind t (.ref a)) (.cons rfl .nil) (promise H onlyH there)
    refine codeAny_mono run ?_
    intro res s' done
    match res, done with
    | .ok .next, z => exact z.elim
    | .ok .brk, z => exact z.elim
    | .ok .cont, z => exact z.elim
    | .error _, z => exact z.elim
    | .ok (.ret u), ⟨v, H', os, bare, un, ok', r, q⟩ =>
      have q : v = .bl true := q
      subst q
      cases (show u = Value.bool true from r)
      refine ⟨rfl, OldK.of_keep (fun b o got => ?_), os, bare⟩
      cases hb : H b with
      | none => exact un.keep b o got hb (fun z => by cases (show b ∈ ([] : List Addr) from z)) (by simp)
      | some y =>
        have hy := (only b y hb).2.2
        subst hy
        obtain ⟨e1, _⟩ := ok b _ hb
        obtain ⟨e2, _⟩ := ok' b _ (un.frzs b _ _ hb)
        rw [got] at e1
        cases e1
        exact e2
  cases kn : K.lookup a with
  | some o =>
    have same := inK a o kn
    rw [script] at same
    cases same
    exact main (fun _ => none) (fun b u z => by cases z) (.inr ⟨_, vs.toArray, _, kn, rfl, rfl, rfl, by rw [List.size_toArray, nums.length]; exact few, by simpa using rel⟩)
  | none =>
    refine main (fun b => if b = a then some (.frz { cls := .type "list", data := .seq vs.toArray } (.lst (ns.map V.int))) else none) (fun b u z => ?_) (.inl (.inr ⟨_, if_pos rfl⟩))
    by_cases hb : b = a
    · rw [if_pos hb] at z
      cases z
      exact ⟨hb, kn, rfl⟩
    · rw [if_neg hb] at z
      cases z
end K10
set_option Elab.async false
set_option linter.all false
set_option maxRecDepth 100000
set_option maxHeartbeats 4000000
set_option Elab.async false
set_option linter.all false
set_option maxRecDepth 100000
set_option maxHeartbeats 4000000
set_option Elab.async false
set_option linter.all false
set_option maxRecDepth 100000
set_option maxHeartbeats 4000000
set_option Elab.async false
set_option linter.all false
set_option maxRecDepth 100000
set_option maxHeartbeats 4000000
namespace K10
open PySem PySem.Spec PyProof.Rows L2 Evl
/-! ### data made of tuples -/
mutual
inductive Dt (H : Hp) : V → PyData → Prop
  | non : Dt H .non .none
  | bl (b : Bool) : Dt H (.bl b) (.bool b)
  | int (i : Int) : Dt H (.int i) (.int i)
  | str (x : Str) : Dt H (.str x) (.str x)
  | tup {a : Addr} {xs : List V} {ds : List PyData} : H a = some (.tup xs) → DtAll H xs ds → Dt H (.ref a) (.tuple ds)
inductive DtAll (H : Hp) : List V → List PyData → Prop
  | nil : DtAll H [] []
  | cons {v : V} {vs : List V} {d : PyData} {ds : List PyData} : Dt H v d → DtAll H vs ds → DtAll H (v :: vs) (d :: ds)
end
/-- tuples stay -/
def Tk (H H' : Hp) : Prop := ∀ a xs, H a = some (.tup xs) → H' a = some (.tup xs)
/-! ### the draws' own dict -/
def stK (l s : Int) (c : Addr) (p : Int) : List (Key × V) :=
  [(Sum.inr "left", V.int l), (Sum.inr "seed", V.int s), (Sum.inr "cells", V.ref c), (Sum.inr "spot", V.int p), (Sum.inr "next", V.int 0), (Sum.inr "quants", V.int 3)]
/-- all but the draws' own dict stays -/
def Kin (H H' : Hp) : Prop := ∀ a o, H a = some o → (∀ q : (Int × Int) × Addr × Int, o ≠ .dK (stK q.1.1 q.1.2 q.2.1 q.2.2)) → H' a = some o
theorem Tk.refl (H : Hp) : Tk H H := fun _ _ h => h
theorem Tk.trans {H H1 H2 : Hp} (a : Tk H H1) (b : Tk H1 H2) : Tk H H2 := fun x o h => b x o (a x o h)
theorem Kin.refl (H : Hp) : Kin H H := fun _ _ h _ => h
theorem Kin.trans {H H1 H2 : Hp} (a : Kin H H1) (b : Kin H1 H2) : Kin H H2 := fun x o h n => b x o (a x o h n) n
theorem kin_ex {H H' : Hp} (e : Ex H H') : Kin H H' := fun a o h _ => e a o h
theorem tk_kin {H H' : Hp} (e : Kin H H') : Tk H H' := fun a xs h => e a _ h fun _ z => nomatch z
theorem tk_ex {H H' : Hp} (e : Ex H H') : Tk H H' := fun a xs h => e a _ h
theorem tk_upd {H : Hp} {p : Addr} {o : HO} (h : ∀ xs, H p ≠ some (.tup xs)) : Tk H (upd H p o) := fun a xs e => by
  rw [upd_ne (fun z => by subst z; exact h xs e)]
  exact e
theorem tk_new {H : Hp} {p : Addr} {o : HO} (h : H p = none) : Tk H (upd H p o) := tk_upd fun xs z => by rw [h] at z; cases z
mutual
theorem Dt.tk {H H' : Hp} (e : Tk H H') : ∀ {d : PyData} {x : V}, Dt H x d → Dt H' x d
  | _, _, .non => .non
  | _, _, .bl b => .bl b
  | _, _, .int i => .int i
  | _, _, .str x => .str x
  | _, _, .tup h a => .tup (e _ _ h) (DtAll.tk e a)
theorem DtAll.tk {H H' : Hp} (e : Tk H H') : ∀ {ds : List PyData} {xs : List V}, DtAll H xs ds → DtAll H' xs ds
  | _, _, .nil => .nil
  | _, _, .cons h t => .cons (Dt.tk e h) (DtAll.tk e t)
end
mutual
theorem Dt.dp {K : PySem.W.Frag} {H : Hp} : ∀ {d : PyData} {x : V}, Dt H x d → Dp K H x d
  | _, _, .non => .non
  | _, _, .bl b => .bl b
  | _, _, .int i => .int i
  | _, _, .str x => .str x
  | _, _, .tup h a => .tup (SqT.of h) (DtAll.dp a)
theorem DtAll.dp {K : PySem.W.Frag} {H : Hp} : ∀ {ds : List PyData} {xs : List V}, DtAll H xs ds → DpAll K H xs ds
  | _, _, .nil => .nil
  | _, _, .cons h t => .cons (Dt.dp h) (DtAll.dp t)
end
theorem DtAll.len {H : Hp} : ∀ {xs : List V} {ds : List PyData}, DtAll H xs ds → xs.length = ds.length
  | _, _, .nil => rfl
  | _, _, .cons _ t => by rw [List.length_cons, List.length_cons, t.len]
theorem DtAll.get {H : Hp} : ∀ {xs : List V} {ds : List PyData} {i : Nat} {d : PyData}, DtAll H xs ds → ds[i]? = some d → ∃ x, xs[i]? = some x ∧ Dt H x d
  | _, _, _, _, .nil, e => by simp at e
  | _, _, 0, _, .cons h _, e => by
    cases Option.some.inj e
    exact ⟨_, rfl, h⟩
  | _, _, i + 1, _, .cons _ t, e => DtAll.get t (i := i) (by simpa using e)
theorem DtAll.take {H : Hp} : ∀ {xs : List V} {ds : List PyData} (n : Nat), DtAll H xs ds → DtAll H (xs.take n) (ds.take n)
  | _, _, 0, _ => .nil
  | _, _, _ + 1, .nil => .nil
  | _, _, n + 1, .cons h t => .cons h (t.take n)
theorem DtAll.drop {H : Hp} : ∀ {xs : List V} {ds : List PyData} (n : Nat), DtAll H xs ds → DtAll H (xs.drop n) (ds.drop n)
  | _, _, 0, r => r
  | _, _, _ + 1, .nil => .nil
  | _, _, n + 1, .cons _ t => t.drop n
theorem DtAll.append {H : Hp} : ∀ {xs ys : List V} {ds es : List PyData}, DtAll H xs ds → DtAll H ys es → DtAll H (xs ++ ys) (ds ++ es)
  | _, _, _, _, .nil, r => r
  | _, _, _, _, .cons h t, r => .cons h (t.append r)
theorem DtAll.nil_iff {H : Hp} {xs : List V} {ds : List PyData} (r : DtAll H xs ds) : xs = [] ↔ ds = [] := by
  cases r <;> simp
theorem dt_int {H : Hp} {x : V} {n : Int} (h : Dt H x (.int n)) : x = .int n := by cases h; rfl
theorem dt_bool {H : Hp} {x : V} {n : Bool} (h : Dt H x (.bool n)) : x = .bl n := by cases h; rfl
theorem dt_tup {H : Hp} {x : V} {ds : List PyData} (h : Dt H x (.tuple ds)) : ∃ a xs, x = .ref a ∧ H a = some (.tup xs) ∧ DtAll H xs ds := by
  cases h with
  | tup h a => exact ⟨_, _, rfl, h, a⟩
theorem dts_ints {H : Hp} : ∀ {xs : List V} {ns : List Int}, DtAll H xs (ns.map .int) → xs = ns.map V.int
  | _, [], h => by cases h; rfl
  | _, n :: ns, h => by
    rw [List.map_cons] at h
    cases h with
    | cons h t => rw [List.map_cons, dt_int h, ← dts_ints t]
/-! ### what evaluates to such data -/
def EvD (te : TE) (σ : L2.St) (H : Hp) (d : PyData) : Prop := ∀ H1, Ex H H1 → ∀ Q : VK, (∀ x H2, Ex H1 H2 → Dt H2 x d → Q x H2) → te σ H1 Q
def EvDs (ta : TA) (σ : L2.St) (H : Hp) (ds : List PyData) : Prop := ∀ H1, Ex H H1 → ∀ Q : List V → Hp → Prop, (∀ xs H2, Ex H1 H2 → DtAll H2 xs ds → Q xs H2) → ta σ H1 Q
/-- a new list of such data -/
def EvLd (te : TE) (σ : L2.St) (H : Hp) (ds : List PyData) : Prop := ∀ H1, Ex H H1 → ∀ Q : VK, (∀ p xs H2, H1 p = none → Ex H1 H2 → H2 p = some (.lst xs) → DtAll H2 xs ds → Q (.ref p) H2) → te σ H1 Q
section
variable {K : PySem.W.Frag} {σ : L2.St} {H H' : Hp} {ta tb te tx : TE} {t u : TT} {x y z v : V} {d e : PyData} {ds es : List PyData}
theorem EvD.mono (e : Ex H H') (h : EvD te σ H d) : EvD te σ H' d := fun H1 a Q q => h H1 (e.trans a) Q q
theorem ed_var {i : Nat} (h : σ[i]? = some (some x)) (hd : Dt H x d) : EvD (tVar i) σ H d := fun H1 e _ q => ⟨x, h, q x H1 (Ex.refl H1) (hd.tk (tk_ex e))⟩
theorem ed_of (h : Ev te σ H v) (hd : ∀ H', Dt H' v d) : EvD te σ H d := fun H1 e Q q => h H1 e Q fun H2 e2 => q v H2 e2 (hd H2)
theorem ed_int {n : Int} (h : Ev te σ H (.int n)) : EvD te σ H (.int n) := ed_of h fun _ => .int n
theorem ed_bool {n : Bool} (h : Ev te σ H (.bl n)) : EvD te σ H (.bool n) := ed_of h fun _ => .bl n
theorem ed_str {s : Str} : EvD (tC (.str s)) σ H (.str s) := fun H1 _ _ q => q _ H1 (Ex.refl H1) (.str s)
theorem int_ed {n : Int} (h : EvD te σ H (.int n)) : Ev te σ H (.int n) := fun H1 e Q q => h H1 e Q fun x H2 e2 hd => by rw [dt_int hd]; exact q H2 e2
theorem bool_ed {n : Bool} (h : EvD te σ H (.bool n)) : Ev te σ H (.bl n) := fun H1 e Q q => h H1 e Q fun x H2 e2 hd => by rw [dt_bool hd]; exact q H2 e2
theorem eds_nil : EvDs tNil σ H [] := fun H1 _ _ q => q [] H1 (Ex.refl H1) .nil
theorem eds_cons {tr : TA} (h : EvD te σ H d) (hr : EvDs tr σ H ds) : EvDs (tCons te tr) σ H (d :: ds) := fun H1 e _ q =>
  h H1 e _ fun x H2 e2 hx => hr H2 (e.trans e2) _ fun xs H3 e3 hxs => q (x :: xs) H3 (e2.trans e3) (.cons (hx.tk (tk_ex e3)) hxs)
theorem ed_tup {ta : TA} (h : EvDs ta σ H ds) (few : ds.length ≤ 100000) : EvD (tTup ta) σ H (.tuple ds) := fun H1 e _ q =>
  h H1 e _ fun xs H2 e2 hxs => ⟨sz_of (by rw [hxs.len]; exact few), fun p hp => q (.ref p) _ (e2.trans (Ex.new hp)) (.tup upd_same (hxs.tk (tk_new hp)))⟩
theorem eld_lst {ta : TA} (h : EvDs ta σ H ds) (few : ds.length ≤ 100000) : EvLd (tLst ta) σ H ds := fun H1 e _ q =>
  h H1 e _ fun xs H2 e2 hxs => ⟨sz_of (by rw [hxs.len]; exact few), fun p hp => q p xs _ (fresh_back e2 hp) (e2.trans (Ex.new hp)) upd_same (hxs.tk (tk_new hp))⟩
/-- t[i] -/
theorem ed_ix {i : Int} (ha : EvD ta σ H (.tuple ds)) (hi : Ev tb σ H (.int i)) (hat : atI ds i = some d) : EvD (tOp (rIxT K) ta tb) σ H d := fun H1 e Q q =>
  ha H1 e _ fun x H2 e2 hx => hi H2 (e.trans e2) _ fun H3 e3 => by
    obtain ⟨a, xs, rfl, h, all⟩ := dt_tup hx
    obtain ⟨j, e4⟩ : ∃ j, ixN ds.length i = some j ∧ ds[j]? = some d := by
      unfold atI at hat
      exact Option.bind_eq_some_iff.mp hat
    obtain ⟨y, hy, hd⟩ := all.get e4.2
    refine ⟨a, xs, i, y, rfl, rfl, SqT.of (e3 _ _ h), ?_, q y H3 (e2.trans e3) (hd.tk (tk_ex e3))⟩
    unfold atI
    rw [all.len, e4.1]
    exact hy
/-- t[lo:hi] -/
def cutD {α : Type} (xs : List α) (lo hi : Option Int) : List α := (xs.drop (HT.sIx xs.length 0 lo)).take (HT.sIx xs.length xs.length hi - HT.sIx xs.length 0 lo)
theorem ed_sl {tl th : TO} {lo hi : Option Int} (h : EvD te σ H (.tuple ds)) (h1 : EvO tl σ H lo) (h2 : EvO th σ H hi) : EvD (tSl (rSlA K) te tl th) σ H (.tuple (cutD ds lo hi)) := fun H1 e _ q =>
  h H1 e _ fun x H2 e2 hx => h1 H2 (e.trans e2) _ fun H3 e3 => h2 H3 ((e.trans e2).trans e3) _ fun H4 e4 => by
    obtain ⟨a, xs, rfl, hp, all⟩ := dt_tup hx
    have hp4 := (e3.trans e4) _ _ hp
    have all4 := all.tk (tk_ex (e3.trans e4))
    refine ⟨a, xs, rfl, SqT.of hp4, fun hw => ?_, fun _ p np => ?_⟩
    · refine q (.ref a) H4 ((e2.trans e3).trans e4) (.tup hp4 ?_)
      have : cutD ds lo hi = ds := by
        unfold cutD
        rw [← all.len, hw.1, hw.2, all.len, List.drop_zero, Nat.sub_zero, List.take_length]
      rw [this]
      exact all4
    · refine q (.ref p) _ (((e2.trans e3).trans e4).trans (Ex.new np)) (.tup upd_same (DtAll.tk (tk_new np) ?_))
      unfold cutV cutD
      rw [all.len]
      exact (all4.drop _).take _
/-- t + u -/
theorem ed_cat (ha : EvD ta σ H (.tuple ds)) (hb : EvD tb σ H (.tuple es)) (few : ds.length + es.length ≤ 100000) : EvD (tOp (rCatA K) ta tb) σ H (.tuple (ds ++ es)) := fun H1 e _ q =>
  ha H1 e _ fun x H2 e2 hx => hb H2 (e.trans e2) _ fun y H3 e3 hy => by
    obtain ⟨a, xs, rfl, hp, all⟩ := dt_tup hx
    obtain ⟨b, ys, rfl, hp2, all2⟩ := dt_tup hy
    have hp3 := e3 _ _ hp
    have all3 := all.tk (tk_ex e3)
    refine ⟨a, b, xs, ys, rfl, rfl, SqT.of hp3, SqT.of hp2, sz_of (by rw [all.len, all2.len]; exact few), fun hn => ?_, fun hn hm => ?_, fun hn hm p np => ?_⟩
    · have e0 := all.nil_iff.mp hn
      subst e0
      exact q _ H3 (e2.trans e3) hy
    · have e0 := all2.nil_iff.mp hm
      subst e0
      have z := q _ H3 (e2.trans e3) (.tup hp3 (by rw [List.append_nil]; exact all3))
      exact z
    · exact q _ _ ((e2.trans e3).trans (Ex.new np)) (.tup upd_same ((all3.append all2).tk (tk_new np)))
end
end K10
set_option Elab.async false
set_option linter.all false
set_option maxRecDepth 100000
set_option maxHeartbeats 4000000
namespace K10
open PySem PySem.Spec PyProof.Rows L2 Evl
section
variable {K : PySem.W.Frag} {σ : L2.St} {H H' : Hp} {ta tb te tx tl : TE} {t u : TT} {x y z v : V} {d e : PyData} {ds es : List PyData}
theorem dp_list {a : Addr} {xs : List V} (h : H a = some (.lst xs)) (all : DtAll H xs ds) : Dp K H (.ref a) (.list ds) := .lst (SqL.of h) all.dp
theorem ev_lenT (ha : EvD ta σ H (.tuple ds)) : Ev (tCB (rLenS K) (tCons ta tNil)) σ H (.int ds.length) := fun H1 e1 _ q =>
  ha H1 e1 _ fun x H2 e2 hx => by
    obtain ⟨a, xs, rfl, h, all⟩ := dt_tup hx
    refine ⟨a, xs, rfl, .inr (SqT.of h), ?_⟩
    rw [all.len]
    exact q H2 e2
/-- tuple(l) of a list -/
def rTupOf (K : PySem.W.Frag) : List V → Hp → VK → Prop := fun xs H Q => ∃ p ys, xs = [.ref p] ∧ ((SqL K H p ys ∧ ∀ l, H l = none → Q (.ref l) (upd H l (.tup ys))) ∨ (SqT K H p ys ∧ Q (.ref p) H))
theorem ed_tupOf (h : EvLd te σ H ds) : EvD (tCB (rTupOf K) (tCons te tNil)) σ H (.tuple ds) := fun H1 e1 _ q =>
  h H1 e1 _ fun a xs H2 _ e2 h2 all => ⟨a, xs, rfl, .inl ⟨SqL.of h2, fun l hl => q _ _ (e2.trans (Ex.new hl)) (.tup upd_same (all.tk (tk_new hl)))⟩⟩
/-- all(l) of a list of truths -/
theorem dts_bools {H : Hp} : ∀ {xs : List V} {bs : List Bool}, DtAll H xs (bs.map .bool) → xs = bs.map V.bl
  | _, [], h => by cases h; rfl
  | _, b :: bs, h => by
    rw [List.map_cons] at h
    cases h with
    | cons h t => rw [List.map_cons, dt_bool h, ← dts_bools t]
theorem ev_all {bs : List Bool} (h : EvLd te σ H (bs.map .bool)) : Ev (tCB (rAll K) (tCons te tNil)) σ H (.bl (bs.all id)) := fun H1 e1 _ q =>
  h H1 e1 _ fun a xs H2 _ e2 h2 all => ⟨a, bs, rfl, by rw [← dts_bools all]; exact SqL.of h2, q H2 e2⟩
/-- isinstance -/
def isTup : PyData → Bool
  | .tuple _ => true
  | _ => false
def isInt : PyData → Bool
  | .int _ | .bool _ => true
  | _ => false
def isBool : PyData → Bool
  | .bool _ => true
  | _ => false
theorem dt_type (h : Dt H x d) : ∃ T : String, TyX K H x (.type T) ∧ kitB T "tuple" = some (isTup d) ∧ kitB T "int" = some (isInt d) ∧ kitB T "bool" = some (isBool d) := by
  cases h with
  | non => exact ⟨"NoneType", .base .non, by decide +kernel, by decide +kernel, by decide +kernel⟩
  | bl b => exact ⟨"bool", .base (.bl b), (by show kitB "bool" "tuple" = some false; decide +kernel), (by show kitB "bool" "int" = some true; decide +kernel), (by show kitB "bool" "bool" = some true; decide +kernel)⟩
  | int b => exact ⟨"int", .base (.int b), (by show kitB "int" "tuple" = some false; decide +kernel), (by show kitB "int" "int" = some true; decide +kernel), (by show kitB "int" "bool" = some false; decide +kernel)⟩
  | str b => exact ⟨"str", .base (.str b), (by show kitB "str" "tuple" = some false; decide +kernel), (by show kitB "str" "int" = some false; decide +kernel), (by show kitB "str" "bool" = some false; decide +kernel)⟩
  | tup h a => exact ⟨"tuple", .base (.tup h), (by show kitB "tuple" "tuple" = some true; decide +kernel), (by show kitB "tuple" "int" = some false; decide +kernel), (by show kitB "tuple" "bool" = some false; decide +kernel)⟩
theorem ev_isTup (ha : EvD ta σ H d) : Ev (tCB (rIsi K) (tCons ta (tCons (tC (.ty "tuple")) tNil))) σ H (.bl (isTup d)) := fun H1 e1 _ q =>
  ha H1 e1 _ fun x H2 e2 hx => by
    obtain ⟨T, ty, h, _, _⟩ := dt_type (K := K) hx
    exact ⟨x, .ty "tuple", .type T, .type "tuple", isTup d, rfl, .ty _, ty, kit_ty h, q H2 e2⟩
theorem ev_isInt (ha : EvD ta σ H d) : Ev (tCB (rIsi K) (tCons ta (tCons (tC (.ty "int")) tNil))) σ H (.bl (isInt d)) := fun H1 e1 _ q =>
  ha H1 e1 _ fun x H2 e2 hx => by
    obtain ⟨T, ty, _, h, _⟩ := dt_type (K := K) hx
    exact ⟨x, .ty "int", .type T, .type "int", isInt d, rfl, .ty _, ty, kit_ty h, q H2 e2⟩
theorem ev_isBool (ha : EvD ta σ H d) : Ev (tCB (rIsi K) (tCons ta (tCons (tC (.ty "bool")) tNil))) σ H (.bl (isBool d)) := fun H1 e1 _ q =>
  ha H1 e1 _ fun x H2 e2 hx => by
    obtain ⟨T, ty, _, _, h⟩ := dt_type (K := K) hx
    exact ⟨x, .ty "bool", .type T, .type "bool", isBool d, rfl, .ty _, ty, kit_ty h, q H2 e2⟩
/-- a pure def's promise: from such data to such data, nothing changed -/
def spD (ok : List PyData → PyData → Prop) : Sp := fun vs H Q _ => ∃ ds d, DtAll H vs ds ∧ ok ds d ∧ ∀ x H', Ex H H' → Dt H' x d → Q x H'
theorem ed_call {ok : List PyData → PyData → Prop} {E : XK} {ta : TA} (h : EvDs ta σ H ds) (hk : ok ds d) : EvD (tCall (spD ok) [] E ta) σ H d := fun H1 e1 Q q =>
  h H1 e1 _ fun xs H2 e2 hxs => by
    show spD ok (xs ++ []) H2 Q E
    rw [List.append_nil]
    exact ⟨ds, d, hxs, hk, fun x H3 e3 hx => q x H3 (e2.trans e3) hx⟩
/-! ### statements -/
variable {D : Ends} {tu tw : TS} {g : TG}
theorem sd_asg {i : Nat} (h : EvD te σ H d) (k : ∀ x H1, Ex H H1 → Dt H1 x d → D.nx (σ.set i (some x)) H1) : tAsg te (gName i) D σ H := h H (Ex.refl H) _ fun x H1 e hx => k x H1 e hx
theorem sd_ret (h : EvD te σ H d) (k : ∀ x H1, Ex H H1 → Dt H1 x d → D.rt x H1) : tRet te D σ H := h H (Ex.refl H) _ k
theorem gd_two {R : L2.St → Hp → Prop} {i j : Nat} {d1 d2 : PyData} (hx : Dt H x (.tuple [d1, d2])) (k : ∀ y z, Dt H y d1 → Dt H z d2 → R ((σ.set i (some y)).set j (some z)) H) : gTup K 2 (gCons (gName i) (gCons (gName j) gNil)) x σ H R := by
  obtain ⟨a, xs, rfl, h, all⟩ := dt_tup hx
  cases all with
  | cons h1 t =>
    cases t with
    | cons h2 t =>
      cases t
      exact ⟨a, _, rfl, SqT.of h, rfl, _, _, rfl, _, _, rfl, rfl, k _ _ h1 h2⟩
theorem sd_two {i j : Nat} {d1 d2 : PyData} (h : EvD te σ H (.tuple [d1, d2])) (k : ∀ y z H1, Ex H H1 → Dt H1 y d1 → Dt H1 z d2 → D.nx ((σ.set i (some y)).set j (some z)) H1) : tAsg te (gTup K 2 (gCons (gName i) (gCons (gName j) gNil))) D σ H :=
  h H (Ex.refl H) _ fun x H1 e hx => gd_two hx fun y z hy hz => k y z H1 e hy hz
theorem sd_par {ta : TA} {i j : Nat} {d1 d2 : PyData} (h : EvDs ta σ H [d1, d2]) (k : ∀ y z H1, Ex H H1 → Dt H1 y d1 → Dt H1 z d2 → D.nx ((σ.set i (some y)).set j (some z)) H1) : tPar i j ta D σ H :=
  h H (Ex.refl H) _ fun xs H1 e hx => by
    cases hx with
    | cons h1 t =>
      cases t with
      | cons h2 t =>
        cases t
        exact ⟨_, _, rfl, k _ _ H1 e h1 h2⟩
/-! ### comprehensions -/
def givD (n : Nat) (b : Nat → Bool) (f : Nat → PyData) : List PyData := ((List.range n).filter b).map f
theorem givD_yes {n : Nat} {b : Nat → Bool} {f : Nat → PyData} (h : b n = true) : givD (n + 1) b f = givD n b f ++ [f n] := by
  unfold givD
  rw [List.range_succ, List.filter_append, List.map_append, List.filter_cons, if_pos h]
  rfl
theorem givD_no {n : Nat} {b : Nat → Bool} {f : Nat → PyData} (h : b n = false) : givD (n + 1) b f = givD n b f := by
  unfold givD
  rw [List.range_succ, List.filter_append, List.map_append, List.filter_cons, if_neg (by rw [h]; decide)]
  simp
theorem givD_len (n : Nat) (b : Nat → Bool) (f : Nat → PyData) : (givD n b f).length ≤ n := by
  unfold givD
  rw [List.length_map]
  have h := List.length_filter_le b (List.range n)
  rw [List.length_range] at h
  exact h
theorem givD_all (n : Nat) (f : Nat → PyData) : givD n (fun _ => true) f = (List.range n).map f := by
  unfold givD
  rw [List.filter_eq_self.mpr fun _ _ => rfl]
def CwD (H : Hp) (b : Nat → Bool) (f : Nat → PyData) (L : Addr) (i : Nat) (H' : Hp) : Prop := H L = none ∧ Ex H H' ∧ ∃ acc, H' L = some (.lst acc) ∧ DtAll H' acc (givD i b f)
theorem cwd_turn {b : Nat → Bool} {f : Nat → PyData} {L : Addr} {i : Nat} {σ2 : L2.St} (p : CwD H b f L i H') (hi : i < 50000) (ht : EvT t σ2 H (b i)) (he : b i = true → EvD te σ2 H (f i)) :
    t σ2 H' fun c H3 => if c = true then te σ2 H3 fun y H4 => ∃ acc, H4 L = some (.lst acc) ∧ acc.length < sizeLine ∧ CwD H b f L (i + 1) (upd H4 L (.lst (acc ++ [y]))) else CwD H b f L (i + 1) H3 := by
  obtain ⟨p1, p2, acc, p3, p4⟩ := p
  refine ht H' p2 _ fun H3 e3 => ?_
  cases hb : b i with
  | true =>
    show te σ2 H3 fun y H4 => ∃ acc, H4 L = some (.lst acc) ∧ acc.length < sizeLine ∧ CwD H b f L (i + 1) (upd H4 L (.lst (acc ++ [y])))
    refine he hb H3 (p2.trans e3) _ fun y H4 e4 hy => ⟨acc, e4 L _ (e3 L _ p3), sz_lt (by rw [p4.len]; have := givD_len i b f; omega), p1, Ex.mut ((p2.trans e3).trans e4) p1, _, upd_same, ?_⟩
    have still : Tk H4 (upd H4 L (.lst (acc ++ [y]))) := tk_upd fun xs z => by
      rw [e4 L _ (e3 L _ p3)] at z
      cases z
    rw [givD_yes hb]
    exact ((p4.tk (tk_ex (e3.trans e4))).tk still).append (.cons (hy.tk still) .nil)
  | false =>
    show CwD H b f L (i + 1) H3
    refine ⟨p1, p2.trans e3, acc, e3 L _ p3, ?_⟩
    rw [givD_no hb]
    exact p4.tk (tk_ex e3)
/-- what a turn of a comprehension must show, its item x -/
def TurnD (g : TG) (t : TT) (te : TE) (vs : List Nat) (σ : L2.St) (H : Hp) (x : V) (b : Bool) (d : PyData) : Prop :=
  ∃ σ2, wipe σ2 vs = wipe σ vs ∧ (∀ H2, Ex H H2 → ∀ R : L2.St → Hp → Prop, R σ2 H2 → g x (wipe σ vs) H2 R) ∧ EvT t σ2 H b ∧ (b = true → EvD te σ2 H d)
theorem eld_lcT {vs : List Nat} (b : Nat → Bool) (f : Nat → PyData) (h : EvD tl σ H (.tuple ds)) (few : ds.length ≤ 40000) (each : ∀ i d x H1, Ex H H1 → ds[i]? = some d → Dt H1 x d → TurnD g t te vs σ H1 x (b i) (f i)) :
    EvLd (tLc (iTup K tl) g t te vs) σ H (givD ds.length b f) := fun H0 e0 Q q => h H0 e0 _ fun x H1 e1 hx => by
  obtain ⟨a, xs, rfl, hp, all⟩ := dt_tup hx
  refine ⟨a, rfl, ⟨xs, SqT.of hp⟩, fun L hL => ?_⟩
  refine lc_tup (xs := xs) (CwD H1 b f L) ⟨hL, Ex.new hL, [], upd_same, .nil⟩ (fun i H' _ p => SqT.of (p.2.1 _ _ hp)) (fun i y H' hi p => ?_) (fun H' p => ?_)
  · have lt : i < ds.length := by
      rw [← all.len]
      exact (List.getElem?_eq_some_iff.mp hi).1
    obtain ⟨y', hy', hd⟩ := all.get (List.getElem?_eq_getElem lt)
    rw [hi] at hy'
    cases hy'
    obtain ⟨σ2, w1, gok, ht, he⟩ := each i _ y H1 (e0.trans e1) (List.getElem?_eq_getElem lt) hd
    exact gok H' p.2.1 _ ⟨w1, cwd_turn p (by omega) ht he⟩
  · obtain ⟨p1, p2, acc, p3, p4⟩ := p
    rw [all.len] at p4
    exact q L acc H' (fresh_back e1 p1) (e1.trans p2) p3 p4
theorem eld_lcR {ta : TA} {vs : List Nat} {n : Nat} (b : Nat → Bool) (f : Nat → PyData) (h : EvA ta σ H [.int (n : Int)]) (few : n ≤ 40000) (each : ∀ i H1, Ex H H1 → i < n → TurnD g t te vs σ H1 (.int (i : Int)) (b i) (f i)) :
    EvLd (tLc (iRng1 ta) g t te vs) σ H (givD n b f) := fun H0 e0 Q q => h H0 e0 _ fun H1 e1 => by
  refine ⟨(n : Int), rfl, by omega, by omega, fun L hL => ?_⟩
  refine lc_range (lo := 0) (n := ((n : Nat) : Int).toNat) (CwD H1 b f L) ⟨hL, Ex.new hL, [], upd_same, .nil⟩ (fun i H' hi p => ?_) (fun H' p => ?_)
  · obtain ⟨σ2, w1, gok, ht, he⟩ := each i H1 (e0.trans e1) (by omega)
    have z : (0 : Int) + (i : Int) = (i : Int) := Int.zero_add _
    rw [z]
    exact gok H' p.2.1 _ ⟨w1, cwd_turn p (by omega) ht he⟩
  · obtain ⟨p1, p2, acc, p3, p4⟩ := p
    rw [Int.toNat_natCast] at p4
    exact q L acc H' (fresh_back e1 p1) (e1.trans p2) p3 p4
/-- the turn's target a name -/
theorem turn_name {vs : List Nat} {j : Nat} {b : Bool} (hw : wipe ((wipe σ vs).set j (some x)) vs = wipe σ vs) (ht : EvT t ((wipe σ vs).set j (some x)) H b) (he : b = true → EvD te ((wipe σ vs).set j (some x)) H d) : TurnD (gName j) t te vs σ H x b d :=
  ⟨_, hw, fun _ _ _ r => r, ht, he⟩
theorem et_yes {b : Bool} (h : b = true) : EvT (fun _ H Q => Q true H) σ H b := fun H1 _ _ q => by
  rw [h] at q
  exact q H1 (Ex.refl H1)
end
end K10
set_option Elab.async false
set_option linter.all false
set_option maxRecDepth 100000
set_option maxHeartbeats 4000000
namespace K10
open PySem PySem.Spec PyProof.Rows L2 Evl
theorem dts1 {H : Hp} {vs : List V} {a : PyData} (h : DtAll H vs [a]) : ∃ x, vs = [x] ∧ Dt H x a := by
  cases h with
  | cons h1 t => cases t; exact ⟨_, rfl, h1⟩
theorem dts2 {H : Hp} {vs : List V} {a b : PyData} (h : DtAll H vs [a, b]) : ∃ x y, vs = [x, y] ∧ Dt H x a ∧ Dt H y b := by
  cases h with
  | cons h1 t =>
    obtain ⟨y, rfl, h2⟩ := dts1 t
    exact ⟨_, _, rfl, h1, h2⟩
theorem dts3 {H : Hp} {vs : List V} {a b c : PyData} (h : DtAll H vs [a, b, c]) : ∃ x y z, vs = [x, y, z] ∧ Dt H x a ∧ Dt H y b ∧ Dt H z c := by
  cases h with
  | cons h1 t =>
    obtain ⟨y, z, rfl, h2, h3⟩ := dts2 t
    exact ⟨_, _, _, rfl, h1, h2, h3⟩
theorem ev_between {σ : L2.St} {H : Hp} {ta tb tc : TE} {a b c : Int} (ha : Ev ta σ H (.int a)) (hb : Ev tb σ H (.int b)) (hc : Ev tc σ H (.int c)) :
    Ev (tChain (rI0 fun i j => .bl (decide (i ≤ j))) (rI0 fun i j => .bl (decide (i ≤ j))) ta tb tc) σ H (.bl (decide (a ≤ b) && decide (b ≤ c))) := fun H1 e Q q =>
  ha H1 e _ fun H2 e2 => hb H2 (e.trans e2) _ fun H3 e3 => ⟨a, b, rfl, rfl, _, rfl, by
    by_cases h : a ≤ b
    · rw [decide_eq_true h, if_pos rfl]
      refine hc H3 ((e.trans e2).trans e3) _ fun H4 e4 => ⟨b, c, rfl, rfl, ?_⟩
      have z := q H4 ((e2.trans e3).trans e4)
      rw [decide_eq_true h, Bool.true_and] at z
      exact z
    · rw [decide_eq_false h, if_neg (by decide)]
      have z := q H3 (e2.trans e3)
      rw [decide_eq_false h, Bool.false_and] at z
      exact z⟩
/-- whether a value is an integer (no truth) from lo to hi -/
def between (d : PyData) (lo hi : Int) : Bool := match d with
  | .int n => decide (lo ≤ n) && decide (n ≤ hi)
  | _ => false
def okBetween (ds : List PyData) (d : PyData) : Prop := ∃ x lo hi, ds = [x, .int lo, .int hi] ∧ d = .bool (between x lo hi)
end K10
set_option Elab.async false
set_option linter.all false
set_option maxRecDepth 100000
set_option maxHeartbeats 4000000
namespace K10
open PySem PySem.Spec PyProof.Rows L2 Evl
theorem eld_is {σ : L2.St} {H : Hp} {te : TE} {ds es : List PyData} (h : EvLd te σ H ds) (e : ds = es) : EvLd te σ H es := e ▸ h
/-- how many items -/
def dlen : PyData → Nat
  | .tuple ds => ds.length
  | _ => 0
end K10
set_option Elab.async false
set_option linter.all false
set_option maxRecDepth 100000
set_option maxHeartbeats 4000000
namespace K10
open PySem PySem.Spec PyProof.Rows L2 Evl
abbrev intsD (ns : List Int) : PyData := .tuple (ns.map .int)
abbrev rowD (bs rs : List Int) : PyData := .tuple [intsD bs, intsD rs]
theorem dt_ints {H : Hp} {x : V} {ns : List Int} (h : Dt H x (intsD ns)) : ∃ a, x = .ref a ∧ H a = some (.tup (ns.map V.int)) := by
  obtain ⟨a, xs, rfl, h1, h2⟩ := dt_tup h
  rw [dts_ints h2] at h1
  exact ⟨a, rfl, h1⟩
theorem at_ints {ns : List Int} {i : Nat} (h : i < ns.length) : atI (ns.map PyData.int) (i : Int) = some (.int (ns.getD i 0)) := by
  refine atI_nat ?_
  rw [List.getElem?_map, List.getD_eq_getElem?_getD, List.getElem?_eq_getElem h]
  rfl
theorem ev_lenI {K : PySem.W.Frag} {σ : L2.St} {H : Hp} {ta : TE} {ns : List Int} (ha : EvD ta σ H (intsD ns)) : Ev (tCB (rLenS K) (tCons ta tNil)) σ H (.int ns.length) := by
  have z := ev_lenT (K := K) ha
  rw [List.length_map] at z
  exact z
theorem rc_int {σ : L2.St} {H : Hp} {ta : TE} {i : Int} (h : Ev ta σ H (.int i)) : Ev (tCB (fun xs H Q => (∃ i, xs = [.int i] ∧ Q (.int i) H) ∨ ∃ k, xs = [.bl k] ∧ Q (.int (if k then 1 else 0)) H) (tCons ta tNil)) σ H (.int i) := fun H1 e _ q =>
  h H1 e _ fun H2 e2 => .inl ⟨i, rfl, q H2 e2⟩
theorem mod_nat (bs rs : List Int) (i : Nat) (hr : rs ≠ []) (hi : ¬ i < bs.length) : ((i : Int) - (bs.length : Int)) % (rs.length : Int) = (((i - bs.length) % rs.length : Nat) : Int) := by
  have : (i : Int) - (bs.length : Int) = ((i - bs.length : Nat) : Int) := by omega
  rw [this]
  exact (Int.natCast_emod _ _).symm
def okEntry (ds : List PyData) (d : PyData) : Prop := ∃ (bs rs : List Int) (i : Nat), ds = [rowD bs rs, .int i] ∧ rs ≠ [] ∧ d = .int (ent bs rs i)
section
variable {P : Program} {w : World} {K : PySem.W.Frag} {mg : Str → Option Value} {base : Heap} {k : Nat} {f f1 f2 : Addr} {fd fd1 fd2 : FuncData}
theorem ev_entTail {H : Hp} {σ : L2.St} {tr ti : TE} {bs rs : List Int} {i : Nat} (hr : rs ≠ []) (hi : ¬ i < bs.length) (h1 : EvD tr σ H (intsD rs)) (h2 : Ev ti σ H (.int (((i - bs.length) % rs.length : Nat) : Int))) : Ev (tOp (rIxT K) tr ti) σ H (.int (ent bs rs i)) := by
  have hl : 0 < rs.length := List.length_pos_iff.mpr hr
  refine int_ed (ed_ix h1 h2 ?_)
  rw [at_ints (Nat.mod_lt _ hl)]
  unfold ent
  rw [if_neg hi]
theorem ev_entHead {H : Hp} {σ : L2.St} {tr ti : TE} {bs rs : List Int} {i : Nat} (hi : i < bs.length) (h1 : EvD tr σ H (intsD bs)) (h2 : Ev ti σ H (.int (i : Int))) : Ev (tOp (rIxT K) tr ti) σ H (.int (ent bs rs i)) := by
  refine int_ed (ed_ix h1 h2 ?_)
  rw [at_ints hi]
  unfold ent
  rw [if_pos hi]
theorem et_lt {H : Hp} {σ : L2.St} {ta tb : TE} {a b : Nat} (ha : Ev ta σ H (.int (a : Int))) (hb : Ev tb σ H (.int (b : Int))) : EvT (tTest (tOp (rI0 fun i j => .bl (decide (i < j))) ta tb)) σ H (decide (a < b)) := by
  refine et_is (et_test (ev_op ha hb rv_I0)) ?_
  by_cases h : a < b
  · rw [decide_eq_true h, decide_eq_true (by omega)]
  · rw [decide_eq_false h, decide_eq_false (by omega)]
end
end K10
set_option Elab.async false
set_option linter.all false
set_option maxRecDepth 100000
set_option maxHeartbeats 4000000
namespace K10
open PySem PySem.Spec PyProof.Rows L2 Evl
/-! ### least forms exist -/
theorem list_end {α : Type} {l : List α} (h : l ≠ []) : ∃ a x, l = a ++ [x] := ⟨l.dropLast, l.getLast h, (List.dropLast_concat_getLast h).symm⟩
/-! ### slices -/
section
variable {K : PySem.W.Frag} {σ : L2.St} {H : Hp} {ta tb te : TE}
theorem et_truT {ds : List PyData} (h : EvD te σ H (.tuple ds)) : EvT (fun σ H Q => te σ H fun x H' => ∃ k, TruV K x H' k ∧ Q k H') σ H (!ds.isEmpty) := fun H1 e _ q =>
  h H1 e _ fun x H2 e2 hx => by
    obtain ⟨a, xs, rfl, h1, all⟩ := dt_tup hx
    refine ⟨!xs.isEmpty, .inr (.inl ⟨xs, SqT.of h1, rfl⟩), ?_⟩
    have : xs.isEmpty = ds.isEmpty := by cases all <;> rfl
    rw [this]
    exact q H2 e2
end
end K10
set_option Elab.async false
set_option linter.all false
set_option maxRecDepth 100000
set_option maxHeartbeats 4000000
set_option Elab.async false
set_option linter.all false
set_option maxRecDepth 100000
set_option maxHeartbeats 4000000
set_option Elab.async false
set_option linter.all false
set_option maxRecDepth 100000
set_option maxHeartbeats 4000000
namespace K10
open PySem PySem.Spec PyProof.Rows L2 Evl
abbrev top : Int := 999999999999999999
end K10
set_option Elab.async false
set_option linter.all false
set_option maxRecDepth 100000
set_option maxHeartbeats 4000000
namespace K10
open PySem L2
abbrev Pl := Int × Int
def look (kn : List (Pl × Int)) (p : Pl) : Option Int := (kn.find? fun e => decide (e.1 = p)).map (·.2)
def hasP (kn : List (Pl × Int)) (p : Pl) : Bool := kn.any fun e => decide (e.1 = p)
def putP (kn : List (Pl × Int)) (p : Pl) (d : Int) : List (Pl × Int) := if hasP kn p = true then kn.map (fun e => if e.1 = p then (e.1, d) else e) else kn ++ [(p, d)]
/-- filled from an empty one -/
def mkP (es : List (Pl × Int)) : List (Pl × Int) := es.foldl (fun acc e => putP acc e.1 e.2) []
/-! ### in order -/
abbrev B0 : Int := 1000000000000000000
def cd (p : Pl) : Int := p.1 * B0 + p.2
/-! ### go together -/
def goes (k1 k2 : List (Pl × Int)) : Bool := k2.all fun e => decide ((look (mkP k1) e.1).getD e.2 = e.2)
/-! ### both -/
end K10
set_option Elab.async false
set_option linter.all false
set_option maxRecDepth 100000
set_option maxHeartbeats 4000000
set_option Elab.async false
set_option linter.all false
set_option maxRecDepth 100000
set_option maxHeartbeats 4000000
namespace K10
open PySem PySem.Spec PyProof.Rows L2 Evl
theorem getD_at {α : Type} {l : List α} {i : Nat} {x z : α} (h : l[i]? = some x) : l.getD i z = x := by
  rw [List.getD_eq_getElem?_getD, h]
  rfl
theorem map_at {α β : Type} {l : List α} {f : α → β} {i : Nat} {y : β} (h : (l.map f)[i]? = some y) : ∃ x, l[i]? = some x ∧ f x = y := by
  rw [List.getElem?_map] at h
  exact Option.map_eq_some_iff.mp h
section
variable {K : PySem.W.Frag} {σ : L2.St} {H : Hp} {ta te : TE}
theorem tupB {X : Cx} : CallR X (.type "tuple") (rTupOf X.K) := call_tuple_of
end
end K10
set_option Elab.async false
set_option linter.all false
set_option maxRecDepth 100000
set_option maxHeartbeats 4000000
namespace K10
open PySem PySem.Spec PyProof.Rows L2 Evl
theorem st_left {l s : Int} {c : Addr} {p : Int} : valV (stK l s c p) (Sum.inr "left") = some (.int l) := rfl
theorem st_seed {l s : Int} {c : Addr} {p : Int} : valV (stK l s c p) (Sum.inr "seed") = some (.int s) := rfl
theorem st_cells {l s : Int} {c : Addr} {p : Int} : valV (stK l s c p) (Sum.inr "cells") = some (.ref c) := rfl
theorem st_spot {l s : Int} {c : Addr} {p : Int} : valV (stK l s c p) (Sum.inr "spot") = some (.int p) := rfl
theorem put_left {l s l' : Int} {c : Addr} {p : Int} : putK (stK l s c p) (Sum.inr "left") (.int l') = stK l' s c p := rfl
theorem put_spot {l s p' : Int} {c : Addr} {p : Int} : putK (stK l s c p) (Sum.inr "spot") (.int p') = stK l s c p' := rfl
/-- at most n spots are spent -/
def Mok (H : Hp) (m c : Addr) (n : Nat) : Prop := ∃ (l s p : Int) (cs : List Int), H m = some (.dK (stK l s c p)) ∧ H c = some (.lst (cs.map V.int)) ∧ cs ≠ [] ∧ 0 ≤ p ∧ p ≤ n
theorem Mok.ex {H H' : Hp} {m c : Addr} {n : Nat} (e : Ex H H') : Mok H m c n → Mok H' m c n := fun ⟨l, s, p, cs, h1, h2, r⟩ => ⟨l, s, p, cs, e _ _ h1, e _ _ h2, r⟩
theorem Mok.mono {H : Hp} {m c : Addr} {n n' : Nat} (h : n ≤ n') : Mok H m c n → Mok H m c n' := fun ⟨l, s, p, cs, h1, h2, h3, h4, h5⟩ => ⟨l, s, p, cs, h1, h2, h3, h4, by omega⟩
theorem Mok.free {H : Hp} {m c L : Addr} {n : Nat} (h : H L = none) : Mok H m c n → m ≠ L ∧ c ≠ L := fun ⟨l, s, p, cs, h1, h2, _⟩ => ⟨ne_of_none h1 h, ne_of_none h2 h⟩
theorem Mok.upd {H : Hp} {m c L : Addr} {o : HO} {n : Nat} (ne : m ≠ L ∧ c ≠ L) : Mok H m c n → Mok (upd H L o) m c n := fun ⟨l, s, p, cs, h1, h2, r⟩ => ⟨l, s, p, cs, by rw [upd_ne ne.1]; exact h1, by rw [upd_ne ne.2]; exact h2, r⟩
def spDraw : Sp := fun vs H Q _ => ∃ (m c : Addr) (b : Int) (n : Nat), vs = [.ref m, .int b] ∧ Mok H m c n ∧ n < 1000000 ∧ 1 ≤ b ∧ b ≤ 1000000000 ∧
  ∀ (d : Int) (H' : Hp), 0 ≤ d → d < b → Kin H H' → Mok H' m c (n + 1) → Q (.int d) H'
section
variable {K : PySem.W.Frag} {σ : L2.St} {H H' : Hp} {ta tb te td : TE} {v : V} {m : Addr} {n : Nat}
theorem ev_kget {kvs : List (Key × V)} {s : Str} (hd : Ev td σ H (.ref m)) (hm : H m = some (.dK kvs)) (hv : valV kvs (Sum.inr s) = some v) : Ev (tDGet td (tC (.str s))) σ H v := fun H1 e1 Q q =>
  hd H1 e1 _ fun H2 e2 => ⟨m, v, rfl, by
    have z := DGet.k (k := (Sum.inr s : Key)) ((e1.trans e2) _ _ hm)
    rw [hv] at z
    exact z, q H2 e2⟩
theorem kin_dk {l s p : Int} {c : Addr} {kvs' : List (Key × V)} (h : H m = some (.dK (stK l s c p))) : Kin H (upd H m (.dK kvs')) := fun a o ha no => by
  by_cases e : a = m
  · subst e
    rw [h] at ha
    cases ha
    exact absurd rfl (no ((l, s), c, p))
  · rw [upd_ne e]
    exact ha
theorem q_kput {kvs : List (Key × V)} {s : Str} {tv : TE} {D : Ends} {tz : TS} (hv : Ev tv σ H v) (hd : Ev td σ H (.ref m)) (hm : H m = some (.dK kvs)) (few : kvs.length ≤ 100)
    (k : ∀ H1, Ex H H1 → tz D σ (upd H1 m (.dK (putK kvs (Sum.inr s) v)))) : tSeq (sDPut td (tC (.str s)) tv) tz D σ H :=
  hv H (Ex.refl H) _ fun H1 e1 => hd H1 e1 _ fun H2 e2 => ⟨m, _, rfl, DPut.k (k := (Sum.inr s : Key)) ((e1.trans e2) _ _ hm) (sz_lt (by omega)), k H2 (e1.trans e2)⟩
theorem q_par {ta : TA} {i j : Nat} {x y : V} {D : Ends} {tz : TS} (h : EvA ta σ H [x, y]) (k : ∀ H1, Ex H H1 → tz D ((σ.set i (some x)).set j (some y)) H1) : tSeq (tPar i j ta) tz D σ H :=
  h H (Ex.refl H) _ fun H1 e1 => ⟨x, y, rfl, k H1 e1⟩
theorem mod_lt {a b : Int} (h : 1 ≤ b) : 0 ≤ a % b ∧ a % b < b := ⟨Int.emod_nonneg _ (by omega), Int.emod_lt_of_pos _ (by omega)⟩
end
end K10
set_option Elab.async false
set_option linter.all false
set_option maxRecDepth 100000
set_option maxHeartbeats 4000000
namespace K10
open PySem PySem.Spec PyProof.Rows L2 Evl
section
variable {K : PySem.W.Frag} {σ : L2.St} {H H' : Hp} {ta tb te td : TE} {v : V} {m : Addr} {n : Nat} {xs ys : List V}
theorem el_cat (ha : EvL ta σ H xs) (hb : EvL tb σ H ys) (few : xs.length + ys.length ≤ 100000) : EvL (tOp rCat ta tb) σ H (xs ++ ys) := fun H1 e1 Q q =>
  ha H1 e1 _ fun a H2 na e2 h2 => hb H2 (e1.trans e2) _ fun b H3 nb e3 h3 => ⟨a, b, xs, ys, rfl, rfl, e3 _ _ h2, h3, sz_of few, fun p hp => q p _ (fresh_back (e2.trans e3) hp) ((e2.trans e3).trans (Ex.new hp)) upd_same⟩
theorem el_cat1 {a : Addr} (ha : Ev ta σ H (.ref a)) (h : H a = some (.lst xs)) (hb : EvL tb σ H ys) (few : xs.length + ys.length ≤ 100000) : EvL (tOp rCat ta tb) σ H (xs ++ ys) := fun H1 e1 Q q =>
  ha H1 e1 _ fun H2 e2 => hb H2 (e1.trans e2) _ fun b H3 nb e3 h3 => ⟨a, b, xs, ys, rfl, rfl, ((e1.trans e2).trans e3) _ _ h, h3, sz_of few, fun p hp => q p _ (fresh_back (e2.trans e3) hp) ((e2.trans e3).trans (Ex.new hp)) upd_same⟩
def Ints (xs : List V) : Prop := ∃ ns : List Int, xs = ns.map V.int
theorem ints_map (ns : List Int) : Ints (ns.map V.int) := ⟨ns, rfl⟩
theorem ints_cut {lo hi : Option Int} : Ints xs → Ints (cutV xs lo hi) := fun ⟨ns, h⟩ => by
  subst h
  exact ⟨_, by unfold cutV; rw [← List.map_drop, ← List.map_take]⟩
theorem ints_cat : Ints xs → Ints ys → Ints (xs ++ ys) := fun ⟨a, h⟩ ⟨b, h2⟩ => ⟨a ++ b, by rw [h, h2, List.map_append]⟩
theorem cut_len (lo hi : Option Int) : (cutV xs lo hi).length ≤ xs.length := by
  unfold cutV
  rw [List.length_take, List.length_drop]
  omega
theorem ints_get (h : Ints xs) {i : Nat} (lt : i < xs.length) : ∃ z, xs[i]? = some (.int z) := by
  obtain ⟨ns, rfl⟩ := h
  rw [List.length_map] at lt
  exact ⟨ns[i], by rw [List.getElem?_map, List.getElem?_eq_getElem lt]; rfl⟩
end
end K10
set_option Elab.async false
set_option linter.all false
set_option maxRecDepth 100000
set_option maxHeartbeats 4000000
namespace K10
open PySem PySem.Spec PyProof.Rows L2 Evl
theorem Kin.mut {H H1 : Hp} {p : Addr} {o : HO} (e : Kin H H1) (h : H p = none) : Kin H (upd H1 p o) := fun a u ha no => by
  rw [upd_ne (ne_of_none ha h)]
  exact e a u ha no
/-! ### what draws, and then stands for such data: its kind told by P -/
def EvM (m c : Addr) (te : TE) (σ : L2.St) (H : Hp) (n n' : Nat) (P : PyData → Prop) : Prop := ∀ H1, Kin H H1 → Mok H1 m c n → ∀ Q : VK, (∀ x d H2, P d → Kin H1 H2 → Mok H2 m c n' → Dt H2 x d → Q x H2) → te σ H1 Q
def EvMs (m c : Addr) (ta : TA) (σ : L2.St) (H : Hp) (n n' : Nat) (P : List PyData → Prop) : Prop := ∀ H1, Kin H H1 → Mok H1 m c n → ∀ Q : List V → Hp → Prop, (∀ xs ds H2, P ds → Kin H1 H2 → Mok H2 m c n' → DtAll H2 xs ds → Q xs H2) → ta σ H1 Q
def EvMl (m c : Addr) (te : TE) (σ : L2.St) (H : Hp) (n n' : Nat) (P : List PyData → Prop) : Prop := ∀ H1, Kin H H1 → Mok H1 m c n → ∀ Q : VK, (∀ p xs ds H2, P ds → Kin H1 H2 → Mok H2 m c n' → H2 p = some (.lst xs) → DtAll H2 xs ds → Q (.ref p) H2) → te σ H1 Q
/-- a def's promise: it draws at most t times -/
def spM (t : Nat) (ok : List PyData → (PyData → Prop) → Prop) : Sp := fun vs H Q _ => ∃ (m c : Addr) (n : Nat) (xs : List V) (ds : List PyData) (P : PyData → Prop), vs = .ref m :: xs ∧ DtAll H xs ds ∧ ok ds P ∧ Mok H m c n ∧ n + t < 1000000 ∧
  ∀ x d H', P d → Kin H H' → Mok H' m c (n + t) → Dt H' x d → Q x H'
section
variable {K : PySem.W.Frag} {σ : L2.St} {H H' : Hp} {ta tb te td tx : TE} {v x : V} {m c : Addr} {n n' n1 n2 : Nat} {P P1 P2 : PyData → Prop} {PP PP' : List PyData → Prop} {d : PyData} {ds es : List PyData} {g : TG}
theorem em_of (h : ∀ H1, Kin H H1 → EvD te σ H1 d) (p : P d) : EvM m c te σ H n n P := fun H1 e1 mk Q q => h H1 e1 H1 (Ex.refl _) Q fun x H2 e2 hx => q x d H2 p (kin_ex e2) (mk.ex e2) hx
theorem EvM.up (h : EvM m c te σ H n n1 P) (le : n1 ≤ n2) : EvM m c te σ H n n2 P := fun H1 e1 mk Q q => h H1 e1 mk Q fun x d H2 p e2 mk2 hx => q x d H2 p e2 (mk2.mono le) hx
theorem EvM.kin (h : EvM m c te σ H n n1 P) (e : Kin H H') : EvM m c te σ H' n n1 P := fun H1 e1 mk Q q => h H1 (e.trans e1) mk Q q
/-- an int below b -/
def Below (b : Int) (d : PyData) : Prop := ∃ z : Int, d = .int z ∧ 0 ≤ z ∧ z < b
theorem em_draw {i : Nat} {b : Int} {E : XK} (hi : σ[i]? = some (some (.ref m))) (h : ∀ H1, Kin H H1 → Ev tb σ H1 (.int b)) (b1 : 1 ≤ b) (b2 : b ≤ 1000000000) (few : n < 1000000) : EvM m c (tCall spDraw [] E (tCons (tVar i) (tCons tb tNil))) σ H n (n + 1) (Below b) := fun H1 e1 mk Q q =>
  ⟨_, hi, h H1 e1 H1 (Ex.refl _) _ fun H2 e2 => ⟨m, c, b, n, rfl, mk.ex e2, few, b1, b2, fun d H' d0 d1 e3 mk3 => q _ _ H' ⟨d, rfl, d0, d1⟩ ((kin_ex e2).trans e3) mk3 (.int d)⟩⟩
theorem em_call {i : Nat} {t : Nat} {ok : List PyData → (PyData → Prop) → Prop} {tr : TA} {E : XK} (hi : σ[i]? = some (some (.ref m))) (h : ∀ H1, Kin H H1 → EvDs tr σ H1 ds) (hk : ok ds P) (few : n + t < 1000000) : EvM m c (tCall (spM t ok) [] E (tCons (tVar i) tr)) σ H n (n + t) P := fun H1 e1 mk Q q =>
  ⟨_, hi, h H1 e1 H1 (Ex.refl _) _ fun xs H2 e2 hxs => ⟨m, c, n, xs, ds, P, by rw [List.append_nil], hxs, hk, mk.ex e2, few, fun x d H' p e3 mk3 hx => q x d H' p ((kin_ex e2).trans e3) mk3 hx⟩⟩
/-- an operator on two such -/
theorem em_op {r : R2} (ha : EvM m c ta σ H n n1 P1) (hb : EvM m c tb σ H n1 n2 P2) (h : ∀ x y d e H1, P1 d → P2 e → Dt H1 x d → Dt H1 y e → ∃ f, P f ∧ EvD (tOp r (tVar 0) (tVar 1)) [some x, some y] H1 f) : EvM m c (tOp r ta tb) σ H n n2 P := fun H1 e1 mk Q q =>
  ha H1 e1 mk _ fun x d H2 p1 e2 mk2 hx => hb H2 (e1.trans e2) mk2 _ fun y e H3 p2 e3 mk3 hy => by
    obtain ⟨f, pf, hf⟩ := h x y d e H3 p1 p2 (hx.tk (tk_kin e3)) hy
    have z := hf H3 (Ex.refl _) Q fun z H4 e4 hz => q z f H4 pf ((e2.trans e3).trans (kin_ex e4)) (mk3.ex e4) hz
    obtain ⟨_, z1, _, z2, z3⟩ := z
    cases z1
    cases z2
    exact z3
theorem ems_nil (p : PP []) : EvMs m c tNil σ H n n PP := fun H1 e1 mk Q q => q [] [] H1 p (Kin.refl _) mk .nil
theorem ems_cons {tr : TA} (h : EvM m c te σ H n n1 P) (hr : EvMs m c tr σ H n1 n2 PP) (hp : ∀ d ds, P d → PP ds → PP' (d :: ds)) : EvMs m c (tCons te tr) σ H n n2 PP' := fun H1 e1 mk Q q =>
  h H1 e1 mk _ fun x d H2 p e2 mk2 hx => hr H2 (e1.trans e2) mk2 _ fun xs ds H3 pp e3 mk3 hxs => q (x :: xs) (d :: ds) H3 (hp d ds p pp) (e2.trans e3) mk3 (.cons (hx.tk (tk_kin e3)) hxs)
theorem em_tup {tr : TA} (h : EvMs m c tr σ H n n1 PP) (hp : ∀ ds, PP ds → ds.length ≤ 1000 ∧ P (.tuple ds)) : EvM m c (tTup tr) σ H n n1 P := fun H1 e1 mk Q q =>
  h H1 e1 mk _ fun xs ds H2 pp e2 mk2 hxs => ⟨sz_of (by rw [hxs.len]; have := (hp ds pp).1; omega), fun p np => q (.ref p) (.tuple ds) _ (hp ds pp).2 (e2.trans (kin_ex (Ex.new np))) (mk2.ex (Ex.new np)) (.tup upd_same (hxs.tk (tk_new np)))⟩
theorem eml_lst {tr : TA} (h : EvMs m c tr σ H n n1 PP) (hp : ∀ ds, PP ds → ds.length ≤ 1000) : EvMl m c (tLst tr) σ H n n1 PP := fun H1 e1 mk Q q =>
  h H1 e1 mk _ fun xs ds H2 pp e2 mk2 hxs => ⟨sz_of (by rw [hxs.len]; have := (hp ds pp); omega), fun p np => q p xs ds _ pp (e2.trans (kin_ex (Ex.new np))) (mk2.ex (Ex.new np)) upd_same (hxs.tk (tk_new np))⟩
theorem em_tupOf (h : EvMl m c te σ H n n1 PP) (hp : ∀ ds, PP ds → P (.tuple ds)) : EvM m c (tCB (rTupOf K) (tCons te tNil)) σ H n n1 P := fun H1 e1 mk Q q =>
  h H1 e1 mk _ fun p xs ds H2 pp e2 mk2 hL hxs => ⟨p, xs, rfl, .inl ⟨SqL.of hL, fun l hl => q (.ref l) (.tuple ds) _ (hp ds pp) (e2.trans (kin_ex (Ex.new hl))) (mk2.ex (Ex.new hl)) (.tup upd_same (hxs.tk (tk_new hl)))⟩⟩
/-- so many things, each of this kind -/
def Each (P : PyData → Prop) (n : Nat) (ds : List PyData) : Prop := ds.length = n ∧ ∀ d ∈ ds, P d
/-- the invariant of such a comprehension -/
def CwM (m c : Addr) (H : Hp) (P : PyData → Prop) (L : Addr) (n t i : Nat) (H' : Hp) : Prop := H L = none ∧ Kin H H' ∧ Mok H' m c (n + t * i) ∧ (m ≠ L ∧ c ≠ L) ∧ ∃ acc ds, H' L = some (.lst acc) ∧ DtAll H' acc ds ∧ Each P i ds
theorem tk_lst {H4 : Hp} {L : Addr} {acc acc' : List V} (h : H4 L = some (.lst acc)) : Tk H4 (upd H4 L (.lst acc')) := tk_upd fun xs z => by
  rw [h] at z
  cases z
theorem cwm_turn {L : Addr} {t i : Nat} {σ2 : L2.St} (p : CwM m c H P L n t i H') (hi : i < 50000) (he : EvM m c te σ2 H (n + t * i) (n + t * i + t) P) : te σ2 H' fun y H4 => ∃ acc, H4 L = some (.lst acc) ∧ acc.length < sizeLine ∧ CwM m c H P L n t (i + 1) (upd H4 L (.lst (acc ++ [y]))) := by
  obtain ⟨p1, p2, p3, p4, acc, ds, p5, p6, p7⟩ := p
  refine he H' p2 p3 _ fun y d H4 pd e4 mk4 hy => ?_
  have hL : H4 L = some (.lst acc) := e4 L _ p5 fun _ z => nomatch z
  have still : Tk H4 (upd H4 L (.lst (acc ++ [y]))) := tk_lst hL
  refine ⟨acc, hL, sz_lt (by rw [p6.len, p7.1]; omega), p1, (p2.trans e4).mut p1, ?_, p4, _, ds ++ [d], upd_same, ?_, ?_⟩
  · have e : n + t * (i + 1) = n + t * i + t := by rw [Nat.mul_add, Nat.mul_one, Nat.add_assoc]
    rw [e]
    exact mk4.upd p4
  · exact ((p6.tk (tk_kin e4)).tk still).append (.cons (hy.tk still) .nil)
  · refine ⟨by rw [List.length_append, p7.1]; rfl, fun d' hd => ?_⟩
    rcases List.mem_append.mp hd with h | h
    · exact p7.2 d' h
    · cases List.mem_singleton.mp h
      exact pd
/-- [te for i in range(tx)], the range's end drawn too -/
theorem eml_lcR {tr : TA} {vs : List Nat} {j t top : Nat} {pk : Nat → Prop} (h : EvMs m c tr σ H n n1 fun ds => ∃ k : Nat, ds = [.int k] ∧ pk k) (low : ∀ k, pk k → k ≤ top) (small : top ≤ 1000) (hw : ∀ x, wipe ((wipe σ vs).set j (some x)) vs = wipe σ vs)
    (each : ∀ i H1, i < top → Kin H H1 → EvM m c te ((wipe σ vs).set j (some (.int (i : Nat)))) H1 (n1 + t * i) (n1 + t * i + t) P) : EvMl m c (tLc (iRng1 tr) (gName j) tYes te vs) σ H n (n1 + t * top) fun ds => ∃ k, pk k ∧ Each P k ds := fun H1 e1 mk Q q =>
  h H1 e1 mk _ fun xs ds H2 pp e2 mk2 hxs => by
    obtain ⟨k, rfl, pk'⟩ := pp
    have hk := low k pk'
    cases hxs with
    | cons h1 tl =>
      cases tl
      cases dt_int h1
      refine ⟨(k : Int), rfl, by omega, by omega, fun L hL => ?_⟩
      have mk3 : Mok (upd H2 L (.lst [])) m c n1 := mk2.ex (Ex.new hL)
      refine lc_range (lo := 0) (n := ((k : Nat) : Int).toNat) (CwM m c H2 P L n1 t) ⟨hL, kin_ex (Ex.new hL), mk3.mono (by omega), mk2.free hL, [], [], upd_same, .nil, rfl, fun d hd => by cases hd⟩ (fun i H' hi p => ?_) (fun H' p => ?_)
      · have z : (0 : Int) + (i : Int) = (i : Int) := Int.zero_add _
        rw [z]
        refine ⟨hw _, ?_⟩
        unfold tYes
        dsimp only
        rw [if_pos rfl]
        exact cwm_turn p (by omega) (each i H2 (by omega) (e1.trans e2))
      · obtain ⟨p1, p2, p3, p4, acc, ds, p5, p6, p7⟩ := p
        rw [Int.toNat_natCast] at p3 p7
        exact q L acc ds H' ⟨k, pk', p7⟩ (e2.trans p2) (p3.mono (Nat.add_le_add_left (Nat.mul_le_mul_left t hk) _)) p5 p6
/-! statements -/
variable {D : Ends} {tz : TS} {i : Nat}
theorem qm_asg (mk : Mok H m c n) (h : EvM m c te σ H n n1 P) (k : ∀ x d H1, P d → Kin H H1 → Mok H1 m c n1 → Dt H1 x d → tz D (σ.set i (some x)) H1) : tSeq (tAsg te (gName i)) tz D σ H := h H (Kin.refl _) mk _ fun x d H1 p e1 mk1 hx => k x d H1 p e1 mk1 hx
theorem qm_asgL (mk : Mok H m c n) (h : EvMl m c te σ H n n1 PP) (k : ∀ p xs ds H1, PP ds → Kin H H1 → Mok H1 m c n1 → H1 p = some (.lst xs) → DtAll H1 xs ds → tz D (σ.set i (some (.ref p))) H1) : tSeq (tAsg te (gName i)) tz D σ H := h H (Kin.refl _) mk _ fun p xs ds H1 pp e1 mk1 hp hx => k p xs ds H1 pp e1 mk1 hp hx
theorem sm_ret (mk : Mok H m c n) (h : EvM m c te σ H n n1 P) (k : ∀ x d H1, P d → Kin H H1 → Mok H1 m c n1 → Dt H1 x d → D.rt x H1) : tRet te D σ H := h H (Kin.refl _) mk _ fun x d H1 p e1 mk1 hx => k x d H1 p e1 mk1 hx
/-! digits -/
def Dg (size : Int) (lo hi : Nat) (d : PyData) : Prop := ∃ ns : List Int, d = intsD ns ∧ lo ≤ ns.length ∧ ns.length ≤ hi ∧ ∀ x ∈ ns, 0 ≤ x ∧ x < size
def IsRow (size : Int) (N M : Nat) (d : PyData) : Prop := ∃ bs rs : List Int, d = rowD bs rs ∧ bs.length ≤ N ∧ 1 ≤ rs.length ∧ rs.length ≤ M ∧ (∀ x ∈ bs, 0 ≤ x ∧ x < size) ∧ ∀ x ∈ rs, 0 ≤ x ∧ x < size
theorem each_ints {size : Int} : ∀ {ds : List PyData} {k : Nat}, Each (Below size) k ds → ∃ ns : List Int, ds = ns.map .int ∧ ns.length = k ∧ ∀ x ∈ ns, 0 ≤ x ∧ x < size
  | [], k, h => ⟨[], rfl, h.1, fun x hx => by cases hx⟩
  | d :: ds, k, h => by
    obtain ⟨h1, h2⟩ := h
    obtain ⟨ns, rfl, e2, e3⟩ := each_ints (ds := ds) (k := ds.length) ⟨rfl, fun d hd => h2 d (List.mem_cons_of_mem _ hd)⟩
    obtain ⟨z, rfl, z0, z1⟩ := h2 d List.mem_cons_self
    refine ⟨z :: ns, rfl, by rw [List.length_cons, e2]; exact h1, fun x hx => ?_⟩
    rcases List.mem_cons.mp hx with rfl | hx
    · exact ⟨z0, z1⟩
    · exact e3 x hx
theorem each_dg {size : Int} {ds : List PyData} {k lo hi : Nat} (h : Each (Below size) k ds) (h1 : lo ≤ k) (h2 : k ≤ hi) : Dg size lo hi (.tuple ds) := by
  obtain ⟨ns, rfl, e, r⟩ := each_ints h
  exact ⟨ns, rfl, by omega, by omega, r⟩
theorem cut_ints (ns : List Int) (lo hi : Option Int) : cutD (ns.map PyData.int) lo hi = (cutD ns lo hi).map .int := by
  unfold cutD
  rw [List.length_map, ← List.map_drop, ← List.map_take]
end
end K10
set_option Elab.async false
set_option linter.all false
set_option maxRecDepth 100000
set_option maxHeartbeats 4000000
namespace K10
open PySem PySem.Spec PyProof.Rows L2 Evl
theorem sq_kin {K : PySem.W.Frag} {H H' : Hp} {a : Addr} {xs : List V} (e : Kin H H') : SqL K H a xs → SqL K H' a xs
  | .inl (.inl h) => .inl (.inl (e _ _ h fun _ z => nomatch z))
  | .inl (.inr ⟨o, h⟩) => .inl (.inr ⟨o, e _ _ h fun _ z => nomatch z⟩)
  | .inr h => .inr h
theorem Below.nat {b : Nat} {d : PyData} : Below b d → ∃ k : Nat, d = .int k ∧ k < b := fun ⟨z, h, h0, h1⟩ => ⟨z.toNat, by rw [h]; congr 1; omega, by omega⟩
theorem rc_tk {H H' : Hp} {x : V} {d : PyData} (e : Kin H H') (h : Dt H x d) : Dt H' x d := h.tk (tk_kin e)
theorem em_zero {m c : Addr} {te : TE} {σ : L2.St} {H : Hp} {n n1 : Nat} {b z : Int} (h : EvM m c te σ H n n1 (Below b)) : EvM m c (tOp rEq te (tC (.int z))) σ H n n1 fun d => ∃ b, d = .bool b :=
  em_op h (em_of (d := .int z) (P := fun d => d = .int z) (fun H1 _ => ed_int ev_c) rfl) fun x y d e H1 p1 p2 hx hy => by
    obtain ⟨k, rfl, _⟩ := p1
    subst p2
    cases dt_int hx
    cases dt_int hy
    exact ⟨_, ⟨_, rfl⟩, ed_bool (ev_op (ev_var rfl) (ev_var rfl) (rv_eq rfl))⟩
end K10
set_option Elab.async false
set_option linter.all false
set_option maxRecDepth 100000
set_option maxHeartbeats 4000000
set_option Elab.async false
set_option linter.all false
set_option maxRecDepth 100000
set_option maxHeartbeats 4000000
namespace K10
open PySem PySem.Spec PyProof.Rows L2 Evl
/-! ### data that can be shown -/
structure Fine (n t : Nat) (d : PyData) : Prop where
  sh : d.showable = true
  nd : d.hasDict = false
  deep : d.depth ≤ t
  short : PyData.leavesShort 24 d = true
  bulk : d.bulk ≤ n
structure FineAll (n t : Nat) (ds : List PyData) : Prop where
  sh : PyData.showableAll ds = true
  nd : PyData.hasDictAll ds = false
  deep : PyData.depthAll ds ≤ t
  short : PyData.leavesShortAll 24 ds = true
  bulk : PyData.bulkAll ds ≤ n
theorem Fine.up {n t n' t' : Nat} {d : PyData} (h : Fine n t d) (hn : n ≤ n') (ht : t ≤ t') : Fine n' t' d := ⟨h.sh, h.nd, Nat.le_trans h.deep ht, h.short, Nat.le_trans h.bulk hn⟩
theorem FineAll.up {n t n' t' : Nat} {d : List PyData} (h : FineAll n t d) (hn : n ≤ n') (ht : t ≤ t') : FineAll n' t' d := ⟨h.sh, h.nd, Nat.le_trans h.deep ht, h.short, Nat.le_trans h.bulk hn⟩
theorem fa_nil : FineAll 0 0 [] := ⟨rfl, rfl, Nat.le_refl _, rfl, Nat.le_refl _⟩
theorem fa_cons {n t n' t' : Nat} {d : PyData} {ds : List PyData} (h : Fine n t d) (hs : FineAll n' t' ds) : FineAll (n + 1 + n') (max t t') (d :: ds) := by
  refine ⟨?_, ?_, ?_, ?_, ?_⟩
  · rw [PyData.showableAll.eq_2, h.sh, hs.sh]; rfl
  · rw [PyData.hasDictAll.eq_2, h.nd, hs.nd]; rfl
  · rw [PyData.depthAll.eq_2]
    have := h.deep
    have := hs.deep
    omega
  · rw [PyData.leavesShortAll.eq_2, h.short, hs.short]; rfl
  · rw [PyData.bulkAll.eq_2]
    have := h.bulk
    have := hs.bulk
    omega
theorem fa_each {n t : Nat} : ∀ {ds : List PyData}, (∀ d ∈ ds, Fine n t d) → FineAll ((n + 1) * ds.length) t ds
  | [], _ => fa_nil.up (Nat.zero_le _) (Nat.zero_le _)
  | d :: ds, h => (fa_cons (h d List.mem_cons_self) (fa_each fun e he => h e (List.mem_cons_of_mem _ he))).up (by rw [List.length_cons, Nat.mul_add]; omega) (by omega)
theorem f_tuple {n t : Nat} {ds : List PyData} (h : FineAll n t ds) : Fine n (t + 1) (.tuple ds) := ⟨h.sh, h.nd, Nat.succ_le_succ h.deep, h.short, h.bulk⟩
theorem f_list {n t : Nat} {ds : List PyData} (h : FineAll n t ds) : Fine n (t + 1) (.list ds) := ⟨h.sh, h.nd, Nat.succ_le_succ h.deep, h.short, h.bulk⟩
theorem f_int {i : Int} (h1 : -10000000000000000000 < i) (h2 : i < 10000000000000000000) : Fine 0 0 (.int i) := by
  have hn : i.natAbs < 10 ^ 19 := by omega
  refine ⟨?_, rfl, Nat.le_refl _, ?_, Nat.le_refl _⟩
  · rw [PyData.showable.eq_4]
    refine decide_eq_true ?_
    by_cases z : i.natAbs = 0
    · rw [z]
      decide
    · exact (Nat.log2_lt z).mpr (Nat.lt_of_lt_of_le hn (by decide +kernel))
  · rw [PyData.leavesShort.eq_3, PyData.shown_int]
    have e := int_text_length_le10 (k := 19) (by decide) hn
    have e2 := PySem.ofString_length (toString i)
    exact decide_eq_true (by omega)
section
variable {K : PySem.W.Frag} {σ : L2.St} {H H' : Hp} {te : TE} {ds : List PyData} {n t : Nat} {b : Bool}
theorem shown_small {d : PyData} (h : Fine n t d) (hn : n ≤ 100000) : d.shown.length ≤ sizeLine := by
  have := PyData.shown_le_bulk 24 (by decide) d h.short
  have := h.bulk
  have : sizeLine = 16777216 := rfl
  omega
theorem ev_showL (h : EvLd te σ H ds) (f : Fine n t (.list ds)) (hn : n ≤ 100000) (ht : t ≤ 60) : Ev (tCB (rShow K) (tCons te tNil)) σ H (.str (PyData.list ds).shown) := fun H1 e1 Q q =>
  h H1 e1 _ fun p xs H2 np e2 hp hx => ⟨.ref p, .list ds, rfl, dp_list hp hx, .inr (.inl ⟨ds, rfl⟩), f.sh, f.nd, by have := f.deep; omega, shown_small f hn, q H2 e2⟩
theorem ev_showT (h : EvD te σ H (.tuple ds)) (f : Fine n t (.tuple ds)) (hn : n ≤ 100000) (ht : t ≤ 60) : Ev (tCB (rShow K) (tCons te tNil)) σ H (.str (PyData.tuple ds).shown) := fun H1 e1 Q q =>
  h H1 e1 _ fun x H2 e2 hx => ⟨x, .tuple ds, rfl, hx.dp, .inr (.inr ⟨ds, rfl⟩), f.sh, f.nd, by have := f.deep; omega, shown_small f hn, q H2 e2⟩
end
end K10
set_option Elab.async false
set_option linter.all false
set_option maxRecDepth 100000
set_option maxHeartbeats 4000000
namespace K10
open PySem PySem.Spec PyProof.Rows L2 Evl
section
variable {K : PySem.W.Frag} {σ : L2.St} {H H' : Hp} {te tl tb : TE} {t : TT} {g : TG} {xs ys : List V} {ds es : List PyData} {n : Nat} {a : Addr} {D : Ends} {tz : TS}
theorem ev_showV {m t : Nat} (h : Ev te σ H (.ref a)) (hp : H a = some (.lst xs)) (all : DtAll H xs ds) (f : Fine m t (.list ds)) (hn : m ≤ 100000) (ht : t ≤ 60) : Ev (tCB (rShow K) (tCons te tNil)) σ H (.str (PyData.list ds).shown) := fun H1 e1 Q q =>
  h H1 e1 _ fun H2 e2 => ⟨.ref a, .list ds, rfl, dp_list ((e1.trans e2) _ _ hp) (all.tk (tk_ex (e1.trans e2))), .inr (.inl ⟨ds, rfl⟩), f.sh, f.nd, by have := f.deep; omega, shown_small f hn, q H2 e2⟩
theorem eld_cat1 (h : Ev te σ H (.ref a)) (hp : H a = some (.lst xs)) (all : DtAll H xs ds) (hb : EvLd tb σ H es) (few : ds.length + es.length ≤ 100000) : EvLd (tOp rCat te tb) σ H (ds ++ es) := fun H1 e1 Q q =>
  h H1 e1 _ fun H2 e2 => hb H2 (e1.trans e2) _ fun b ys H3 nb e3 h3 all3 => ⟨a, b, xs, ys, rfl, rfl, ((e1.trans e2).trans e3) _ _ hp, h3, sz_of (by rw [all.len, all3.len]; exact few), fun p np =>
    q p _ _ (fresh_back (e2.trans e3) np) ((e2.trans e3).trans (Ex.new np)) upd_same (((all.tk (tk_ex ((e1.trans e2).trans e3))).append all3).tk (tk_new np))⟩
theorem q_asgLd {i : Nat} (h : EvLd te σ H ds) (k : ∀ p xs H1, Ex H H1 → H1 p = some (.lst xs) → DtAll H1 xs ds → tz D (σ.set i (some (.ref p))) H1) : tSeq (tAsg te (gName i)) tz D σ H := h H (Ex.refl H) _ fun p xs H1 _ e1 hp all => k p xs H1 e1 hp all
theorem q_asgD {i : Nat} {d : PyData} (h : EvD te σ H d) (k : ∀ x H1, Ex H H1 → Dt H1 x d → tz D (σ.set i (some x)) H1) : tSeq (tAsg te (gName i)) tz D σ H := h H (Ex.refl H) _ fun x H1 e hx => k x H1 e hx
theorem q_unless {tu : TS} {b : Bool} (h : EvT t σ H b) (hb : b = false) (k : ∀ H1, Ex H H1 → tz D σ H1) : tSeq (tIfS t tu tNext) tz D σ H := q_when h (fun z => by rw [hb] at z; cases z) fun _ => k
theorem et_neS {s1 s2 : Str} {ta : TE} (ha : Ev ta σ H (.str s1)) (hb : Ev tb σ H (.str s2)) : EvT (tTest (tOp rNe ta tb)) σ H (!decide (s1 = s2)) := by
  refine et_is (et_test (ev_op ha hb (rv_ne rfl))) ?_
  by_cases h : s1 = s2
  · simp [h]
  · simp [h]
theorem neS {s1 s2 : Str} (h : s1 = s2) : (!decide (s1 = s2)) = false := by simp [h]
end
/-! told rows that are right, and such that are none -/
theorem ent_in {bs rs : List Int} {lo hi : Int} (hr : rs ≠ []) (h1 : ∀ x ∈ bs, lo ≤ x ∧ x < hi) (h2 : ∀ x ∈ rs, lo ≤ x ∧ x < hi) (i : Nat) : lo ≤ ent bs rs i ∧ ent bs rs i < hi := by
  have hl : 0 < rs.length := List.length_pos_iff.mpr hr
  unfold ent
  split
  · rename_i h
    rw [List.getD_eq_getElem?_getD, List.getElem?_eq_getElem h]
    exact h1 _ (List.getElem_mem h)
  · have h : (i - bs.length) % rs.length < rs.length := Nat.mod_lt _ hl
    rw [List.getD_eq_getElem?_getD, List.getElem?_eq_getElem h]
    exact h2 _ (List.getElem_mem h)
theorem f_ints {ns : List Int} {N : Nat} (h : ∀ x ∈ ns, 0 ≤ x ∧ x < 9) (hn : ns.length ≤ N) : Fine N 1 (intsD ns) :=
  (f_tuple (fa_each (n := 0) (t := 0) fun d hd => by
    obtain ⟨x, hx, rfl⟩ := List.mem_map.mp hd
    obtain ⟨h1, h2⟩ := h x hx
    exact f_int (by omega) (by omega))).up (by rw [List.length_map]; omega) (Nat.le_refl _)
end K10
set_option Elab.async false
set_option linter.all false
set_option maxRecDepth 100000
set_option maxHeartbeats 4000000
namespace K10
open PySem PySem.Spec PyProof.Rows L2 Evl
/-! ### a comprehension over a dict's keys, and a loop over them: the dict is locked meanwhile -/
/-- all but the one at D stands -/
def Lk (H HF : Hp) (D : Addr) : Prop := ∀ a o, a ≠ D → H a = some o → HF a = some o
theorem Lk.tup {H HF : Hp} {D : Addr} {kvs : List (List L2.Key × V)} (h : Lk H HF D) (hD : H D = some (.dT kvs)) : Tk H HF := fun a xs e => h a _ (fun z => by rw [z, hD] at e; cases e) e
end K10
set_option Elab.async false
set_option linter.all false
set_option maxRecDepth 100000
set_option maxHeartbeats 4000000
namespace K10
open PySem PySem.Spec PyProof.Rows L2 Evl
theorem Ok1.mono {P : Program} {w : World} {K : PySem.W.Frag} {mg : Str → Option Value} {base : Heap} {j k : Nat} {f : Addr} {fd : FuncData} {ps : List Str} {sp : Sp} (F : Ok1 P w K mg base j f fd ps sp) (h : j ≤ k) : Ok1 P w K mg base k f fd ps sp :=
  ⟨F.many, fun A outer s H us vs Q E guard room => F.go A outer s H us vs Q E guard (room.mono h)⟩
theorem fun_of {K : PySem.W.Frag} {x : Str} {st : Stmt} {f : Addr} {fd : FuncData} (F : FunD K x x (defArgs st) (defBody st) (defScope st) [] [] f fd) : Fun K x x st f fd := by
  obtain ⟨oc, od, dV, kV, doc, pm, an, cdv, ct, osl, e, lk, cd, hd, _⟩ := F.ex
  rcases hd with ⟨_, rfl⟩ | ⟨z, _⟩
  · exact ⟨⟨oc, od, kV, doc, pm, an, cdv, ct, osl, e, lk, cd⟩, F.kp⟩
  · exact absurd rfl z
def spLaw (K : PySem.W.Frag) : Sp := fun vs H Q _ => ∃ (a : Addr) (ns : List Int), vs = [.ref a] ∧ SqL K H a (ns.map V.int) ∧ ns.length ≤ 63 ∧ ∀ H', Q (.bl true) H'
theorem walk1E {l : PySem.W.OpenLaw} {n k : Nat} {q : Program} {loose : List Str} {XP : (Str → Option Value) → Heap → Prop} {YP : World → Heap → Prop} {d : DefRec} {x : Str}
    (most : l.most = some n) (few : n ≤ sizeLine) (plain : d.params.defaults = []) (room : Room k callerA)
    (F : ∀ (w : World) (mg : Str → Option Value) (fa : Addr) (h : Heap), YP w h → h.Ns mainGlobals mg → mg d.name = some (.ref fa) →
      ∃ (K : PySem.W.Frag) (fd : FuncData) (sp : Sp), K.In h ∧ (∀ (s : Shared) (u : Value), BindsTo s fd ⟨[u], []⟩ [(x, u)]) ∧
        (∀ (H : Hp) (a : Addr) (ns : List Int), ns.length ≤ n → Only H → SqL K H a (ns.map V.int) → sp [.ref a] H (fun v _ => v = .bl true) fun _ _ _ => False) ∧
        ∀ base : Heap, K.In base → base.Ns mainGlobals mg → Ok1 l.prog w K mg base k fa fd [x] sp) :
    PySem.W.WalkO q loose XP YP l.row.toRowW d [] (fun f vs => PySem.call f vs) := by
  refine Att.attach_call most plain ?_
  intro w s0 s1 mg mb fa o pm cd doc a vs ns G Y _ _ _ name obj nums len nogens
  obtain ⟨K, fd, sp, KX, bind, promise, each⟩ := F w mg fa _ Y G.T.g name
  exact law1 KX G.T.g G.T.b G.T.builtins G.T.nolimit nogens obj nums (Nat.le_trans len few) room each bind fun H only there => promise H a ns len only there
end K10
set_option Elab.async false
set_option linter.all false
set_option maxRecDepth 100000
set_option maxHeartbeats 4000000
namespace K10
open PySem PySem.Spec PyProof.Rows L2 Evl
/-! ### the text, by places -/
def topS (i : Nat) : Stmt := PySem.Challenge.pw_allendless_k59_whole_readers.main.body.getD i (.Pass ⟨0, 0, 0, 0⟩)
abbrev sBetween : Stmt := topS 1
abbrev sEntry : Stmt := topS 3
abbrev sIsData : Stmt := topS 5
abbrev sIsMenu : Stmt := topS 10
abbrev sIsState : Stmt := topS 11
abbrev sSizeAt : Stmt := topS 12
abbrev sIsMach : Stmt := topS 13
abbrev sStatesAt : Stmt := topS 14
abbrev sRunOn : Stmt := topS 15
abbrev sResultAt : Stmt := topS 16
abbrev sFirst : Stmt := topS 17
abbrev sRead : Stmt := topS 18
abbrev sReadAll : Stmt := topS 19
abbrev sBegun : Stmt := topS 21
abbrev sDraw : Stmt := topS 22
abbrev sOf : Stmt := topS 23
abbrev sSizes : Stmt := topS 24
abbrev sLEntry : Stmt := topS 25
abbrev sMachine : Stmt := topS 26
abbrev sWords : Stmt := topS 27
abbrev sToldBy : Stmt := topS 28
abbrev sResult : Stmt := topS 29
abbrev sWordR : Stmt := topS 30
abbrev sTurns : Stmt := topS 31
abbrev sRow : Stmt := topS 32
abbrev sRowsR : Stmt := topS 33
abbrev sLaw : Stmt := topS 34
abbrev nBetween : List Str := ["value", "low", "high"]
theorem scBetween : FnScope nBetween ["value", "low", "high"] (defScope sBetween) := ⟨rfl, rfl, rfl, by decide +kernel, rfl, by decide +kernel, by decide +kernel⟩
abbrev nEntry : List Str := ["row", "i", "beginning", "around"]
theorem scEntry : FnScope nEntry ["row", "i"] (defScope sEntry) := ⟨rfl, rfl, rfl, by decide +kernel, rfl, by decide +kernel, by decide +kernel⟩
abbrev nIsData : List Str := ["value", "todo", "part"]
theorem scIsData : FnScope nIsData ["value"] (defScope sIsData) := ⟨rfl, rfl, rfl, by decide +kernel, rfl, by decide +kernel, by decide +kernel⟩
abbrev nIsMenu : List Str := ["value", "size"]
theorem scIsMenu : FnScope nIsMenu ["value"] (defScope sIsMenu) := ⟨rfl, rfl, rfl, by decide +kernel, rfl, by decide +kernel, by decide +kernel⟩
abbrev nIsState : List Str := ["value", "size", "many", "number"]
theorem scIsState : FnScope nIsState ["value", "size", "many"] (defScope sIsState) := ⟨rfl, rfl, rfl, by decide +kernel, rfl, by decide +kernel, by decide +kernel⟩
abbrev nSizeAt : List Str := ["menu", "t"]
theorem scSizeAt : FnScope nSizeAt ["menu", "t"] (defScope sSizeAt) := ⟨rfl, rfl, rfl, by decide +kernel, rfl, by decide +kernel, by decide +kernel⟩
abbrev nIsMach : List Str := ["value", "menu", "levels", "counts", "t", "level", "state"]
theorem scIsMach : FnScope nIsMach ["value"] (defScope sIsMach) := ⟨rfl, rfl, rfl, by decide +kernel, rfl, by decide +kernel, by decide +kernel⟩
abbrev nStatesAt : List Str := ["machine", "_", "levels", "level"]
theorem scStatesAt : FnScope nStatesAt ["machine"] (defScope sStatesAt) := ⟨rfl, rfl, rfl, by decide +kernel, rfl, by decide +kernel, by decide +kernel⟩
abbrev nRunOn : List Str := ["machine", "rows", "menu", "levels", "t", "state", "digit"]
theorem scRunOn : FnScope nRunOn ["machine", "rows"] (defScope sRunOn) := ⟨rfl, rfl, rfl, by decide +kernel, rfl, by decide +kernel, by decide +kernel⟩
abbrev nResultAt : List Str := ["machine", "t", "n", "state"]
theorem scResultAt : FnScope nResultAt ["machine", "t", "n"] (defScope sResultAt) := ⟨rfl, rfl, rfl, by decide +kernel, rfl, by decide +kernel, by decide +kernel⟩
abbrev nFirst : List Str := ["machine"]
theorem scFirst : FnScope nFirst ["machine"] (defScope sFirst) := ⟨rfl, rfl, rfl, by decide +kernel, rfl, by decide +kernel, by decide +kernel⟩
abbrev nRead : List Str := ["machine", "reader", "digit", "t", "n"]
theorem scRead : FnScope nRead ["machine", "reader", "digit"] (defScope sRead) := ⟨rfl, rfl, rfl, by decide +kernel, rfl, by decide +kernel, by decide +kernel⟩
abbrev nReadAll : List Str := ["machine", "reader", "digits", "result", "many", "digit"]
theorem scReadAll : FnScope nReadAll ["machine", "reader", "digits"] (defScope sReadAll) := ⟨rfl, rfl, rfl, by decide +kernel, rfl, by decide +kernel, by decide +kernel⟩
abbrev nBegun : List Str := ["script", "k", "cells", "cell", "great", "begun", "left"]
theorem scBegun : FnScope nBegun ["script", "k"] (defScope sBegun) := ⟨rfl, rfl, rfl, by decide +kernel, rfl, by decide +kernel, by decide +kernel⟩
abbrev nDraw : List Str := ["m", "below", "found", "spot", "cells", "added", "cell", "blend"]
theorem scDraw : FnScope nDraw ["m", "below"] (defScope sDraw) := ⟨rfl, rfl, rfl, by decide +kernel, rfl, by decide +kernel, by decide +kernel⟩
abbrev nOf : List Str := ["m", "some"]
theorem scOf : FnScope nOf ["m", "some"] (defScope sOf) := ⟨rfl, rfl, rfl, by decide +kernel, rfl, by decide +kernel, by decide +kernel⟩
abbrev nSizes : List Str := ["m", "k"]
theorem scSizes : FnScope nSizes ["m"] (defScope sSizes) := ⟨rfl, rfl, rfl, by decide +kernel, rfl, by decide +kernel, by decide +kernel⟩
abbrev nLEntry : List Str := ["row", "i", "begun", "more"]
theorem scLEntry : FnScope nLEntry ["row", "i"] (defScope sLEntry) := ⟨rfl, rfl, rfl, by decide +kernel, rfl, by decide +kernel, by decide +kernel⟩
abbrev nMachine : List Str := ["m", "sizes", "many", "ends", "counts", "k", "levels", "t", "states", "n", "size", "d"]
theorem scMachine : FnScope nMachine ["m", "sizes", "many", "ends"] (defScope sMachine) := ⟨rfl, rfl, rfl, by decide +kernel, rfl, by decide +kernel, by decide +kernel⟩
abbrev nWords : List Str := ["sizes", "many", "found", "t", "longer", "word", "d"]
theorem scWords : FnScope nWords ["sizes", "many"] (defScope sWords) := ⟨rfl, rfl, rfl, by decide +kernel, rfl, by decide +kernel, by decide +kernel⟩
abbrev nToldBy : List Str := ["machine", "word", "state", "t"]
theorem scToldBy : FnScope nToldBy ["machine", "word"] (defScope sToldBy) := ⟨rfl, rfl, rfl, by decide +kernel, rfl, by decide +kernel, by decide +kernel⟩
abbrev nResult : List Str := ["machine", "t", "n", "state"]
theorem scResult : FnScope nResult ["machine", "t", "n"] (defScope sResult) := ⟨rfl, rfl, rfl, by decide +kernel, rfl, by decide +kernel, by decide +kernel⟩
abbrev nWordR : List Str := ["machine", "word", "here", "count", "t", "n", "after", "told"]
theorem scWordR : FnScope nWordR ["machine", "word"] (defScope sWordR) := ⟨rfl, rfl, rfl, by decide +kernel, rfl, by decide +kernel, by decide +kernel⟩
abbrev nTurns : List Str := ["m", "machine", "words", "lines", "k", "turn", "line", "part", "told", "count", "due"]
theorem scTurns : FnScope nTurns ["m", "machine", "words"] (defScope sTurns) := ⟨rfl, rfl, rfl, by decide +kernel, rfl, by decide +kernel, by decide +kernel⟩
abbrev nRow : List Str := ["m", "size", "begun", "k"]
theorem scRow : FnScope nRow ["m", "size"] (defScope sRow) := ⟨rfl, rfl, rfl, by decide +kernel, rfl, by decide +kernel, by decide +kernel⟩
abbrev nRowsR : List Str := ["m", "machine", "sizes", "many", "rows", "size", "word", "t"]
theorem scRowsR : FnScope nRowsR ["m", "machine"] (defScope sRowsR) := ⟨rfl, rfl, rfl, by decide +kernel, rfl, by decide +kernel, by decide +kernel⟩
abbrev nLaw : List Str := ["script", "k", "m", "sizes", "machine", "kept", "words", "counts", "level", "word"]
theorem scLaw : FnScope nLaw ["script"] (defScope sLaw) := ⟨rfl, rfl, rfl, by decide +kernel, rfl, by decide +kernel, by decide +kernel⟩
end K10
set_option Elab.async false
set_option linter.all false
set_option maxRecDepth 100000
set_option maxHeartbeats 4000000
namespace K10
open PySem PySem.Spec PyProof.Rows L2 Evl
def spBegn (K : PySem.W.Frag) : Sp := fun vs H Q _ => ∃ (a : Addr) (ns : List Int) (i : Int), vs = [.ref a, .int i] ∧ SqL K H a (ns.map V.int) ∧ ns.length ≤ 63 ∧ 0 ≤ i ∧ i ≤ 10 ∧
  ∀ (m c : Addr) (H' : Hp), Ex H H' → Mok H' m c 0 → Q (.ref m) H'
/-- one of some things -/
def spPick (K : PySem.W.Frag) : Sp := fun vs H Q _ => ∃ (m c a : Addr) (n : Nat) (xs : List V), vs = [.ref m, .ref a] ∧ SqL K H a xs ∧ xs ≠ [] ∧ xs.length ≤ 1000 ∧ Mok H m c n ∧ n + 1 < 1000000 ∧
  ∀ z H', z ∈ xs → Kin H H' → Mok H' m c (n + 1) → Q z H'
section
variable {P : Program} {w : World} {K : PySem.W.Frag} {mg : Str → Option Value} {base : Heap} {f f1 f2 : Addr} {fd fd1 fd2 : FuncData} {k : Nat}
theorem ok_draw (F : Fun K "_law_draw" "_law_draw" sDraw f fd) (m1 : mg "int" = none) (m2 : mg "len" = none) : FnOk P w K mg base CX0 (k + 1) f fd ["m", "below"] spDraw := by
  refine F.ok scDraw (fun vs H Q E h => ?_) (fun cdv A outer s H vs Q E hr h => ?_)
  · obtain ⟨m, c, b, n, rfl, _⟩ := h
    rfl
  · obtain ⟨m, c, b, n, rfl, ⟨l, sd, p, cs, hm, hc, full, p0, pn⟩, few, b1, b2, q⟩ := h
    refine ⟨_, pss_cons (ps_if (pt_cmpR op_gt (pe_dget (hu_of hr) (pv 0) pe_str (fun _ _ => rfl)) pe_int (nomark _))
        (pss_cons (ps_set (i := 2) scDraw.nd rfl (.inl rfl) (pe_op op_mod (pe_callTy call_int1 (by rfl) m1 (by decide +kernel) (pa_cons (pe_dget (hu_of hr) (pv 0) pe_str (fun _ _ => rfl)) pa_nil)) (pv 1)))
        (pss_cons (ps_dput (hu_of hr) (pv 0) pe_str (pe_op op_fdivN (pe_dget (hu_of hr) (pv 0) pe_str (fun _ _ => rfl)) (pv 1)) rfl)
        (pss_one (ps_ret (pv 2))))) pss_nil)
      (pss_cons (ps_set (i := 3) scDraw.nd rfl (.inl rfl) (pe_dget (hu_of hr) (pv 0) pe_str (fun _ _ => rfl)))
      (pss_cons (ps_dput (hu_of hr) (pv 0) pe_str (pe_op op_add (pv 3) pe_int) rfl)
      (pss_cons (ps_par (i := 4) (j := 5) (by rfl) scDraw.nd rfl rfl (by decide) rfl rfl (pa_cons (pe_dget (hu_of hr) (pv 0) pe_str (fun _ _ => rfl)) (pa_cons (pe_op op_add (pe_dget (hu_of hr) (pv 0) pe_str (fun _ _ => rfl)) (pe_op op_mul (pe_op op_mul pe_int (pv 3)) (pv 3))) pa_nil)) (by rfl))
      (pss_cons (ps_set (i := 6) scDraw.nd rfl (.inl rfl) (pe_ix ix_list (pv 4) (pe_op op_mod (pe_callTy call_int1 (by rfl) m1 (by decide +kernel) (pa_cons (pv 3) pa_nil)) (pe_callB call_len_seq (by rfl) m2 (by decide +kernel) (pa_cons (pv 4) pa_nil))) (fun _ _ => rfl)))
      (pss_cons (ps_set (i := 7) scDraw.nd rfl (.inl rfl) (pe_op op_mod (pe_callTy call_int1 (by rfl) m1 (by decide +kernel) (pa_cons (pe_op op_add (pe_op op_mul (pv 6) (pe_op op_add (pe_op op_mul pe_int (pv 3)) pe_int)) (pv 5)) pa_nil)) pe_int))
      (pss_cons (ps_set (i := 7) scDraw.nd rfl (.inl rfl) (pe_op op_mod (pe_callTy call_int1 (by rfl) m1 (by decide +kernel) (pa_cons (pe_op op_add (pe_op op_add (pe_op op_mul (pv 7) (pv 7)) (pe_op op_mul pe_int (pv 3))) (pe_dget (hu_of hr) (pv 0) pe_str (fun _ _ => rfl))) pa_nil)) pe_int))
      (pss_one (ps_ret (pe_op op_mod (pe_op op_fdiv (pe_op op_mod (pe_callTy call_int1 (by rfl) m1 (by decide +kernel) (pa_cons (pe_op op_add (pe_op op_mul (pv 7) pe_int) (pv 3)) pa_nil)) pe_int) pe_int) (pv 1)))))))))), ?_⟩
    refine q_when (b := decide (0 < l)) (et_is (et_test (ev_op (ev_kget (ev_var rfl) hm st_left) ev_c rv_I0)) ?_) (fun hb H1 e1 => ?_) (fun hb H1 e1 => ?_)
    · by_cases h : 0 < l
      · rw [decide_eq_true h]
      · rw [decide_eq_false h]
    · refine q_asg (ev_op (rc_int (ev_kget (ev_var rfl) (e1 _ _ hm) st_left)) (ev_var rfl) (rv_I (by omega))) fun H2 e2 => ?_
      have e12 := e1.trans e2
      refine q_kput (ev_op (ev_kget (ev_var rfl) (e12 _ _ hm) st_left) (ev_var rfl) (rv_I ⟨by omega, by omega⟩)) (ev_var rfl) (e12 _ _ hm) (by show (6 : Nat) ≤ 100; decide) fun H3 e3 => ?_
      have e13 := e12.trans e3
      refine s_ret (ev_var rfl) fun H4 e4 => ?_
      rw [put_left] at e4
      have cm : c ≠ m := ne_of hc hm fun z => nomatch z
      refine q _ H4 (mod_lt b1).1 (mod_lt b1).2 (((kin_ex e13).trans (kin_dk (e13 _ _ hm))).trans (kin_ex e4)) ⟨_, sd, p, cs, e4 _ _ upd_same, e4 _ _ ?_, full, p0, by omega⟩
      rw [upd_ne cm]
      exact e13 _ _ hc
    · refine q_asg (ev_kget (ev_var rfl) (e1 _ _ hm) st_spot) fun H2 e2 => ?_
      have e12 := e1.trans e2
      refine q_kput (ev_op (ev_var rfl) ev_c rv_I0) (ev_var rfl) (e12 _ _ hm) (by show (6 : Nat) ≤ 100; decide) fun H3 e3 => ?_
      have e13 := e12.trans e3
      rw [put_spot]
      have cm : c ≠ m := ne_of hc hm fun z => nomatch z
      have hm4 : upd H3 m (.dK (stK l sd c (p + 1))) m = some (.dK (stK l sd c (p + 1))) := upd_same
      have hc4 : upd H3 m (.dK (stK l sd c (p + 1))) c = some (.lst (cs.map V.int)) := by rw [upd_ne cm]; exact e13 _ _ hc
      have kin4 : Kin H (upd H3 m (.dK (stK l sd c (p + 1)))) := (kin_ex e13).trans (kin_dk (e13 _ _ hm))
      generalize upd H3 m (.dK (stK l sd c (p + 1))) = H4 at hm4 hc4 kin4 ⊢
      have pb : -2 ^ 64 < p ∧ p < 2 ^ 64 := by omega
      refine q_par (ea_cons (ev_kget (ev_var rfl) hm4 st_cells) (ea_cons (ev_op (ev_kget (ev_var rfl) hm4 st_seed) (ev_op (ev_op ev_c (ev_var rfl) (rv_I (.inr pb))) (ev_var rfl) (rv_I (.inr pb))) rv_I0) ea_nil)) fun H5 e5 => ?_
      have hm5 := e5 _ _ hm4
      have hc5 := e5 _ _ hc4
      have lc : 0 < cs.length := List.length_pos_iff.mpr full
      obtain ⟨j, hj, lt⟩ : ∃ j : Nat, p % ((cs.map V.int).length : Int) = (j : Int) ∧ j < cs.length := by
        rw [List.length_map]
        obtain ⟨h1, h2⟩ := mod_lt (a := p) (b := (cs.length : Int)) (by omega)
        exact ⟨(p % (cs.length : Int)).toNat, by omega, by omega⟩
      refine q_asg (v := .int cs[j]) (ev_op (ev_var rfl) (ev_op (rc_int (ev_var rfl)) (ev_len (ev_var rfl) (SqL.of hc5)) (rv_I (by rw [List.length_map]; show (0 : Int) < _; omega))) (rv_ixL (SqL.of hc5) ?_)) fun H6 e6 => ?_
      · rw [hj]
        exact atI_nat (by rw [List.getElem?_map, List.getElem?_eq_getElem lt]; rfl)
      generalize cs[j] = cell
      refine q_asg (ev_op (rc_int (ev_op (ev_op (ev_var rfl) (ev_op (ev_op ev_c (ev_var rfl) (rv_I (.inr pb))) ev_c rv_I0) (rv_I (.inr (by omega)))) (ev_var rfl) rv_I0)) ev_c (rv_I (by decide))) fun H7 e7 => ?_
      obtain ⟨b0, b3⟩ := mod_lt (a := cell * (2 * p + 3) + (sd + 40503 * p * p)) (b := 2147483647) (by decide)
      refine q_asg (ev_op (rc_int (ev_op (ev_op (ev_op (ev_var rfl) (ev_var rfl) (rv_I (.inr (by omega)))) (ev_op ev_c (ev_var rfl) (rv_I (.inr pb))) rv_I0) (ev_kget (ev_var rfl) (e7 _ _ (e6 _ _ hm5)) st_seed) rv_I0)) ev_c (rv_I (by decide))) fun H8 e8 => ?_
      refine s_ret (ev_op (ev_op (ev_op (rc_int (ev_op (ev_op (ev_var rfl) ev_c (rv_I (.inr (by decide)))) (ev_var rfl) rv_I0)) ev_c (rv_I (by decide))) ev_c (rv_I (by unfold CDiv; omega))) (ev_var rfl) (rv_I (by omega))) fun H9 e9 => ?_
      have e59 := ((((e5.trans e6).trans e7).trans e8).trans e9)
      exact q _ H9 (mod_lt b1).1 (mod_lt b1).2 (kin4.trans (kin_ex e59)) ⟨l, sd, p + 1, cs, e59 _ _ hm4, e59 _ _ hc4, full, by omega, by omega⟩
theorem ok_begun (F : Fun K "_law_begun" "_law_begun" sBegun f fd) (m1 : mg "int" = none) (m2 : mg "len" = none) : FnOk P w K mg base CX0 (k + 1) f fd ["script", "k"] (spBegn K) := by
  refine F.ok scBegun (fun vs H Q E h => ?_) (fun cdv A outer s H vs Q E hr h => ?_)
  · obtain ⟨a, ns, i, rfl, _⟩ := h
    rfl
  · obtain ⟨a, ns, i, rfl, hl, few, i0, i1, q⟩ := h
    refine ⟨_, pss_cons (ps_set (i := 2) scBegun.nd rfl (.inl rfl) (pe_op op_cat (pe_slice sl_list (pv 0) (po_some (pv 1)) po_none) (pe_slice sl_list (pv 0) po_none (po_some (pv 1)))))
      (pss_cons (ps_setLc (i := 4) (own := [("cell", 3)]) (g := gName 3) rfl scBegun.nd rfl rfl (by rfl) (pi_list (pv 0)) (blkOk_by (N := ["script", "k", "cells", "cell", "great", "begun", "left"]) (sc := defScope sBegun) (by decide +kernel))
        (fun _ _ _ _ _ => pg_name (i := 3) scBegun.nd rfl (Or.inl rfl)) (fun _ _ _ _ _ => pts_one (pt_cmpR op_ge (pv 3) (pe_op op_pow pe_int pe_int) (nomark _))) (fun _ _ _ _ _ => pv 3))
      (pss_cons (ps_set (i := 5) scBegun.nd rfl (.inl rfl) (pe_op op_add pe_int (pe_op op_mul pe_int (pv 1))))
      (pss_cons (ps_for PassesOwn.never rfl (pi_list (pv 2)) (pg_name (i := 3) scBegun.nd rfl (Or.inl rfl))
        (pss_one (ps_set (i := 5) scBegun.nd rfl (.inl rfl) (pe_op op_mod (pe_callTy call_int1 (by rfl) m1 (by decide +kernel) (pa_cons (pe_op op_add (pe_op op_mul (pv 5) pe_int) (pv 3)) pa_nil)) pe_int))))
      (pss_cons (ps_set (i := 6) scBegun.nd rfl (.inl rfl) (pe_ifExp (pt_cmpR op_lt (pv 1) (pe_callB call_len_seq (by rfl) m2 (by decide +kernel) (pa_cons (pv 4) pa_nil)) (nomark _)) (pe_ix ix_list (pv 4) (pv 1) (fun _ _ => rfl)) pe_int))
      (pss_one (ps_ret (pe_disp (pps_cons pe_str (pv 6) (pps_cons pe_str (pv 5) (pps_cons pe_str (pe_op op_cat (pv 2) (pe_lst (pa_cons (pe_op op_add (pe_op op_mul pe_int (pv 1)) pe_int) pa_nil))) (pps_cons pe_str pe_int (pps_cons pe_str pe_int (pps_cons pe_str pe_int pps_nil)))))) rfl rfl (by decide) (by decide)))))))), ?_⟩
    have ii := ints_map ns
    have fx : (ns.map V.int).length ≤ 63 := by rw [List.length_map]; exact few
    have cl1 := cut_len (xs := ns.map V.int) (some i) none
    have cl2 := cut_len (xs := ns.map V.int) none (some i)
    refine q_asgL (el_cat (el_sl (ev_var rfl) (eo_some (ev_var rfl)) eo_none hl) (el_sl (ev_var rfl) eo_none (eo_some (ev_var rfl)) hl) (by omega)) fun pc H1 nc e1 hc => ?_
    have ic : Ints (cutV (ns.map V.int) (some i) none ++ cutV (ns.map V.int) none (some i)) := ints_cat (ints_cut ii) (ints_cut ii)
    have lc : (cutV (ns.map V.int) (some i) none ++ cutV (ns.map V.int) none (some i)).length ≤ 126 := by rw [List.length_append]; omega
    generalize cutV (ns.map V.int) (some i) none ++ cutV (ns.map V.int) none (some i) = cells at hc ic lc
    refine q_asgL (el_lcL (fun j => decide (10 ^ 18 ≤ ns.getD j 0)) (fun j => .int (ns.getD j 0)) (ev_var rfl) (ex_l e1 hl) (by omega) (fun _ => rfl) (fun j x H2 e2 hx => ?_) (fun j x H2 e2 hx _ => ?_)) fun pg H2 ng e2 hg => ?_
    · obtain ⟨c, hc', rfl⟩ := map_at hx
      rw [getD_at hc']
      refine et_is (et_test (ev_op (ev_var rfl) (ev_op ev_c ev_c (rv_I (by unfold CPow; decide))) rv_I0)) ?_
      rfl
    · obtain ⟨c, hc', rfl⟩ := map_at hx
      rw [getD_at hc']
      exact ev_var rfl
    have ig : Ints (given (ns.map V.int).length (fun j => decide (10 ^ 18 ≤ ns.getD j 0)) (fun j => .int (ns.getD j 0))) := ⟨((List.range (ns.map V.int).length).filter fun j => decide (10 ^ 18 ≤ ns.getD j 0)).map fun j => ns.getD j 0, by unfold given; rw [List.map_map]; rfl⟩
    generalize given (ns.map V.int).length (fun j => decide (10 ^ 18 ≤ ns.getD j 0)) (fun j => .int (ns.getD j 0)) = great at hg ig
    refine q_asg (ev_op ev_c (ev_op ev_c (ev_var rfl) (rv_I (.inl (by decide)))) rv_I0) fun H3 e3 => ?_
    have hc3 := e3 _ _ (e2 _ _ hc)
    refine q_forLn (ev_var rfl) (SqL.of hc3) (fun j σ' H' => Ex H3 H' ∧ ∃ x z, σ' = [some (.ref a), some (.int i), some (.ref pc), x, some (.ref pg), some (.int z), none] ∧ -2 ^ 64 < z ∧ z < 2 ^ 64) (fun H4 e4 => ⟨e4, none, 127 + 10 * i, rfl, by omega, by omega⟩) (fun j σ' H' _ p => SqL.of (p.1 _ _ hc3)) (fun j x σ' H' hx p => ?_) (fun σ' H' p => ?_)
    · obtain ⟨e4, y, z, rfl, z1, z2⟩ := p
      obtain ⟨cs, rfl⟩ := ic
      obtain ⟨c, hc', rfl⟩ := map_at hx
      refine s_asg (ev_op (rc_int (ev_op (ev_op (ev_var rfl) ev_c (rv_I (.inl ⟨z1, z2⟩))) (ev_var rfl) rv_I0)) ev_c (rv_I (by decide))) fun H5 e5 => ?_
      obtain ⟨b0, b3⟩ := mod_lt (a := z * 48271 + c) (b := 2147483647) (by decide)
      exact ⟨e4.trans e5, _, _, rfl, by omega, by omega⟩
    · obtain ⟨e4, y, z, rfl, z1, z2⟩ := p
      have hg4 := e4 _ _ (e3 _ _ hg)
      have hc4 := e4 _ _ hc3
      obtain ⟨l, hl⟩ : ∃ l : Int, Ev (tIf (tTest (tOp (rI0 fun i j => V.bl (decide (i < j))) (tVar 1) (tCB (rLenS K) (tCons (tVar 4) tNil)))) (tOp (rIxL K) (tVar 4) (tVar 1)) (tC (.int 0))) [some (.ref a), some (.int i), some (.ref pc), y, some (.ref pg), some (.int z), none] H' (.int l) := by
        by_cases h : i < (great.length : Int)
        · obtain ⟨z, hz⟩ := ints_get ig (i := i.toNat) (by omega)
          refine ⟨z, ev_if (b := true) (et_is (et_test (ev_op (ev_var rfl) (ev_len (ev_var rfl) (SqL.of hg4)) rv_I0)) (by rw [decide_eq_true h])) (fun _ => ev_op (ev_var rfl) (ev_var rfl) (rv_ixL (SqL.of hg4) ?_)) fun z => by cases z⟩
          have ei : i = (i.toNat : Int) := by omega
          rw [ei]
          exact atI_nat hz
        · exact ⟨0, ev_if (b := false) (et_is (et_test (ev_op (ev_var rfl) (ev_len (ev_var rfl) (SqL.of hg4)) rv_I0)) (by rw [decide_eq_false h])) (fun z => by cases z) fun _ => ev_c⟩
      refine q_asg hl fun H5 e5 => ?_
      intro p hp
      have x5 : Ex H5 (upd H5 p (.dK [])) := Ex.new hp
      show tC (.str "left") _ _ _
      refine ⟨_, rfl, ?_⟩
      show tC (.str "seed") _ _ _
      refine ⟨_, rfl, ?_⟩
      show tC (.str "cells") _ _ _
      refine el_cat1 (ev_var rfl) (x5 _ _ (e5 _ _ hc4)) (el_lst (ea_cons (ev_op (ev_op ev_c (ev_var rfl) (rv_I (.inl (by decide)))) ev_c rv_I0) ea_nil) (by show (1 : Nat) ≤ 100000; decide)) (by show cells.length + 1 ≤ 100000; omega) _ (Ex.refl _) _ fun pl H6 nl e6 hl6 => ?_
      refine ⟨e6 _ _ upd_same, [(Sum.inr "left", .int l), (Sum.inr "seed", .int z), (Sum.inr "cells", .ref pl), (Sum.inr "spot", .int 0), (Sum.inr "next", .int 0), (Sum.inr "quants", .int 3)], rfl, by show (6 : Nat) ≤ 15; decide, ?_⟩
      have all : Ex H H5 := (e1.trans e2).trans (e3.trans (e4.trans e5))
      have npl : pl ≠ p := fun e => by
        rw [e] at nl
        rw [upd_same] at nl
        cases nl
      obtain ⟨cs, rfl⟩ := ic
      refine q p pl _ (all.trans (Ex.mut (x5.trans e6) hp)) ⟨l, z, 0, cs ++ [31 * i + 43], upd_same, ?_, by simp, Int.le_refl _, Int.le_refl _⟩
      rw [upd_ne npl, hl6, List.map_append]
      rfl
theorem ok_of (F : Fun K "_law_of" "_law_of" sOf f fd) (m2 : mg "len" = none)
    (G1 : FnOk P w K mg base CX0 k f1 fd1 ["m", "below"] spDraw) (g1 : mg "_law_draw" = some (.ref f1)) (kp1 : PySem.W.keepIn K (.ref f1) = true) (b1 : Binds K fd1 ["m", "below"] []) :
    FnOk P w K mg base CX0 (k + 1) f fd ["m", "some"] (spPick K) := by
  refine F.ok scOf (fun vs H Q E h => ?_) (fun cdv A outer s H vs Q E hr h => ?_)
  · obtain ⟨m, c, a, n, ns, rfl, _⟩ := h
    rfl
  · obtain ⟨m, c, a, n, xs, rfl, hl, full, few, mk, nn, q⟩ := h
    refine ⟨_, pss_one (ps_ret (pe_ix ix_list (pv 1) (pe_call G1 hr (by rfl) g1 kp1 b1 .nil pass0 (pa_cons (pv 0) (pa_cons (pe_callB call_len_seq (by rfl) m2 (by decide +kernel) (pa_cons (pv 1) pa_nil)) pa_nil))) (fun _ _ => rfl))), ?_⟩
    have lf : 0 < xs.length := List.length_pos_iff.mpr full
    refine ⟨_, rfl, ?_⟩
    refine em_draw (b := (xs.length : Int)) rfl (fun H1 e1 => ?_) (by omega) (by omega) (by omega) H (Kin.refl _) mk _ fun x d H2 pd e2 mk2 hx => ?_
    · exact ev_len (ev_var rfl) (sq_kin e1 hl)
    · obtain ⟨z, rfl, z0, z1⟩ := pd
      cases dt_int hx
      obtain ⟨j, rfl⟩ : ∃ j : Nat, z = j := ⟨z.toNat, by omega⟩
      have lt : j < xs.length := by omega
      exact ⟨a, xs, (j : Int), xs[j], rfl, rfl, sq_kin e2 hl, atI_nat (List.getElem?_eq_getElem lt), q _ _ (List.getElem_mem lt) e2 mk2⟩
end
end K10
set_option Elab.async false
set_option linter.all false
set_option maxRecDepth 100000
set_option maxHeartbeats 1000000
namespace K10
open PySem PySem.Spec PyProof.Rows L2 Evl
/-! ### machines that read rows -/
inductive St where
  | told (d : PyData)
  | go (ns : List Int)
def isGo : St → Bool
  | .go _ => true
  | .told _ => false
def stD : St → PyData
  | .told d => .tuple [.str "told", d]
  | .go ns => .tuple [.str "go", intsD ns]
def levD (l : List St) : PyData := .tuple (l.map stD)
def machD (sz : List Int) (lv : List (List St)) : PyData := .tuple [intsD sz, .tuple (lv.map levD)]
def sAt (lv : List (List St)) (t n : Nat) : St := (lv.getD t []).getD n (.told .none)
def nxS : St → Nat → Nat
  | .go ns, d => (ns.getD d 0).toNat
  | .told _, _ => 0
def valS : St → PyData
  | .told d => d
  | .go _ => .none
def resS (t n : Nat) : St → PyData
  | .go _ => .tuple [.str "on", .tuple [.int t, .int n]]
  | .told d => .tuple [.str "told", d, .int t]
def resD (lv : List (List St)) (t n : Nat) : PyData := resS t n (sAt lv t n)
/-- where the digits w lead, from state n of level t -/
def ixF (lv : List (List St)) (t n : Nat) (w : Nat → Nat) : Nat → Nat
  | 0 => n
  | i + 1 => nxS (sAt lv (t + i) (ixF lv t n w i)) (w i)
def sizeN (sz : List Int) (t : Nat) : Nat := (sz.getD (t % sz.length) 0).toNat
def goodD (d : PyData) : Prop := d = .int 0 ∨ d = .int 1 ∨ d = intsD [1, 2] ∨ d = .int 7
def In (lv : List (List St)) (t n : Nat) : Prop := t < lv.length ∧ n < (lv.getD t []).length
def StOk (sz : List Int) (lv : List (List St)) (t : Nat) : St → Prop
  | .told d => goodD d
  | .go ns => t + 1 < lv.length ∧ ns.length = sizeN sz t ∧ ∀ x ∈ ns, 0 ≤ x ∧ x < ((lv.getD (t + 1) []).length : Int)
def SzOk (sz : List Int) : Prop := 1 ≤ sz.length ∧ sz.length ≤ 3 ∧ ∀ s ∈ sz, s = 2 ∨ s = 3
structure MOk (sz : List Int) (lv : List (List St)) : Prop where
  s : SzOk sz
  l1 : 1 ≤ lv.length
  l6 : lv.length ≤ 6
  c1 : (lv.getD 0 []).length = 1
  cs : ∀ t, t < lv.length → 1 ≤ (lv.getD t []).length ∧ (lv.getD t []).length ≤ 4
  st : ∀ t n, In lv t n → StOk sz lv t (sAt lv t n)
theorem SzOk.at {sz : List Int} (h : SzOk sz) (t : Nat) : t % sz.length < sz.length ∧ (sz.getD (t % sz.length) 0 = 2 ∨ sz.getD (t % sz.length) 0 = 3) := by
  have lt : t % sz.length < sz.length := Nat.mod_lt _ h.1
  refine ⟨lt, ?_⟩
  rw [List.getD_eq_getElem?_getD, List.getElem?_eq_getElem lt]
  exact h.2.2 _ (List.getElem_mem lt)
theorem SzOk.n {sz : List Int} (h : SzOk sz) (t : Nat) : (sizeN sz t = 2 ∨ sizeN sz t = 3) ∧ ((sizeN sz t : Nat) : Int) = sz.getD (t % sz.length) 0 := by
  have := (h.at t).2
  unfold sizeN
  omega
theorem MOk.in0 {sz : List Int} {lv : List (List St)} (h : MOk sz lv) : In lv 0 0 := ⟨h.l1, by rw [h.c1]; decide⟩
theorem nx_of {ns : List Int} {d : Nat} {c : Nat} (hl : d < ns.length) (h : ∀ x ∈ ns, 0 ≤ x ∧ x < (c : Int)) : nxS (.go ns) d < c ∧ ((nxS (.go ns) d : Nat) : Int) = ns.getD d 0 := by
  have := h ns[d] (List.getElem_mem hl)
  show (ns.getD d 0).toNat < c ∧ (((ns.getD d 0).toNat : Nat) : Int) = _
  rw [List.getD_eq_getElem?_getD, List.getElem?_eq_getElem hl]
  simp only [Option.getD_some]
  omega
theorem go_of {s : St} (h : isGo s = true) : ∃ ns, s = .go ns := by
  cases s with
  | go ns => exact ⟨ns, rfl⟩
  | told d => cases h
theorem told_of {s : St} (h : isGo s = false) : ∃ d, s = .told d := by
  cases s with
  | told d => exact ⟨d, rfl⟩
  | go ns => cases h
theorem MOk.step {sz : List Int} {lv : List (List St)} (h : MOk sz lv) {t n d : Nat} (i : In lv t n) (g : isGo (sAt lv t n) = true) (hd : d < sizeN sz t) : In lv (t + 1) (nxS (sAt lv t n) d) := by
  have k := h.st t n i
  obtain ⟨ns, e⟩ := go_of g
  rw [e] at k ⊢
  exact ⟨k.1, (nx_of (by rw [k.2.1]; exact hd) k.2.2).1⟩
theorem MOk.walk {sz : List Int} {lv : List (List St)} (h : MOk sz lv) {t n : Nat} {w : Nat → Nat} (i : In lv t n) : ∀ {c : Nat}, (∀ j, j < c → w j < sizeN sz (t + j)) → (∀ j, j < c → isGo (sAt lv (t + j) (ixF lv t n w j)) = true) → In lv (t + c) (ixF lv t n w c)
  | 0, _, _ => i
  | c + 1, hw, hg => by
    have ih := h.walk i (c := c) (fun j hj => hw j (by omega)) fun j hj => hg j (by omega)
    exact h.step ih (hg c (by omega)) (hw c (by omega))
theorem MOk.last {sz : List Int} {lv : List (List St)} (h : MOk sz lv) {t n : Nat} (i : In lv t n) (g : isGo (sAt lv t n) = true) : t + 1 < lv.length := by
  have k := h.st t n i
  obtain ⟨ns, e⟩ := go_of g
  rw [e] at k
  exact k.1
theorem ixF_congr {lv : List (List St)} {t n : Nat} {w w' : Nat → Nat} : ∀ {c : Nat}, (∀ j, j < c → w j = w' j) → ixF lv t n w c = ixF lv t n w' c
  | 0, _ => rfl
  | c + 1, h => by
    show nxS (sAt lv (t + c) (ixF lv t n w c)) (w c) = nxS (sAt lv (t + c) (ixF lv t n w' c)) (w' c)
    rw [ixF_congr (c := c) fun j hj => h j (by omega), h c (by omega)]
theorem ixF_add {lv : List (List St)} {t n : Nat} {w : Nat → Nat} (s : Nat) : ∀ c, ixF lv (t + s) (ixF lv t n w s) (fun j => w (s + j)) c = ixF lv t n w (s + c)
  | 0 => rfl
  | c + 1 => by
    show nxS (sAt lv (t + s + c) (ixF lv (t + s) (ixF lv t n w s) (fun j => w (s + j)) c)) (w (s + c)) = nxS (sAt lv (t + (s + c)) (ixF lv t n w (s + c))) (w (s + c))
    rw [ixF_add s c, Nat.add_assoc]
/-- how far the digits are read: all of them, or to a state that tells -/
structure FarTo (lv : List (List St)) (t n : Nat) (w : Nat → Nat) (len c : Nat) : Prop where
  le : c ≤ len
  on : ∀ j, j < c → isGo (sAt lv (t + j) (ixF lv t n w j)) = true
  fin : c = len ∨ isGo (sAt lv (t + c) (ixF lv t n w c)) = false
theorem FarTo.one {lv : List (List St)} {t n : Nat} {w : Nat → Nat} {len c c' : Nat} (a : FarTo lv t n w len c) (b : FarTo lv t n w len c') : c = c' := by
  rcases Nat.lt_trichotomy c c' with z | z | z
  · rcases a.fin with y | y
    · have := b.le; omega
    · rw [b.on c z] at y; cases y
  · exact z
  · rcases b.fin with y | y
    · have := a.le; omega
    · rw [a.on c' z] at y; cases y
/-- the digits of a list -/
def dgs (l : List Int) (j : Nat) : Nat := (l.getD j 0).toNat
def WOk (sz : List Int) (t : Nat) (l : List Int) : Prop := ∀ j, j < l.length → 0 ≤ l.getD j 0 ∧ l.getD j 0 < (sizeN sz (t + j) : Int)
theorem WOk.n {sz : List Int} {t : Nat} {l : List Int} (h : WOk sz t l) {j : Nat} (hj : j < l.length) : dgs l j < sizeN sz (t + j) ∧ ((dgs l j : Nat) : Int) = l.getD j 0 := by
  have := h j hj
  unfold dgs
  omega
/-! reading them -/
section
variable {K : PySem.W.Frag} {σ : L2.St} {H : Hp} {tm tt tn ts td : TE} {sz : List Int} {lv : List (List St)} {t n d : Nat} {s : St}
theorem sAt_get (i : In lv t n) : ∃ l, lv[t]? = some l ∧ l[n]? = some (sAt lv t n) := by
  obtain ⟨h1, h2⟩ := i
  refine ⟨lv[t], List.getElem?_eq_getElem h1, ?_⟩
  have e : lv.getD t [] = lv[t] := by rw [List.getD_eq_getElem?_getD, List.getElem?_eq_getElem h1]; rfl
  unfold sAt
  rw [e] at h2 ⊢
  rw [List.getD_eq_getElem?_getD, List.getElem?_eq_getElem h2]
  rfl
theorem ed_menu (h : EvD tm σ H (machD sz lv)) : EvD (tOp (rIxT K) tm (tC (.int 0))) σ H (intsD sz) := ed_ix h ev_c rfl
theorem ed_levels (h : EvD tm σ H (machD sz lv)) : EvD (tOp (rIxT K) tm (tC (.int 1))) σ H (.tuple (lv.map levD)) := ed_ix h ev_c rfl
theorem ed_lev {l : List St} (h : EvD tm σ H (.tuple (lv.map levD))) (ht : Ev tt σ H (.int (t : Int))) (hl : lv[t]? = some l) : EvD (tOp (rIxT K) tm tt) σ H (levD l) := ed_ix h ht (atI_nat (by rw [List.getElem?_map, hl]; rfl))
theorem ed_st {l : List St} (h : EvD tm σ H (levD l)) (hn : Ev tn σ H (.int (n : Int))) (hs : l[n]? = some s) : EvD (tOp (rIxT K) tm tn) σ H (stD s) := ed_ix h hn (atI_nat (by rw [List.getElem?_map, hs]; rfl))
/-- levels[t][n] -/
theorem ed_sAt (h : EvD tm σ H (.tuple (lv.map levD))) (ht : Ev tt σ H (.int (t : Int))) (hn : Ev tn σ H (.int (n : Int))) (i : In lv t n) : EvD (tOp (rIxT K) (tOp (rIxT K) tm tt) tn) σ H (stD (sAt lv t n)) := by
  obtain ⟨l, h1, h2⟩ := sAt_get i
  exact ed_st (ed_lev h ht h1) hn h2
theorem ev_word (h : EvD ts σ H (stD s)) : Ev (tOp (rIxT K) ts (tC (.int 0))) σ H (.str (if isGo s then "go" else "told")) := fun H1 e Q q => by
  cases s with
  | told d => exact (ed_ix (d := .str "told") h ev_c rfl) H1 e Q fun x H2 e2 hx => by cases hx; exact q H2 e2
  | go ns => exact (ed_ix (d := .str "go") h ev_c rfl) H1 e Q fun x H2 e2 hx => by cases hx; exact q H2 e2
theorem et_go (h : EvD ts σ H (stD s)) : EvT (tTest (tOp rEq (tOp (rIxT K) ts (tC (.int 0))) (tC (.str "go")))) σ H (isGo s) := by
  refine et_is (et_test (ev_op (ev_word h) ev_c (rv_eq rfl))) ?_
  cases s with
  | told d => show decide (V.str "told" = V.str "go") = false; decide +kernel
  | go ns => exact decide_eq_true rfl
theorem ed_told {d : PyData} (h : EvD ts σ H (stD (.told d))) : EvD (tOp (rIxT K) ts (tC (.int 1))) σ H d := ed_ix h ev_c rfl
theorem ed_gos {ns : List Int} (h : EvD ts σ H (stD (.go ns))) : EvD (tOp (rIxT K) ts (tC (.int 1))) σ H (intsD ns) := ed_ix h ev_c rfl
/-- state[1][d] -/
theorem ev_nx {ns : List Int} {c : Nat} (h : EvD ts σ H (stD (.go ns))) (hd : Ev td σ H (.int (d : Int))) (hl : d < ns.length) (ok : ∀ x ∈ ns, 0 ≤ x ∧ x < (c : Int)) : Ev (tOp (rIxT K) (tOp (rIxT K) ts (tC (.int 1))) td) σ H (.int ((nxS (.go ns) d : Nat) : Int)) := by
  rw [(nx_of hl ok).2]
  exact int_ed (ed_ix (ed_gos h) hd (at_ints hl))
end
end K10
set_option Elab.async false
set_option linter.all false
set_option maxRecDepth 100000
set_option maxHeartbeats 1000000
namespace K10
open PySem PySem.Spec PyProof.Rows L2 Evl
/-! ### readers: the program's, and the law's beside them -/
def okResult (ds : List PyData) (d : PyData) : Prop := ∃ (sz : List Int) (lv : List (List St)) (t n : Nat), ds = [machD sz lv, .int t, .int n] ∧ In lv t n ∧ d = resD lv t n
def okFirst (ds : List PyData) (d : PyData) : Prop := ∃ (sz : List Int) (lv : List (List St)), ds = [machD sz lv] ∧ In lv 0 0 ∧ d = resD lv 0 0
def tnD (t n : Nat) : PyData := .tuple [.int t, .int n]
def okRead (ds : List PyData) (d : PyData) : Prop := ∃ (sz : List Int) (lv : List (List St)) (t n e : Nat), ds = [machD sz lv, tnD t n, .int e] ∧ MOk sz lv ∧ In lv t n ∧ isGo (sAt lv t n) = true ∧ e < sizeN sz t ∧ d = resD lv (t + 1) (nxS (sAt lv t n) e)
def okReadAll (ds : List PyData) (d : PyData) : Prop := ∃ (sz : List Int) (lv : List (List St)) (t n c : Nat) (l : List Int), ds = [machD sz lv, tnD t n, intsD l] ∧ MOk sz lv ∧ In lv t n ∧ isGo (sAt lv t n) = true ∧ WOk sz t l ∧ l.length ≤ 20 ∧ FarTo lv t n (dgs l) l.length c ∧ d = .tuple [resD lv (t + c) (ixF lv t n (dgs l) c), .int c]
/-- the first state that tells -/
structure Tells (lv : List (List St)) (w : Nat → Nat) (T : Nat) : Prop where
  on : ∀ j, j < T → isGo (sAt lv j (ixF lv 0 0 w j)) = true
  off : isGo (sAt lv T (ixF lv 0 0 w T)) = false
def endD (lv : List (List St)) (w : Nat → Nat) (T : Nat) : PyData := .tuple [valS (sAt lv T (ixF lv 0 0 w T)), .int T]
theorem Tells.one {lv : List (List St)} {w : Nat → Nat} {T T' : Nat} (a : Tells lv w T) (b : Tells lv w T') : T = T' := by
  rcases Nat.lt_trichotomy T T' with z | z | z
  · have := b.on T z
    rw [a.off] at this
    cases this
  · exact z
  · have := a.on T' z
    rw [b.off] at this
    cases this
theorem MOk.tells {sz : List Int} {lv : List (List St)} (h : MOk sz lv) {w : Nat → Nat} (hw : ∀ j, w j < sizeN sz j) : ∃ T, Tells lv w T ∧ T < lv.length := by
  have key : ∀ k, (∃ T, Tells lv w T ∧ T < lv.length) ∨ ∀ j, j < k → isGo (sAt lv j (ixF lv 0 0 w j)) = true := by
    intro k
    induction k with
    | zero => exact .inr fun j hj => by omega
    | succ k ih =>
      rcases ih with z | z
      · exact .inl z
      · have i := h.walk h.in0 (w := w) (c := k) (fun j hj => by rw [Nat.zero_add]; exact hw j) fun j hj => by rw [Nat.zero_add]; exact z j hj
        rw [Nat.zero_add] at i
        cases y : isGo (sAt lv k (ixF lv 0 0 w k)) with
        | false => exact .inl ⟨k, ⟨z, y⟩, i.1⟩
        | true =>
          refine .inr fun j hj => ?_
          by_cases e : j = k
          · subst e; exact y
          · exact z j (by omega)
  rcases key lv.length with z | z
  · exact z
  · have l1 := h.l1
    have i := h.walk h.in0 (w := w) (c := lv.length - 1) (fun j hj => by rw [Nat.zero_add]; exact hw j) fun j hj => by rw [Nat.zero_add]; exact z j (by omega)
    rw [Nat.zero_add] at i
    have := h.last i (z _ (by omega))
    omega
def rwD (p : List Int × List Int) : PyData := rowD p.1 p.2
/-- the digits that told rows bring, level by level -/
def rowW (sz : List Int) (rws : List (List Int × List Int)) (t : Nat) : Nat := (ent (rws.getD (t % sz.length) ([], [])).1 (rws.getD (t % sz.length) ([], [])).2 (t / sz.length)).toNat
def RowsOk (sz : List Int) (rws : List (List Int × List Int)) : Prop := rws.length = sz.length ∧ ∀ k p, rws[k]? = some p → p.2 ≠ [] ∧ ∀ i, 0 ≤ ent p.1 p.2 i ∧ ent p.1 p.2 i < sz.getD k 0
theorem RowsOk.n {sz : List Int} {rws : List (List Int × List Int)} (h : RowsOk sz rws) (s : SzOk sz) (t : Nat) : ∃ p, rws[t % sz.length]? = some p ∧ p.2 ≠ [] ∧ rowW sz rws t < sizeN sz t ∧ ((rowW sz rws t : Nat) : Int) = ent p.1 p.2 (t / sz.length) := by
  have lt := (s.at t).1
  have lt' : t % sz.length < rws.length := by rw [h.1]; exact lt
  refine ⟨rws[t % sz.length], List.getElem?_eq_getElem lt', ?_⟩
  obtain ⟨h1, h2⟩ := h.2 _ _ (List.getElem?_eq_getElem lt')
  have h3 := h2 (t / sz.length)
  have e : rws.getD (t % sz.length) ([], []) = rws[t % sz.length] := by rw [List.getD_eq_getElem?_getD, List.getElem?_eq_getElem lt']; rfl
  refine ⟨h1, ?_⟩
  unfold rowW sizeN
  rw [e]
  omega
def okRunOn (ds : List PyData) (d : PyData) : Prop := ∃ (sz : List Int) (lv : List (List St)) (rws : List (List Int × List Int)) (T : Nat), ds = [machD sz lv, .tuple (rws.map rwD)] ∧ MOk sz lv ∧ RowsOk sz rws ∧ Tells lv (rowW sz rws) T ∧ d = endD lv (rowW sz rws) T
def okStates (ds : List PyData) (d : PyData) : Prop := ∃ (sz : List Int) (lv : List (List St)), ds = [machD sz lv] ∧ lv.length ≤ 100 ∧ d = intsD (lv.map fun l => (l.length : Int))
def spToldBy (K : PySem.W.Frag) : Sp := fun vs H Q _ => ∃ (x y : V) (sz : List Int) (lv : List (List St)) (l : List Int) (T : Nat), vs = [x, y] ∧ Dt H x (machD sz lv) ∧ (Dt H y (intsD l) ∨ ∃ a, y = .ref a ∧ H a = some (.lst (l.map V.int))) ∧ MOk sz lv ∧ WOk sz 0 l ∧ lv.length ≤ l.length + 1 ∧ Tells lv (dgs l) T ∧
  ∀ x' H', Ex H H' → Dt H' x' (endD lv (dgs l) T) → Q x' H'
theorem et_isTold {K : PySem.W.Frag} {σ : L2.St} {H : Hp} {ts : TE} {t n : Nat} {s : St} (h : EvD ts σ H (resS t n s)) : EvT (tTest (tOp rEq (tOp (rIxT K) ts (tC (.int 0))) (tC (.str "told")))) σ H (!isGo s) := by
  cases s with
  | told d => exact et_is (et_test (ev_op (fun H1 e Q q => (ed_ix (d := .str "told") h ev_c rfl) H1 e Q fun x H2 e2 hx => by cases hx; exact q H2 e2) ev_c (rv_eq rfl))) (decide_eq_true rfl)
  | go ns => exact et_is (et_test (ev_op (fun H1 e Q q => (ed_ix (d := .str "on") h ev_c rfl) H1 e Q fun x H2 e2 hx => by cases hx; exact q H2 e2) ev_c (rv_eq rfl))) (by show decide (V.str "on" = V.str "told") = false; decide +kernel)
theorem et_isOn {K : PySem.W.Frag} {σ : L2.St} {H : Hp} {ts : TE} {t n : Nat} {s : St} (h : EvD ts σ H (resS t n s)) : EvT (tTest (tOp rEq (tOp (rIxT K) ts (tC (.int 0))) (tC (.str "on")))) σ H (isGo s) := by
  cases s with
  | told d => exact et_is (et_test (ev_op (fun H1 e Q q => (ed_ix (d := .str "told") h ev_c rfl) H1 e Q fun x H2 e2 hx => by cases hx; exact q H2 e2) ev_c (rv_eq rfl))) (by show decide (V.str "told" = V.str "on") = false; decide +kernel)
  | go ns => exact et_is (et_test (ev_op (fun H1 e Q q => (ed_ix (d := .str "on") h ev_c rfl) H1 e Q fun x H2 e2 hx => by cases hx; exact q H2 e2) ev_c (rv_eq rfl))) (decide_eq_true rfl)
theorem ed_here {K : PySem.W.Frag} {σ : L2.St} {H : Hp} {ts : TE} {t n : Nat} {s : St} (h : EvD ts σ H (resS t n s)) (g : isGo s = true) : EvD (tOp (rIxT K) ts (tC (.int 1))) σ H (tnD t n) := by
  obtain ⟨ns, rfl⟩ := go_of g
  exact ed_ix h ev_c rfl
/-- seq[i], a list or a tuple of ints -/
theorem ev_ixS {K : PySem.W.Frag} {σ : L2.St} {H : Hp} {ta tb : TE} {y : V} {l : List Int} {i : Nat} (ha : Ev ta σ H y) (hy : Dt H y (intsD l) ∨ ∃ a, y = .ref a ∧ H a = some (.lst (l.map V.int))) (hb : Ev tb σ H (.int (i : Int))) (hi : i < l.length) : Ev (tOp (rIx K) ta tb) σ H (.int (l.getD i 0)) := fun H1 e1 Q q =>
  ha H1 e1 _ fun H2 e2 => hb H2 (e1.trans e2) _ fun H3 e3 => by
    have at_ : atI (l.map V.int) (i : Int) = some (.int (l.getD i 0)) := atI_nat (by rw [List.getElem?_map, List.getElem?_eq_getElem hi, List.getD_eq_getElem?_getD, List.getElem?_eq_getElem hi]; rfl)
    rcases hy with hy | ⟨a, rfl, hA⟩
    · obtain ⟨a, rfl, hA⟩ := dt_ints hy
      exact .inr (.inl ⟨a, _, _, _, rfl, rfl, SqT.of (((e1.trans e2).trans e3) _ _ hA), at_, q H3 (e2.trans e3)⟩)
    · exact .inl ⟨a, _, _, _, rfl, rfl, SqL.of (((e1.trans e2).trans e3) _ _ hA), at_, q H3 (e2.trans e3)⟩
section
variable {P : Program} {w : World} {K : PySem.W.Frag} {mg : Str → Option Value} {base0 : Heap} {f f1 f2 f3 : Addr} {fd fd1 fd2 fd3 : FuncData} {k : Nat}
theorem ok_entry (F : Fun K "told_entry" "told_entry" sEntry f fd) (m1 : mg "len" = none) : FnOk P w K mg base0 CX0 (k + 1) f fd ["row", "i"] (spD okEntry) := by
  refine F.ok scEntry (fun vs H Q E h => ?_) (fun cdv A outer s H vs Q E hr h => ?_)
  · obtain ⟨ds, d, all, ⟨bs, rs, i, rfl, _⟩, _⟩ := h
    exact all.len
  · obtain ⟨ds, d, all, ⟨bs, rs, i, rfl, hne, rfl⟩, q⟩ := h
    obtain ⟨v, v1, rfl, hv, h1⟩ := dts2 all
    cases dt_int h1
    refine ⟨_, pss_cons (ps_asg (pv 0) (pg_tup (by rfl) (pgs_cons (pg_name (i := 2) scEntry.nd rfl (Or.inl rfl)) (pgs_cons (pg_name (i := 3) scEntry.nd rfl (Or.inl rfl)) pgs_nil))))
      (pss_cons (ps_if (pt_cmpR op_lt (pv 1) (pe_callB call_len_seq (by rfl) m1 (by decide +kernel) (pa_cons (pv 2) pa_nil)) (nomark _)) (pss_one (ps_ret (pe_ix ix_tup (pv 2) (pv 1) (fun _ _ => rfl)))) pss_nil)
      (pss_one (ps_ret (pe_ix ix_tup (pv 3) (pe_op op_mod (pe_op op_sub (pv 1) (pe_callB call_len_seq (by rfl) m1 (by decide +kernel) (pa_cons (pv 2) pa_nil))) (pe_callB call_len_seq (by rfl) m1 (by decide +kernel) (pa_cons (pv 3) pa_nil))) (fun _ _ => rfl))))), ?_⟩
    refine sd_two (D := { nx := _, rt := _ }) (ed_var rfl hv) fun y z H1 e1 hy hz => ?_
    refine q_when (b := decide (i < bs.length)) (et_lt (ev_var rfl) (ev_lenI (ed_var rfl hy))) (fun hb H2 e2 => ?_) (fun hb H2 e2 => ?_)
    · exact sd_ret (ed_int (ev_entHead (of_decide_eq_true hb) (ed_var rfl (hy.tk (tk_ex e2))) (ev_var rfl))) fun x H3 e3 hx => q x H3 ((e1.trans e2).trans e3) hx
    · have hi := of_decide_eq_false hb
      have hl : 0 < rs.length := List.length_pos_iff.mpr hne
      refine sd_ret (ed_int (ev_entTail hne hi (ed_var rfl (hz.tk (tk_ex e2))) (ev_is (ev_op (ev_op (ev_var rfl) (ev_lenI (ed_var rfl (hy.tk (tk_ex e2)))) rv_I0) (ev_lenI (ed_var rfl (hz.tk (tk_ex e2)))) (rv_I (by show (0 : Int) < (rs.length : Int); omega))) ?_))) fun x H3 e3 hx => q x H3 ((e1.trans e2).trans e3) hx
      exact congrArg V.int (mod_nat bs rs i hne hi)
theorem ok_lentry (F : Fun K "_law_told_entry" "_law_told_entry" sLEntry f fd) (m1 : mg "len" = none) (m2 : mg "int" = none) : FnOk P w K mg base0 CX0 (k + 1) f fd ["row", "i"] (spD okEntry) := by
  refine F.ok scLEntry (fun vs H Q E h => ?_) (fun cdv A outer s H vs Q E hr h => ?_)
  · obtain ⟨ds, d, all, ⟨bs, rs, i, rfl, _⟩, _⟩ := h
    exact all.len
  · obtain ⟨ds, d, all, ⟨bs, rs, i, rfl, hne, rfl⟩, q⟩ := h
    obtain ⟨v, v1, rfl, hv, h1⟩ := dts2 all
    cases dt_int h1
    refine ⟨_, pss_cons (ps_asg (pv 0) (pg_tup (by rfl) (pgs_cons (pg_name (i := 2) scLEntry.nd rfl (Or.inl rfl)) (pgs_cons (pg_name (i := 3) scLEntry.nd rfl (Or.inl rfl)) pgs_nil))))
      (pss_one (ps_ret (pe_ifExp (pt_cmpR op_lt (pv 1) (pe_callB call_len_seq (by rfl) m1 (by decide +kernel) (pa_cons (pv 2) pa_nil)) (nomark _)) (pe_ix ix_tup (pv 2) (pv 1) (fun _ _ => rfl))
        (pe_ix ix_tup (pv 3) (pe_op op_mod (pe_callTy call_int1 (by rfl) m2 (by decide +kernel) (pa_cons (pe_op op_sub (pv 1) (pe_callB call_len_seq (by rfl) m1 (by decide +kernel) (pa_cons (pv 2) pa_nil))) pa_nil)) (pe_callB call_len_seq (by rfl) m1 (by decide +kernel) (pa_cons (pv 3) pa_nil))) (fun _ _ => rfl))))), ?_⟩
    refine sd_two (D := { nx := _, rt := _ }) (ed_var rfl hv) fun y z H1 e1 hy hz => ?_
    refine sd_ret (ed_int (ev_if (b := decide (i < bs.length)) (et_lt (ev_var rfl) (ev_lenI (ed_var rfl hy))) (fun hb => ev_entHead (of_decide_eq_true hb) (ed_var rfl hy) (ev_var rfl)) fun hb => ?_)) fun x H3 e3 hx => q x H3 (e1.trans e3) hx
    have hi := of_decide_eq_false hb
    have hl : 0 < rs.length := List.length_pos_iff.mpr hne
    refine ev_entTail hne hi (ed_var rfl hz) (ev_is (ev_op (rc_int (ev_op (ev_var rfl) (ev_lenI (ed_var rfl hy)) rv_I0)) (ev_lenI (ed_var rfl hz)) (rv_I (by show (0 : Int) < (rs.length : Int); omega))) ?_)
    exact congrArg V.int (mod_nat bs rs i hne hi)
theorem ok_resultAt (F : Fun K "_result_at" "_result_at" sResultAt f fd) : FnOk P w K mg base0 CX0 (k + 1) f fd ["machine", "t", "n"] (spD okResult) := by
  refine F.ok scResultAt (fun vs H Q E h => ?_) (fun cdv A outer s H vs Q E hr h => ?_)
  · obtain ⟨ds, d, all, ⟨sz, lv, t, n, rfl, _⟩, _⟩ := h
    exact all.len
  · obtain ⟨ds, d, all, ⟨sz, lv, t, n, rfl, i, rfl⟩, q⟩ := h
    obtain ⟨x, y, z, rfl, hx, hy, hz⟩ := dts3 all
    cases dt_int hy
    cases dt_int hz
    refine ⟨_, pss_cons (ps_set (i := 3) scResultAt.nd rfl (.inl rfl) (pe_ix ix_tup (pe_ix ix_tup (pe_ix ix_tup (pv 0) pe_int (fun _ _ => rfl)) (pv 1) (fun _ _ => rfl)) (pv 2) (fun _ _ => rfl)))
      (pss_one (ps_ret (pe_ifExp (pt_cmpR op_eq (pe_ix ix_tup (pv 3) pe_int (fun _ _ => rfl)) pe_str (nomark _)) (pe_tup (pa_cons pe_str (pa_cons (pe_tup (pa_cons (pv 1) (pa_cons (pv 2) pa_nil))) pa_nil)))
        (pe_tup (pa_cons pe_str (pa_cons (pe_ix ix_tup (pv 3) pe_int (fun _ _ => rfl)) (pa_cons (pv 1) pa_nil))))))), ?_⟩
    refine q_asgD (D := { nx := _, rt := _ }) (ed_sAt (ed_levels (ed_var rfl hx)) (ev_var rfl) (ev_var rfl) i) fun u H1 e1 hu => ?_
    refine sd_ret (d := resD lv t n) (fun H2 e2 Q' q' => et_go (ed_var rfl hu) H2 e2 _ fun H3 e3 => ?_) fun x' H2 e2 hx' => q x' H2 (e1.trans e2) hx'
    have hu3 := hu.tk (tk_ex (e2.trans e3))
    unfold resD at q'
    cases es : sAt lv t n with
    | go ns =>
      rw [es] at q'
      exact ed_tup (eds_cons ed_str (eds_cons (ed_tup (eds_cons (ed_int (ev_var rfl)) (eds_cons (ed_int (ev_var rfl)) eds_nil)) (by show (2 : Nat) ≤ 100000; decide)) eds_nil)) (by show (2 : Nat) ≤ 100000; decide) H3 (Ex.refl _) Q' fun v H4 e4 hv => q' v H4 (e3.trans e4) hv
    | told d =>
      rw [es] at q' hu3
      exact ed_tup (eds_cons ed_str (eds_cons (ed_told (ed_var rfl hu3)) (eds_cons (ed_int (ev_var rfl)) eds_nil))) (by show (3 : Nat) ≤ 100000; decide) H3 (Ex.refl _) Q' fun v H4 e4 hv => q' v H4 (e3.trans e4) hv
theorem ok_result (F : Fun K "_law_result" "_law_result" sResult f fd) : FnOk P w K mg base0 CX0 (k + 1) f fd ["machine", "t", "n"] (spD okResult) := by
  refine F.ok scResult (fun vs H Q E h => ?_) (fun cdv A outer s H vs Q E hr h => ?_)
  · obtain ⟨ds, d, all, ⟨sz, lv, t, n, rfl, _⟩, _⟩ := h
    exact all.len
  · obtain ⟨ds, d, all, ⟨sz, lv, t, n, rfl, i, rfl⟩, q⟩ := h
    obtain ⟨x, y, z, rfl, hx, hy, hz⟩ := dts3 all
    cases dt_int hy
    cases dt_int hz
    refine ⟨_, pss_cons (ps_set (i := 3) scResult.nd rfl (.inl rfl) (pe_ix ix_tup (pe_ix ix_tup (pe_ix ix_tup (pv 0) pe_int (fun _ _ => rfl)) (pv 1) (fun _ _ => rfl)) (pv 2) (fun _ _ => rfl)))
      (pss_one (ps_ret (pe_ifExp (pt_cmpR op_eq (pe_ix ix_tup (pv 3) pe_int (fun _ _ => rfl)) pe_str (nomark _)) (pe_tup (pa_cons pe_str (pa_cons (pe_tup (pa_cons (pv 1) (pa_cons (pv 2) pa_nil))) pa_nil)))
        (pe_tup (pa_cons pe_str (pa_cons (pe_ix ix_tup (pv 3) pe_int (fun _ _ => rfl)) (pa_cons (pv 1) pa_nil))))))), ?_⟩
    refine q_asgD (D := { nx := _, rt := _ }) (ed_sAt (ed_levels (ed_var rfl hx)) (ev_var rfl) (ev_var rfl) i) fun u H1 e1 hu => ?_
    refine sd_ret (d := resD lv t n) (fun H2 e2 Q' q' => et_go (ed_var rfl hu) H2 e2 _ fun H3 e3 => ?_) fun x' H2 e2 hx' => q x' H2 (e1.trans e2) hx'
    have hu3 := hu.tk (tk_ex (e2.trans e3))
    unfold resD at q'
    cases es : sAt lv t n with
    | go ns =>
      rw [es] at q'
      exact ed_tup (eds_cons ed_str (eds_cons (ed_tup (eds_cons (ed_int (ev_var rfl)) (eds_cons (ed_int (ev_var rfl)) eds_nil)) (by show (2 : Nat) ≤ 100000; decide)) eds_nil)) (by show (2 : Nat) ≤ 100000; decide) H3 (Ex.refl _) Q' fun v H4 e4 hv => q' v H4 (e3.trans e4) hv
    | told d =>
      rw [es] at q' hu3
      exact ed_tup (eds_cons ed_str (eds_cons (ed_told (ed_var rfl hu3)) (eds_cons (ed_int (ev_var rfl)) eds_nil))) (by show (3 : Nat) ≤ 100000; decide) H3 (Ex.refl _) Q' fun v H4 e4 hv => q' v H4 (e3.trans e4) hv
theorem ok_first (F : Fun K "first_reader" "first_reader" sFirst f fd)
    (G1 : FnOk P w K mg base0 CX0 k f1 fd1 ["machine", "t", "n"] (spD okResult)) (g1 : mg "_result_at" = some (.ref f1)) (kp1 : PySem.W.keepIn K (.ref f1) = true) (b1 : Binds K fd1 ["machine", "t", "n"] []) :
    FnOk P w K mg base0 CX0 (k + 1) f fd ["machine"] (spD okFirst) := by
  refine F.ok scFirst (fun vs H Q E h => ?_) (fun cdv A outer s H vs Q E hr h => ?_)
  · obtain ⟨ds, d, all, ⟨sz, lv, rfl, _⟩, _⟩ := h
    exact all.len
  · obtain ⟨ds, d, all, ⟨sz, lv, rfl, i, rfl⟩, q⟩ := h
    obtain ⟨x, rfl, hx⟩ := dts1 all
    refine ⟨_, pss_one (ps_ret (pe_call G1 hr (by rfl) g1 kp1 b1 .nil pass0 (pa_cons (pv 0) (pa_cons pe_int (pa_cons pe_int pa_nil))))), ?_⟩
    exact sd_ret (ed_call (eds_cons (ed_var rfl hx) (eds_cons (ed_int ev_c) (eds_cons (ed_int ev_c) eds_nil))) ⟨sz, lv, 0, 0, rfl, i, rfl⟩) q
theorem ok_read (F : Fun K "read" "read" sRead f fd)
    (G1 : FnOk P w K mg base0 CX0 k f1 fd1 ["machine", "t", "n"] (spD okResult)) (g1 : mg "_result_at" = some (.ref f1)) (kp1 : PySem.W.keepIn K (.ref f1) = true) (b1 : Binds K fd1 ["machine", "t", "n"] []) :
    FnOk P w K mg base0 CX0 (k + 1) f fd ["machine", "reader", "digit"] (spD okRead) := by
  refine F.ok scRead (fun vs H Q E h => ?_) (fun cdv A outer s H vs Q E hr h => ?_)
  · obtain ⟨ds, d, all, ⟨sz, lv, t, n, e, rfl, _⟩, _⟩ := h
    exact all.len
  · obtain ⟨ds, d, all, ⟨sz, lv, t, n, e, rfl, m, i, g, he, rfl⟩, q⟩ := h
    obtain ⟨x, y, z, rfl, hx, hy, hz⟩ := dts3 all
    cases dt_int hz
    refine ⟨_, pss_cons (ps_asg (pv 1) (pg_tup (by rfl) (pgs_cons (pg_name (i := 3) scRead.nd rfl (Or.inl rfl)) (pgs_cons (pg_name (i := 4) scRead.nd rfl (Or.inl rfl)) pgs_nil))))
      (pss_one (ps_ret (pe_call G1 hr (by rfl) g1 kp1 b1 .nil pass0 (pa_cons (pv 0) (pa_cons (pe_op op_add (pv 3) pe_int) (pa_cons (pe_ix ix_tup (pe_ix ix_tup (pe_ix ix_tup (pe_ix ix_tup (pe_ix ix_tup (pv 0) pe_int (fun _ _ => rfl)) (pv 3) (fun _ _ => rfl)) (pv 4) (fun _ _ => rfl)) pe_int (fun _ _ => rfl)) (pv 2) (fun _ _ => rfl)) pa_nil)))))), ?_⟩
    refine sd_two (D := { nx := _, rt := _ }) (d1 := .int t) (d2 := .int n) (ed_var rfl hy) fun u v H1 e1 hu hv => ?_
    cases dt_int hu
    cases dt_int hv
    have hx1 := hx.tk (tk_ex e1)
    have nx := m.step i g he
    have so := m.st t n i
    obtain ⟨ns, en⟩ := go_of g
    have hs := ed_sAt (K := K) (σ := [some x, some y, some (.int (e : Int)), some (.int (t : Int)), some (.int (n : Int))]) (ed_levels (K := K) (ed_var (i := 0) rfl hx1)) (ev_var (i := 3) rfl) (ev_var (i := 4) rfl) i
    rw [en] at hs so nx
    rw [en] at q
    refine sd_ret (ed_call (eds_cons (ed_var rfl hx1) (eds_cons (ed_int (ev_is (ev_op (ev_var rfl) ev_c rv_I0) (congrArg V.int (by show (t : Int) + 1 = ((t + 1 : Nat) : Int); omega)))) (eds_cons (ed_int (ev_nx hs (ev_var rfl) (by rw [so.2.1]; exact he) so.2.2)) eds_nil))) ⟨sz, lv, t + 1, _, rfl, nx, rfl⟩) fun x' H2 e2 hx' => q x' H2 (e1.trans e2) hx'
theorem ok_readAll (F : Fun K "read_all" "read_all" sReadAll f fd)
    (G1 : FnOk P w K mg base0 CX0 k f1 fd1 ["machine", "reader", "digit"] (spD okRead)) (g1 : mg "read" = some (.ref f1)) (kp1 : PySem.W.keepIn K (.ref f1) = true) (b1 : Binds K fd1 ["machine", "reader", "digit"] []) :
    FnOk P w K mg base0 CX0 (k + 1) f fd ["machine", "reader", "digits"] (spD okReadAll) := by
  refine F.ok scReadAll (fun vs H Q E h => ?_) (fun cdv A outer s H vs Q E hr h => ?_)
  · obtain ⟨ds, d, all, ⟨sz, lv, t, n, c, l, rfl, _⟩, _⟩ := h
    exact all.len
  · obtain ⟨ds, d, all, ⟨sz, lv, t, n, c, l, rfl, m, i, g, wok, few, far, rfl⟩, q⟩ := h
    obtain ⟨x, y, z, rfl, hx, hy, hz⟩ := dts3 all
    obtain ⟨a, rfl, ha⟩ := dt_ints hz
    refine ⟨_, pss_cons (ps_set (i := 3) scReadAll.nd rfl (.inl rfl) (pe_tup (pa_cons pe_str (pa_cons (pv 1) pa_nil))))
      (pss_cons (ps_set (i := 4) scReadAll.nd rfl (.inl rfl) pe_int)
      (pss_cons (ps_for PassesOwn.never rfl (pi_tup (pv 2)) (pg_name (i := 5) scReadAll.nd rfl (Or.inl rfl))
        (pss_cons (ps_if (pt_cmpR op_eq (pe_ix ix_tup (pv 3) pe_int (fun _ _ => rfl)) pe_str (nomark _)) (pss_one ps_break) pss_nil)
        (pss_cons (ps_set (i := 3) scReadAll.nd rfl (.inl rfl) (pe_call G1 hr (by rfl) g1 kp1 b1 .nil pass0 (pa_cons (pv 0) (pa_cons (pe_ix ix_tup (pv 3) pe_int (fun _ _ => rfl)) (pa_cons (pv 5) pa_nil)))))
        (pss_one (ps_aug (i := 4) scReadAll.nd rfl (.inl rfl) pe_int iop_add)))))
      (pss_one (ps_ret (pe_tup (pa_cons (pv 3) (pa_cons (pv 4) pa_nil))))))), ?_⟩
    obtain ⟨ns, en⟩ := go_of g
    have r0 : resD lv t n = .tuple [.str "on", tnD t n] := by unfold resD; rw [en]; rfl
    refine q_asgD (D := { nx := _, rt := _ }) (d := resD lv t n) (by rw [r0]; exact ed_tup (eds_cons ed_str (eds_cons (ed_var rfl hy) eds_nil)) (by show (2 : Nat) ≤ 100000; decide)) fun u H1 e1 hu => ?_
    refine q_asg (D := { nx := _, rt := _ }) ev_c fun H2 e2 => ?_
    let ix := ixF lv t n (dgs l)
    have last : ∀ {b : Nat} {r : V} {z5 : Option V} {H3 : Hp}, Ex H H3 → Dt H3 r (resD lv (t + b) (ix b)) → FarTo lv t n (dgs l) l.length b → tRet (tTup (tCons (tVar 3) (tCons (tVar 4) tNil))) { nx := fun _ H' => Q V.non H', rt := Q } [some x, some y, some (.ref a), some r, some (.int (b : Nat)), z5] H3 := by
      intro b r z5 H3 e3 hr3 fb
      obtain rfl := far.one fb
      exact sd_ret (ed_tup (eds_cons (ed_var rfl hr3) (eds_cons (ed_int (ev_var rfl)) eds_nil)) (by show (2 : Nat) ≤ 100000; decide)) fun x' H4 e4 hx' => q x' H4 (e3.trans e4) hx'
    refine q_forT (D := { nx := _, rt := _ }) (ev_var rfl) (SqT.of ((e1.trans e2) _ _ ha)) (fun b σ' H' => ∃ (r : V) (z5 : Option V), σ' = [some x, some y, some (.ref a), some r, some (.int (b : Nat)), z5] ∧ Ex H H' ∧ Dt H' r (resD lv (t + b) (ix b)) ∧ ∀ j, j < b → isGo (sAt lv (t + j) (ix j)) = true)
      (fun H3 e3 => ⟨u, none, rfl, (e1.trans e2).trans e3, hu.tk (tk_ex (e2.trans e3)), fun j hj => by omega⟩) (fun b σ' H' _ p => by obtain ⟨r, z5, _, e, _⟩ := p; exact SqT.of (e _ _ ha)) (fun b v σ' H' hb p => ?_) (fun σ' H' p => ?_)
    · obtain ⟨r, z5, rfl, e3, hr3, on⟩ := p
      obtain ⟨dg, hd, rfl⟩ := map_at hb
      have lt : b < l.length := (List.getElem?_eq_some_iff.mp hd).1
      have gd : l.getD b 0 = dg := by rw [List.getD_eq_getElem?_getD, hd]; rfl
      have wn := wok.n lt
      rw [gd] at wn
      have ib := m.walk i (w := dgs l) (c := b) (fun j hj => (wok.n (by omega)).1) on
      refine q_when (D := { nx := _, rt := _, bk := _, ct := _ }) (et_isTold (ed_var rfl hr3)) (fun hb2 H4 e4 => ?_) (fun hb2 H4 e4 => ?_)
      · unfold tBreak
        dsimp only
        refine last (e3.trans e4) (hr3.tk (tk_ex e4)) ⟨by omega, on, .inr ?_⟩
        show isGo (sAt lv (t + b) (ix b)) = false
        cases z : isGo (sAt lv (t + b) (ix b)) with
        | false => rfl
        | true => rw [z] at hb2; cases hb2
      · have gb : isGo (sAt lv (t + b) (ix b)) = true := by
          cases z : isGo (sAt lv (t + b) (ix b)) with
          | true => rfl
          | false => rw [z] at hb2; cases hb2
        refine q_asgD (D := { nx := _, rt := _, bk := _, ct := _ }) (d := resD lv (t + (b + 1)) (ix (b + 1))) (ed_call (eds_cons (ed_var rfl (hx.tk (tk_ex (e3.trans e4)))) (eds_cons (ed_here (ed_var rfl (hr3.tk (tk_ex e4))) gb) (eds_cons (ed_int (ev_is (ev_var rfl) (by rw [← wn.2]))) eds_nil))) ⟨sz, lv, t + b, ix b, dgs l b, rfl, m, ib, gb, wn.1, rfl⟩) fun r' H5 e5 hr5 => ?_
        refine s_aug (D := { nx := _, rt := _, bk := _, ct := _ }) (i := 4) (f := fun i j => i + j) rfl ev_c fun H6 e6 => ?_
        refine ⟨r', some (.int dg), ?_, ((e3.trans e4).trans e5).trans e6, hr5.tk (tk_ex e6), fun j hj => ?_⟩
        · show [some x, some y, some (V.ref a), some r', some (V.int ((b : Int) + 1)), _] = _
          rw [show (b : Int) + 1 = ((b + 1 : Nat) : Int) by omega]
        · by_cases z : j = b
          · subst z; exact gb
          · exact on j (by omega)
    · obtain ⟨r, z5, rfl, e3, hr3, on⟩ := p
      rw [List.length_map] at hr3 on ⊢
      exact last e3 hr3 ⟨Nat.le_refl _, on, .inl rfl⟩
end
end K10
set_option Elab.async false
set_option linter.all false
set_option maxRecDepth 100000
set_option maxHeartbeats 1000000
namespace K10
open PySem PySem.Spec PyProof.Rows L2 Evl
theorem lenK {X : Cx} (K : PySem.W.Frag) (e : X.K = K) : CallR X (.builtin "len") (rLenS K) := by
  subst e
  exact call_len_seq
theorem nat_mod {a b : Nat} : ((a : Int) % (b : Int)) = ((a % b : Nat) : Int) := (Int.natCast_emod _ _).symm
theorem nat_div {a b : Nat} : ((a : Int) / (b : Int)) = ((a / b : Nat) : Int) := (Int.natCast_ediv _ _).symm
theorem nat_succ {a : Nat} : ((a : Int) + 1) = ((a + 1 : Nat) : Int) := by omega
theorem ev_modN {σ : L2.St} {H : Hp} {ta tb : TE} {a b : Nat} (ha : Ev ta σ H (.int (a : Int))) (hb : Ev tb σ H (.int (b : Int))) (h : 0 < b) : Ev (tOp (rI (fun _ j => 0 < j) fun i j => .int (i % j)) ta tb) σ H (.int ((a % b : Nat) : Int)) := ev_is (ev_op ha hb (rv_I (by show (0 : Int) < b; omega))) (congrArg V.int nat_mod)
theorem ev_divN {σ : L2.St} {H : Hp} {ta tb : TE} {a b : Nat} (ha : Ev ta σ H (.int (a : Int))) (hb : Ev tb σ H (.int (b : Int))) (h : 0 < b ∧ b < 1000) : Ev (tOp (rI CDiv fun i j => .int (i / j)) ta tb) σ H (.int ((a / b : Nat) : Int)) := ev_is (ev_op ha hb (rv_I (by unfold CDiv; omega))) (congrArg V.int nat_div)
theorem ev_succ {σ : L2.St} {H : Hp} {ta : TE} {a : Nat} (ha : Ev ta σ H (.int (a : Int))) : Ev (tOp (rI0 fun i j => .int (i + j)) ta (tC (.int 1))) σ H (.int ((a + 1 : Nat) : Int)) := ev_is (ev_op ha ev_c rv_I0) (congrArg V.int nat_succ)
section
variable {P : Program} {w : World} {K : PySem.W.Frag} {mg : Str → Option Value} {base0 : Heap} {f f1 f2 f3 : Addr} {fd fd1 fd2 fd3 : FuncData} {k : Nat}
theorem ok_states (F : Fun K "states_at" "states_at" sStatesAt f fd) (m1 : mg "len" = none) (m2 : mg "tuple" = none) : FnOk P w K mg base0 CX0 (k + 1) f fd ["machine"] (spD okStates) := by
  refine F.ok scStatesAt (fun vs H Q E h => ?_) (fun cdv A outer s H vs Q E hr h => ?_)
  · obtain ⟨ds, d, all, ⟨sz, lv, rfl, _⟩, _⟩ := h
    exact all.len
  · obtain ⟨ds, d, all, ⟨sz, lv, rfl, few, rfl⟩, q⟩ := h
    obtain ⟨x, rfl, hx⟩ := dts1 all
    refine ⟨_, pss_cons (ps_asg (pv 0) (pg_tup (by rfl) (pgs_cons (pg_name (i := 1) scStatesAt.nd rfl (Or.inl rfl)) (pgs_cons (pg_name (i := 2) scStatesAt.nd rfl (Or.inl rfl)) pgs_nil))))
      (pss_one (ps_ret (pe_callTy tupB (by rfl) m2 (by decide +kernel) (pa_cons (pe_lc (own := [("level", 3)]) (g := gName 3) rfl scStatesAt.nd (pi_tup (pv 2)) (blkOk_by (N := nStatesAt) (sc := defScope sStatesAt) (by decide +kernel))
        (fun _ _ _ _ _ => pg_name (i := 3) scStatesAt.nd rfl (Or.inl rfl)) (fun _ _ _ _ _ => pts_nil) (fun _ _ _ _ _ => pe_callB (lenK K rfl) (by rfl) m1 (by decide +kernel) (pa_cons (pv 3) pa_nil))) pa_nil)))), ?_⟩
    refine sd_two (D := { nx := _, rt := _ }) (d1 := intsD sz) (d2 := .tuple (lv.map levD)) (ed_var rfl hx) fun y z H1 e1 hy hz => ?_
    refine sd_ret (ed_tupOf (eld_lcT (ds := lv.map levD) (fun _ => true) (fun i => .int (((lv.getD i []).length : Nat) : Int)) (ed_var rfl hz) (by rw [List.length_map]; omega) fun i d y H2 e2 hd hy => ?_)) fun x' H2 e2 hx' => q x' H2 (e1.trans e2) ?_
    · obtain ⟨l, hl, rfl⟩ := map_at hd
      have el : lv.getD i [] = l := by rw [List.getD_eq_getElem?_getD, hl]; rfl
      refine turn_name rfl (et_yes rfl) fun _ => ed_int (ev_is (ev_lenT (ed_var rfl hy)) ?_)
      rw [List.length_map, el]
    · rw [givD_all, List.length_map] at hx'
      have key : (List.range lv.length).map (fun i => PyData.int (((lv.getD i []).length : Nat) : Int)) = (lv.map fun l => (l.length : Int)).map .int := by
        apply List.ext_getElem
        · simp
        · intro i h1 h2
          simp only [List.length_map] at h2
          simp [h2]
      rw [key] at hx'
      exact hx'
theorem ok_runOn (F : Fun K "run_on" "run_on" sRunOn f fd) (m1 : mg "len" = none)
    (G1 : FnOk P w K mg base0 CX0 k f1 fd1 ["row", "i"] (spD okEntry)) (g1 : mg "told_entry" = some (.ref f1)) (kp1 : PySem.W.keepIn K (.ref f1) = true) (b1 : Binds K fd1 ["row", "i"] []) :
    FnOk P w K mg base0 CX0 (k + 1) f fd ["machine", "rows"] (spD okRunOn) := by
  refine F.ok scRunOn (fun vs H Q E h => ?_) (fun cdv A outer s H vs Q E hr h => ?_)
  · obtain ⟨ds, d, all, ⟨sz, lv, rws, T, rfl, _⟩, _⟩ := h
    exact all.len
  · obtain ⟨ds, d, all, ⟨sz, lv, rws, T, rfl, m, ro, tl, rfl⟩, q⟩ := h
    obtain ⟨x, y, rfl, hx, hy⟩ := dts2 all
    refine ⟨_, pss_cons (ps_asg (pv 0) (pg_tup (by rfl) (pgs_cons (pg_name (i := 2) scRunOn.nd rfl (Or.inl rfl)) (pgs_cons (pg_name (i := 3) scRunOn.nd rfl (Or.inl rfl)) pgs_nil))))
      (pss_cons (ps_set (i := 4) scRunOn.nd rfl (.inl rfl) pe_int)
      (pss_cons (ps_set (i := 5) scRunOn.nd rfl (.inl rfl) (pe_ix ix_tup (pe_ix ix_tup (pv 3) pe_int (fun _ _ => rfl)) pe_int (fun _ _ => rfl)))
      (pss_cons (ps_while PassesOwn.never (pt_cmpR op_eq (pe_ix ix_tup (pv 5) pe_int (fun _ _ => rfl)) pe_str (nomark _))
        (pss_cons (ps_set (i := 6) scRunOn.nd rfl (.inl rfl) (pe_call G1 hr (by rfl) g1 kp1 b1 .nil pass0 (pa_cons (pe_ix ix_tup (pv 1) (pe_op op_mod (pv 4) (pe_callB call_len_seq (by rfl) m1 (by decide +kernel) (pa_cons (pv 2) pa_nil))) (fun _ _ => rfl)) (pa_cons (pe_op op_fdiv (pv 4) (pe_callB call_len_seq (by rfl) m1 (by decide +kernel) (pa_cons (pv 2) pa_nil))) pa_nil))))
        (pss_cons (ps_aug (i := 4) scRunOn.nd rfl (.inl rfl) pe_int iop_add)
        (pss_one (ps_set (i := 5) scRunOn.nd rfl (.inl rfl) (pe_ix ix_tup (pe_ix ix_tup (pv 3) (pv 4) (fun _ _ => rfl)) (pe_ix ix_tup (pe_ix ix_tup (pv 5) pe_int (fun _ _ => rfl)) (pv 6) (fun _ _ => rfl)) (fun _ _ => rfl)))))))
      (pss_one (ps_ret (pe_tup (pa_cons (pe_ix ix_tup (pv 5) pe_int (fun _ _ => rfl)) (pa_cons (pv 4) pa_nil)))))))), ?_⟩
    have s1 := m.s.1
    have s3 := m.s.2.1
    refine sd_two (D := { nx := _, rt := _ }) (d1 := intsD sz) (d2 := .tuple (lv.map levD)) (ed_var rfl hx) fun u v H1 e1 hu hv => ?_
    refine q_asg (D := { nx := _, rt := _ }) (i := 4) (v := .int 0) ev_c fun H2 e2 => ?_
    refine q_asgD (D := { nx := _, rt := _ }) (i := 5) (d := stD (sAt lv 0 0)) (ed_sAt (t := 0) (n := 0) (ed_var rfl (hv.tk (tk_ex e2))) ev_c ev_c m.in0) fun sv H3 e3 hs => ?_
    let ix := ixF lv 0 0 (rowW sz rws)
    refine q_while (D := { nx := _, rt := _ }) (fun a σ' H' => ∃ (t : Nat) (sv : V) (z : Option V), σ' = [some x, some y, some u, some v, some (.int (t : Nat)), some sv, z] ∧ Ex H1 H' ∧ Dt H' sv (stD (sAt lv t (ix t))) ∧ (∀ j, j < t → isGo (sAt lv j (ix j)) = true) ∧ t < lv.length ∧ a = lv.length - t) (lv.length - 0)
      ⟨0, sv, none, rfl, e2.trans e3, hs, fun j hj => by omega, m.l1, rfl⟩ fun a σ' H' inv => ?_
    obtain ⟨t, sv, z, rfl, e4, hs, on, lt, rfl⟩ := inv
    have i := m.walk m.in0 (w := rowW sz rws) (c := t) (fun j hj => by rw [Nat.zero_add]; obtain ⟨p, _, _, h, _⟩ := ro.n m.s j; exact h) (fun j hj => by rw [Nat.zero_add]; exact on j hj)
    rw [Nat.zero_add] at i
    refine ⟨isGo (sAt lv t (ix t)), et_go (ed_var rfl hs), fun hb H4 e5 => ?_, fun hb H4 e5 => ?_⟩
    · have e45 := e4.trans e5
      have hy5 := hy.tk (tk_ex (e1.trans e45))
      have hu5 := hu.tk (tk_ex e45)
      have hs5 := hs.tk (tk_ex e5)
      obtain ⟨p, hp, pne, wlt, wen⟩ := ro.n m.s t
      have l2 := m.last i hb
      refine ⟨_, fun _ _ h => h, ?_⟩
      refine q_asg (D := { nx := _, rt := _, ct := _, bk := _ }) (v := .int ((rowW sz rws t : Nat) : Int)) (ev_is (int_ed (ed_call (eds_cons (ed_ix (d := rwD p) (ed_var rfl hy5) (ev_modN (ev_var rfl) (ev_lenI (ed_var rfl hu5)) (by omega)) (atI_nat (by rw [List.getElem?_map, hp]; rfl))) (eds_cons (ed_int (ev_divN (ev_var rfl) (ev_lenI (ed_var rfl hu5)) ⟨by omega, by omega⟩)) eds_nil)) ⟨p.1, p.2, t / sz.length, rfl, pne, rfl⟩)) (congrArg V.int wen.symm)) fun H5 e6 => ?_
      refine s_aug (D := { nx := _, rt := _, ct := _, bk := _ }) (i := 4) (f := fun i j => i + j) rfl ev_c fun H6 e7 => ?_
      have e67 := e6.trans e7
      have hs7 := hs5.tk (tk_ex e67)
      have hv7 := hv.tk (tk_ex (e45.trans e67))
      have so := m.st t _ i
      obtain ⟨ns, en⟩ := go_of hb
      have nx := m.step i hb wlt
      have ixs : ix (t + 1) = nxS (sAt lv t (ix t)) (rowW sz rws t) := by
        show nxS (sAt lv (0 + t) (ixF lv 0 0 (rowW sz rws) t)) _ = _
        rw [Nat.zero_add]
      have ix1 : Ev (tOp (rIxT K) (tOp (rIxT K) (tVar 5) (tC (.int 1))) (tVar 6)) [some x, some y, some u, some v, some (.int ((t : Int) + 1)), some sv, some (.int ((rowW sz rws t : Nat) : Int))] H6 (.int ((ix (t + 1) : Nat) : Int)) := by
        rw [ixs]
        change isGo (sAt lv t (ix t)) = true at hb
        have so' : StOk sz lv t (sAt lv t (ix t)) := so
        have en' : sAt lv t (ix t) = .go ns := en
        rw [en'] at so' hs7 ⊢
        exact ev_nx (ed_var rfl hs7) (ev_var rfl) (by rw [so'.2.1]; exact wlt) so'.2.2
      refine sd_asg (D := { nx := _, rt := _, ct := _, bk := _ }) (d := stD (sAt lv (t + 1) (ix (t + 1)))) (ed_sAt (t := t + 1) (n := ix (t + 1)) (ed_var rfl hv7) (ev_is (ev_var rfl) (congrArg V.int nat_succ)) ix1 (by rw [ixs]; exact nx)) fun sv' H7 e8 hs8 => ?_
      refine ⟨_, ?_, t + 1, sv', some (.int ((rowW sz rws t : Nat) : Int)), ?_, (e45.trans e67).trans e8, hs8, fun j hj => ?_, l2, rfl⟩
      · omega
      · show [some x, some y, some u, some v, some (V.int ((t : Int) + 1)), some sv', some (V.int ((rowW sz rws t : Nat) : Int))] = _
        rw [nat_succ]
      · by_cases z : j = t
        · subst z; exact hb
        · exact on j (by omega)
    · obtain rfl : T = t := tl.one ⟨on, hb⟩
      have hs5 := hs.tk (tk_ex e5)
      obtain ⟨d, ed'⟩ := told_of hb
      have ed2 : sAt lv T (ix T) = .told d := ed'
      rw [ed2] at hs5
      refine sd_ret (ed_tup (eds_cons (ed_told (ed_var rfl hs5)) (eds_cons (ed_int (ev_var rfl)) eds_nil)) (by show (2 : Nat) ≤ 100000; decide)) fun x' H5 e6 hx' => q x' H5 (e1.trans ((e4.trans e5).trans e6)) ?_
      show Dt H5 x' (.tuple [valS (sAt lv T (ix T)), .int T])
      rw [ed2]
      exact hx'
theorem ok_toldBy (F : Fun K "_law_told_by" "_law_told_by" sToldBy f fd) : FnOk P w K mg base0 CX0 (k + 1) f fd ["machine", "word"] (spToldBy K) := by
  refine F.ok scToldBy (fun vs H Q E h => ?_) (fun cdv A outer s H vs Q E hr h => ?_)
  · obtain ⟨x, y, sz, lv, l, T, rfl, _⟩ := h
    rfl
  · obtain ⟨x, y, sz, lv, l, T, rfl, hx, hy, m, wok, len, tl, q⟩ := h
    refine ⟨_, pss_cons (ps_par (i := 2) (j := 3) (by rfl) scToldBy.nd rfl rfl (by decide) rfl rfl (pa_cons (pe_ix ix_tup (pe_ix ix_tup (pe_ix ix_tup (pv 0) pe_int (fun _ _ => rfl)) pe_int (fun _ _ => rfl)) pe_int (fun _ _ => rfl)) (pa_cons pe_int pa_nil)) (by rfl))
      (pss_cons (ps_while PassesOwn.never (pt_cmpR op_eq (pe_ix ix_tup (pv 2) pe_int (fun _ _ => rfl)) pe_str (nomark _))
        (pss_one (ps_par (i := 2) (j := 3) (by rfl) scToldBy.nd rfl rfl (by decide) rfl rfl (pa_cons (pe_ix ix_tup (pe_ix ix_tup (pe_ix ix_tup (pv 0) pe_int (fun _ _ => rfl)) (pe_op op_add (pv 3) pe_int) (fun _ _ => rfl)) (pe_ix ix_tup (pe_ix ix_tup (pv 2) pe_int (fun _ _ => rfl)) (pe_ix ix_seq (pv 1) (pv 3) (fun _ _ => rfl)) (fun _ _ => rfl)) (fun _ _ => rfl)) (pa_cons (pe_op op_add (pv 3) pe_int) pa_nil)) (by rfl))))
      (pss_one (ps_ret (pe_tup (pa_cons (pe_ix ix_tup (pv 2) pe_int (fun _ _ => rfl)) (pa_cons (pv 3) pa_nil)))))), ?_⟩
    let ix := ixF lv 0 0 (dgs l)
    have keep : ∀ {H'}, Ex H H' → (Dt H' y (intsD l) ∨ ∃ a, y = .ref a ∧ H' a = some (.lst (l.map V.int))) := fun e => hy.imp (fun h => h.tk (tk_ex e)) fun ⟨a, h1, h2⟩ => ⟨a, h1, e _ _ h2⟩
    refine sd_par (D := { nx := _, rt := _ }) (d1 := stD (sAt lv 0 0)) (d2 := .int ((0 : Nat) : Int)) (eds_cons (ed_sAt (t := 0) (n := 0) (ed_levels (ed_var rfl hx)) ev_c ev_c m.in0) (eds_cons (ed_int ev_c) eds_nil)) fun sv tv H1 e1 hs ht => ?_
    cases dt_int ht
    refine q_while (D := { nx := _, rt := _ }) (fun a σ' H' => ∃ (t : Nat) (sv : V), σ' = [some x, some y, some sv, some (.int (t : Nat))] ∧ Ex H H' ∧ Dt H' sv (stD (sAt lv t (ix t))) ∧ (∀ j, j < t → isGo (sAt lv j (ix j)) = true) ∧ t < lv.length ∧ a = lv.length - t) (lv.length - 0)
      ⟨0, sv, rfl, e1, hs, fun j hj => by omega, m.l1, rfl⟩ fun a σ' H' inv => ?_
    obtain ⟨t, sv, rfl, e4, hs, on, lt, rfl⟩ := inv
    have i := m.walk m.in0 (w := dgs l) (c := t) (fun j hj => (wok.n (by omega)).1) (fun j hj => by rw [Nat.zero_add]; exact on j hj)
    rw [Nat.zero_add] at i
    refine ⟨isGo (sAt lv t (ix t)), et_go (ed_var rfl hs), fun hb H4 e5 => ?_, fun hb H4 e5 => ?_⟩
    · have e45 := e4.trans e5
      have hx5 := hx.tk (tk_ex e45)
      have hs5 := hs.tk (tk_ex e5)
      have l2 := m.last i hb
      have wn := wok.n (show t < l.length by omega)
      rw [Nat.zero_add] at wn
      have so := m.st t _ i
      obtain ⟨ns, en⟩ := go_of hb
      have nx := m.step i hb wn.1
      have ixs : ix (t + 1) = nxS (sAt lv t (ix t)) (dgs l t) := by
        show nxS (sAt lv (0 + t) (ixF lv 0 0 (dgs l) t)) _ = _
        rw [Nat.zero_add]
      have ix1 : Ev (tOp (rIxT K) (tOp (rIxT K) (tVar 2) (tC (.int 1))) (tOp (rIx K) (tVar 1) (tVar 3))) [some x, some y, some sv, some (.int (t : Int))] H4 (.int ((ix (t + 1) : Nat) : Int)) := by
        rw [ixs]
        have so' : StOk sz lv t (sAt lv t (ix t)) := so
        have en' : sAt lv t (ix t) = .go ns := en
        rw [en'] at so' hs5 ⊢
        exact ev_nx (ed_var rfl hs5) (ev_is (ev_ixS (ev_var rfl) (keep e45) (ev_var rfl) (by omega)) (congrArg V.int wn.2.symm)) (by rw [so'.2.1]; exact wn.1) so'.2.2
      refine ⟨_, fun _ _ h => h, ?_⟩
      refine sd_par (D := { nx := _, rt := _, ct := _, bk := _ }) (d1 := stD (sAt lv (t + 1) (ix (t + 1)))) (d2 := .int ((t + 1 : Nat) : Int)) (eds_cons (ed_sAt (t := t + 1) (n := ix (t + 1)) (ed_levels (ed_var rfl hx5)) (ev_succ (ev_var rfl)) ix1 (by rw [ixs]; exact nx)) (eds_cons (ed_int (ev_succ (ev_var rfl))) eds_nil)) fun sv' tv H7 e8 hs8 ht8 => ?_
      cases dt_int ht8
      refine ⟨_, ?_, t + 1, sv', rfl, e45.trans e8, hs8, fun j hj => ?_, l2, rfl⟩
      · omega
      · by_cases z : j = t
        · subst z; exact hb
        · exact on j (by omega)
    · obtain rfl : T = t := tl.one ⟨on, hb⟩
      have hs5 := hs.tk (tk_ex e5)
      obtain ⟨d, ed'⟩ := told_of hb
      have ed2 : sAt lv T (ix T) = .told d := ed'
      rw [ed2] at hs5
      refine sd_ret (ed_tup (eds_cons (ed_told (ed_var rfl hs5)) (eds_cons (ed_int (ev_var rfl)) eds_nil)) (by show (2 : Nat) ≤ 100000; decide)) fun x' H5 e6 hx' => q x' H5 ((e4.trans e5).trans e6) ?_
      show Dt H5 x' (.tuple [valS (sAt lv T (ix T)), .int T])
      rw [ed2]
      exact hx'
end
end K10
set_option Elab.async false
set_option linter.all false
set_option maxRecDepth 100000
set_option maxHeartbeats 1000000
namespace K10
open PySem PySem.Spec PyProof.Rows L2 Evl
/-! ### the law: sizes, rows, machines drawn -/
theorem DtAll.ne {H : Hp} {xs : List V} {ds : List PyData} (r : DtAll H xs ds) (h : ds ≠ []) : xs ≠ [] := fun z => h (r.nil_iff.mp z)
theorem dt_mem {H : Hp} {xs : List V} {ds : List PyData} (all : DtAll H xs ds) {x : V} (h : x ∈ xs) : ∃ d ∈ ds, Dt H x d := by
  obtain ⟨j, hj⟩ := List.getElem?_of_mem h
  have lt : j < ds.length := by
    rw [← all.len]
    exact (List.getElem?_eq_some_iff.mp hj).1
  obtain ⟨y, hy, hd⟩ := all.get (List.getElem?_eq_getElem lt)
  rw [hj] at hy
  cases hy
  exact ⟨_, List.getElem_mem lt, hd⟩
theorem ints_lst {σ : L2.St} {H : Hp} {ta : TA} {ns : List Int} (h : EvA ta σ H (ns.map V.int)) (few : ns.length ≤ 100000) : EvL (tLst ta) σ H (ns.map V.int) := el_lst h (by rw [List.length_map]; exact few)
section
variable {K : PySem.W.Frag} {σ : L2.St} {H H' : Hp} {ta tb te td tx : TE} {v x : V} {m c : Addr} {n n' n1 n2 : Nat} {P P1 P2 : PyData → Prop} {ds es : List PyData} {D : Ends} {tz : TS}
theorem em_pickL {i : Nat} {ns : List Int} {E : XK} (hi : σ[i]? = some (some (.ref m))) (h : ∀ H1, Kin H H1 → EvL te σ H1 (ns.map V.int)) (full : ns ≠ []) (small : ns.length ≤ 1000) (few : n + 1 < 1000000) : EvM m c (tCall (spPick K) [] E (tCons (tVar i) (tCons te tNil))) σ H n (n + 1) (fun d => ∃ z ∈ ns, d = .int z) := fun H1 e1 mk Q q =>
  ⟨_, hi, h H1 e1 H1 (Ex.refl _) _ fun p H2 np e2 hp => ⟨m, c, p, n, ns.map V.int, rfl, SqL.of hp, by simpa using full, by rw [List.length_map]; exact small, mk.ex e2, few, fun z H' hz e3 mk3 => by
    obtain ⟨y, hy, rfl⟩ := List.mem_map.mp hz
    exact q _ _ H' ⟨y, hy, rfl⟩ ((kin_ex e2).trans e3) mk3 (.int y)⟩⟩
theorem em_pickV {i j : Nat} {a : Addr} {xs : List V} {E : XK} (hi : σ[i]? = some (some (.ref m))) (hj : σ[j]? = some (some (.ref a))) (hl : SqL K H a xs) (all : DtAll H xs ds) (full : ds ≠ []) (small : ds.length ≤ 1000) (few : n + 1 < 1000000) :
    EvM m c (tCall (spPick K) [] E (tCons (tVar i) (tCons (tVar j) tNil))) σ H n (n + 1) (fun d => d ∈ ds) := fun H1 e1 mk Q q =>
  ⟨_, hi, _, hj, m, c, a, n, xs, rfl, sq_kin e1 hl, all.ne full, by rw [all.len]; exact small, mk, few, fun z H' hz e3 mk3 => by
    obtain ⟨d, hd, y⟩ := dt_mem all hz
    exact q z d H' hd e3 mk3 ((y.tk (tk_kin e1)).tk (tk_kin e3))⟩
/-- l.append(te), te drawn -/
theorem sm_app {i : Nat} {l : Addr} {xs : List V} (hi : σ[i]? = some (some (.ref l))) (hl : H l = some (.lst xs)) (mk : Mok H m c n) (h : EvM m c te σ H n n1 P) (few : xs.length < 100000) (k : ∀ y d H1, P d → Kin H H1 → Mok H1 m c n1 → Dt H1 y d → D.nx σ (upd H1 l (.lst (xs ++ [y])))) :
    tDrop (tBM K "list" rAppend (tVar i) (tCons te tNil)) D σ H := ⟨_, hi, Or.inl ⟨rfl, xs, sq_of hl⟩, h H (Kin.refl _) mk _ fun y d H1 pd e1 mk1 hy => ⟨l, xs, y, rfl, rfl, (e1 _ _ hl fun _ z => nomatch z), sz_lt few, k y d H1 pd e1 mk1 hy⟩⟩
end
def okSizes (ds : List PyData) (P : PyData → Prop) : Prop := ds = [] ∧ P = fun d => ∃ sz : List Int, d = intsD sz ∧ SzOk sz
def okLRow (ds : List PyData) (P : PyData → Prop) : Prop := ∃ size : Int, ds = [.int size] ∧ 2 ≤ size ∧ size ≤ 9 ∧ P = IsRow size 3 3
section
variable {P : Program} {w : World} {K : PySem.W.Frag} {mg : Str → Option Value} {base0 : Heap} {f f1 f2 : Addr} {fd fd1 fd2 : FuncData} {k : Nat}
theorem ok_sizes (F : Fun K "_law_sizes" "_law_sizes" sSizes f fd) (m2 : mg "range" = none) (m3 : mg "tuple" = none)
    (G1 : FnOk P w K mg base0 CX0 k f1 fd1 ["m", "below"] spDraw) (g1 : mg "_law_draw" = some (.ref f1)) (kp1 : PySem.W.keepIn K (.ref f1) = true) (b1 : Binds K fd1 ["m", "below"] [])
    (G2 : FnOk P w K mg base0 CX0 k f2 fd2 ["m", "some"] (spPick K)) (g2 : mg "_law_of" = some (.ref f2)) (kp2 : PySem.W.keepIn K (.ref f2) = true) (b2 : Binds K fd2 ["m", "some"] []) :
    FnOk P w K mg base0 CX0 (k + 1) f fd ["m"] (spM 5 okSizes) := by
  refine F.ok scSizes (fun vs H Q E h => ?_) (fun cdv A outer s H vs Q E hr h => ?_)
  · obtain ⟨m, c, n, xs, ds, P, rfl, all, ⟨rfl, _⟩, _⟩ := h
    cases all
    rfl
  · obtain ⟨m, c, n, xs, ds, P, rfl, all, ⟨rfl, rfl⟩, mk, few, q⟩ := h
    cases all
    refine ⟨_, pss_one (ps_ret (pe_callTy tupB (by rfl) m3 (by decide +kernel) (pa_cons (pe_lc (own := [("k", 1)]) (g := gName 1) rfl scSizes.nd (pi_range1 (by rfl) m2 (pa_cons (pe_op op_add pe_int (pe_call G1 hr (by rfl) g1 kp1 b1 .nil pass0 (pa_cons (pv 0) (pa_cons pe_int pa_nil)))) pa_nil)) (blkOk_by (N := nSizes) (sc := defScope sSizes) (by decide +kernel))
      (fun _ _ _ _ _ => pg_name (i := 1) scSizes.nd rfl (Or.inl rfl)) (fun _ _ _ _ _ => pts_nil) (fun _ _ _ _ _ => pe_call G2 hr (by rfl) g2 kp2 b2 .nil pass0 (pa_cons (pv 0) (pa_cons (pe_lst (pa_cons pe_int (pa_cons pe_int (pa_cons pe_int pa_nil)))) pa_nil)))) pa_nil))), ?_⟩
    refine sm_ret mk (n1 := n + 4) (P := fun d => ∃ sz : List Int, d = intsD sz ∧ SzOk sz) (em_tupOf (PP := fun ds => ∃ k, (1 ≤ k ∧ k ≤ 3) ∧ Each (fun d => ∃ z ∈ ([2, 2, 3] : List Int), d = .int z) k ds) (eml_lcR (n1 := n + 1) (t := 1) (top := 3) (pk := fun k => 1 ≤ k ∧ k ≤ 3) (ems_cons (PP := fun ds => ds = []) (em_op (em_of (d := .int 1) (P := fun d => d = .int 1) (fun _ _ => ed_int ev_c) rfl) (em_draw (b := 3) rfl (fun _ _ => ev_c) (by decide) (by decide) (by omega)) (P := fun d => ∃ k : Nat, d = .int k ∧ 1 ≤ k ∧ k ≤ 3) fun x y d e H3 pd pe hx hy => ?_) (ems_nil rfl) fun d ds hd he => ?_) (fun k hk => by omega) (by decide) (fun _ => rfl) fun i H1 lt e1 => ?_) fun ds pp => ?_) fun x d H1 pd e1 mk1 hx => q x d H1 pd e1 (mk1.mono (by omega)) hx
    · subst pd
      obtain ⟨z, rfl, z0, z1⟩ := pe
      cases dt_int hx
      cases dt_int hy
      exact ⟨.int (1 + z), ⟨(1 + z).toNat, by congr 1; omega, by omega, by omega⟩, ed_int (ev_op (ev_var rfl) (ev_var rfl) rv_I0)⟩
    · subst he
      obtain ⟨k, rfl, hk⟩ := hd
      exact ⟨k, rfl, hk⟩
    · exact em_pickL (ns := [2, 2, 3]) rfl (fun _ _ => ints_lst (ea_cons ev_c (ea_cons ev_c (ea_cons ev_c ea_nil))) (by decide)) (by decide) (by decide) (by omega)
    · obtain ⟨k, ⟨k1, k2⟩, e1, e2⟩ := pp
      have key : ∀ {l : List PyData}, (∀ d ∈ l, ∃ z ∈ ([2, 2, 3] : List Int), d = .int z) → ∃ sz : List Int, l = sz.map .int ∧ ∀ s ∈ sz, s = 2 ∨ s = 3 := by
        intro l
        induction l with
        | nil => exact fun _ => ⟨[], rfl, fun s hs => by cases hs⟩
        | cons d l ih =>
          intro h
          obtain ⟨sz, rfl, hs⟩ := ih fun x hx => h x (List.mem_cons_of_mem _ hx)
          obtain ⟨z, hz, rfl⟩ := h d List.mem_cons_self
          refine ⟨z :: sz, rfl, fun s hs' => ?_⟩
          rcases List.mem_cons.mp hs' with rfl | h2
          · simp only [List.mem_cons, List.not_mem_nil, or_false] at hz
            omega
          · exact hs s h2
      obtain ⟨sz, rfl, hs⟩ := key e2
      rw [List.length_map] at e1
      exact ⟨sz, rfl, by omega, by omega, hs⟩
theorem ok_lrow (F : Fun K "_law_row" "_law_row" sRow f fd) (m2 : mg "range" = none) (m3 : mg "tuple" = none)
    (G1 : FnOk P w K mg base0 CX0 k f1 fd1 ["m", "below"] spDraw) (g1 : mg "_law_draw" = some (.ref f1)) (kp1 : PySem.W.keepIn K (.ref f1) = true) (b1 : Binds K fd1 ["m", "below"] []) :
    FnOk P w K mg base0 CX0 (k + 1) f fd ["m", "size"] (spM 8 okLRow) := by
  refine F.ok scRow (fun vs H Q E h => ?_) (fun cdv A outer s H vs Q E hr h => ?_)
  · obtain ⟨m, c, n, xs, ds, P, rfl, all, ⟨size, rfl, _⟩, _⟩ := h
    have := all.len
    rw [List.length_cons, this]
    rfl
  · obtain ⟨m, c, n, xs, ds, P, rfl, all, ⟨size, rfl, s2, s9, rfl⟩, mk, few, q⟩ := h
    obtain ⟨xv, rfl, hx⟩ := dts1 all
    cases dt_int hx
    refine ⟨_, pss_cons (ps_set (i := 2) scRow.nd rfl (.inl rfl) (pe_callTy tupB (by rfl) m3 (by decide +kernel) (pa_cons (pe_lc (own := [("k", 3)]) (g := gName 3) rfl scRow.nd (pi_range1 (by rfl) m2 (pa_cons (pe_call G1 hr (by rfl) g1 kp1 b1 .nil pass0 (pa_cons (pv 0) (pa_cons pe_int pa_nil))) pa_nil)) (blkOk_by (N := nRow) (sc := defScope sRow) (by decide +kernel))
        (fun _ _ _ _ _ => pg_name (i := 3) scRow.nd rfl (Or.inl rfl)) (fun _ _ _ _ _ => pts_nil) (fun _ _ _ _ _ => pe_call G1 hr (by rfl) g1 kp1 b1 .nil pass0 (pa_cons (pv 0) (pa_cons (pv 1) pa_nil)))) pa_nil)))
      (pss_one (ps_ret (pe_tup (pa_cons (pv 2) (pa_cons (pe_callTy tupB (by rfl) m3 (by decide +kernel) (pa_cons (pe_lc (own := [("k", 3)]) (g := gName 3) rfl scRow.nd (pi_range1 (by rfl) m2 (pa_cons (pe_op op_add pe_int (pe_call G1 hr (by rfl) g1 kp1 b1 .nil pass0 (pa_cons (pv 0) (pa_cons pe_int pa_nil)))) pa_nil)) (blkOk_by (N := nRow) (sc := defScope sRow) (by decide +kernel))
        (fun _ _ _ _ _ => pg_name (i := 3) scRow.nd rfl (Or.inl rfl)) (fun _ _ _ _ _ => pts_nil) (fun _ _ _ _ _ => pe_call G1 hr (by rfl) g1 kp1 b1 .nil pass0 (pa_cons (pv 0) (pa_cons (pv 1) pa_nil)))) pa_nil)) pa_nil))))), ?_⟩
    refine qm_asg (n1 := n + 4) (P := Dg size 0 3) (D := { nx := _, rt := _ }) mk (em_tupOf (PP := fun ds => ∃ k, k < 4 ∧ Each (Below size) k ds) (eml_lcR (n1 := n + 1) (t := 1) (top := 3) (pk := fun k => k < 4) (ems_cons (PP := fun ds => ds = []) (em_draw (b := 4) rfl (fun _ _ => ev_c) (by decide) (by decide) (by omega)) (ems_nil rfl) fun d ds hd he => ?_) (fun k hk => by omega) (by decide) (fun _ => rfl) fun i H1 lt e1 => ?_) fun ds pp => ?_) fun x d H1 p1 e1 mk1 hx1 => ?_
    · obtain ⟨k, rfl, hk⟩ := Below.nat (b := 4) hd
      subst he
      exact ⟨k, rfl, hk⟩
    · exact em_draw rfl (fun _ _ => ev_var rfl) (by omega) (by omega) (by omega)
    · obtain ⟨k, hk, he⟩ := pp
      exact each_dg he (Nat.zero_le _) (by omega)
    refine sm_ret mk1 (n1 := n + 8) (P := IsRow size 3 3) (em_tup (PP := fun ds => ∃ d d', ds = [d, d'] ∧ Dg size 0 3 d ∧ Dg size 1 3 d') (ems_cons (P := Dg size 0 3) (PP := fun ds => ∃ d, ds = [d] ∧ Dg size 1 3 d) (em_of (fun H2 e2 => ed_var rfl (rc_tk e2 hx1)) p1)
      (ems_cons (P := Dg size 1 3) (PP := fun ds => ds = []) (em_tupOf (PP := fun ds => ∃ k, (1 ≤ k ∧ k ≤ 3) ∧ Each (Below size) k ds) (eml_lcR (n1 := n + 5) (t := 1) (top := 3) (pk := fun k => 1 ≤ k ∧ k ≤ 3) (ems_cons (PP := fun ds => ds = []) (em_op (em_of (d := .int 1) (P := fun d => d = .int 1) (fun _ _ => ed_int ev_c) rfl) (em_draw (b := 3) rfl (fun _ _ => ev_c) (by decide) (by decide) (by omega)) (P := fun d => ∃ k : Nat, d = .int k ∧ 1 ≤ k ∧ k ≤ 3) fun x y d e H2 pd pe hx hy => ?_) (ems_nil rfl) fun d ds hd he => ?_) (fun k hk => hk.2) (by decide) (fun _ => rfl) fun i H2 lt e2 => ?_) fun ds pp => ?_)
        (ems_nil rfl) fun d ds hd he => ?_) fun d ds hd he => ?_) fun ds hd => ?_) fun x d H2 pd e2 mk2 hx => ?_
    · subst pd
      obtain ⟨z, rfl, z0, z1⟩ := pe
      cases dt_int hx
      cases dt_int hy
      exact ⟨.int (1 + z), ⟨(1 + z).toNat, by congr 1; omega, by omega, by omega⟩, ed_int (ev_op (ev_var rfl) (ev_var rfl) rv_I0)⟩
    · subst he
      obtain ⟨k, rfl, hk⟩ := hd
      exact ⟨k, rfl, hk⟩
    · exact em_draw rfl (fun _ _ => ev_var rfl) (by omega) (by omega) (by omega)
    · obtain ⟨k, ⟨h1, h2⟩, he⟩ := pp
      exact each_dg he h1 h2
    · subst he
      exact ⟨d, rfl, hd⟩
    · obtain ⟨d', rfl, hd'⟩ := he
      exact ⟨d, d', rfl, hd, hd'⟩
    · obtain ⟨d, d', rfl, h1, h2⟩ := hd
      refine ⟨by show (2 : Nat) ≤ 1000; decide, ?_⟩
      obtain ⟨a, rfl, _, a2, a3⟩ := h1
      obtain ⟨b, rfl, b1, b2, b3⟩ := h2
      exact ⟨a, b, rfl, a2, b1, b2, a3, b3⟩
    · exact q x d H2 pd (e1.trans e2) (mk2.mono (by omega)) hx
end
end K10
set_option Elab.async false
set_option linter.all false
set_option maxRecDepth 100000
set_option maxHeartbeats 1000000
namespace K10
open PySem PySem.Spec PyProof.Rows L2 Evl
/-! ### the law: machines drawn -/
def PSt (sz cs : List Int) (many t : Nat) : St → Prop
  | .told d => goodD d
  | .go ns => t + 1 < many ∧ ns.length = sizeN sz t ∧ ∀ x ∈ ns, 0 ≤ x ∧ x < cs.getD (t + 1) 0
def PLv (sz cs : List Int) (many : Nat) (lv : List (List St)) : Prop := ∀ t l, lv[t]? = some l → (l.length : Int) = cs.getD t 0 ∧ ∀ s ∈ l, PSt sz cs many t s
def CsOk (many : Nat) (cs : List Int) : Prop := cs.length = many ∧ cs.getD 0 0 = 1 ∧ ∀ x ∈ cs, 1 ≤ x ∧ x ≤ 4
theorem CsOk.at {many : Nat} {cs : List Int} (h : CsOk many cs) {t : Nat} (ht : t < many) : 1 ≤ cs.getD t 0 ∧ cs.getD t 0 ≤ 4 ∧ cs[t]? = some (cs.getD t 0) := by
  have lt : t < cs.length := by rw [h.1]; exact ht
  have := h.2.2 _ (List.getElem_mem lt)
  rw [List.getD_eq_getElem?_getD, List.getElem?_eq_getElem lt]
  exact ⟨this.1, this.2, rfl⟩
theorem mok_of {sz cs : List Int} {many : Nat} {lv : List (List St)} (s : SzOk sz) (c : CsOk many cs) (m1 : 1 ≤ many) (m6 : many ≤ 6) (len : lv.length = many) (h : PLv sz cs many lv) : MOk sz lv := by
  have cnt : ∀ t, t < many → ((lv.getD t []).length : Int) = cs.getD t 0 := fun t ht => by
    have lt : t < lv.length := by omega
    have := (h t _ (List.getElem?_eq_getElem lt)).1
    rw [List.getD_eq_getElem?_getD, List.getElem?_eq_getElem lt]
    exact this
  refine ⟨s, by omega, by omega, ?_, fun t ht => ?_, fun t n i => ?_⟩
  · have := cnt 0 (by omega)
    rw [c.2.1] at this
    omega
  · have := cnt t (by omega)
    have k := c.at (show t < many by omega)
    omega
  · obtain ⟨l, h1, h2⟩ := sAt_get i
    have k := (h t l h1).2 _ (List.mem_of_getElem? h2)
    revert k
    cases sAt lv t n with
    | told d => exact fun k => k
    | go ns =>
      rintro ⟨k1, k2, k3⟩
      refine ⟨by omega, k2, fun x hx => ?_⟩
      rw [cnt (t + 1) k1]
      exact k3 x hx
abbrev endsD : List PyData := [.int 0, .int 1, intsD [1, 2], .int 7]
theorem good_of {d : PyData} (h : d ∈ endsD) : goodD d := by
  simp only [List.mem_cons, List.not_mem_nil, or_false] at h
  exact h
def spMachine : Sp := fun vs H Q _ => ∃ (m c e : Addr) (n many : Nat) (x : V) (sz : List Int) (es : List V), vs = [.ref m, x, .int many, .ref e] ∧ Dt H x (intsD sz) ∧ SzOk sz ∧ 1 ≤ many ∧ many ≤ 6 ∧ H e = some (.lst es) ∧ DtAll H es endsD ∧ Mok H m c n ∧ n + 300 < 1000000 ∧
  ∀ y lv H', MOk sz lv → lv.length = many → Kin H H' → Mok H' m c (n + 300) → Dt H' y (machD sz lv) → Q y H'
theorem ixLK {X : Cx} (K : PySem.W.Frag) (e : X.K = K) : IxR X (rIxL K) := by
  subst e
  exact ix_list
section
variable {K : PySem.W.Frag} {σ : L2.St} {H H' : Hp} {ta tb te td tx : TE} {v x : V} {m c : Addr} {n n' n1 n2 : Nat} {P P1 P2 : PyData → Prop} {ds es : List PyData} {D : Ends} {tz tu tw : TS} {PP PP1 PP2 : List PyData → Prop} {tA : TT} {a : Bool}
theorem eml_cat (ha : EvMl m c ta σ H n n1 PP1) (hb : EvMl m c tb σ H n1 n2 PP2) (hp : ∀ ds es, PP1 ds → PP2 es → PP (ds ++ es)) (few : ∀ ds es, PP1 ds → PP2 es → ds.length + es.length ≤ 1000) : EvMl m c (tOp rCat ta tb) σ H n n2 PP := fun H1 e1 mk Q q =>
  ha H1 e1 mk _ fun p xs ds H2 pp e2 mk2 hp2 all => hb H2 (e1.trans e2) mk2 _ fun b ys es H3 pe e3 mk3 hb3 all3 =>
    ⟨p, b, xs, ys, rfl, rfl, (e3 _ _ hp2 fun _ z => nomatch z), hb3, sz_of (by rw [all.len, all3.len]; have := few ds es pp pe; omega), fun l hl => q l _ _ _ (hp ds es pp pe) ((e2.trans e3).trans (kin_ex (Ex.new hl))) (mk3.ex (Ex.new hl)) upd_same (((all.tk (tk_kin e3)).append all3).tk (tk_new hl))⟩
theorem sm_ifOr (mk : Mok H m c n) (ha : EvT tA σ H a) (hb : EvM m c te σ H n n1 fun d => ∃ b, d = .bool b) (le : n ≤ n1) (k1 : ∀ H1, Kin H H1 → Mok H1 m c n1 → tu D σ H1) (k2 : a = false → ∀ H1, Kin H H1 → Mok H1 m c n1 → tw D σ H1) : tIfS (tOr tA (tTest te)) tu tw D σ H := by
  refine ha H (Ex.refl _) _ fun H1 e1 => ?_
  cases a with
  | true => exact k1 H1 (kin_ex e1) ((mk.ex e1).mono le)
  | false =>
    refine hb H1 (kin_ex e1) (mk.ex e1) _ fun x d H2 pd e2 mk2 hx => ?_
    obtain ⟨b, rfl⟩ := pd
    cases dt_bool hx
    refine ⟨b, rfl, ?_⟩
    cases b with
    | true => exact k1 H2 ((kin_ex e1).trans e2) mk2
    | false => exact k2 rfl H2 ((kin_ex e1).trans e2) mk2
theorem kin_l {a : Addr} {xs : List V} (e : Kin H H') (h : H a = some (.lst xs)) : H' a = some (.lst xs) := e _ _ h fun _ z => nomatch z
end
section
variable {P : Program} {w : World} {K : PySem.W.Frag} {mg : Str → Option Value} {base0 : Heap} {f f1 f2 : Addr} {fd fd1 fd2 : FuncData} {k : Nat}
theorem ok_machine (F : Fun K "_law_machine" "_law_machine" sMachine f fd) (m1 : mg "len" = none) (m2 : mg "range" = none) (m3 : mg "tuple" = none) (m4 : mg "int" = none)
    (G1 : FnOk P w K mg base0 CX0 k f1 fd1 ["m", "below"] spDraw) (g1 : mg "_law_draw" = some (.ref f1)) (kp1 : PySem.W.keepIn K (.ref f1) = true) (b1 : Binds K fd1 ["m", "below"] [])
    (G2 : FnOk P w K mg base0 CX0 k f2 fd2 ["m", "some"] (spPick K)) (g2 : mg "_law_of" = some (.ref f2)) (kp2 : PySem.W.keepIn K (.ref f2) = true) (b2 : Binds K fd2 ["m", "some"] []) :
    FnOk P w K mg base0 CX0 (k + 1) f fd ["m", "sizes", "many", "ends"] spMachine := by
  refine F.ok scMachine (fun vs H Q E h => ?_) (fun cdv A outer s H vs Q E hr h => ?_)
  · obtain ⟨m, c, e, n, many, x, sz, es, rfl, _⟩ := h
    rfl
  · obtain ⟨m, c, e, n, many, x, sz, es, rfl, hx, szok, m1', m6, he, hes, mk, few, q⟩ := h
    refine ⟨_, pss_cons (ps_set (i := 4) scMachine.nd rfl (.inr rfl) (pe_op op_cat (pe_lst (pa_cons pe_int pa_nil)) (pe_lc (own := [("k", 5)]) (g := gName 5) rfl scMachine.nd (pi_range1 (by rfl) m2 (pa_cons (pe_op op_sub (pv 2) pe_int) pa_nil)) (blkOk_by (N := nMachine) (sc := defScope sMachine) (by decide +kernel))
        (fun _ _ _ _ _ => pg_name (i := 5) scMachine.nd rfl (Or.inl rfl)) (fun _ _ _ _ _ => pts_nil) (fun _ _ _ _ _ => pe_op op_add pe_int (pe_call G1 hr (by rfl) g1 kp1 b1 .nil pass0 (pa_cons (pv 0) (pa_cons pe_int pa_nil)))))))
      (pss_cons (ps_set (i := 6) scMachine.nd rfl (.inl rfl) (pe_lst pa_nil))
      (pss_cons (ps_for PassesOwn.never rfl (pi_range1 (by rfl) m2 (pa_cons (pv 2) pa_nil)) (pg_name (i := 7) scMachine.nd rfl (Or.inr rfl))
        (pss_cons (ps_set (i := 8) scMachine.nd rfl (.inl rfl) (pe_lst pa_nil))
        (pss_cons (ps_for PassesOwn.never rfl (pi_range1 (by rfl) m2 (pa_cons (pe_ix ix_list (pv 4) (pv 7) (fun _ _ => rfl)) pa_nil)) (pg_name (i := 9) scMachine.nd rfl (Or.inl rfl))
          (pss_one (ps_if (PW.pt (pw_or (pt_cmpR op_eq (pv 7) (pe_op op_sub (pv 2) pe_int) (nomark _)) (pw_or1 (pt_cmpR op_eq (pe_call G1 hr (by rfl) g1 kp1 b1 .nil pass0 (pa_cons (pv 0) (pa_cons pe_int pa_nil))) pe_int (nomark _)))))
            (pss_one (ps_expr (pe_bm PySem.F.plainAttrs_list PySem.F.slot_list_append PySem.F.type_list_append mt_append (pv 8) (pa_cons (pe_tup (pa_cons pe_str (pa_cons (pe_call G2 hr (by rfl) g2 kp2 b2 .nil pass0 (pa_cons (pv 0) (pa_cons (pv 3) pa_nil))) pa_nil))) pa_nil))))
            (pss_cons (ps_set (i := 10) scMachine.nd rfl (.inl rfl) (pe_ix ix_tup (pv 1) (pe_op op_mod (pe_callTy call_int1 (by rfl) m4 (by decide +kernel) (pa_cons (pv 7) pa_nil)) (pe_callB call_len_seq (by rfl) m1 (by decide +kernel) (pa_cons (pv 1) pa_nil))) (fun _ _ => rfl)))
            (pss_one (ps_expr (pe_bm PySem.F.plainAttrs_list PySem.F.slot_list_append PySem.F.type_list_append mt_append (pv 8) (pa_cons (pe_tup (pa_cons pe_str (pa_cons (pe_callTy tupB (by rfl) m3 (by decide +kernel) (pa_cons (pe_lc (own := [("d", 11)]) (g := gName 11) rfl scMachine.nd (pi_range1 (by rfl) m2 (pa_cons (pv 10) pa_nil)) (blkOk_by (N := nMachine) (sc := defScope sMachine) (by decide +kernel))
              (fun _ _ _ _ _ => pg_name (i := 11) scMachine.nd rfl (Or.inl rfl)) (fun _ _ _ _ _ => pts_nil) (fun _ _ _ _ _ => pe_call G1 hr (by rfl) g1 kp1 b1 .nil pass0 (pa_cons (pv 0) (pa_cons (pe_ix (ixLK K rfl) (pv 4) (pe_op op_add (pv 7) pe_int) (fun _ _ => rfl)) pa_nil)))) pa_nil)) pa_nil))) pa_nil))))))))
        (pss_one (ps_expr (pe_bm PySem.F.plainAttrs_list PySem.F.slot_list_append PySem.F.type_list_append mt_append (pv 6) (pa_cons (pe_callTy tupB (by rfl) m3 (by decide +kernel) (pa_cons (pv 8) pa_nil)) pa_nil)))))))
      (pss_one (ps_ret (pe_tup (pa_cons (pv 1) (pa_cons (pe_callTy tupB (by rfl) m3 (by decide +kernel) (pa_cons (pv 6) pa_nil)) pa_nil))))))), ?_⟩
    refine qm_asgL (n1 := n + 6) (PP := fun ds => ∃ cs : List Int, ds = cs.map .int ∧ CsOk many cs) (D := { nx := _, rt := _ }) mk (eml_cat (n1 := n) (PP1 := fun ds => ds = [.int 1]) (PP2 := fun es => ∃ k, k = many - 1 ∧ Each (fun d => ∃ z : Int, d = .int z ∧ 1 ≤ z ∧ z ≤ 4) k es) (eml_lst (ems_cons (P := fun d => d = .int 1) (PP := fun ds => ds = []) (em_of (fun _ _ => ed_int ev_c) rfl) (ems_nil rfl) fun d ds hd he => by rw [hd, he]) fun ds h => by rw [h]; decide)
      (eml_lcR (n1 := n) (t := 1) (top := 6) (pk := fun k => k = many - 1) (ems_cons (P := fun d => d = .int (((many - 1 : Nat) : Int))) (PP := fun ds => ds = []) (em_of (fun _ _ => ed_int (ev_is (ev_op (ev_var rfl) ev_c rv_I0) (congrArg V.int (by show (many : Int) - 1 = _; omega)))) rfl) (ems_nil rfl) fun d ds hd he => ⟨_, by rw [hd, he], rfl⟩) (fun k hk => by omega) (by decide) (fun _ => rfl) fun i H1 lt e1 => ?_) (fun ds es hd he => ?_) fun ds es hd he => ?_) fun C xs0 ds0 H1 pp1 e1 mk1 hC hall => ?_
    · exact em_op (em_of (d := .int 1) (P := fun d => d = .int 1) (fun _ _ => ed_int ev_c) rfl) (em_draw (b := 4) rfl (fun _ _ => ev_c) (by decide) (by decide) (by omega)) fun x y d e H3 pd pe hx hy => by
        subst pd
        obtain ⟨z, rfl, z0, z1⟩ := pe
        cases dt_int hx
        cases dt_int hy
        exact ⟨.int (1 + z), ⟨1 + z, rfl, by omega, by omega⟩, ed_int (ev_op (ev_var rfl) (ev_var rfl) rv_I0)⟩
    · obtain ⟨k, rfl, he1, he2⟩ := he
      have key : ∀ {l : List PyData}, (∀ d ∈ l, ∃ z : Int, d = .int z ∧ 1 ≤ z ∧ z ≤ 4) → ∃ cs : List Int, l = cs.map .int ∧ ∀ z ∈ cs, 1 ≤ z ∧ z ≤ 4 := by
        intro l
        induction l with
        | nil => exact fun _ => ⟨[], rfl, fun s hs => by cases hs⟩
        | cons d l ih =>
          intro h
          obtain ⟨cs, rfl, hs⟩ := ih fun x hx => h x (List.mem_cons_of_mem _ hx)
          obtain ⟨z, rfl, hz⟩ := h d List.mem_cons_self
          exact ⟨z :: cs, rfl, fun s hs' => by
            rcases List.mem_cons.mp hs' with rfl | h2
            · exact hz
            · exact hs s h2⟩
      obtain ⟨cs, rfl, hs⟩ := key he2
      rw [List.length_map] at he1
      refine ⟨1 :: cs, by rw [hd]; rfl, by rw [List.length_cons]; omega, rfl, fun s hs' => ?_⟩
      rcases List.mem_cons.mp hs' with rfl | h2
      · decide
      · exact hs s h2
    · obtain ⟨k, rfl, he1, he2⟩ := he
      rw [hd, he1]
      show 1 + (many - 1) ≤ 1000
      omega
    obtain ⟨cs, rfl, cok⟩ := pp1
    cases dts_ints hall
    have szl := szok.1
    have szl3 := szok.2.1
    refine q_asgL (D := { nx := _, rt := _ }) (i := 6) (xs := []) (el_lst ea_nil (by show (0 : Nat) ≤ 100000; decide)) fun L H2 nL e2 hL => ?_
    have fr2 := mk1.free nL
    have CL : C ≠ L := fun z => by rw [← z, hC] at nL; cases nL
    have he1 := kin_l e1 he
    have eL : e ≠ L := fun z => by rw [← z, he1] at nL; cases nL
    refine q_forR1 (D := { nx := _, rt := _ }) (n := (many : Int)) (ea_cons (ev_var rfl) ea_nil) (by omega) (fun t σ' H' => ∃ (lv : List (List St)) (ys : List V) (z7 z8 z9 z10 : Option V), σ' = [some (.ref m), some x, some (.int (many : Nat)), some (.ref e), some (.ref C), none, some (.ref L), z7, z8, z9, z10, none] ∧ Kin H1 H' ∧ Mok H' m c (n + 6 + 45 * t) ∧ H' L = some (.lst ys) ∧ DtAll H' ys (lv.map levD) ∧ lv.length = t ∧ PLv sz cs many lv)
      (fun H3 e3 => ⟨[], [], none, none, none, none, rfl, kin_ex (e2.trans e3), (mk1.ex (e2.trans e3)).mono (by omega), e3 _ _ hL, .nil, rfl, fun t l h => by simp at h⟩) (fun t σ' H' lt inv => ?_) (fun σ' H' inv => ?_)
    · obtain ⟨lv, ys, z7, z8, z9, z10, rfl, k3, mk3, hL3, all3, len, plv⟩ := inv
      have lt' : t < many := by omega
      have ct := cok.at lt'
      refine q_asgL (D := { nx := _, rt := _, bk := _, ct := _ }) (i := 8) (xs := []) (el_lst ea_nil (by show (0 : Nat) ≤ 100000; decide)) fun S H4 nS e4 hS => ?_
      have fr4 := mk3.free nS
      have LS : L ≠ S := fun z => by rw [← z, hL3] at nS; cases nS
      have hC3 := kin_l k3 hC
      have CS : C ≠ S := fun z => by rw [← z, hC3] at nS; cases nS
      have he3 := kin_l (e1.trans k3) he
      have eS : e ≠ S := fun z => by rw [← z, he3] at nS; cases nS
      have hxk : Dt H' x (intsD sz) := rc_tk (e1.trans k3) hx
      have hes3 : DtAll H' es endsD := hes.tk (tk_kin (e1.trans k3))
      refine q_forR1 (D := { nx := _, rt := _, bk := _, ct := _ }) (n := cs.getD t 0) (ea_cons (ev_op (ev_var rfl) (ev_var rfl) (rv_ixL (K := K) (SqL.of (e4 _ _ hC3)) (atI_nat (by rw [List.getElem?_map, ct.2.2]; rfl)))) ea_nil) (by omega) (fun s σ' H'' => ∃ (l : List St) (zs : List V) (z9 z10 : Option V), σ' = [some (.ref m), some x, some (.int (many : Nat)), some (.ref e), some (.ref C), none, some (.ref L), some (.int (t : Nat)), some (.ref S), z9, z10, none] ∧ Kin H' H'' ∧ Mok H'' m c (n + 6 + 45 * t + 10 * s) ∧ H'' S = some (.lst zs) ∧ DtAll H'' zs (l.map stD) ∧ l.length = s ∧ ∀ s' ∈ l, PSt sz cs many t s')
        (fun H5 e5 => ⟨[], [], z9, z10, rfl, kin_ex (e4.trans e5), (mk3.ex (e4.trans e5)).mono (by omega), e5 _ _ hS, .nil, rfl, fun s hs => by cases hs⟩) (fun s σ' H5 ls inv => ?_) (fun σ' H5 inv => ?_)
      · obtain ⟨l, zs, z9, z10, rfl, k5, mk5, hS5, all5, len5, ps5⟩ := inv
        have l4 : l.length ≤ 4 := by omega
        have zl : zs.length ≤ 100 := by rw [all5.len, List.length_map]; omega
        have hC5 := kin_l k5 hC3
        have hxk5 := rc_tk k5 hxk
        -- a state that is drawn goes behind the others
        have push : ∀ {st : St} {y : V} {H6 : Hp} {z9 z10 : Option V}, PSt sz cs many t st → Kin H5 H6 → Mok H6 m c (n + 6 + 45 * t + 10 * (s + 1)) → Dt H6 y (stD st) →
            ∃ (l : List St) (zs' : List V) (a9 a10 : Option V), [some (V.ref m), some x, some (.int (many : Nat)), some (.ref e), some (.ref C), none, some (.ref L), some (.int (t : Nat)), some (.ref S), z9, z10, none] = [some (.ref m), some x, some (.int (many : Nat)), some (.ref e), some (.ref C), none, some (.ref L), some (.int (t : Nat)), some (.ref S), a9, a10, none] ∧ Kin H' (upd H6 S (.lst (zs ++ [y]))) ∧ Mok (upd H6 S (.lst (zs ++ [y]))) m c (n + 6 + 45 * t + 10 * (s + 1)) ∧ upd H6 S (.lst (zs ++ [y])) S = some (.lst zs') ∧ DtAll (upd H6 S (.lst (zs ++ [y]))) zs' (l.map stD) ∧ l.length = s + 1 ∧ ∀ s' ∈ l, PSt sz cs many t s' := by
          intro st y H6 z9 z10 hst k6 mk6 hy
          have still : Tk H6 (upd H6 S (.lst (zs ++ [y]))) := tk_lst (kin_l k6 hS5)
          refine ⟨l ++ [st], zs ++ [y], z9, z10, rfl, (k5.trans k6).mut nS, mk6.upd fr4, upd_same, ?_, by rw [List.length_append, len5]; rfl, fun s' hs' => ?_⟩
          · rw [List.map_append]
            exact ((all5.tk (tk_kin k6)).tk still).append (.cons (hy.tk still) .nil)
          · rcases List.mem_append.mp hs' with h | h
            · exact ps5 s' h
            · cases List.mem_singleton.mp h
              exact hst
        refine sm_ifOr (n1 := n + 6 + 45 * t + 10 * s + 1) (a := decide (t = many - 1)) mk5 (et_is (et_test (ev_op (ev_var rfl) (ev_op (ev_var rfl) ev_c rv_I0) (rv_eq rfl))) ?_) (em_zero (em_draw (b := 5) rfl (fun _ _ => ev_c) (by decide) (by decide) (by omega))) (by omega) (fun H6 k6 mk6 => ?_) (fun hb H6 k6 mk6 => ?_)
        · by_cases z : t = many - 1
          · rw [decide_eq_true z]
            exact decide_eq_true (congrArg V.int (by show (t : Int) = (many : Int) - 1; omega))
          · rw [decide_eq_false z]
            exact decide_eq_false fun y => z (by injection y with y; omega)
        · refine sm_app (n1 := n + 6 + 45 * t + 10 * s + 2) (P := fun d => ∃ d', d = stD (.told d') ∧ goodD d') rfl (kin_l k6 hS5) mk6 (em_tup (PP := fun ds => ∃ d', ds = [.str "told", d'] ∧ goodD d') (ems_cons (P := fun d => d = .str "told") (PP := fun ds => ∃ d', ds = [d'] ∧ goodD d') (em_of (fun _ _ => ed_str) rfl)
            (ems_cons (P := fun d => d ∈ endsD) (PP := fun ds => ds = []) (em_pickV rfl rfl (SqL.of (kin_l (k5.trans k6) he3)) (hes3.tk (tk_kin (k5.trans k6))) (by simp) (by decide) (by omega)) (ems_nil rfl) fun d ds hd hd' => ⟨d, by rw [hd'], good_of hd⟩) fun d ds hd ⟨d', h1, h2⟩ => ⟨d', by rw [hd, h1], h2⟩) fun ds ⟨d', h1, h2⟩ => ⟨by rw [h1]; show (2 : Nat) ≤ 1000; decide, d', by rw [h1]; rfl, h2⟩) (by omega) fun y d H7 pd k7 mk7 hy => ?_
          obtain ⟨d', rfl, gd⟩ := pd
          exact push (st := .told d') gd (k6.trans k7) (mk7.mono (by omega)) hy
        · have tn : t + 1 < many := by
            have := of_decide_eq_false hb
            omega
          have ct1 := cok.at tn
          have hx6 := rc_tk k6 hxk5
          have sN := szok.n t
          have sat := szok.at t
          refine q_asg (D := { nx := _, rt := _, bk := _, ct := _ }) (i := 10) (v := .int ((sizeN sz t : Nat) : Int)) (ev_is (int_ed (ed_ix (ed_var rfl hx6) (ev_is (ev_op (rc_int (ev_var rfl)) (ev_lenI (ed_var rfl hx6)) (rv_I (by show (0 : Int) < (sz.length : Int); omega))) (congrArg V.int nat_mod)) (at_ints sat.1))) (congrArg V.int sN.2.symm)) fun H7 e7 => ?_
          have k7 := k6.trans (kin_ex e7)
          have hC7 := kin_l k7 hC5
          refine sm_app (n1 := n + 6 + 45 * t + 10 * s + 1 + 1 * 3) (P := fun d => ∃ ns, d = stD (.go ns) ∧ PSt sz cs many t (.go ns)) rfl (kin_l k7 hS5) (mk6.ex e7) (em_tup (PP := fun ds => ∃ ns, ds = [.str "go", intsD ns] ∧ PSt sz cs many t (.go ns)) (ems_cons (P := fun d => d = .str "go") (PP := fun ds => ∃ ns, ds = [intsD ns] ∧ PSt sz cs many t (.go ns)) (em_of (fun _ _ => ed_str) rfl)
            (ems_cons (P := fun d => ∃ ns, d = intsD ns ∧ PSt sz cs many t (.go ns)) (PP := fun ds => ds = []) (em_tupOf (PP := fun ds => ∃ k, k = sizeN sz t ∧ Each (Below (cs.getD (t + 1) 0)) k ds) (eml_lcR (n1 := n + 6 + 45 * t + 10 * s + 1) (t := 1) (top := 3) (pk := fun k => k = sizeN sz t) (ems_cons (P := fun d => d = .int ((sizeN sz t : Nat) : Int)) (PP := fun ds => ds = []) (em_of (fun _ _ => ed_int (ev_var rfl)) rfl) (ems_nil rfl) fun d ds hd he => ⟨_, by rw [hd, he], rfl⟩) (fun k hk => by omega) (by decide) (fun _ => rfl) fun i H8 lt8 e8 => ?_) fun ds ⟨k, hk, he⟩ => ?_) (ems_nil rfl) fun d ds ⟨ns, h1, h2⟩ hd' => ⟨ns, by rw [hd', h1], h2⟩) fun d ds hd ⟨ns, h1, h2⟩ => ⟨ns, by rw [hd, h1], h2⟩) fun ds ⟨ns, h1, h2⟩ => ⟨by rw [h1]; show (2 : Nat) ≤ 1000; decide, ns, by rw [h1]; rfl, h2⟩) (by omega) fun y d H8 pd k8 mk8 hy => ?_
          · exact em_draw (b := cs.getD (t + 1) 0) rfl (fun H9 e9 => ev_op (ev_var rfl) (ev_op (ev_var rfl) ev_c rv_I0) (rv_ixL (K := K) (SqL.of (kin_l (e8.trans e9) hC7)) (by rw [nat_succ]; exact atI_nat (by rw [List.getElem?_map, ct1.2.2]; rfl)))) (by omega) (by omega) (by omega)
          · obtain ⟨ns, e1, e2, e3⟩ := each_ints he
            exact ⟨ns, by rw [e1], tn, by rw [e2, hk], e3⟩
          · obtain ⟨ns, rfl, pst⟩ := pd
            exact push (st := .go ns) pst (k7.trans k8) (mk8.mono (by omega)) hy
      · obtain ⟨l, zs, z9, z10, rfl, k5, mk5, hS5, all5, len5, ps5⟩ := inv
        have hL5 := kin_l k5 hL3
        have lys : ys.length < 100000 := by rw [all3.len, List.length_map]; omega
        have tup : EvD (tCB (rTupOf K) (tCons (tVar 8) tNil)) [some (.ref m), some x, some (.int (many : Nat)), some (.ref e), some (.ref C), none, some (.ref L), some (.int (t : Nat)), some (.ref S), z9, z10, none] H5 (levD l) := fun H6 e6 Q' q' => ⟨_, rfl, S, zs, rfl, .inl ⟨SqL.of (e6 _ _ hS5), fun p np => q' (.ref p) _ (Ex.new np) (.tup upd_same ((all5.tk (tk_ex e6)).tk (tk_new np)))⟩⟩
        refine ⟨_, rfl, Or.inl ⟨rfl, ys, sq_of hL5⟩, tup H5 (Ex.refl _) _ fun y H6 e6 hy => ⟨L, ys, y, rfl, rfl, e6 _ _ hL5, sz_lt lys, ?_⟩⟩
        have still : Tk H6 (upd H6 L (.lst (ys ++ [y]))) := tk_lst (e6 _ _ hL5)
        refine ⟨lv ++ [l], ys ++ [y], _, _, _, _, rfl, ((k3.trans k5).trans (kin_ex e6)).mut nL, ((mk5.ex e6).upd fr2).mono (by omega), upd_same, ?_, by rw [List.length_append, len]; rfl, fun t' l' h => ?_⟩
        · rw [List.map_append]
          exact (((all3.tk (tk_kin k5)).tk (tk_ex e6)).tk still).append (.cons (hy.tk still) .nil)
        · by_cases z : t' < lv.length
          · rw [List.getElem?_append_left z] at h
            exact plv t' l' h
          · rw [List.getElem?_append_right (by omega)] at h
            have e0 : t' - lv.length = 0 := by
              have := (List.getElem?_eq_some_iff.mp h).1
              simp at this
              omega
            rw [e0] at h
            have : l = l' := Option.some.inj h
            subst this
            have tt : t' = t := by omega
            subst tt
            exact ⟨by rw [len5]; omega, ps5⟩
    · obtain ⟨lv, ys, z7, z8, z9, z10, rfl, k3, mk3, hL3, all3, len, plv⟩ := inv
      have len' : lv.length = many := by omega
      have hx3 : Dt H' x (intsD sz) := rc_tk (e1.trans k3) hx
      refine sd_ret (d := machD sz lv) (ed_tup (eds_cons (ed_var rfl hx3) (eds_cons (fun H6 e6 Q' q' => ⟨_, rfl, L, ys, rfl, .inl ⟨SqL.of (e6 _ _ hL3), fun p np => q' (.ref p) _ (Ex.new np) (.tup upd_same ((all3.tk (tk_ex e6)).tk (tk_new np)))⟩⟩) eds_nil)) (by show (2 : Nat) ≤ 100000; decide)) fun y H4 e4 hy => ?_
      exact q y lv H4 (mok_of szok cok m1' m6 len' plv) len' ((e1.trans k3).trans (kin_ex e4)) ((mk3.ex e4).mono (by omega)) hy
end
end K10
set_option Elab.async false
set_option linter.all false
set_option maxRecDepth 100000
set_option maxHeartbeats 1000000
namespace K10
open PySem PySem.Spec PyProof.Rows L2 Evl
/-! ### lists of such data -/
section
variable {K : PySem.W.Frag} {σ : L2.St} {H H' : Hp} {te ta tb : TE} {D : Ends} {tz : TS} {l a : Addr} {xs : List V} {y : V} {d : PyData} {ds es : List PyData}
theorem sd_pop {g : TG} (hl : H l = some (.lst (xs ++ [y]))) (ha : Ev ta σ H (.ref l)) (k : ∀ H1, Ex H H1 → g y σ (upd H1 l (.lst xs)) fun σ2 H2 => D.nx σ2 H2) : tAsg (tBM0 K "list" rPop ta) g D σ H :=
  ha H (Ex.refl H) _ fun H1 e1 => ⟨Or.inl ⟨rfl, _, sq_of (e1 l _ hl)⟩, l, xs ++ [y], y, rfl, rfl, e1 l _ hl, by simp, by
    rw [List.dropLast_concat]
    exact k H1 e1⟩
theorem qd_pop {g : TG} (hl : H l = some (.lst (xs ++ [y]))) (ha : Ev ta σ H (.ref l)) (k : ∀ H1, Ex H H1 → g y σ (upd H1 l (.lst xs)) fun σ2 H2 => tz D σ2 H2) : tSeq (tAsg (tBM0 K "list" rPop ta) g) tz D σ H := sd_pop (D := { D with nx := tz D }) hl ha k
theorem et_truL {l : Addr} {xs : List V} (h : Ev te σ H (.ref l)) (hl : H l = some (.lst xs)) : EvT (fun σ H Q => te σ H fun x H' => ∃ k, TruV K x H' k ∧ Q k H') σ H (!xs.isEmpty) := fun H1 e _ q =>
  h H1 e _ fun H2 e2 => ⟨!xs.isEmpty, .inl ⟨xs, SqL.of ((e.trans e2) _ _ hl), rfl⟩, q H2 e2⟩
end
theorem DtAll.split {H : Hp} : ∀ {ds es : List PyData} {xs : List V}, DtAll H xs (ds ++ es) → ∃ ys zs, xs = ys ++ zs ∧ DtAll H ys ds ∧ DtAll H zs es
  | [], es, xs, h => ⟨[], xs, rfl, .nil, h⟩
  | d :: ds, es, xs, h => by
    cases h with
    | cons h t =>
      obtain ⟨ys, zs, rfl, h1, h2⟩ := DtAll.split t
      exact ⟨_ :: ys, zs, rfl, .cons h h1, h2⟩
theorem DtAll.snoc {H : Hp} {ds : List PyData} {d : PyData} {xs : List V} (h : DtAll H xs (ds ++ [d])) : ∃ ys y, xs = ys ++ [y] ∧ DtAll H ys ds ∧ Dt H y d := by
  obtain ⟨ys, zs, rfl, h1, h2⟩ := h.split
  cases h2 with
  | cons h3 t =>
    cases t
    exact ⟨ys, _, rfl, h1, h3⟩
theorem q_asgLn {σ : L2.St} {H : Hp} {te : TE} {ds : List PyData} {i : Nat} {D : Ends} {tz : TS} (h : EvLd te σ H ds) (k : ∀ p xs H1, H p = none → Ex H H1 → H1 p = some (.lst xs) → DtAll H1 xs ds → tz D (σ.set i (some (.ref p))) H1) : tSeq (tAsg te (gName i)) tz D σ H := h H (Ex.refl H) _ k
/-! ### xs.extend(a tuple) -/
theorem extMeets (l c : Addr) (us ts : Array Value) (m m2 : Nat) (dd : Option Addr) (sl : Array (Option Value)) (short : Builtin.List.listTooLong (us.size + ts.size) = false) (room : us.size + ts.size ≤ sizeLine) :
    Meets (Builtin.«list.extend» ⟨[.ref l, .ref c], []⟩) fun _ R s => s.heap.get? l = some ⟨.type "list", none, .seq us m, #[]⟩ ∧ s.heap.get? c = some ⟨.type "tuple", dd, .seq ts m2, sl⟩ ∧
      R (.ok (.ret Value.none)) { s with heap := s.heap.update l (Obj.mapSeq fun x => x ++ ts), toks := s.toks } := by
  refine .of_wp fun prog w A R s q => ?_
  cases s with
  | mk hp gl dr tk os =>
  obtain ⟨ql, qc, q⟩ := q
  have big : (us ++ ts).size ≤ sizeLine + 1 := by rw [Array.size_append]; omega
  have one : us.size ≤ sizeLine := by omega
  have never : ¬ (!us.isEmpty && Builtin.List.listTooLong (us.size + ts.size)) = true := by rw [short, Bool.and_false]; exact Bool.false_ne_true
  have a1 := AutoSeq1.idx_int
  have a2 := AutoSeq1.sub_tuple_tuple
  have a3 := AutoSeq1.sub_list_list
  have a4 := AutoSeq1.sub_tuple_list
  have a5 := AutoSeq1.sub_list_tuple
  wp_walk using (wpAny_updateSeq ql rfl (hz := one) (_hz' := big)), AutoSeq1.wpAny_loadPart' ql, AutoSeq1.wpAny_loadPart' qc
  exact ⟨_, rfl, q⟩
def rExtT (K : PySem.W.Frag) : V → List V → Hp → VK → Prop := fun x vs H Q => ∃ (l c : Addr) (xs ys : List V), x = .ref l ∧ vs = [.ref c] ∧ H l = some (.lst xs) ∧ SqT K H c ys ∧ xs.length + ys.length ≤ 100000 ∧ Q .non (upd H l (.lst (xs ++ ys)))
theorem mt_extT {X : Cx} : MtM X "list.extend" (rExtT X.K) := by
  intro pins s σ H x vs v us Q I rx rv want
  obtain ⟨l, c, xs, ys, rfl, rfl, at_, tup, room, go⟩ := want
  obtain ⟨u, rfl, ru⟩ := rv.one
  obtain rfl : v = Value.ref l := rx
  obtain rfl : u = Value.ref c := ru
  obtain ⟨_, ls, m, rel, _, el⟩ := I.lstM at_
  obtain ⟨ts, rel2, it, _⟩ := I.tuple tup
  obtain ⟨⟨cl, dd, dt, sl⟩, ec, e1, m2, e2⟩ := it
  obtain rfl : cl = .type "tuple" := e1
  obtain rfl : dt = .seq ts.toArray m2 := e2
  have sum : ls.toArray.size + ts.toArray.size ≤ sizeLine := by
    show ls.length + ts.length ≤ sizeLine
    have h1 := rel.length
    have h2 := rel2.length
    exact sz_of (by omega)
  have joined : ls.toArray ++ ts.toArray = (ls ++ ts).toArray := by simp
  exact call_meets F.slot_list_extend ⟨_, el, rfl⟩ F.entry_list_extend (F.args_list_extend_2 _ _) (extMeets l c ls.toArray ts.toArray m m2 dd sl (notLongL sum) sum)
    ⟨el, ec, .non, _, I.lset (its' := ls ++ ts) at_ el joined (rel.append rel2) (by rw [List.length_append]; exact sz_of room), rfl, go⟩
theorem sd_extT {K : PySem.W.Frag} {σ : L2.St} {H : Hp} {te ta : TE} {D : Ends} {l : Addr} {xs : List V} {ds : List PyData} (hl : H l = some (.lst xs)) (ha : Ev ta σ H (.ref l)) (h : EvD te σ H (.tuple ds)) (hz : xs.length + ds.length ≤ 100000) (k : ∀ ys H1, Ex H H1 → DtAll H1 ys ds → D.nx σ (upd H1 l (.lst (xs ++ ys)))) :
    tDrop (tBM K "list" (rExtT K) ta (tCons te tNil)) D σ H := ha H (Ex.refl H) _ fun H1 e1 =>
  ⟨Or.inl ⟨rfl, xs, sq_of (e1 l _ hl)⟩, h H1 e1 _ fun x H2 e2 hx => by
    obtain ⟨c, ys, rfl, hc, all⟩ := dt_tup hx
    exact ⟨l, c, xs, ys, rfl, rfl, e2 l _ (e1 l _ hl), SqT.of hc, by rw [all.len]; exact hz, k ys H2 (e1.trans e2) all⟩⟩
end K10
set_option Elab.async false
set_option linter.all false
set_option maxRecDepth 100000
set_option maxHeartbeats 1000000
namespace K10
open PySem PySem.Spec PyProof.Rows L2 Evl
/-! ### walks over zip(v1, v2) and enumerate(v), each v a list (true) or a tuple (false): the library's GoesN put to the walks of this layer -/
def SqB (K : PySem.W.Frag) (b : Bool) (H : Hp) (a : Addr) (xs : List V) : Prop := match b with
  | true => SqL K H a xs
  | false => SqT K H a xs
/-- what stands there -/
def HasB (b : Bool) (h : Heap) (a : Addr) (us : Array Value) : Prop := match b with
  | true => h.IsList a us
  | false => h.IsTuple a us
/-- its iterator -/
def IterB (b : Bool) (h : Heap) (c a : Addr) (i : Nat) : Prop := match b with
  | true => h.IsListIter c a i
  | false => h.IsTupleIter c a i
def itObj (b : Bool) (a : Addr) : Obj := match b with
  | true => { cls := .type "list_iterator", data := .fields #[.ref a, .int 0 0] }
  | false => { cls := .type "tuple_iterator", data := .fields #[.ref a, .int 0 0] }
section
variable {prog : Program} {w : World} {A : Around} {b : Bool} {h h' : Heap} {a c : Addr} {i : Nat} {us : Array Value}
theorem drawsB (calm : A.handled = none) (ne : a ≠ c) : Draws prog w A.in1 c [c, a] us.size (fun i v => us[i]? = some v) (fun i h => IterB b h c a i ∧ HasB b h a us) := by
  cases b
  · exact Draws.tuple (A := A.in1) calm c a ne us
  · exact Draws.list (A := A.in1) calm c a ne us
theorem beginsB : Begins (.ref a) (itObj b a) (fun h => HasB b h a us) := by
  cases b
  · exact begins_tuple a us
  · exact begins_list a us
theorem iterB_new (e : h.get? c = some (itObj b a)) : IterB b h c a 0 := by
  cases b <;> exact ⟨_, e, rfl, rfl⟩
theorem iterB_obj (x : IterB b h c a i) : ∃ o, h.get? c = some o ∧ ∀ v, o.data ≠ .cell v := by
  cases b <;> (obtain ⟨o, e, _, d⟩ := x; exact ⟨o, e, fun v q => by rw [d] at q; cases q⟩)
theorem iterB_keep (x : IterB b h c a i) (k : ∀ o, h.get? c = some o → h'.get? c = some o) : IterB b h' c a i := by
  cases b <;> (obtain ⟨o, e, r⟩ := x; exact ⟨o, k o e, r⟩)
end
section
variable {X : Cx} {pins : List (Addr × Obj)} {σ : L2.St} {H : Hp} {s : Shared} {a : Addr} {xs ys : List V} {k : Bool}
theorem sqb_has (I : Inv X pins σ H s) (h : SqB X.K k H a xs) : ∃ us : List Value, Vals xs us ∧ HasB k s.heap a us.toArray ∧ a < s.heap.objs.size := by
  cases k
  · obtain ⟨us, r, e, _⟩ := I.tuple h
    exact ⟨us, r, e, e.lt⟩
  · obtain ⟨us, r, e, _⟩ := I.list h
    exact ⟨us, r, e.isList, e.lt⟩
theorem sqb_one (I : Inv X pins σ H s) (h : SqB X.K k H a xs) (h2 : SqB X.K k H a ys) : ys = xs := by
  cases k
  · exact I.tuple_inj h2 h
  · exact I.list_inj h2 h
/-- a new tuple of two, laid -/
theorem laid2 {T : Addr} {x y : V} {u v : Value} {h' : Heap} (t : h'.IsTuple T #[u, v]) (r1 : RelV x u) (r2 : RelV y v) : ObjOk X.prog X.w (upd H T (.tup [x, y])) h' T (.tup [x, y]) :=
  ⟨by show 2 ≤ sizeLine; decide, [u, v], .cons r1 (.cons r2 .nil), t⟩
end
end K10
set_option Elab.async false
set_option linter.all false
set_option maxRecDepth 100000
set_option maxHeartbeats 1000000
namespace K10
open PySem PySem.Spec PyProof.Rows L2 Evl
/-! ### enumerate(v), v a list (true) or a tuple (false) -/
theorem newEnum {v : Value} {o : Obj} {Hv : Heap → Prop} (B : Begins v o Hv) :
    Meets (Builtin.«enumerate.__new__» ⟨[.type "enumerate", v], []⟩) fun _ R s => Hv s.heap ∧ R (.ok (.ret (.ref (s.heap.push o).objs.size))) { s with heap := (s.heap.push o).push { cls := .type "enumerate", data := .fields #[.none, .bool false, .ref s.heap.objs.size, rawInt 0, .none, .none] } } := by
  refine .of_wp fun prog w A R s q => ?_
  cases s with
  | mk hp g d tk os =>
  have sub := sub_enumerate
  have start : ∀ {A' : Around} {E : Value → Shared → Prop} {Q : Value → Shared → Prop}, Q (.ref hp.objs.size) ⟨hp.push o, g, d, tk, os⟩ → wpAny (model prog w) A' (pyIter v) Q E ⟨hp, g, d, tk, os⟩ := fun z => B.iter prog w _ _ ⟨hp, g, d, tk, os⟩ _ q.1 z
  wp_walk using start
  refine wpAny_stack_any fun frames => wpAny_pure ?_
  split
  next c _ _ _ _ _ => cases c == Value.type "enumerate" <;> (wp_walk using start; exact ⟨_, rfl, q.2⟩)
  next => wp_walk using start; exact ⟨_, rfl, q.2⟩
theorem callEnum {prog : Program} {w : World} {A : Around} {E : Value → Shared → Prop} {s : Shared} {v : Value} {o : Obj} {Hv : Heap → Prop} {Q : Value → Shared → Prop} (B : Begins v o Hv) (q : Hv s.heap)
    (k : ∀ h', IsEnum h' (s.heap.objs.size + 1) s.heap.objs.size 0 .none → h'.get? s.heap.objs.size = some o → (∀ c ob, s.heap.get? c = some ob → h'.get? c = some ob) → Q (.ref (s.heap.objs.size + 1)) { s with heap := h' }) :
    wpAny (model prog w) A (call (.type "enumerate") [v]) Q E s := by
  have e1 : (s.heap.push o).objs.size = s.heap.objs.size + 1 := Heap.size_push ..
  refine callType_new F.called_enumerate (by decide) (F.typeCall_enumerate_1 _) (F.newCall_enumerate_1 _) (fun ob => F.args_object_init_2 ob _) F.entry_enumerate_new (newEnum B) ⟨q, ?_⟩
  generalize hn : (s.heap.push o).push { cls := .type "enumerate", data := .fields #[.none, .bool false, .ref s.heap.objs.size, rawInt 0, .none, .none] } = hh
  have made : IsEnum hh (s.heap.objs.size + 1) s.heap.objs.size 0 .none := by
    rw [← hn, ← e1]
    exact Heap.get?_push_size _ rfl
  have old : ∀ c ob, s.heap.get? c = some ob → hh.get? c = some ob := fun c ob e => by
    rw [← hn]
    exact Heap.get?_push_of_some _ (Heap.get?_push_of_some _ e)
  have its : hh.get? s.heap.objs.size = some o := by
    rw [← hn]
    exact Heap.get?_push_of_some _ (Heap.get?_push_size _ B.free)
  show _ ∧ _
  rw [e1]
  exact ⟨⟨_, made, rfl⟩, k hh made its old⟩
def ItE (K : PySem.W.Frag) (k : Bool) (a : Addr) : It :=
  ⟨fun i H => ∃ xs : List V, SqB K k H a xs ∧ i < xs.length, fun i H v H' => ∃ T x, v = .ref T ∧ H T = none ∧ H' = upd H T (.tup [.int (i : Nat), x]) ∧ ∀ xs, SqB K k H a xs → xs[i]? = some x, fun i H => ∃ xs : List V, SqB K k H a xs ∧ i = xs.length⟩
theorem turnE {P : Program} {w : World} {K : PySem.W.Frag} {elts : List Expr} {kk : Nat} {tpos : Pos} {k : Bool} {a e c : Addr} (ne : e ≠ c) (ea : e ≠ a) (ac : a ≠ c) :
    Turn P w K (.Tuple elts kk tpos) (ItE K k a) [e, c] e (fun i h => (∃ old, IsEnum h e c ((0 : Int) + (i : Int)) old) ∧ IterB k h c a i) where
  mem := by simp
  obj := fun i h ⟨⟨old, h1⟩, h2⟩ b hb => by
    rcases List.mem_cons.mp hb with rfl | hb
    · exact ⟨_, h1, nofun⟩
    · rw [List.mem_singleton.mp hb]
      exact iterB_obj h2
  keep := fun i h h' ⟨⟨old, h1⟩, h2⟩ kp => ⟨⟨old, kp _ (by simp) _ h1⟩, iterB_keep h2 (kp _ (by simp))⟩
  item := by
    rintro X rfl rfl rfl calm i pins s σ H E I fp ⟨h1, h2⟩ ⟨xs, qx, lx⟩
    obtain ⟨us, ru, hu, _⟩ := sqb_has I qx
    have l1 := ru.length
    have W := GoesN.enumFrom (elts := elts) (x1 := kk) (pos := tpos) 0 (drawsB (prog := X.prog) (w := X.w) (b := k) (us := us.toArray) (I.ok.hd calm) ac) e ne (by simp [ne, ea]) (by simp)
    refine W.goes i s _ E (by simp; omega) ⟨h1, h2, hu⟩ fun v h' tk got st' kept _ => ?_
    obtain ⟨T, t, u, rfl, new, g1, hT⟩ := got
    obtain ⟨h1', h2', _⟩ := st'
    have e1 : xs[i]? = some xs[i] := List.getElem?_eq_getElem lx
    obtain ⟨u0, hu0, r1⟩ := ru.get e1
    have w1 : us.toArray[i]? = some u := g1
    rw [List.getElem?_toArray, hu0] at w1
    cases w1
    have nT : H T = none := I.hok.fresh new
    rw [Int.zero_add] at hT
    refine ⟨.ref T, upd H T (.tup [.int (i : Nat), xs[i]]), I.turnedNew (t' := tk) (ch := [e, c]) (fun b o nb eb => kept b o nb eb) fp new (laid2 hT ⟨t, rfl⟩ r1), rfl, ⟨T, _, rfl, nT, rfl, fun zs hz => ?_⟩, ⟨h1', h2'⟩, fun b hb => ?_⟩
    · rw [sqb_one I qx hz]
      exact e1
    · have lb : b < s.heap.objs.size := by
        obtain ⟨old, h1⟩ := h1
        rcases List.mem_cons.mp hb with rfl | hb
        · exact Heap.lt_size h1
        · rw [List.mem_singleton.mp hb]
          obtain ⟨o, eo, _⟩ := iterB_obj h2
          exact Heap.lt_size eo
      rw [upd_ne (Nat.ne_of_lt (Nat.lt_of_lt_of_le lb new))]
      exact (fp b hb).1
  done := by
    rintro X rfl rfl rfl calm i pins s σ H E I fp ⟨h1, h2⟩ ⟨xs, qx, rfl⟩
    obtain ⟨us, ru, hu, _⟩ := sqb_has I qx
    have W := GoesN.enumFrom (elts := elts) (x1 := kk) (pos := tpos) 0 (drawsB (prog := X.prog) (w := X.w) (b := k) (us := us.toArray) (I.ok.hd calm) ac) e ne (by simp [ne, ea]) (by simp)
    have sz : us.toArray.size = xs.length := by
      rw [ru.length]
      rfl
    rw [sz] at W
    exact W.stops s (fun s1 => Inv X pins σ H s1) E ⟨h1, h2, hu⟩ fun h' tk kept _ => I.turnedL (t' := tk) (ch := [e, c]) kept fp
  self := fun A i s Q E st h => by
    obtain ⟨⟨old, h1⟩, _⟩ := st
    exact wpAny_pyIter_enum h1 h
def iEnB (K : PySem.W.Frag) (k : Bool) (ta : TA) : TI := fun σ H R => ta σ H fun vs H1 => ∃ a xs, vs = [.ref a] ∧ SqB K k H1 a xs ∧ R (ItE K k a) H1
theorem pi_enB {X : Cx} {k : Bool} {e : Expr} {ta : TA} {p pos tpos : Pos} {elts : List Expr} {kk : Nat} (hg : Gl X "enumerate") (hm : X.mg "enumerate" = none) (ha : PA X [e] ta)
    (stars : starEach [e] X.env = [(false, eval e X.env)] := by rfl) : PI X (.Tuple elts kk tpos) (.Call (.Name "enumerate" p) [e] [] pos) (iEnB X.K k ta) := by
  constructor
  intro pins s σ H R I h
  refine Call_ (ld_blt I hg hm boot_enumerate (PyProof.Rows.callWith_type1 (thn (ha.run pos pins s σ H _ I h) fun us s1 ⟨vs, H1, I1, r1, want⟩ => ?_) stars rfl))
  obtain ⟨a, xs, rfl, qx, go⟩ := want
  obtain ⟨u, rfl, ru⟩ := vals1 r1
  obtain rfl : u = Value.ref a := ru
  obtain ⟨us, _, hu, la⟩ := sqb_has I1 qx
  refine callEnum (beginsB (b := k) (us := us.toArray)) hu fun h' pe pit kept => wpAny_pyIter_enum pe ?_
  refine ⟨s1.heap.objs.size + 1, _, _, _, H1, rfl, I1.kept (t' := s1.toks) kept, turnE (k := k) (a := a) (c := s1.heap.objs.size) (Nat.succ_ne_self _) (Nat.ne_of_gt (Nat.lt_succ_of_lt la)) (Nat.ne_of_lt la), ⟨⟨.none, pe⟩, iterB_new pit⟩, fun b hb => ?_, go⟩
  have le : s1.heap.objs.size ≤ b := by
    simp only [List.mem_cons, List.not_mem_nil, or_false] at hb
    rcases hb with rfl | rfl
    · exact Nat.le_add_right _ _
    · exact Nat.le_refl _
  exact I1.fpOk le (I1.hok.fresh le)
theorem walk_enB {K : PySem.W.Frag} {k : Bool} {a : Addr} {xs : List V} : Walk (ItE K k a) xs.length (fun H => SqB K k H a xs) (YPair (fun i => some (.int (i : Nat))) (fun i => xs[i]?)) where
  goes i H lt q := ⟨xs, q, lt⟩
  stops H q := ⟨xs, q, rfl⟩
  yields i H v H' _ q y := by
    obtain ⟨T, x, h1, h2, h3, h4⟩ := y
    exact ⟨T, .int (i : Nat), x, h1, h2, h3, rfl, h4 xs q⟩
end K10
set_option Elab.async false
set_option linter.all false
set_option maxRecDepth 100000
set_option maxHeartbeats 1000000
namespace K10
open PySem PySem.Spec PyProof.Rows L2 Evl
/-! ### the program: what is a machine -/
def okData (ds : List PyData) (d : PyData) : Prop := ∃ x, ds = [x] ∧ goodD x ∧ d = .bool true
def okMenu (ds : List PyData) (d : PyData) : Prop := ∃ sz : List Int, ds = [intsD sz] ∧ SzOk sz ∧ d = .bool true
def okState (ds : List PyData) (d : PyData) : Prop := ∃ (s : St) (size cnt : Int), ds = [stD s, .int size, .int cnt] ∧ (match s with | .told d => goodD d | .go ns => 2 ≤ size ∧ size ≤ 3 ∧ (ns.length : Int) = size ∧ ∀ x ∈ ns, 0 ≤ x ∧ x < cnt) ∧ d = .bool true
def okSizeAt (ds : List PyData) (d : PyData) : Prop := ∃ (sz : List Int) (t : Nat), ds = [intsD sz, .int t] ∧ SzOk sz ∧ d = .int ((sizeN sz t : Nat) : Int)
def okMach (ds : List PyData) (d : PyData) : Prop := ∃ (sz : List Int) (lv : List (List St)), ds = [machD sz lv] ∧ MOk sz lv ∧ d = .bool true
def Simple (d : PyData) : Prop := (∃ k : Int, 0 ≤ k ∧ d = .int k) ∨ ∃ a b : Int, 0 ≤ a ∧ 0 ≤ b ∧ d = intsD [a, b]
theorem good_simple {d : PyData} (h : goodD d) : Simple d := by
  rcases h with rfl | rfl | rfl | rfl
  · exact .inl ⟨0, by decide, rfl⟩
  · exact .inl ⟨1, by decide, rfl⟩
  · exact .inr ⟨1, 2, by decide, by decide, rfl⟩
  · exact .inl ⟨7, by decide, rfl⟩
def wt : PyData → Nat
  | .tuple _ => 3
  | _ => 1
def wts (ds : List PyData) : Nat := (ds.map wt).sum
theorem wts_app (a b : List PyData) : wts (a ++ b) = wts a + wts b := by
  unfold wts
  rw [List.map_append, List.sum_append_nat]
theorem wts_len : ∀ ds : List PyData, ds.length ≤ wts ds
  | [] => Nat.le_refl _
  | d :: ds => by
    have := wts_len ds
    have w1 : 1 ≤ wt d := by cases d <;> simp [wt]
    show ds.length + 1 ≤ wt d + wts ds
    omega
section
variable {K : PySem.W.Frag} {σ : L2.St} {H H' : Hp} {te ta tb : TE} {d : PyData} {s : Str}
theorem ev_isStr (h : Ev te σ H (.str s)) : Ev (tCB (rIsi K) (tCons te (tCons (tC (.ty "str")) tNil))) σ H (.bl true) := fun H1 e1 _ q =>
  h H1 e1 _ fun H2 e2 => ⟨.str s, .ty "str", .type "str", .type "str", true, rfl, .ty _, .base (.str s), kit_ty (by show kitB "str" "str" = some true; decide +kernel), q H2 e2⟩
theorem et_f3 {t1 t2 t3 : TT} (h1 : EvT t1 σ H false) (h2 : EvT t2 σ H false) (h3 : EvT t3 σ H false) : EvT (tOr t1 (tOr t2 t3)) σ H false := et_or (a := false) (b := false) h1 fun _ => et_or (a := false) (b := false) h2 fun _ => h3
theorem et_f2 {t1 t2 : TT} (h1 : EvT t1 σ H false) (h2 : EvT t2 σ H false) : EvT (tOr t1 t2) σ H false := et_or (a := false) (b := false) h1 fun _ => h2
theorem et_lenNe {ds : List PyData} {n : Nat} (h : EvD te σ H (.tuple ds)) (hl : ds.length = n) : EvT (tTest (tOp rNe (tCB (rLenS K) (tCons te tNil)) (tC (.int (n : Int))))) σ H false := et_is (et_test (ev_op (ev_lenT h) ev_c (rv_ne rfl))) (by rw [hl]; simp)
theorem et_notTup {ds : List PyData} (h : EvD te σ H (.tuple ds)) : EvT (tNot (tB (tCB (rIsi K) (tCons te (tCons (tC (.ty "tuple")) tNil))))) σ H false := et_not (a := true) (et_B (ev_isTup h))
end
section
variable {P : Program} {w : World} {K : PySem.W.Frag} {mg : Str → Option Value} {base0 : Heap} {f f1 f2 f3 : Addr} {fd fd1 fd2 fd3 : FuncData} {k : Nat}
theorem ok_between (F : Fun K "is_between" "is_between" sBetween f fd) (m1 : mg "isinstance" = none) (m2 : mg "int" = none) (m3 : mg "bool" = none) : FnOk P w K mg base0 CX0 (k + 1) f fd ["value", "low", "high"] (spD okBetween) := by
  refine F.ok scBetween (fun vs H Q E h => ?_) (fun cdv A outer s H vs Q E hr h => ?_)
  · obtain ⟨ds, d, all, ⟨x, lo, hi, rfl, _⟩, _⟩ := h
    exact all.len
  · obtain ⟨ds, d, all, ⟨x, lo, hi, rfl, rfl⟩, q⟩ := h
    obtain ⟨v, v1, v2, rfl, hv, h1, h2⟩ := dts3 all
    cases dt_int h1
    cases dt_int h2
    refine ⟨_, pss_one (ps_ret (pe_and (pe_callB call_isi (by rfl) m1 (by decide +kernel) (pa_cons (pv 0) (pa_cons (pe_bltn (v := .ty "int") (by rfl) m2 boot_int rfl) pa_nil)))
      (pe_and (pe_not (pe_callB call_isi (by rfl) m1 (by decide +kernel) (pa_cons (pv 0) (pa_cons (pe_bltn (v := .ty "bool") (by rfl) m3 (by decide +kernel) rfl) pa_nil))))
        (pe_one (pe_chain op_le op_le (pv 1) (pv 0) (pv 2)))))), ?_⟩
    refine sd_ret (ed_bool (ev_is (ev_andV (b := !isBool x && between x lo hi) (ev_isInt (ed_var rfl hv)) fun hi1 => ev_andV (ev_notV (ev_isBool (ed_var rfl hv))) fun hi2 => ?_) ?_)) q
    · cases hv with
      | int n => exact ev_between (ev_var rfl) (ev_var rfl) (ev_var rfl)
      | bl b => exact absurd hi2 (by simp [isBool])
      | non => exact absurd hi1 (by simp [isInt])
      | str b => exact absurd hi1 (by simp [isInt])
      | tup _ _ => exact absurd hi1 (by simp [isInt])
    · cases x <;> simp [isInt, isBool, between]
theorem ok_isData (F : Fun K "is_data" "is_data" sIsData f fd) (m1 : mg "isinstance" = none) (m2 : mg "tuple" = none) (m3 : mg "len" = none) (m4 : mg "int" = none) (m5 : mg "bool" = none) : FnOk P w K mg base0 CX0 (k + 1) f fd ["value"] (spD okData) := by
  refine F.ok scIsData (fun vs H Q E h => ?_) (fun cdv A outer s H vs Q E hr h => ?_)
  · obtain ⟨ds, d, all, ⟨x, rfl, _⟩, _⟩ := h
    exact all.len
  · obtain ⟨ds, d, all, ⟨x, rfl, good, rfl⟩, q⟩ := h
    obtain ⟨v, rfl, hv⟩ := dts1 all
    refine ⟨_, pss_cons (ps_set (i := 1) scIsData.nd rfl (.inl rfl) (pe_lst (pa_cons (pv 0) pa_nil)))
      (pss_cons (ps_while PassesOwn.never (pt_truth (pv 1) (by intro _; rfl))
        (pss_cons (ps_set (i := 2) scIsData.nd rfl (.inl rfl) (pe_bm0 PySem.F.plainAttrs_list PySem.F.slot_list_pop PySem.F.type_list_pop mt_pop (pv 1)))
        (pss_one (ps_if (pt_val (pe_callB call_isi (by rfl) m1 (by decide +kernel) (pa_cons (pv 2) (pa_cons (pe_bltn (v := .ty "tuple") (by rfl) m2 (by decide +kernel) rfl) pa_nil))))
          (pss_cons (ps_if (pt_cmpR op_ne (pe_callB call_len_seq (by rfl) m3 (by decide +kernel) (pa_cons (pv 2) pa_nil)) pe_int (nomark _)) (pss_one (ps_ret pe_bl)) pss_nil)
            (pss_one (ps_expr (pe_bm PySem.F.plainAttrs_list PySem.F.slot_list_extend PySem.F.type_list_extend mt_extT (pv 1) (pa_cons (pv 2) pa_nil)))))
          (pss_one (ps_if (PW.pt (pw_or (pt_not (pt_val (pe_callB call_isi (by rfl) m1 (by decide +kernel) (pa_cons (pv 2) (pa_cons (pe_bltn (v := .ty "int") (by rfl) m4 boot_int rfl) pa_nil)))))
            (pw_or (pt_val (pe_callB call_isi (by rfl) m1 (by decide +kernel) (pa_cons (pv 2) (pa_cons (pe_bltn (v := .ty "bool") (by rfl) m5 (by decide +kernel) rfl) pa_nil))))
              (pw_or1 (pt_cmpR op_lt (pv 2) pe_int (nomark _)))))) (pss_one (ps_ret pe_bl)) pss_nil))))))
      (pss_one (ps_ret pe_bl))), ?_⟩
    refine q_asgLn (D := { nx := _, rt := _ }) (ds := [x]) (eld_lst (eds_cons (ed_var rfl hv) eds_nil) (by show (1 : Nat) ≤ 100000; decide)) fun T xs H1 nT e1 hT all1 => ?_
    refine q_while (D := { nx := _, rt := _ }) (fun m σ' H' => ∃ (ys : List V) (ps : List PyData) (z : Option V), σ' = [some v, some (.ref T), z] ∧ Ex H H' ∧ H' T = some (.lst ys) ∧ DtAll H' ys ps ∧ (∀ d ∈ ps, Simple d) ∧ wts ps ≤ 3 ∧ m = wts ps) (wts [x])
      ⟨xs, [x], none, rfl, e1, hT, all1, (fun d hd => by rw [List.mem_singleton.mp hd]; exact good_simple good), (by rcases good with rfl | rfl | rfl | rfl <;> decide), rfl⟩ fun m σ' H' inv => ?_
    obtain ⟨ys, ps, z, rfl, e2, hT2, all2, sim, le, rfl⟩ := inv
    refine ⟨!ys.isEmpty, et_truL (ev_var rfl) hT2, fun hb H3 e3 => ?_, fun hb H3 e3 => ?_⟩
    · have hne : ps ≠ [] := fun z => by
        subst z
        cases all2
        cases hb
      obtain ⟨ps', d, rfl⟩ := list_end hne
      obtain ⟨ys', y, rfl, all', hy⟩ := all2.snoc
      have sd := sim d (List.mem_append.mpr (.inr (List.mem_singleton.mpr rfl)))
      have sim' : ∀ d ∈ ps', Simple d := fun d hd => sim d (List.mem_append.mpr (.inl hd))
      rw [wts_app] at le
      have wl := wts_len ps'
      refine ⟨_, fun _ _ h => h, ?_⟩
      refine qd_pop (D := { nx := _, rt := _, ct := _, bk := _ }) (e3 _ _ hT2) (ev_var rfl) fun H4 e4 => ?_
      have tk4 : Tk H' (upd H4 T (.lst ys')) := (tk_ex (e3.trans e4)).trans (tk_lst ((e3.trans e4) _ _ hT2))
      have hT4 : upd H4 T (.lst ys') T = some (.lst ys') := upd_same
      have e14 : Ex H (upd H4 T (.lst ys')) := ((e2.trans e3).trans e4).mut nT
      have all4 := all'.tk tk4
      have hy4 := hy.tk tk4
      generalize upd H4 T (.lst ys') = H5 at hT4 e14 all4 hy4 ⊢
      rcases sd with ⟨k, k0, rfl⟩ | ⟨a, b, a0, b0, rfl⟩
      · cases dt_int hy4
        refine s_if (D := { nx := _, rt := _, ct := _, bk := _ }) (b := false) (et_B (ev_isTup (d := .int k) (ed_int (ev_var rfl)))) (fun z => by cases z) fun _ H6 e6 => ?_
        refine s_when (D := { nx := _, rt := _, ct := _, bk := _ }) (b := false) (et_f3 (et_not (a := true) (et_B (ev_isInt (d := .int k) (ed_int (ev_var rfl))))) (et_B (ev_isBool (d := .int k) (ed_int (ev_var rfl)))) (et_is (et_test (ev_op (ev_var rfl) ev_c rv_I0)) (decide_eq_false (by omega)))) (fun z => by cases z) fun _ H7 e7 => ?_
        refine ⟨wts ps', ?_, ys', ps', _, rfl, (e14.trans e6).trans e7, (e6.trans e7) _ _ hT4, all4.tk (tk_ex (e6.trans e7)), sim', by omega, rfl⟩
        rw [wts_app]
        show wts ps' < wts ps' + 1
        omega
      · refine s_if (D := { nx := _, rt := _, ct := _, bk := _ }) (b := true) (et_B (ev_isTup (ed_var rfl hy4))) (fun _ H6 e6 => ?_) fun z => by cases z
        refine q_when (D := { nx := _, rt := _, ct := _, bk := _ }) (b := false) (et_lenNe (n := 2) (ed_var rfl (hy4.tk (tk_ex e6))) rfl) (fun z => by cases z) fun _ H7 e7 => ?_
        have e67 := e6.trans e7
        refine sd_extT (D := { nx := _, rt := _, ct := _, bk := _ }) (e67 _ _ hT4) (ev_var rfl) (ed_var rfl (hy4.tk (tk_ex e67))) (by rw [all4.len]; show ps'.length + 2 ≤ 100000; omega) fun zs H8 e8 hz => ?_
        have still : Tk H8 (upd H8 T (.lst (ys' ++ zs))) := tk_lst (e8 _ _ (e67 _ _ hT4))
        refine ⟨wts (ps' ++ [.int a, .int b]), ?_, ys' ++ zs, ps' ++ [.int a, .int b], _, rfl, ((e14.trans e67).trans e8).mut nT, upd_same, ((all4.tk (tk_ex (e67.trans e8))).append hz).tk still, fun d hd => ?_, ?_, rfl⟩
        · rw [wts_app, wts_app]
          show wts ps' + 2 < wts ps' + 3
          omega
        · rcases List.mem_append.mp hd with h | h
          · exact sim' d h
          · simp only [List.mem_cons, List.not_mem_nil, or_false] at h
            rcases h with rfl | rfl
            · exact .inl ⟨a, a0, rfl⟩
            · exact .inl ⟨b, b0, rfl⟩
        · rw [wts_app]
          have : wts ps' + 3 ≤ 3 := le
          show wts ps' + 2 ≤ 3
          omega
    · exact sd_ret (ed_bool ev_c) fun y H4 e4 hy => q y H4 ((e2.trans e3).trans e4) hy
theorem ok_isMenu {t : Tok} (F : Fun K "_is_menu" "_is_menu" sIsMenu f fd) (m1 : mg "isinstance" = none) (m2 : mg "tuple" = none) (m3 : mg "len" = none) (m4 : mg "all" = none) (m5 : mg "MOST_ROWS" = some (.int 4 t))
    (G1 : FnOk P w K mg base0 CX0 k f1 fd1 ["value", "low", "high"] (spD okBetween)) (g1 : mg "is_between" = some (.ref f1)) (kp1 : PySem.W.keepIn K (.ref f1) = true) (b1 : Binds K fd1 ["value", "low", "high"] []) :
    FnOk P w K mg base0 CX0 (k + 1) f fd ["value"] (spD okMenu) := by
  refine F.ok scIsMenu (fun vs H Q E h => ?_) (fun cdv A outer s H vs Q E hr h => ?_)
  · obtain ⟨ds, d, all, ⟨sz, rfl, _⟩, _⟩ := h
    exact all.len
  · obtain ⟨ds, d, all, ⟨sz, rfl, ok, rfl⟩, q⟩ := h
    obtain ⟨v, rfl, hv⟩ := dts1 all
    have s3 := ok.2.1
    refine ⟨_, pss_cons (ps_if (PW.pt (pw_or (pt_not (pt_val (pe_callB call_isi (by rfl) m1 (by decide +kernel) (pa_cons (pv 0) (pa_cons (pe_bltn (v := .ty "tuple") (by rfl) m2 (by decide +kernel) rfl) pa_nil)))))
          (pw_or1 (pt_cmpR op_gt (pe_callB call_len_seq (by rfl) m3 (by decide +kernel) (pa_cons (pv 0) pa_nil)) (pe_glob (v := .int 4) (by rfl) m5 ⟨_, rfl⟩) (nomark _))))) (pss_one (ps_ret pe_bl)) pss_nil)
      (pss_one (ps_ret (pe_callB (cr_all rfl) (by rfl) m4 (by decide +kernel) (pa_cons (pe_lc (own := [("size", 1)]) (g := gName 1) rfl scIsMenu.nd (pi_tup (pv 0)) (blkOk_by (N := nIsMenu) (sc := defScope sIsMenu) (by decide +kernel))
        (fun _ _ _ _ _ => pg_name (i := 1) scIsMenu.nd rfl (Or.inl rfl)) (fun _ _ _ _ _ => pts_nil) (fun _ _ _ _ _ => pe_call G1 hr (by rfl) g1 kp1 b1 .nil pass0 (pa_cons (pv 1) (pa_cons pe_int (pa_cons pe_int pa_nil))))) pa_nil)))), ?_⟩
    refine q_when (D := { nx := _, rt := _ }) (b := false) (et_f2 (et_notTup (ed_var rfl hv)) (et_is (et_test (ev_op (ev_lenI (ed_var rfl hv)) ev_c rv_I0)) (decide_eq_false (by omega)))) (fun z => by cases z) fun _ H1 e1 => ?_
    refine sd_ret (d := .bool true) (ed_bool (ev_is (ev_all (bs := List.replicate sz.length true) (eld_is (eld_lcT (ds := sz.map .int) (fun _ => true) (fun _ => .bool true) (ed_var rfl (hv.tk (tk_ex e1))) (by rw [List.length_map]; omega) (fun i d x H2 e2 hd hx => ?_)) ?_)) ?_)) fun y H2 e2 hy => q y H2 (e1.trans e2) hy
    · obtain ⟨s, hs, rfl⟩ := map_at hd
      have bs := ok.2.2 s (List.mem_of_getElem? hs)
      cases dt_int hx
      refine turn_name rfl (et_yes rfl) fun _ => ed_call (eds_cons (ed_int (ev_var rfl)) (eds_cons (ed_int ev_c) (eds_cons (ed_int ev_c) eds_nil))) ⟨.int s, 2, 9, rfl, ?_⟩
      rcases bs with rfl | rfl <;> rfl
    · rw [givD_all, List.length_map]
      apply List.ext_getElem <;> simp
    · simp
theorem ok_sizeAt (F : Fun K "size_at" "size_at" sSizeAt f fd) (m3 : mg "len" = none) : FnOk P w K mg base0 CX0 (k + 1) f fd ["menu", "t"] (spD okSizeAt) := by
  refine F.ok scSizeAt (fun vs H Q E h => ?_) (fun cdv A outer s H vs Q E hr h => ?_)
  · obtain ⟨ds, d, all, ⟨sz, t, rfl, _⟩, _⟩ := h
    exact all.len
  · obtain ⟨ds, d, all, ⟨sz, t, rfl, ok, rfl⟩, q⟩ := h
    obtain ⟨x, y, rfl, hx, hy⟩ := dts2 all
    cases dt_int hy
    refine ⟨_, pss_one (ps_ret (pe_ifExp (pt_truth (pv 0) (by intro _; rfl)) (pe_ix ix_tup (pv 0) (pe_op op_mod (pv 1) (pe_callB call_len_seq (by rfl) m3 (by decide +kernel) (pa_cons (pv 0) pa_nil))) (fun _ _ => rfl)) pe_int)), ?_⟩
    have s1 := ok.1
    have sat := ok.at t
    refine sd_ret (ed_int (ev_if (b := true) (et_is (et_truT (ed_var rfl hx)) ?_) (fun _ => ev_is (int_ed (ed_ix (ed_var rfl hx) (ev_modN (ev_var rfl) (ev_lenI (ed_var rfl hx)) (by omega)) (at_ints sat.1))) (congrArg V.int (ok.n t).2.symm)) fun z => by cases z)) q
    cases sz with
    | nil => simp at s1
    | cons a b => rfl
theorem ok_isState (F : Fun K "_is_state" "_is_state" sIsState f fd) (m1 : mg "isinstance" = none) (m2 : mg "tuple" = none) (m3 : mg "len" = none) (m4 : mg "all" = none) (m5 : mg "str" = none)
    (G1 : FnOk P w K mg base0 CX0 k f1 fd1 ["value", "low", "high"] (spD okBetween)) (g1 : mg "is_between" = some (.ref f1)) (kp1 : PySem.W.keepIn K (.ref f1) = true) (b1 : Binds K fd1 ["value", "low", "high"] [])
    (G2 : FnOk P w K mg base0 CX0 k f2 fd2 ["value"] (spD okData)) (g2 : mg "is_data" = some (.ref f2)) (kp2 : PySem.W.keepIn K (.ref f2) = true) (b2 : Binds K fd2 ["value"] []) :
    FnOk P w K mg base0 CX0 (k + 1) f fd ["value", "size", "many"] (spD okState) := by
  refine F.ok scIsState (fun vs H Q E h => ?_) (fun cdv A outer s H vs Q E hr h => ?_)
  · obtain ⟨ds, d, all, ⟨s, size, cnt, rfl, _⟩, _⟩ := h
    exact all.len
  · obtain ⟨ds, d, all, ⟨st, size, cnt, rfl, ok, rfl⟩, q⟩ := h
    obtain ⟨x, y, z, rfl, hx, hy, hz⟩ := dts3 all
    cases dt_int hy
    cases dt_int hz
    refine ⟨_, pss_cons (ps_if (PW.pt (pw_or (pt_not (pt_val (pe_callB call_isi (by rfl) m1 (by decide +kernel) (pa_cons (pv 0) (pa_cons (pe_bltn (v := .ty "tuple") (by rfl) m2 (by decide +kernel) rfl) pa_nil)))))
          (pw_or (pt_cmpR op_ne (pe_callB call_len_seq (by rfl) m3 (by decide +kernel) (pa_cons (pv 0) pa_nil)) pe_int (nomark _))
            (pw_or1 (pt_not (pt_val (pe_callB call_isi (by rfl) m1 (by decide +kernel) (pa_cons (pe_ix ix_tup (pv 0) pe_int (fun _ _ => rfl)) (pa_cons (pe_bltn (v := .ty "str") (by rfl) m5 (by decide +kernel) rfl) pa_nil))))))))) (pss_one (ps_ret pe_bl)) pss_nil)
      (pss_cons (ps_if (pt_cmpR op_eq (pe_ix ix_tup (pv 0) pe_int (fun _ _ => rfl)) pe_str (nomark _)) (pss_one (ps_ret (pe_call G2 hr (by rfl) g2 kp2 b2 .nil pass0 (pa_cons (pe_ix ix_tup (pv 0) pe_int (fun _ _ => rfl)) pa_nil)))) pss_nil)
      (pss_cons (ps_if (PW.pt (pw_or (pt_cmpR op_ne (pe_ix ix_tup (pv 0) pe_int (fun _ _ => rfl)) pe_str (nomark _)) (pw_or (pt_cmpR op_eq (pv 1) pe_int (nomark _)) (pw_or (pt_not (pt_val (pe_callB call_isi (by rfl) m1 (by decide +kernel) (pa_cons (pe_ix ix_tup (pv 0) pe_int (fun _ _ => rfl)) (pa_cons (pe_bltn (v := .ty "tuple") (by rfl) m2 (by decide +kernel) rfl) pa_nil)))))
          (pw_or1 (pt_cmpR op_ne (pe_callB call_len_seq (by rfl) m3 (by decide +kernel) (pa_cons (pe_ix ix_tup (pv 0) pe_int (fun _ _ => rfl)) pa_nil)) (pv 1) (nomark _))))))) (pss_one (ps_ret pe_bl)) pss_nil)
      (pss_one (ps_ret (pe_callB (cr_all rfl) (by rfl) m4 (by decide +kernel) (pa_cons (pe_lc (own := [("number", 3)]) (g := gName 3) rfl scIsState.nd (pi_tup (pe_ix ix_tup (pv 0) pe_int (fun _ _ => rfl))) (blkOk_by (N := nIsState) (sc := defScope sIsState) (by decide +kernel))
        (fun _ _ _ _ _ => pg_name (i := 3) scIsState.nd rfl (Or.inl rfl)) (fun _ _ _ _ _ => pts_nil) (fun _ _ _ _ _ => pe_call G1 hr (by rfl) g1 kp1 b1 .nil pass0 (pa_cons (pv 3) (pa_cons pe_int (pa_cons (pe_op op_sub (pv 2) pe_int) pa_nil))))) pa_nil)))))), ?_⟩
    have tup : ∃ ds, stD st = .tuple ds ∧ ds.length = 2 := by cases st <;> exact ⟨_, rfl, rfl⟩
    obtain ⟨ds, eds, l2⟩ := tup
    refine q_when (D := { nx := _, rt := _ }) (b := false) (et_f3 (et_notTup (ds := ds) (by rw [← eds]; exact ed_var rfl hx)) (et_lenNe (n := 2) (ds := ds) (by rw [← eds]; exact ed_var rfl hx) l2) (et_not (a := true) (et_B (ev_isStr (ev_word (ed_var rfl hx)))))) (fun z => by cases z) fun _ H1 e1 => ?_
    have hx1 := hx.tk (tk_ex e1)
    cases st with
    | told d =>
      refine q_when (D := { nx := _, rt := _ }) (b := true) (et_is (et_test (ev_op (ev_word (ed_var rfl hx1)) ev_c (rv_eq rfl))) (decide_eq_true rfl)) (fun _ H2 e2 => ?_) fun z => by cases z
      exact sd_ret (ed_call (eds_cons (ed_told (ed_var rfl (hx1.tk (tk_ex e2)))) eds_nil) ⟨d, rfl, ok, rfl⟩) fun y H3 e3 hy => q y H3 ((e1.trans e2).trans e3) hy
    | go ns =>
      obtain ⟨o1, o2, o3, o4⟩ := ok
      refine q_when (D := { nx := _, rt := _ }) (b := false) (et_is (et_test (ev_op (ev_word (ed_var rfl hx1)) ev_c (rv_eq rfl))) (by show decide (V.str "go" = V.str "told") = false; decide +kernel)) (fun z => by cases z) fun _ H2 e2 => ?_
      have hx2 := hx1.tk (tk_ex e2)
      refine q_when (D := { nx := _, rt := _ }) (b := false) (et_f2 (et_is (et_test (ev_op (ev_word (ed_var rfl hx2)) ev_c (rv_ne rfl))) (by show (!decide (V.str "go" = V.str "go")) = false; simp)) (et_f3 (et_is (et_test (ev_op (ev_var rfl) ev_c (rv_eq rfl))) (decide_eq_false fun z => by injection z with z; omega)) (et_notTup (ed_gos (ed_var rfl hx2))) (et_is (et_test (ev_op (ev_lenI (ed_gos (ed_var rfl hx2))) (ev_var rfl) (rv_ne rfl))) (by rw [o3]; simp)))) (fun z => by cases z) fun _ H3 e3 => ?_
      have hx3 := hx2.tk (tk_ex e3)
      refine sd_ret (d := .bool true) (ed_bool (ev_is (ev_all (bs := List.replicate ns.length true) (eld_is (eld_lcT (ds := ns.map .int) (fun _ => true) (fun _ => .bool true) (ed_gos (ed_var rfl hx3)) (by rw [List.length_map]; omega) (fun i d x H4 e4 hd hx => ?_)) ?_)) ?_)) fun y H4 e4 hy => q y H4 (((e1.trans e2).trans e3).trans e4) hy
      · obtain ⟨s, hs, rfl⟩ := map_at hd
        have bs := o4 s (List.mem_of_getElem? hs)
        cases dt_int hx
        refine turn_name rfl (et_yes rfl) fun _ => ed_call (eds_cons (ed_int (ev_var rfl)) (eds_cons (ed_int ev_c) (eds_cons (ed_int (ev_op (ev_var rfl) ev_c rv_I0)) eds_nil))) ⟨.int s, 0, cnt - 1, rfl, ?_⟩
        show PyData.bool true = .bool (decide (0 ≤ s) && decide (s ≤ cnt - 1))
        rw [decide_eq_true bs.1, decide_eq_true (by omega)]
        rfl
      · rw [givD_all, List.length_map]
        apply List.ext_getElem <;> simp
      · simp
end
end K10
set_option Elab.async false
set_option linter.all false
set_option maxRecDepth 100000
set_option maxHeartbeats 1000000
namespace K10
open PySem PySem.Spec PyProof.Rows L2 Evl
/-! ### the program: what is a machine -/
theorem isiK {X : Cx} (K : PySem.W.Frag) (e : X.K = K) : CallR X (.builtin "isinstance") (rIsi K) := by
  subst e
  exact call_isi
def cntsOf (lv : List (List St)) : List Int := lv.map fun l => (l.length : Int)
theorem cnts_at {lv : List (List St)} {t : Nat} {l : List St} (h : lv[t]? = some l) : (cntsOf lv)[t]? = some (l.length : Int) := by
  unfold cntsOf
  rw [List.getElem?_map, h]
  rfl
theorem sum_le4 : ∀ l : List Int, (∀ x ∈ l, x ≤ 4) → l.sum ≤ 4 * l.length
  | [], _ => by simp
  | x :: l, h => by
    have := sum_le4 l fun y hy => h y (List.mem_cons_of_mem _ hy)
    have := h x List.mem_cons_self
    rw [List.sum_cons, List.length_cons]
    omega
theorem all_true {α : Type} (l : List α) : ((List.replicate l.length true).all id) = true := by simp
theorem givD_rep (n : Nat) : givD n (fun _ => true) (fun _ => PyData.bool true) = (List.replicate n true).map .bool := by
  rw [givD_all]
  apply List.ext_getElem <;> simp
theorem ev_chain2 {σ : L2.St} {H : Hp} {ta tb tc : TE} {a b c : Int} (ha : Ev ta σ H (.int a)) (hb : Ev tb σ H (.int b)) (hc : Ev tc σ H (.int c)) :
    Ev (tChain (rI0 fun i j => .bl (decide (i < j))) (rI0 fun i j => .bl (decide (i ≤ j))) ta tb tc) σ H (.bl (decide (a < b) && decide (b ≤ c))) := fun H1 e Q q =>
  ha H1 e _ fun H2 e2 => hb H2 (e.trans e2) _ fun H3 e3 => ⟨a, b, rfl, rfl, _, rfl, by
    by_cases h : a < b
    · rw [decide_eq_true h, if_pos rfl]
      refine hc H3 ((e.trans e2).trans e3) _ fun H4 e4 => ⟨b, c, rfl, rfl, ?_⟩
      have z := q H4 ((e2.trans e3).trans e4)
      rw [decide_eq_true h, Bool.true_and] at z
      exact z
    · rw [decide_eq_false h, if_neg (by decide)]
      have z := q H3 (e2.trans e3)
      rw [decide_eq_false h, Bool.false_and] at z
      exact z⟩
section
variable {P : Program} {w : World} {K : PySem.W.Frag} {mg : Str → Option Value} {base0 : Heap} {f f1 f2 f3 : Addr} {fd fd1 fd2 fd3 : FuncData} {k : Nat}
theorem ok_isMach {tl ts : Tok} (F : Fun K "is_machine" "is_machine" sIsMach f fd) (m1 : mg "isinstance" = none) (m2 : mg "tuple" = none) (m3 : mg "len" = none) (m4 : mg "all" = none) (m5 : mg "sum" = none) (m6 : mg "enumerate" = none) (m7 : mg "MOST_LEVELS" = some (.int 401 tl)) (m8 : mg "MOST_STATES" = some (.int 2000 ts))
    (G1 : FnOk P w K mg base0 CX0 k f1 fd1 ["value"] (spD okMenu)) (g1 : mg "_is_menu" = some (.ref f1)) (kp1 : PySem.W.keepIn K (.ref f1) = true) (b1 : Binds K fd1 ["value"] [])
    (G2 : FnOk P w K mg base0 CX0 k f2 fd2 ["value", "size", "many"] (spD okState)) (g2 : mg "_is_state" = some (.ref f2)) (kp2 : PySem.W.keepIn K (.ref f2) = true) (b2 : Binds K fd2 ["value", "size", "many"] [])
    (G3 : FnOk P w K mg base0 CX0 k f3 fd3 ["menu", "t"] (spD okSizeAt)) (g3 : mg "size_at" = some (.ref f3)) (kp3 : PySem.W.keepIn K (.ref f3) = true) (b3 : Binds K fd3 ["menu", "t"] []) :
    FnOk P w K mg base0 CX0 (k + 1) f fd ["value"] (spD okMach) := by
  refine F.ok scIsMach (fun vs H Q E h => ?_) (fun cdv A outer s H vs Q E hr h => ?_)
  · obtain ⟨ds, d, all, ⟨sz, lv, rfl, _⟩, _⟩ := h
    exact all.len
  · obtain ⟨ds, d, all, ⟨sz, lv, rfl, m, rfl⟩, q⟩ := h
    obtain ⟨x, rfl, hx⟩ := dts1 all
    refine ⟨_, pss_cons (ps_if (PW.pt (pw_or (pt_not (pt_val (pe_callB call_isi (by rfl) m1 (by decide +kernel) (pa_cons (pv 0) (pa_cons (pe_bltn (v := .ty "tuple") (by rfl) m2 (by decide +kernel) rfl) pa_nil)))))
          (pw_or (pt_cmpR op_ne (pe_callB call_len_seq (by rfl) m3 (by decide +kernel) (pa_cons (pv 0) pa_nil)) pe_int (nomark _)) (pw_or1 (pt_not (pt_val (pe_call G1 hr (by rfl) g1 kp1 b1 .nil pass0 (pa_cons (pe_ix ix_tup (pv 0) pe_int (fun _ _ => rfl)) pa_nil)))))))) (pss_one (ps_ret pe_bl)) pss_nil)
      (pss_cons (ps_asg (pv 0) (pg_tup (by rfl) (pgs_cons (pg_name (i := 1) scIsMach.nd rfl (Or.inr rfl)) (pgs_cons (pg_name (i := 2) scIsMach.nd rfl (Or.inl rfl)) pgs_nil))))
      (pss_cons (ps_if (PW.pt (pw_or (pt_not (pt_val (pe_callB call_isi (by rfl) m1 (by decide +kernel) (pa_cons (pv 2) (pa_cons (pe_bltn (v := .ty "tuple") (by rfl) m2 (by decide +kernel) rfl) pa_nil)))))
          (pw_or1 (pt_not (pt_chain op_lt op_le pe_int (pe_callB call_len_seq (by rfl) m3 (by decide +kernel) (pa_cons (pv 2) pa_nil)) (pe_glob (v := .int 401) (by rfl) m7 ⟨_, rfl⟩)))))) (pss_one (ps_ret pe_bl)) pss_nil)
      (pss_cons (ps_if (pt_not (pt_val (pe_callB (cr_all rfl) (by rfl) m4 (by decide +kernel) (pa_cons (pe_lc (own := [("level", 5)]) (g := gName 5) rfl scIsMach.nd (pi_tup (pv 2)) (blkOk_by (N := nIsMach) (sc := defScope sIsMach) (by decide +kernel))
          (fun _ _ _ _ _ => pg_name (i := 5) scIsMach.nd rfl (Or.inl rfl)) (fun _ _ _ _ _ => pts_nil) (fun _ _ _ _ _ => pe_and (pe_callB (isiK K rfl) (by rfl) m1 (by decide +kernel) (pa_cons (pv 5) (pa_cons (pe_bltn (v := .ty "tuple") (by rfl) m2 (by decide +kernel) rfl) pa_nil)))
            (pe_one (pe_cmpR op_gt (pe_callB (lenK K rfl) (by rfl) m3 (by decide +kernel) (pa_cons (pv 5) pa_nil)) pe_int (nomark _))))) pa_nil)))) (pss_one (ps_ret pe_bl)) pss_nil)
      (pss_cons (ps_set (i := 3) scIsMach.nd rfl (.inr rfl) (pe_lc (own := [("level", 5)]) (g := gName 5) rfl scIsMach.nd (pi_tup (pv 2)) (blkOk_by (N := nIsMach) (sc := defScope sIsMach) (by decide +kernel))
          (fun _ _ _ _ _ => pg_name (i := 5) scIsMach.nd rfl (Or.inl rfl)) (fun _ _ _ _ _ => pts_nil) (fun _ _ _ _ _ => pe_callB (lenK K rfl) (by rfl) m3 (by decide +kernel) (pa_cons (pv 5) pa_nil))))
      (pss_cons (ps_if (PW.pt (pw_or (pt_cmpR op_ne (pe_ix ix_list (pv 3) pe_int (fun _ _ => rfl)) pe_int (nomark _)) (pw_or (pt_cmpR op_gt (pe_callB (cr_sum rfl) (by rfl) m5 (by decide +kernel) (pa_cons (pv 3) pa_nil)) (pe_glob (v := .int 2000) (by rfl) m8 ⟨_, rfl⟩) (nomark _))
          (pw_or1 (PW.pt (pw_and (pt_not (pt_truth (pv 1) (by intro _; rfl))) (pw_and1 (pt_cmpR op_gt (pe_callB call_len_seq (by rfl) m3 (by decide +kernel) (pa_cons (pv 2) pa_nil)) pe_int (nomark _))))))))) (pss_one (ps_ret pe_bl)) pss_nil)
      (pss_cons (ps_expr (pe_bm PySem.F.plainAttrs_list PySem.F.slot_list_append PySem.F.type_list_append mt_append (pv 3) (pa_cons pe_int pa_nil)))
      (pss_cons (ps_for PassesOwn.never rfl (pi_enB (k := false) (by rfl) m6 (pa_cons (pv 2) pa_nil)) (pg_tup (n := 2) (by rfl) (pgs_cons (pg_name (i := 4) scIsMach.nd rfl (Or.inr rfl)) (pgs_cons (pg_name (i := 5) scIsMach.nd rfl (Or.inl rfl)) pgs_nil)))
        (pss_one (ps_if (pt_not (pt_val (pe_callB (cr_all rfl) (by rfl) m4 (by decide +kernel) (pa_cons (pe_lc (own := [("state", 6)]) (g := gName 6) rfl scIsMach.nd (pi_tup (pv 5)) (blkOk_by (N := nIsMach) (sc := defScope sIsMach) (by decide +kernel))
          (fun _ _ _ _ _ => pg_name (i := 6) scIsMach.nd rfl (Or.inl rfl)) (fun _ _ _ _ _ => pts_nil) (fun _ _ _ _ _ => pe_call G2 hr (by rfl) g2 kp2 b2 .nil pass0 (pa_cons (pv 6) (pa_cons (pe_call G3 hr (by rfl) g3 kp3 b3 .nil pass0 (pa_cons (pv 1) (pa_cons (pv 4) pa_nil))) (pa_cons (pe_ix (ixLK K rfl) (pv 3) (pe_op op_add (pv 4) pe_int) (fun _ _ => rfl)) pa_nil))))) pa_nil)))) (pss_one (ps_ret pe_bl)) pss_nil)))
      (pss_one (ps_ret pe_bl))))))))), ?_⟩
    have l1 := m.l1
    have l6 := m.l6
    have s1 := m.s.1
    refine q_when (D := { nx := _, rt := _ }) (b := false) (et_f3 (et_notTup (ds := [intsD sz, .tuple (lv.map levD)]) (ed_var rfl hx)) (et_lenNe (n := 2) (ds := [intsD sz, .tuple (lv.map levD)]) (ed_var rfl hx) rfl) (et_not (a := true) (et_B (bool_ed (ed_call (eds_cons (ed_menu (ed_var rfl hx)) eds_nil) ⟨sz, rfl, m.s, rfl⟩))))) (fun z => by cases z) fun _ H1 e1 => ?_
    refine sd_two (D := { nx := _, rt := _ }) (d1 := intsD sz) (d2 := .tuple (lv.map levD)) (ed_var rfl (hx.tk (tk_ex e1))) fun u v H2 e2 hu hv => ?_
    have lenv : (lv.map levD).length = lv.length := List.length_map ..
    refine q_when (D := { nx := _, rt := _ }) (b := false) (et_f2 (et_notTup (ed_var rfl hv)) (et_not (a := true) (et_is (et_test (ev_is (ev_chain2 ev_c (ev_lenT (ed_var rfl hv)) ev_c) rfl)) ?_))) (fun z => by cases z) fun _ H3 e3 => ?_
    · rw [lenv, decide_eq_true (show (0 : Int) < (lv.length : Int) by omega), decide_eq_true (show (lv.length : Int) ≤ 401 by omega)]
      rfl
    have hv3 := hv.tk (tk_ex e3)
    have hu3 := hu.tk (tk_ex e3)
    have levAt : ∀ {i : Nat} {d : PyData}, (lv.map levD)[i]? = some d → ∃ l, lv[i]? = some l ∧ d = levD l ∧ 1 ≤ l.length ∧ l.length ≤ 4 := fun {i d} h => by
      obtain ⟨l, hl, rfl⟩ := map_at h
      have lt := (List.getElem?_eq_some_iff.mp hl).1
      have c := m.cs i lt
      have el : lv.getD i [] = l := by rw [List.getD_eq_getElem?_getD, hl]; rfl
      rw [el] at c
      exact ⟨l, hl, rfl, c.1, c.2⟩
    refine q_when (D := { nx := _, rt := _ }) (b := false) (et_not (a := true) (et_B (ev_is (ev_all (bs := List.replicate (lv.map levD).length true) (eld_is (eld_lcT (ds := lv.map levD) (fun _ => true) (fun _ => .bool true) (ed_var rfl hv3) (by rw [lenv]; omega) (fun i d y H4 e4 hd hy => ?_)) (givD_rep _))) (congrArg V.bl (all_true _))))) (fun z => by cases z) fun _ H4 e4 => ?_
    · obtain ⟨l, hl, rfl, c1, c4⟩ := levAt hd
      refine turn_name rfl (et_yes rfl) fun _ => ed_bool (ev_is (ev_andV (a := true) (b := true) (ev_isTup (d := levD l) (ed_var rfl hy)) fun _ => ev_is (ev_op (ev_lenT (ed_var rfl hy)) ev_c rv_I0) ?_) rfl)
      rw [List.length_map]
      exact congrArg V.bl (decide_eq_true (by omega))
    have hv4 := hv3.tk (tk_ex e4)
    have hu4 := hu3.tk (tk_ex e4)
    refine q_asgLn (D := { nx := _, rt := _ }) (i := 3) (ds := (cntsOf lv).map .int) (eld_is (eld_lcT (ds := lv.map levD) (fun _ => true) (fun i => .int (((lv.getD i []).length : Nat) : Int)) (ed_var rfl hv4) (by rw [lenv]; omega) fun i d y H5 e5 hd hy => ?_) ?_) fun C xs H5 nC e5 hC allC => ?_
    · obtain ⟨l, hl, rfl, c1, c4⟩ := levAt hd
      have el : lv.getD i [] = l := by rw [List.getD_eq_getElem?_getD, hl]; rfl
      refine turn_name rfl (et_yes rfl) fun _ => ed_int (ev_is (ev_lenT (ed_var rfl hy)) ?_)
      rw [List.length_map, el]
    · rw [givD_all, List.length_map]
      unfold cntsOf
      apply List.ext_getElem
      · simp
      · intro i h1 h2
        simp only [List.length_map, List.length_range] at h1
        simp [h1]
    cases dts_ints allC
    have hv5 := hv4.tk (tk_ex e5)
    have hu5 := hu4.tk (tk_ex e5)
    have lenC : (cntsOf lv).length = lv.length := List.length_map ..
    have c0 : (cntsOf lv)[0]? = some 1 := by
      have lt : 0 < lv.length := by omega
      have := cnts_at (List.getElem?_eq_getElem lt)
      rw [this]
      have c1 := m.c1
      rw [List.getD_eq_getElem?_getD, List.getElem?_eq_getElem lt] at c1
      exact congrArg some (by show ((lv[0].length : Nat) : Int) = 1; simp only [Option.getD_some] at c1; omega)
    have at0c : atI ((cntsOf lv).map V.int) 0 = some (.int 1) := atI_nat (j := 0) (by rw [List.getElem?_map, c0]; rfl)
    have csum : (cntsOf lv).sum ≤ 4 * 6 := by
      have := sum_le4 (cntsOf lv) fun x hx => by
        obtain ⟨l, hl, rfl⟩ := List.mem_map.mp hx
        obtain ⟨i, hi⟩ := List.getElem?_of_mem hl
        obtain ⟨l', hl', e, c1, c4⟩ := levAt (i := i) (d := levD l) (by rw [List.getElem?_map, hi]; rfl)
        rw [hi] at hl'
        cases hl'
        omega
      rw [lenC] at this
      omega
    refine q_when (D := { nx := _, rt := _ }) (b := false) (et_f3 (et_is (et_test (ev_op (ev_op (ev_var rfl) ev_c (rv_ixL (K := K) (SqL.of hC) at0c)) ev_c (rv_ne rfl))) (by simp)) (et_is (et_test (ev_op (fun H6 e6 Q' q' => ⟨_, rfl, C, cntsOf lv, rfl, SqL.of (e6 _ _ hC), q' H6 (Ex.refl _)⟩) ev_c rv_I0)) (decide_eq_false (by omega)))
      (et_and (a := false) (b := false) (et_not (a := true) (et_is (et_truT (ed_var rfl hu5)) (by cases sz with
        | nil => simp at s1
        | cons a b => rfl))) fun z => by cases z)) (fun z => by cases z) fun _ H6 e6 => ?_
    refine q_app (D := { nx := _, rt := _ }) (e6 _ _ hC) (ev_var rfl) ev_c (by rw [List.length_map, lenC]; omega) fun H7 e7 => ?_
    have e47 : Ex H4 (upd H7 C (.lst ((cntsOf lv).map V.int ++ [.int 0]))) := ((e5.trans e6).trans e7).mut nC
    have hC8 : upd H7 C (.lst ((cntsOf lv).map V.int ++ [.int 0])) C = some (.lst ((cntsOf lv ++ [0]).map V.int)) := by rw [upd_same, List.map_append]; rfl
    have hu8 := hu4.tk (tk_ex e47)
    have hv8 := hv4.tk (tk_ex e47)
    have e08 : Ex H (upd H7 C (.lst ((cntsOf lv).map V.int ++ [.int 0]))) := (((e1.trans e2).trans e3).trans e4).trans e47
    generalize upd H7 C (.lst ((cntsOf lv).map V.int ++ [.int 0])) = H8 at e47 hC8 hu8 hv8 e08 ⊢
    obtain ⟨a, bx, rfl, ha, allb⟩ := dt_tup hv8
    refine ⟨_, rfl, a, bx, rfl, SqT.of ha, ?_⟩
    refine for_it (walk_enB (K := K) (k := false) (a := a) (xs := bx)) (fun t σ'' H'' => ∃ z4 z5 : Option V, σ'' = [some x, some u, some (.ref a), some (.ref C), z4, z5, none] ∧ Ex H8 H'')
      ⟨none, none, rfl, Ex.refl _⟩ (fun t σ'' H'' _ p => ?_) (fun t y σ'' H9 H10 ht p hy => ?_) (fun σ'' H'' p => ?_)
    · obtain ⟨z4, z5, rfl, e9⟩ := p
      exact SqT.of (e9 _ _ ha)
    · obtain ⟨z4, z5, rfl, e9⟩ := p
      obtain ⟨T', v1, v2, rfl, nT', rfl, g1, g2⟩ := hy
      cases Option.some.inj g1
      have g2 : bx[t]? = some v2 := g2
      have ht' : t < lv.length := by rw [← lenv, ← allb.len]; exact ht
      obtain ⟨v2', hv2, hdb⟩ := allb.get (d := levD lv[t]) (by rw [List.getElem?_map, List.getElem?_eq_getElem ht']; rfl)
      rw [g2] at hv2
      cases hv2
      have e10 : Ex H9 (upd H9 T' (.tup [.int (t : Int), v2])) := Ex.new nT'
      refine ⟨T', _, rfl, SqT.of upd_same, rfl, _, _, rfl, _, _, rfl, rfl, ?_⟩
      have e810 := e9.trans e10
      generalize upd H9 T' (.tup [.int (t : Int), v2]) = H11 at e10 e810 ⊢
      have hl := hdb.tk (tk_ex e810)
      have hu11 := hu8.tk (tk_ex e810)
      have hC11 := e810 _ _ hC8
      have sN := m.s.n t
      have cn : ∃ cv : Int, (cntsOf lv ++ [0])[t + 1]? = some cv ∧ ∀ ns : List Int, t + 1 < lv.length → (∀ x ∈ ns, 0 ≤ x ∧ x < ((lv.getD (t + 1) []).length : Int)) → ∀ x ∈ ns, 0 ≤ x ∧ x < cv := by
        by_cases z : t + 1 < lv.length
        · refine ⟨((lv[t + 1].length : Nat) : Int), by rw [List.getElem?_append_left (by rw [lenC]; exact z)]; exact cnts_at (List.getElem?_eq_getElem z), fun ns _ h x hx => ?_⟩
          have := h x hx
          rw [List.getD_eq_getElem?_getD, List.getElem?_eq_getElem z] at this
          exact this
        · refine ⟨0, ?_, fun ns h => absurd h z⟩
          rw [List.getElem?_append_right (by rw [lenC]; omega), lenC]
          have : t + 1 - lv.length = 0 := by omega
          rw [this]
          rfl
      obtain ⟨cv, hcv, cok⟩ := cn
      refine s_when (D := { nx := _, rt := _, bk := _, ct := _ }) (b := false) (et_not (a := true) (et_B (ev_is (ev_all (bs := List.replicate (lv[t].map stD).length true) (eld_is (eld_lcT (ds := lv[t].map stD) (fun _ => true) (fun _ => .bool true) (ed_var rfl hl) (by
          have := (m.cs t ht').2
          rw [List.getD_eq_getElem?_getD, List.getElem?_eq_getElem ht'] at this
          rw [List.length_map]
          simp only [Option.getD_some] at this
          omega) (fun i d y H12 e12 hd hy => ?_)) (givD_rep _))) (congrArg V.bl (all_true _))))) (fun z => by cases z) fun _ H12 e12 => ⟨_, _, rfl, e810.trans e12⟩
      obtain ⟨st, hst, rfl⟩ := map_at hd
      have lti := (List.getElem?_eq_some_iff.mp hst).1
      have iin : In lv t i := ⟨ht', by rw [List.getD_eq_getElem?_getD, List.getElem?_eq_getElem ht']; exact lti⟩
      have so := m.st t i iin
      have es : sAt lv t i = st := by
        have e0 : lv.getD t [] = lv[t] := by rw [List.getD_eq_getElem?_getD, List.getElem?_eq_getElem ht']; rfl
        unfold sAt
        rw [e0, List.getD_eq_getElem?_getD, hst]
        rfl
      rw [es] at so
      refine turn_name rfl (et_yes rfl) fun _ => ed_call (eds_cons (ed_var rfl hy) (eds_cons (ed_call (eds_cons (ed_var rfl (hu11.tk (tk_ex e12))) (eds_cons (ed_int (ev_var rfl)) eds_nil)) ⟨sz, t, rfl, m.s, rfl⟩) (eds_cons (ed_int (ev_op (ev_var rfl) (ev_succ (ev_var rfl)) (rv_ixL (K := K) (SqL.of (e12 _ _ hC11)) (atI_nat (by rw [List.getElem?_map, hcv]; rfl))))) eds_nil))) ⟨st, _, cv, rfl, ?_, rfl⟩
      cases st with
      | told d => exact so
      | go ns =>
        obtain ⟨o1, o2, o3⟩ := so
        exact ⟨by omega, by omega, by rw [o2], cok ns o1 o3⟩
    · obtain ⟨z4, z5, rfl, e9⟩ := p
      exact sd_ret (σ := [some x, some u, some (.ref a), some (.ref C), z4, z5, none]) (D := { nx := fun _ H' => Q .non H', rt := Q }) (ed_bool ev_c) fun y H9 e10 hy => q y H9 ((e08.trans e9).trans e10) hy
end
end K10
set_option Elab.async false
set_option linter.all false
set_option maxRecDepth 100000
set_option maxHeartbeats 1000000
namespace K10
open PySem PySem.Spec PyProof.Rows L2 Evl
/-! ### the law: words -/
theorem catK {X : Cx} (K : PySem.W.Frag) (e : X.K = K) : OpR X (binaryOp .Add) (rCatA K) := by
  subst e
  exact op_catA
def Words (sz : List Int) (many : Nat) (ls : List (List Int)) : Prop := ls ≠ [] ∧ ls.length ≤ 3 ^ many ∧ ∀ l ∈ ls, l.length = many ∧ WOk sz 0 l
def spWords : Sp := fun vs H Q _ => ∃ (x : V) (sz : List Int) (many : Nat), vs = [x, .int many] ∧ Dt H x (intsD sz) ∧ SzOk sz ∧ many ≤ 5 ∧
  ∀ p xs ls H', Ex H H' → H' p = some (.lst xs) → DtAll H' xs (ls.map intsD) → Words sz many ls → Q (.ref p) H'
theorem wok_snoc {sz : List Int} {l : List Int} {d : Int} (h : WOk sz 0 l) (h0 : 0 ≤ d) (h1 : d < (sizeN sz l.length : Int)) : WOk sz 0 (l ++ [d]) := fun j hj => by
  rw [List.length_append] at hj
  by_cases z : j < l.length
  · rw [List.getD_eq_getElem?_getD, List.getElem?_append_left z, ← List.getD_eq_getElem?_getD]
    exact h j z
  · have e : j = l.length := by
      simp at hj
      omega
    subst e
    rw [List.getD_eq_getElem?_getD, List.getElem?_append_right (Nat.le_refl _), Nat.sub_self, Nat.zero_add]
    exact ⟨h0, h1⟩
theorem pow3 {t : Nat} (h : t ≤ 5) : 3 ^ t ≤ 243 := Nat.le_trans (Nat.pow_le_pow_right (by decide) h) (by decide)
section
variable {P : Program} {w : World} {K : PySem.W.Frag} {mg : Str → Option Value} {base0 : Heap} {f f1 f2 f3 : Addr} {fd fd1 fd2 fd3 : FuncData} {k : Nat}
theorem ok_words (F : Fun K "_law_words" "_law_words" sWords f fd) (m1 : mg "len" = none) (m2 : mg "range" = none) (m4 : mg "int" = none) : FnOk P w K mg base0 CX0 (k + 1) f fd ["sizes", "many"] spWords := by
  refine F.ok scWords (fun vs H Q E h => ?_) (fun cdv A outer s H vs Q E hr h => ?_)
  · obtain ⟨x, sz, many, rfl, _⟩ := h
    rfl
  · obtain ⟨x, sz, many, rfl, hx, ok, m5, q⟩ := h
    refine ⟨_, pss_cons (ps_set (i := 2) scWords.nd rfl (.inl rfl) (pe_lst (pa_cons (pe_tup pa_nil) pa_nil)))
      (pss_cons (ps_for PassesOwn.never rfl (pi_range1 (by rfl) m2 (pa_cons (pv 1) pa_nil)) (pg_name (i := 3) scWords.nd rfl (Or.inl rfl))
        (pss_cons (ps_set (i := 4) scWords.nd rfl (.inl rfl) (pe_lst pa_nil))
        (pss_cons (ps_for PassesOwn.never rfl (pi_list (pv 2)) (pg_name (i := 5) scWords.nd rfl (Or.inr rfl))
          (pss_one (ps_set (i := 4) scWords.nd rfl (.inl rfl) (pe_op op_cat (pv 4) (pe_lc (own := [("d", 6)]) (g := gName 6) rfl scWords.nd (pi_range1 (by rfl) m2 (pa_cons (pe_ix ix_tup (pv 0) (pe_op op_mod (pe_callTy call_int1 (by rfl) m4 (by decide +kernel) (pa_cons (pv 3) pa_nil)) (pe_callB call_len_seq (by rfl) m1 (by decide +kernel) (pa_cons (pv 0) pa_nil))) (fun _ _ => rfl)) pa_nil)) (blkOk_by (N := nWords) (sc := defScope sWords) (by decide +kernel))
            (fun _ _ _ _ _ => pg_name (i := 6) scWords.nd rfl (Or.inl rfl)) (fun _ _ _ _ _ => pts_nil) (fun _ _ _ _ _ => pe_op (catK K rfl) (pv 5) (pe_tup (pa_cons (pv 6) pa_nil))))))))
        (pss_one (ps_set (i := 2) scWords.nd rfl (.inl rfl) (pv 4))))))
      (pss_one (ps_ret (pv 2)))), ?_⟩
    have s1 := ok.1
    refine q_asgLd (D := { nx := _, rt := _ }) (i := 2) (ds := [intsD []]) (eld_lst (eds_cons (ed_tup eds_nil (by decide)) eds_nil) (by show (1 : Nat) ≤ 100000; decide)) fun p xs H1 e1 hp all => ?_
    refine q_forR1 (D := { nx := _, rt := _ }) (n := (many : Int)) (ea_cons (ev_var rfl) ea_nil) (by omega) (fun t σ' H' => ∃ (p : Addr) (xs : List V) (ls : List (List Int)) (z3 z4 z5 : Option V), σ' = [some x, some (.int (many : Nat)), some (.ref p), z3, z4, z5, none] ∧ Ex H H' ∧ H' p = some (.lst xs) ∧ DtAll H' xs (ls.map intsD) ∧ Words sz t ls)
      (fun H2 e2 => ⟨p, xs, [[]], none, none, none, rfl, e1.trans e2, e2 _ _ hp, all.tk (tk_ex e2), by simp, by simp, fun l hl => by
        cases List.mem_singleton.mp hl
        exact ⟨rfl, fun j hj => by cases hj⟩⟩) (fun t σ' H' lt inv => ?_) (fun σ' H' inv => ?_)
    · obtain ⟨p, xs, ls, z3, z4, z5, rfl, e2, hp, all, wne, wle, wall⟩ := inv
      have lt5 : t < 5 := by omega
      have p3 := pow3 (t := t) (by omega)
      have sN := ok.n t
      have sat := ok.at t
      refine q_asgLd (D := { nx := _, rt := _, bk := _, ct := _ }) (i := 4) (ds := []) (eld_lst eds_nil (by decide)) fun q0 ys0 H3 e3 hq0 all0 => ?_
      have hp3 := e3 _ _ hp
      have lx : xs.length = ls.length := by rw [all.len, List.length_map]
      refine q_forLn (D := { nx := _, rt := _, bk := _, ct := _ }) (ev_var rfl) (SqL.of hp3) (fun i σ' H' => ∃ (b : Addr) (ys : List V) (ms : List (List Int)) (z5 : Option V), σ' = [some x, some (.int (many : Nat)), some (.ref p), some (.int (t : Nat)), some (.ref b), z5, none] ∧ Ex H3 H' ∧ H' b = some (.lst ys) ∧ DtAll H' ys (ms.map intsD) ∧ (0 < i → ms ≠ []) ∧ ms.length ≤ 3 * i ∧ ∀ l ∈ ms, l.length = t + 1 ∧ WOk sz 0 l)
        (fun H4 e4 => ⟨q0, ys0, [], z5, rfl, e4, e4 _ _ hq0, all0.tk (tk_ex e4), (fun z => absurd z (by decide)), by simp, fun l hl => by cases hl⟩) (fun i σ' H' _ pp => by obtain ⟨b, ys, ms, z5, _, e, _⟩ := pp; exact SqL.of (e _ _ hp3)) (fun i v σ' H4 hi inv => ?_) (fun σ' H4 inv => ?_)
      · obtain ⟨b, ys, ms, z5, rfl, e4, hb, allb, mne, mle, mall⟩ := inv
        have li : i < ls.length := by rw [← lx]; exact (List.getElem?_eq_some_iff.mp hi).1
        obtain ⟨v', hv', hd⟩ := all.get (d := intsD ls[i]) (by rw [List.getElem?_map, List.getElem?_eq_getElem li]; rfl)
        rw [hi] at hv'
        cases hv'
        obtain ⟨wl, wo⟩ := wall _ (List.getElem_mem li)
        have hd4 := hd.tk (tk_ex (e3.trans e4))
        have hx4 := hx.tk (tk_ex ((e2.trans e3).trans e4))
        have lls : ls.length ≤ 243 := by omega
        refine (show tAsg _ _ _ _ _ from (eld_cat1 (ds := ms.map intsD) (es := givD (sizeN sz t) (fun _ => true) fun j : Nat => intsD (ls[i] ++ [(j : Int)])) (ev_var rfl) hb allb (eld_lcR (n := sizeN sz t) (fun _ => true) (fun j : Nat => intsD (ls[i] ++ [(j : Int)])) (ea_cons (ev_is (int_ed (ed_ix (ed_var rfl hx4) (ev_is (ev_op (rc_int (ev_var rfl)) (ev_lenI (ed_var rfl hx4)) (rv_I (by show (0 : Int) < (sz.length : Int); omega))) (congrArg V.int nat_mod)) (at_ints sat.1))) (congrArg V.int sN.2.symm)) ea_nil) (by omega) fun j H5 e5 lj => ?_) ?_) H4 (Ex.refl _) _ fun b' zs H5 _ e5 hb' allb' => ?_)
        · refine turn_name rfl (et_yes rfl) fun _ => ?_
          show EvD _ _ _ (.tuple ((ls[i] ++ [(j : Int)]).map .int))
          rw [List.map_append]
          exact ed_cat (ed_var rfl (hd4.tk (tk_ex e5))) (ed_tup (eds_cons (ed_int (ev_var rfl)) eds_nil) (by show (1 : Nat) ≤ 100000; decide)) (by rw [List.length_map, wl]; show t + 1 ≤ 100000; omega)
        · rw [givD_all, List.length_map, List.length_map, List.length_range]
          omega
        · refine ⟨b', zs, ms ++ (List.range (sizeN sz t)).map fun j : Nat => ls[i] ++ [(j : Int)], _, rfl, e4.trans e5, hb', ?_, fun _ => ?_, ?_, fun l hl => ?_⟩
          · rw [givD_all] at allb'
            rw [List.map_append, List.map_map]
            exact allb'
          · intro z
            have := congrArg List.length z
            rw [List.length_append, List.length_map, List.length_range, List.length_nil] at this
            omega
          · rw [List.length_append, List.length_map, List.length_range]
            omega
          · rcases List.mem_append.mp hl with h | h
            · exact mall l h
            · obtain ⟨j, hj, rfl⟩ := List.mem_map.mp h
              have := List.mem_range.mp hj
              exact ⟨by rw [List.length_append, wl]; rfl, wok_snoc wo (by omega) (by rw [wl]; omega)⟩
      · obtain ⟨b, ys, ms, z5, rfl, e4, hb, allb, mne, mle, mall⟩ := inv
        rw [lx] at mne mle
        have lpos : 0 < ls.length := List.length_pos_iff.mpr wne
        refine s_asg (D := { nx := _, rt := _, bk := _, ct := _ }) (i := 2) (v := .ref b) (ev_var rfl) fun H5 e5 => ⟨b, ys, ms, _, _, _, rfl, ((e2.trans e3).trans e4).trans e5, e5 _ _ hb, allb.tk (tk_ex e5), mne lpos, ?_, mall⟩
        rw [Nat.pow_succ]
        omega
    · obtain ⟨p, xs, ls, z3, z4, z5, rfl, e2, hp, all, wd⟩ := inv
      refine s_ret (ev_var rfl) fun H2 e3 => q p xs ls H2 (e2.trans e3) (e3 _ _ hp) (all.tk (tk_ex e3)) ?_
      rw [Int.toNat_natCast] at wd
      exact wd
end
end K10
set_option Elab.async false
set_option linter.all false
set_option maxRecDepth 100000
set_option maxHeartbeats 1000000
namespace K10
open PySem PySem.Spec PyProof.Rows L2 Evl
/-! ### the law: a word read one by one and at once -/
theorem showK {X : Cx} (K : PySem.W.Frag) (e : X.K = K) (guard : X.A.guards = some []) (hu : X.A.units + 64 < cLine) : CallR X (.builtin "repr") (rShow K) := by
  subst e
  exact call_show guard hu
theorem f_word {s : Str} (h : s = "on" ∨ s = "told" ∨ s = "go") : Fine 10 0 (.str s) := by
  rcases h with rfl | rfl | rfl <;> exact ⟨by decide +kernel, rfl, Nat.le_refl _, by decide +kernel, by decide +kernel⟩
theorem f_good {d : PyData} (h : goodD d) : Fine 2 1 d := by
  rcases h with rfl | rfl | rfl | rfl
  · exact (f_int (by decide) (by decide)).up (by decide) (by decide)
  · exact (f_int (by decide) (by decide)).up (by decide) (by decide)
  · exact f_ints (N := 2) (by decide) (by decide)
  · exact (f_int (by decide) (by decide)).up (by decide) (by decide)
theorem f_nat {n : Nat} (h : n ≤ 1000) : Fine 0 0 (.int (n : Int)) := f_int (by omega) (by omega)
theorem f_res {sz : List Int} {lv : List (List St)} (m : MOk sz lv) {t n : Nat} (i : In lv t n) : Fine 30 3 (resD lv t n) := by
  have so := m.st t n i
  have l6 := m.l6
  have c4 := (m.cs t i.1).2
  have t1 := i.1
  have n1 := i.2
  unfold resD
  revert so
  cases sAt lv t n with
  | told d => exact fun so => (f_tuple (fa_cons (f_word (.inr (.inl rfl))) (fa_cons (f_good so) (fa_cons (f_nat (by omega)) fa_nil)))).up (by decide) (by decide)
  | go ns => exact fun _ => (f_tuple (fa_cons (f_word (.inl rfl)) (fa_cons (f_tuple (fa_cons (f_nat (n := t) (by omega)) (fa_cons (f_nat (n := n) (by omega)) fa_nil))) fa_nil))).up (by decide) (by decide)
theorem ev_showR {K : PySem.W.Frag} {σ : L2.St} {H : Hp} {te : TE} {t n : Nat} {s : St} {a b : Nat} (h : EvD te σ H (resS t n s)) (f : Fine a b (resS t n s)) (ha : a ≤ 100000) (hb : b ≤ 60) : Ev (tCB (rShow K) (tCons te tNil)) σ H (.str (resS t n s).shown) := by
  cases s with
  | told d => exact ev_showT h f ha hb
  | go ns => exact ev_showT h f ha hb
def spWordR : Sp := fun vs H Q _ => ∃ (x y : V) (sz : List Int) (lv : List (List St)) (l : List Int), vs = [x, y] ∧ Dt H x (machD sz lv) ∧ Dt H y (intsD l) ∧ MOk sz lv ∧ WOk sz 0 l ∧ l.length ≤ 5 ∧ ∀ H', Ex H H' → Q (.bl true) H'
section
variable {P : Program} {w : World} {K : PySem.W.Frag} {mg : Str → Option Value} {base : Heap} {f f1 f2 f3 f4 : Addr} {fd fd1 fd2 fd3 fd4 : FuncData} {k : Nat}
theorem ok_wordR (F : Fun K "_law_word_right" "_law_word_right" sWordR f fd) (m1 : mg "len" = none) (m2 : mg "repr" = none)
    (G1 : FnOk P w K mg base CX0 k f1 fd1 ["machine", "t", "n"] (spD okResult)) (g1 : mg "_law_result" = some (.ref f1)) (kp1 : PySem.W.keepIn K (.ref f1) = true) (b1 : Binds K fd1 ["machine", "t", "n"] [])
    (G2 : FnOk P w K mg base CX0 k f2 fd2 ["machine"] (spD okFirst)) (g2 : mg "first_reader" = some (.ref f2)) (kp2 : PySem.W.keepIn K (.ref f2) = true) (b2 : Binds K fd2 ["machine"] [])
    (G3 : FnOk P w K mg base CX0 k f3 fd3 ["machine", "reader", "digit"] (spD okRead)) (g3 : mg "read" = some (.ref f3)) (kp3 : PySem.W.keepIn K (.ref f3) = true) (b3 : Binds K fd3 ["machine", "reader", "digit"] [])
    (G4 : FnOk P w K mg base CX0 k f4 fd4 ["machine", "reader", "digits"] (spD okReadAll)) (g4 : mg "read_all" = some (.ref f4)) (kp4 : PySem.W.keepIn K (.ref f4) = true) (b4 : Binds K fd4 ["machine", "reader", "digits"] []) :
    Ok1 P w K mg base (k + 1) f fd ["machine", "word"] spWordR := by
  refine ok1_of F scWordR (fun vs H Q E h => ?_) (fun cdv A outer s H vs Q E guard hr h => ?_)
  · obtain ⟨x, y, sz, lv, l, rfl, _⟩ := h
    rfl
  · obtain ⟨x, y, sz, lv, l, rfl, hx, hy, m, wok, l5, q⟩ := h
    refine ⟨_, pss_cons (ps_par (i := 2) (j := 3) (by rfl) scWordR.nd rfl rfl (by decide) rfl rfl (pa_cons (pe_call G1 hr (by rfl) g1 kp1 b1 .nil pass0 (pa_cons (pv 0) (pa_cons pe_int (pa_cons pe_int pa_nil)))) (pa_cons pe_int pa_nil)) (by rfl))
      (pss_cons (ps_if (pt_cmpR op_ne (pe_callB (showK K rfl guard hr.units) (by rfl) m2 (by decide +kernel) (pa_cons (pe_call G2 hr (by rfl) g2 kp2 b2 .nil pass0 (pa_cons (pv 0) pa_nil)) pa_nil)) (pe_callB (showK K rfl guard hr.units) (by rfl) m2 (by decide +kernel) (pa_cons (pv 2) pa_nil)) (nomark _)) (pss_one (ps_ret pe_bl)) pss_nil)
      (pss_cons (ps_while PassesOwn.never (PW.pt (pw_and (pt_cmpR op_eq (pe_ix ix_tup (pv 2) pe_int (fun _ _ => rfl)) pe_str (nomark _)) (pw_and1 (pt_cmpR op_lt (pv 3) (pe_callB call_len_seq (by rfl) m1 (by decide +kernel) (pa_cons (pv 1) pa_nil)) (nomark _)))))
        (pss_cons (ps_asg (pe_ix ix_tup (pv 2) pe_int (fun _ _ => rfl)) (pg_tup (by rfl) (pgs_cons (pg_name (i := 4) scWordR.nd rfl (Or.inl rfl)) (pgs_cons (pg_name (i := 5) scWordR.nd rfl (Or.inl rfl)) pgs_nil))))
        (pss_cons (ps_set (i := 6) scWordR.nd rfl (.inl rfl) (pe_call G1 hr (by rfl) g1 kp1 b1 .nil pass0 (pa_cons (pv 0) (pa_cons (pe_op op_add (pv 4) pe_int) (pa_cons (pe_ix ix_tup (pe_ix ix_tup (pe_ix ix_tup (pe_ix ix_tup (pe_ix ix_tup (pv 0) pe_int (fun _ _ => rfl)) (pv 4) (fun _ _ => rfl)) (pv 5) (fun _ _ => rfl)) pe_int (fun _ _ => rfl)) (pe_ix ix_tup (pv 1) (pv 3) (fun _ _ => rfl)) (fun _ _ => rfl)) pa_nil)))))
        (pss_cons (ps_if (pt_cmpR op_ne (pe_callB (showK K rfl guard hr.units) (by rfl) m2 (by decide +kernel) (pa_cons (pe_call G3 hr (by rfl) g3 kp3 b3 .nil pass0 (pa_cons (pv 0) (pa_cons (pe_ix ix_tup (pv 2) pe_int (fun _ _ => rfl)) (pa_cons (pe_ix ix_tup (pv 1) (pv 3) (fun _ _ => rfl)) pa_nil)))) pa_nil)) (pe_callB (showK K rfl guard hr.units) (by rfl) m2 (by decide +kernel) (pa_cons (pv 6) pa_nil)) (nomark _)) (pss_one (ps_ret pe_bl)) pss_nil)
        (pss_one (ps_par (i := 2) (j := 3) (by rfl) scWordR.nd rfl rfl (by decide) rfl rfl (pa_cons (pv 6) (pa_cons (pe_op op_add (pv 3) pe_int) pa_nil)) (by rfl)))))))
      (pss_cons (ps_if (pt_cmpR op_eq (pe_ix ix_tup (pe_ix ix_tup (pe_ix ix_tup (pe_ix ix_tup (pv 0) pe_int (fun _ _ => rfl)) pe_int (fun _ _ => rfl)) pe_int (fun _ _ => rfl)) pe_int (fun _ _ => rfl)) pe_str (nomark _)) (pss_one (ps_ret pe_bl)) pss_nil)
      (pss_cons (ps_set (i := 7) scWordR.nd rfl (.inl rfl) (pe_lst (pa_cons (pe_call G4 hr (by rfl) g4 kp4 b4 .nil pass0 (pa_cons (pv 0) (pa_cons (pe_tup (pa_cons pe_int (pa_cons pe_int pa_nil))) (pa_cons (pv 1) pa_nil)))) (pa_cons (pe_call G4 hr (by rfl) g4 kp4 b4 .nil pass0 (pa_cons (pv 0) (pa_cons (pe_tup (pa_cons pe_int (pa_cons pe_int pa_nil))) (pa_cons (pe_tup pa_nil) pa_nil)))) pa_nil))))
      (pss_one (ps_ret (pe_cmpR op_eq (pe_callB (showK K rfl guard hr.units) (by rfl) m2 (by decide +kernel) (pa_cons (pv 7) pa_nil)) (pe_callB (showK K rfl guard hr.units) (by rfl) m2 (by decide +kernel) (pa_cons (pe_lst (pa_cons (pe_tup (pa_cons (pv 2) (pa_cons (pv 3) pa_nil))) (pa_cons (pe_tup (pa_cons (pe_tup (pa_cons pe_str (pa_cons (pe_tup (pa_cons pe_int (pa_cons pe_int pa_nil))) pa_nil))) (pa_cons pe_int pa_nil))) pa_nil))) pa_nil)) (nomark _)))))))), ?_⟩
    have i0 := m.in0
    let ix := ixF lv 0 0 (dgs l)
    have f0 := f_res m i0
    refine sd_par (D := { nx := _, rt := _ }) (d1 := resD lv (0 + 0) (ix 0)) (d2 := .int ((0 : Nat) : Int)) (eds_cons (ed_call (eds_cons (ed_var rfl hx) (eds_cons (ed_int ev_c) (eds_cons (ed_int ev_c) eds_nil))) ⟨sz, lv, 0, 0, rfl, i0, rfl⟩) (eds_cons (ed_int ev_c) eds_nil)) fun u v H1 e1 hu hv => ?_
    cases dt_int hv
    refine q_unless (et_neS (ev_showR (ed_call (eds_cons (ed_var rfl (hx.tk (tk_ex e1))) eds_nil) ⟨sz, lv, rfl, i0, rfl⟩) f0 (by decide) (by decide)) (ev_showR (ed_var rfl hu) f0 (by decide) (by decide))) (neS rfl) fun H2 e2 => ?_
    refine q_while (D := { nx := _, rt := _ }) (fun a σ' H' => ∃ (c : Nat) (u : V) (z4 z5 z6 : Option V), σ' = [some x, some y, some u, some (.int (c : Nat)), z4, z5, z6, none] ∧ Ex H H' ∧ Dt H' u (resD lv (0 + c) (ix c)) ∧ (∀ j, j < c → isGo (sAt lv (0 + j) (ix j)) = true) ∧ c ≤ l.length ∧ a = l.length - c) (l.length - 0)
      ⟨0, u, none, none, none, rfl, e1.trans e2, hu.tk (tk_ex e2), fun j hj => by omega, Nat.zero_le _, rfl⟩ fun a σ' H' inv => ?_
    obtain ⟨c, u, z4, z5, z6, rfl, e3, hu, on, cl, rfl⟩ := inv
    have ic := m.walk i0 (w := dgs l) (c := c) (fun j hj => (wok.n (by omega)).1) on
    have hy3 := hy.tk (tk_ex e3)
    refine ⟨isGo (sAt lv (0 + c) (ix c)) && decide (c < l.length), et_and (et_isOn (ed_var rfl hu)) (fun _ => et_lt (ev_var rfl) (ev_lenI (ed_var rfl hy3))), fun hb H4 e4 => ?_, fun hb H4 e4 => ?_⟩
    · rw [Bool.and_eq_true] at hb
      obtain ⟨gb, hc⟩ := hb
      have hc := of_decide_eq_true hc
      have e34 := e3.trans e4
      have hx4 := hx.tk (tk_ex e34)
      have hy4 := hy3.tk (tk_ex e4)
      have hu4 := hu.tk (tk_ex e4)
      have wn := wok.n hc
      have nx := m.step ic gb wn.1
      have so := m.st _ _ ic
      obtain ⟨ns, en⟩ := go_of gb
      have fn := f_res m nx
      refine ⟨_, fun _ _ h => h, ?_⟩
      refine sd_two (D := { nx := _, rt := _, ct := _, bk := _ }) (d1 := .int ((0 + c : Nat) : Int)) (d2 := .int ((ix c : Nat) : Int)) (ed_here (ed_var rfl hu4) gb) fun tv nv H5 e5 ht hn => ?_
      cases dt_int ht
      cases dt_int hn
      have hx5 := hx4.tk (tk_ex e5)
      have hy5 := hy4.tk (tk_ex e5)
      have hu5 := hu4.tk (tk_ex e5)
      have wd : ∀ {σ : L2.St} {H6 : Hp}, σ[1]? = some (some y) → σ[3]? = some (some (.int (c : Nat))) → Ex H5 H6 → Ev (tOp (rIxT K) (tVar 1) (tVar 3)) σ H6 (.int ((dgs l c : Nat) : Int)) := fun h1 h3 e => ev_is (int_ed (ed_ix (ed_var h1 (hy5.tk (tk_ex e))) (ev_var h3) (at_ints hc))) (congrArg V.int wn.2.symm)
      have en' : sAt lv (0 + c) (ix c) = .go ns := en
      have hs := ed_sAt (K := K) (σ := [some x, some y, some u, some (.int (c : Nat)), some (.int ((0 + c : Nat) : Int)), some (.int ((ix c : Nat) : Int)), z6, none]) (ed_levels (K := K) (ed_var (i := 0) rfl hx5)) (ev_var (i := 4) rfl) (ev_var (i := 5) rfl) ic
      have nxv : Ev (tOp (rIxT K) (tOp (rIxT K) (tOp (rIxT K) (tOp (rIxT K) (tOp (rIxT K) (tVar 0) (tC (.int 1))) (tVar 4)) (tVar 5)) (tC (.int 1))) (tOp (rIxT K) (tVar 1) (tVar 3))) [some x, some y, some u, some (.int (c : Nat)), some (.int ((0 + c : Nat) : Int)), some (.int ((ix c : Nat) : Int)), z6, none] H5 (.int ((ix (c + 1) : Nat) : Int)) := by
        show Ev _ _ _ (.int ((nxS (sAt lv (0 + c) (ix c)) (dgs l c) : Nat) : Int))
        have so' : StOk sz lv (0 + c) (sAt lv (0 + c) (ix c)) := so
        rw [en'] at so' ⊢
        have hs' : EvD (tOp (rIxT K) (tOp (rIxT K) (tOp (rIxT K) (tVar 0) (tC (.int 1))) (tVar 4)) (tVar 5)) [some x, some y, some u, some (.int (c : Nat)), some (.int ((0 + c : Nat) : Int)), some (.int ((ix c : Nat) : Int)), z6, none] H5 (stD (sAt lv (0 + c) (ix c))) := hs
        rw [en'] at hs'
        exact ev_nx hs' (wd rfl rfl (Ex.refl _)) (by rw [so'.2.1]; exact wn.1) so'.2.2
      refine q_asgD (D := { nx := _, rt := _, ct := _, bk := _ }) (i := 6) (d := resD lv (0 + (c + 1)) (ix (c + 1))) (ed_call (eds_cons (ed_var rfl hx5) (eds_cons (ed_int (ev_succ (ev_var rfl))) (eds_cons (ed_int nxv) eds_nil))) ⟨sz, lv, 0 + c + 1, ix (c + 1), rfl, nx, rfl⟩) fun u' H6 e6 hu6 => ?_
      refine q_unless (D := { nx := _, rt := _, ct := _, bk := _ }) (et_neS (ev_showR (ed_call (eds_cons (ed_var rfl (hx5.tk (tk_ex e6))) (eds_cons (ed_here (ed_var rfl (hu5.tk (tk_ex e6))) gb) (eds_cons (ed_int (wd rfl rfl e6)) eds_nil))) ⟨sz, lv, 0 + c, ix c, dgs l c, rfl, m, ic, gb, wn.1, rfl⟩) fn (by decide) (by decide)) (ev_showR (ed_var rfl hu6) fn (by decide) (by decide))) (neS rfl) fun H7 e7 => ?_
      refine sd_par (D := { nx := _, rt := _, ct := _, bk := _ }) (d1 := resD lv (0 + (c + 1)) (ix (c + 1))) (d2 := .int ((c + 1 : Nat) : Int)) (eds_cons (ed_var rfl (hu6.tk (tk_ex e7))) (eds_cons (ed_int (ev_succ (ev_var rfl))) eds_nil)) fun u2 v2 H8 e8 hu8 hv8 => ?_
      cases dt_int hv8
      refine ⟨_, ?_, c + 1, u2, _, _, _, rfl, (((e34.trans e5).trans e6).trans e7).trans e8, hu8, fun j hj => ?_, by omega, rfl⟩
      · omega
      · by_cases z : j = c
        · subst z; exact gb
        · exact on j (by omega)
    · have far : FarTo lv 0 0 (dgs l) l.length c := ⟨cl, on, by
        rw [Bool.and_eq_false_iff] at hb
        rcases hb with h | h
        · exact .inr h
        · have := of_decide_eq_false h
          exact .inl (by omega)⟩
      have e34 := e3.trans e4
      have hx4 := hx.tk (tk_ex e34)
      have hu4 := hu.tk (tk_ex e4)
      refine q_when (D := { nx := _, rt := _ }) (b := !isGo (sAt lv 0 0)) (et_is (et_test (ev_op (ev_word (ed_sAt (t := 0) (n := 0) (ed_levels (ed_var rfl hx4)) ev_c ev_c i0)) ev_c (rv_eq rfl))) ?_) (fun _ H5 e5 => ?_) (fun hg H5 e5 => ?_)
      · cases isGo (sAt lv 0 0) with
        | true => show decide (V.str "go" = V.str "told") = false; decide +kernel
        | false => exact decide_eq_true rfl
      · exact s_ret (v := .bl true) ev_c fun H6 e6 => q H6 ((e34.trans e5).trans e6)
      · have g0 : isGo (sAt lv 0 0) = true := by
          cases z : isGo (sAt lv 0 0) with
          | true => rfl
          | false => rw [z] at hg; cases hg
        obtain ⟨ns, en⟩ := go_of g0
        have r0 : resD lv 0 0 = .tuple [.str "on", .tuple [.int 0, .int 0]] := by unfold resD; rw [en]; rfl
        have fc := f_res m ic
        have fine : Fine 200 5 (.list [.tuple [resD lv (0 + c) (ix c), .int (c : Nat)], .tuple [resD lv 0 0, .int 0]]) := (f_list (fa_cons (f_tuple (fa_cons fc (fa_cons (f_nat (n := c) (by omega)) fa_nil))) (fa_cons (f_tuple (fa_cons f0 (fa_cons (f_int (by decide) (by decide)) fa_nil))) fa_nil))).up (by decide) (by decide)
        have hx5 := hx4.tk (tk_ex e5)
        refine q_asgLd (D := { nx := _, rt := _ }) (i := 7) (ds := [.tuple [resD lv (0 + c) (ix c), .int (c : Nat)], .tuple [resD lv 0 0, .int 0]]) (eld_lst (eds_cons (ed_call (eds_cons (ed_var rfl hx5) (eds_cons (d := tnD 0 0) (ed_tup (eds_cons (ed_int ev_c) (eds_cons (ed_int ev_c) eds_nil)) (by show (2 : Nat) ≤ 100000; decide)) (eds_cons (ed_var rfl ((hy3.tk (tk_ex e4)).tk (tk_ex e5))) eds_nil))) ⟨sz, lv, 0, 0, c, l, rfl, m, i0, g0, wok, by omega, far, rfl⟩)
          (eds_cons (ed_call (eds_cons (ed_var rfl hx5) (eds_cons (d := tnD 0 0) (ed_tup (eds_cons (ed_int ev_c) (eds_cons (ed_int ev_c) eds_nil)) (by show (2 : Nat) ≤ 100000; decide)) (eds_cons (d := intsD []) (ed_tup eds_nil (by decide)) eds_nil))) ⟨sz, lv, 0, 0, 0, [], rfl, m, i0, g0, (fun j hj => by cases hj), by decide, ⟨Nat.le_refl _, (fun j hj => by omega), .inl rfl⟩, rfl⟩) eds_nil)) (by show (2 : Nat) ≤ 100000; decide)) fun T xs H6 e6 hT all => ?_
        refine s_ret (v := .bl true) (ev_is (ev_op (ev_showV (ev_var rfl) hT all fine (by decide) (by decide)) (ev_showL (ds := [.tuple [resD lv (0 + c) (ix c), .int (c : Nat)], .tuple [resD lv 0 0, .int 0]]) (eld_lst (eds_cons (ed_tup (eds_cons (ed_var rfl ((hu4.tk (tk_ex e5)).tk (tk_ex e6))) (eds_cons (ed_int (ev_var rfl)) eds_nil)) (by show (2 : Nat) ≤ 100000; decide)) (eds_cons (ed_tup (eds_cons (by rw [r0]; exact ed_tup (eds_cons ed_str (eds_cons (ed_tup (eds_cons (ed_int ev_c) (eds_cons (ed_int ev_c) eds_nil)) (by show (2 : Nat) ≤ 100000; decide)) eds_nil)) (by show (2 : Nat) ≤ 100000; decide)) (eds_cons (ed_int ev_c) eds_nil)) (by show (2 : Nat) ≤ 100000; decide)) eds_nil)) (by show (2 : Nat) ≤ 100000; decide)) fine (by decide) (by decide)) (rv_eq rfl)) (by simp)) fun H7 e7 => q H7 (((e34.trans e5).trans e6).trans e7)
end
end K10
set_option Elab.async false
set_option linter.all false
set_option maxRecDepth 100000
set_option maxHeartbeats 1000000
namespace K10
open PySem PySem.Spec PyProof.Rows L2 Evl
/-! ### the law: readers that read in turns -/
def lnK (w : V) (s : Nat) (h : V) : List (Key × V) := [(Sum.inr "word", w), (Sum.inr "spot", V.int (s : Int)), (Sum.inr "here", h)]
theorem lnK_ne {w h : V} {s : Nat} (q : (Int × Int) × Addr × Int) : HO.dK (lnK w s h) ≠ .dK (stK q.1.1 q.1.2 q.2.1 q.2.2) := fun z => by
  injection z with z
  have := congrArg List.length z
  simp [lnK, stK] at this
structure Ln (sz : List Int) (lv : List (List St)) (H : Hp) (D : Addr) (l : List Int) (s : Nat) (w h : V) : Prop where
  at_ : H D = some (.dK (lnK w s h))
  dw : Dt H w (intsD l)
  dh : Dt H h (resD lv (0 + s) (ixF lv 0 0 (dgs l) s))
  wok : WOk sz 0 l
  len : lv.length ≤ l.length + 1
  l5 : l.length ≤ 5
  sl : s ≤ l.length
  on : ∀ j, j < s → isGo (sAt lv (0 + j) (ixF lv 0 0 (dgs l) j)) = true
def LnOk (sz : List Int) (lv : List (List St)) (H : Hp) (D : Addr) : Prop := ∃ l s w h, Ln sz lv H D l s w h
theorem Ln.kin {sz : List Int} {lv : List (List St)} {H H' : Hp} {D : Addr} {l : List Int} {s : Nat} {w h : V} (a : Ln sz lv H D l s w h) (e : Kin H H') : Ln sz lv H' D l s w h := { a with at_ := e _ _ a.at_ fun q => lnK_ne q, dw := rc_tk e a.dw, dh := rc_tk e a.dh }
theorem LnOk.kin {sz : List Int} {lv : List (List St)} {H H' : Hp} {D : Addr} (a : LnOk sz lv H D) (e : Kin H H') : LnOk sz lv H' D := by
  obtain ⟨l, s, w, h, k⟩ := a
  exact ⟨l, s, w, h, k.kin e⟩
theorem tk_dK {H4 : Hp} {L : Addr} {kvs : List (L2.Key × V)} {o : HO} (h : H4 L = some (.dK kvs)) : Tk H4 (upd H4 L o) := tk_upd fun xs z => by
  rw [h] at z
  cases z
/-- nothing but the draws' own dict could stand there before -/
def Fr (H : Hp) (p : Addr) : Prop := ∀ o, H p = some o → ∃ q : (Int × Int) × Addr × Int, o = .dK (stK q.1.1 q.1.2 q.2.1 q.2.2)
theorem fr_of {H Hf : Hp} {p : Addr} (e : Kin H Hf) (h : Hf p = none) : Fr H p := fun o ho => by
  by_cases z : ∃ q : (Int × Int) × Addr × Int, o = .dK (stK q.1.1 q.1.2 q.2.1 q.2.2)
  · exact z
  · have := e p o ho fun q y => z ⟨q, y⟩
    rw [h] at this
    cases this
theorem Kin.mutF {H H1 : Hp} {p : Addr} {o : HO} (e : Kin H H1) (h : Fr H p) : Kin H (upd H1 p o) := fun a u ha no => by
  by_cases z : a = p
  · subst z
    obtain ⟨q, hq⟩ := h u ha
    exact absurd hq (no q)
  · rw [upd_ne z]
    exact e a u ha no
section
variable {K : PySem.W.Frag} {σ : L2.St} {H H' : Hp} {ta tb te td tx tw tm : TE} {v x : V} {m c : Addr} {n n' n1 n2 : Nat} {P P1 P2 : PyData → Prop} {ds es : List PyData} {D : Ends} {tz : TS} {d : PyData}
theorem ed_kget {Da : Addr} {kvs : List (Key × V)} {s : Str} (hd : Ev td σ H (.ref Da)) (hm : H Da = some (.dK kvs)) (hv : valV kvs (Sum.inr s) = some v) (hdt : Dt H v d) : EvD (tDGet td (tC (.str s))) σ H d := fun H1 e1 Q q =>
  (ev_kget hd hm hv) H1 e1 Q fun H2 e2 => q v H2 e2 (hdt.tk (tk_ex (e1.trans e2)))
/-- t[lo:te], te drawn -/
theorem em_slTo {tl : TE} {lo : Int} {Pz : Int → Prop} (h : ∀ H1, Kin H H1 → EvD ta σ H1 (.tuple ds)) (hl : ∀ H1, Kin H H1 → Ev tl σ H1 (.int lo)) (hb : EvM m c tb σ H n n1 fun d => ∃ z, d = .int z ∧ Pz z) :
    EvM m c (tSl (rSlA K) ta (tPart tl) (tPart tb)) σ H n n1 (fun d => ∃ i : Int, Pz i ∧ d = .tuple (cutD ds (some lo) (some i))) := fun H1 e1 mk Q q =>
  h H1 e1 H1 (Ex.refl _) _ fun x H2 e2 hx => hl H2 (e1.trans (kin_ex e2)) H2 (Ex.refl _) _ fun H3 e3 => ⟨lo, rfl, hb H3 (e1.trans (kin_ex (e2.trans e3))) (mk.ex (e2.trans e3)) _ fun y d H4 pd e4 mk4 hy => by
    obtain ⟨i, rfl, pi⟩ := pd
    cases dt_int hy
    have hx4 := rc_tk ((kin_ex e3).trans e4) hx
    have z := (ed_sl (K := K) (te := tVar 0) (tl := tPart (tC (.int lo))) (th := tPart (tC (.int i))) (σ := [some x]) (ed_var rfl hx4) (eo_some ev_c) (eo_some ev_c)) H4 (Ex.refl _) Q fun x5 H5 e5 hx5 => q x5 _ H5 ⟨i, pi, rfl⟩ ((((kin_ex e2).trans (kin_ex e3)).trans e4).trans (kin_ex e5)) (mk4.ex e5) hx5
    obtain ⟨_, z1, z2⟩ := z
    cases z1
    obtain ⟨_, z3, _, z5, z6⟩ := z2
    cases z3
    cases z5
    exact ⟨i, rfl, z6⟩⟩
theorem ed_toldBy {sz : List Int} {lv : List (List St)} {l : List Int} {T : Nat} {E : XK} (h1 : EvD tm σ H (machD sz lv)) (h2 : EvD tw σ H (intsD l)) (mo : MOk sz lv) (wo : WOk sz 0 l) (len : lv.length ≤ l.length + 1) (tl : Tells lv (dgs l) T) : EvD (tCall (spToldBy K) [] E (tCons tm (tCons tw tNil))) σ H (endD lv (dgs l) T) := fun H1 e1 Q q =>
  h1 H1 e1 _ fun x H2 e2 hx => h2 H2 (e1.trans e2) _ fun y H3 e3 hy => ⟨x, y, sz, lv, l, T, rfl, hx.tk (tk_ex e3), .inl hy, mo, wo, len, tl, fun x' H4 e4 hx' => q x' H4 ((e2.trans e3).trans e4) hx'⟩
end
theorem cut_both {l : List Int} {s : Nat} {i : Int} (hs : s ≤ l.length) (hi : (s : Int) < i) : ∃ pl : List Int, cutD (l.map PyData.int) (some (s : Int)) (some i) = pl.map .int ∧ s + pl.length ≤ l.length ∧ ∀ j, j < pl.length → pl.getD j 0 = l.getD (s + j) 0 := by
  refine ⟨(l.drop s).take (min i.toNat l.length - s), ?_, ?_, fun j hj => ?_⟩
  · rw [cut_ints]
    unfold cutD
    obtain ⟨i', rfl⟩ : ∃ i' : Nat, i = i' := ⟨i.toNat, by omega⟩
    rw [HT.sIx_nat, HT.sIx_nat, Nat.min_eq_left hs, Int.toNat_natCast]
  · rw [List.length_take, List.length_drop]
    omega
  · rw [List.length_take, List.length_drop] at hj
    rw [List.getD_eq_getElem?_getD, List.getElem?_take_of_lt (by omega), List.getElem?_drop, List.getD_eq_getElem?_getD]
theorem tp_sh {σ : L2.St} {H : Hp} {TT : TE} {Q' : List (V × V) → Hp → Prop} (h : TT σ H fun y H2 => Q' [(.str "spot", .int 0), (.str "here", y)] H2) : tPairs [(tC (.str "spot"), tC (.int 0)), (tC (.str "here"), TT)] σ H Q' := h
theorem q_asgU2 {σ : L2.St} {H : Hp} {ta : TA} {a b : V} {g : TG} {D : Ends} (ea : EvA ta σ H [a, b]) (k : ∀ T H1, Ex H H1 → H1 T = some (.tup [a, b]) → g (.ref T) σ H1 fun σ2 H2 => D.nx σ2 H2) : tAsg (tTup ta) g D σ H :=
  ea H (Ex.refl _) _ fun H1 e1 => ⟨sz_of (by show (2 : Nat) ≤ 100000; decide), fun T hT => k T _ (e1.trans (Ex.new hT)) upd_same⟩
def spTurns : Sp := fun vs H Q _ => ∃ (m c Wd : Addr) (n : Nat) (x : V) (sz : List Int) (lv : List (List St)) (ws : List V) (ls : List (List Int)), vs = [.ref m, x, .ref Wd] ∧ Dt H x (machD sz lv) ∧ MOk sz lv ∧ H Wd = some (.lst ws) ∧ DtAll H ws (ls.map intsD) ∧ Words sz (lv.length - 1) ls ∧ Mok H m c n ∧ n + 100 < 1000000 ∧
  ∀ H', Kin H H' → Mok H' m c (n + 100) → Q (.bl true) H'
def lnsOk (sz : List Int) (lv : List (List St)) (H0 H : Hp) (L : Addr) (ds : List Addr) : Prop := H L = some (.lst (ds.map V.ref)) ∧ ds.Nodup ∧ L ∉ ds ∧ ∀ D ∈ ds, Fr H0 D ∧ LnOk sz lv H D
section
variable {P : Program} {w : World} {K : PySem.W.Frag} {mg : Str → Option Value} {base : Heap} {f f1 f2 f3 f4 : Addr} {fd fd1 fd2 fd3 fd4 : FuncData} {k : Nat}
theorem ok_turns (F : Fun K "_law_turns_right" "_law_turns_right" sTurns f fd) (m1 : mg "range" = none) (m2 : mg "repr" = none)
    (G1 : FnOk P w K mg base CX0 k f1 fd1 ["m", "below"] spDraw) (g1 : mg "_law_draw" = some (.ref f1)) (kp1 : PySem.W.keepIn K (.ref f1) = true) (b1 : Binds K fd1 ["m", "below"] [])
    (G2 : FnOk P w K mg base CX0 k f2 fd2 ["m", "some"] (spPick K)) (g2 : mg "_law_of" = some (.ref f2)) (kp2 : PySem.W.keepIn K (.ref f2) = true) (b2 : Binds K fd2 ["m", "some"] [])
    (G3 : FnOk P w K mg base CX0 k f3 fd3 ["machine", "word"] (spToldBy K)) (g3 : mg "_law_told_by" = some (.ref f3)) (kp3 : PySem.W.keepIn K (.ref f3) = true) (b3 : Binds K fd3 ["machine", "word"] [])
    (G4 : FnOk P w K mg base CX0 k f4 fd4 ["machine", "reader", "digits"] (spD okReadAll)) (g4 : mg "read_all" = some (.ref f4)) (kp4 : PySem.W.keepIn K (.ref f4) = true) (b4 : Binds K fd4 ["machine", "reader", "digits"] []) :
    Ok1 P w K mg base (k + 1) f fd ["m", "machine", "words"] spTurns := by
  refine ok1_of F scTurns (fun vs H Q E h => ?_) (fun cdv A outer s H vs Q E guard hr h => ?_)
  · obtain ⟨m, c, Wd, n, x, sz, lv, ws, ls, rfl, _⟩ := h
    rfl
  · obtain ⟨m, c, Wd, n, x, sz, lv, ws, ls, rfl, hx, mo, hW, hws, wds, mk, few, q⟩ := h
    refine ⟨_, pss_cons (ps_if (pt_cmpR op_eq (pe_ix ix_tup (pe_ix ix_tup (pe_ix ix_tup (pe_ix ix_tup (pv 1) pe_int (fun _ _ => rfl)) pe_int (fun _ _ => rfl)) pe_int (fun _ _ => rfl)) pe_int (fun _ _ => rfl)) pe_str (nomark _)) (pss_one (ps_ret pe_bl)) pss_nil)
      (pss_cons (ps_setLc (i := 3) (own := [("k", 4)]) (g := gName 4) rfl scTurns.nd rfl rfl (sw_true rfl rfl rfl (by decide +kernel)) (pi_range1 (by rfl) m1 (pa_cons pe_int pa_nil)) (blkOk_by (N := nTurns) (sc := defScope sTurns) (by decide +kernel))
          (fun _ _ _ _ _ => pg_name (i := 4) scTurns.nd rfl (Or.inl rfl)) (fun _ _ _ _ _ => pts_nil) (fun _ _ _ _ _ => pe_disp (pps_cons pe_str (pe_call G2 hr (by rfl) g2 kp2 b2 .nil pass0 (pa_cons (pv 0) (pa_cons (pv 2) pa_nil))) (pps_cons pe_str pe_int (pps_cons pe_str (pe_tup (pa_cons pe_str (pa_cons (pe_tup (pa_cons pe_int (pa_cons pe_int pa_nil))) pa_nil))) pps_nil))) rfl rfl (by decide) (by decide)))
      (pss_cons (ps_for PassesOwn.never rfl (pi_range1 (by rfl) m1 (pa_cons pe_int pa_nil)) (pg_name (i := 5) scTurns.nd rfl (Or.inl rfl))
        (pss_cons (ps_set (i := 6) scTurns.nd rfl (.inl rfl) (pe_call G2 hr (by rfl) g2 kp2 b2 .nil pass0 (pa_cons (pv 0) (pa_cons (pv 3) pa_nil))))
        (pss_cons (ps_set (i := 7) scTurns.nd rfl (.inl rfl) (pe_slice sl_tupA (pe_dget (hu_of hr) (pv 6) pe_str (fun _ _ => rfl)) (po_some (pe_dget (hu_of hr) (pv 6) pe_str (fun _ _ => rfl))) (po_some (pe_op op_add (pe_op op_add (pe_dget (hu_of hr) (pv 6) pe_str (fun _ _ => rfl)) pe_int) (pe_call G1 hr (by rfl) g1 kp1 b1 .nil pass0 (pa_cons (pv 0) (pa_cons pe_int pa_nil)))))))
        (pss_one (ps_if (pt_cmpR op_eq (pe_ix ix_tup (pe_dget (hu_of hr) (pv 6) pe_str (fun _ _ => rfl)) pe_int (fun _ _ => rfl)) pe_str (nomark _))
          (pss_cons (ps_asg (pe_call G4 hr (by rfl) g4 kp4 b4 .nil pass0 (pa_cons (pv 1) (pa_cons (pe_ix ix_tup (pe_dget (hu_of hr) (pv 6) pe_str (fun _ _ => rfl)) pe_int (fun _ _ => rfl)) (pa_cons (pv 7) pa_nil)))) (pg_tup (n := 2) (by rfl) (pgs_cons (pg_name (i := 8) scTurns.nd rfl (Or.inl rfl)) (pgs_cons (pg_name (i := 9) scTurns.nd rfl (Or.inl rfl)) pgs_nil))))
            (pss_one (ps_asg (pe_tup (pa_cons (pv 8) (pa_cons (pe_op op_add (pe_dget (hu_of hr) (pv 6) pe_str (fun _ _ => rfl)) (pv 9)) pa_nil))) (pg_tup (n := 2) (by rfl) (pgs_cons (pg_sub (pv 6) pe_str (set_dict (hu_of hr))) (pgs_cons (pg_sub (pv 6) pe_str (set_dict (hu_of hr))) pgs_nil))))))
          pss_nil)))))
      (pss_cons (ps_for PassesOwn.never rfl (pi_list (pv 3)) (pg_name (i := 6) scTurns.nd rfl (Or.inl rfl))
        (pss_cons (ps_set (i := 10) scTurns.nd rfl (.inl rfl) (pe_call G3 hr (by rfl) g3 kp3 b3 .nil pass0 (pa_cons (pv 1) (pa_cons (pe_dget (hu_of hr) (pv 6) pe_str (fun _ _ => rfl)) pa_nil))))
        (pss_cons (ps_if (PW.pt (pw_and (pt_cmpR op_eq (pe_ix ix_tup (pe_dget (hu_of hr) (pv 6) pe_str (fun _ _ => rfl)) pe_int (fun _ _ => rfl)) pe_str (nomark _)) (pw_and1 (pt_cmpR op_ne (pe_callB (showK K rfl guard hr.units) (by rfl) m2 (by decide +kernel) (pa_cons (pe_dget (hu_of hr) (pv 6) pe_str (fun _ _ => rfl)) pa_nil))
            (pe_callB (showK K rfl guard hr.units) (by rfl) m2 (by decide +kernel) (pa_cons (pe_tup (pa_cons pe_str (pa_cons (pe_ix ix_tup (pv 10) pe_int (fun _ _ => rfl)) (pa_cons (pe_ix ix_tup (pv 10) pe_int (fun _ _ => rfl)) pa_nil)))) pa_nil)) (nomark _))))) (pss_one (ps_ret pe_bl)) pss_nil)
        (pss_one (ps_if (PW.pt (pw_and (pt_cmpR op_eq (pe_ix ix_tup (pe_dget (hu_of hr) (pv 6) pe_str (fun _ _ => rfl)) pe_int (fun _ _ => rfl)) pe_str (nomark _)) (pw_and1 (pt_cmpR op_ge (pe_dget (hu_of hr) (pv 6) pe_str (fun _ _ => rfl)) (pe_ix ix_tup (pv 10) pe_int (fun _ _ => rfl)) (nomark _))))) (pss_one (ps_ret pe_bl)) pss_nil)))))
      (pss_one (ps_ret pe_bl))))), ?_⟩
    have i0 := mo.in0
    have l1 := mo.l1
    have l6 := mo.l6
    refine q_when (D := { nx := _, rt := _ }) (b := !isGo (sAt lv 0 0)) (et_is (et_test (ev_op (ev_word (ed_sAt (t := 0) (n := 0) (ed_levels (ed_var rfl hx)) ev_c ev_c i0)) ev_c (rv_eq rfl))) ?_) (fun _ H1 e1 => ?_) (fun hg H1 e1 => ?_)
    · cases isGo (sAt lv 0 0) with
      | true => show decide (V.str "go" = V.str "told") = false; decide +kernel
      | false => exact decide_eq_true rfl
    · exact s_ret (v := .bl true) ev_c fun H2 e2 => q H2 (kin_ex (e1.trans e2)) ((mk.ex (e1.trans e2)).mono (by omega))
    have g0 : isGo (sAt lv 0 0) = true := by
      cases z : isGo (sAt lv 0 0) with
      | true => rfl
      | false => rw [z] at hg; cases hg
    have r0 : resD lv 0 0 = .tuple [.str "on", .tuple [.int 0, .int 0]] := by
      obtain ⟨ns, en⟩ := go_of g0
      unfold resD
      rw [en]
      rfl
    have mk1 := mk.ex e1
    have hW1 := e1 _ _ hW
    have hws1 := hws.tk (tk_ex e1)
    have lls : ls.length ≤ 243 := Nat.le_trans wds.2.1 (pow3 (by omega))
    have lsne : ls.map intsD ≠ [] := by simpa using wds.1
    refine (show tAsg _ _ _ _ _ from ⟨3, rfl, by decide, by decide, fun L hL => ?_⟩)
    have fr1 := mk1.free hL
    have mkL : Mok (upd H1 L (.lst [])) m c n := mk1.ex (Ex.new hL)
    refine lc_range (lo := 0) (n := (3 : Int).toNat) (fun i H' => Kin H1 H' ∧ Mok H' m c (n + i) ∧ ∃ ds : List Addr, lnsOk sz lv H1 H' L ds ∧ ds.length = i) ⟨kin_ex (Ex.new hL), mkL, [], ⟨upd_same, List.nodup_nil, (fun z => by cases z), fun D hD => by cases hD⟩, rfl⟩ (fun i H' hi inv => ?_) (fun H' inv => ?_)
    · refine ⟨rfl, ?_⟩
      unfold tYes
      dsimp only
      rw [if_pos rfl]
      obtain ⟨k1, mk2, ds, ⟨hL1, nd, nL, lns⟩, dlen⟩ := inv
      have hi3 : i < 3 := hi
      intro p hp
      have kp : Kin H' (upd H' p (.dK [])) := kin_ex (Ex.new hp)
      have mkp : Mok (upd H' p (.dK [])) m c (n + i) := mk2.ex (Ex.new hp)
      have hWp := kin_l (k1.trans kp) hW1
      have hwsp : DtAll (upd H' p (.dK [])) ws (ls.map intsD) := hws1.tk (tk_kin (k1.trans kp))
      show tC (.str "word") _ _ _
      refine (em_pickV (K := K) (n := n + i) (ds := ls.map intsD) rfl rfl (SqL.of hWp) hwsp lsne (by rw [List.length_map]; omega) (by omega)) _ (Kin.refl _) mkp _ fun wv d H5 pd e5 mk5 hwv => ?_
      obtain ⟨l, hl, rfl⟩ := List.mem_map.mp pd
      obtain ⟨wl, wo⟩ := wds.2.2 l hl
      have hp5 : H5 p = some (.dK []) := e5 _ _ upd_same fun q z => by
        injection z with z
        have := congrArg List.length z
        simp [stK] at this
      refine tp_sh ?_
      refine (ed_tup (eds_cons ed_str (eds_cons (ed_tup (eds_cons (ed_int ev_c) (eds_cons (ed_int ev_c) eds_nil)) (by show (2 : Nat) ≤ 100000; decide)) eds_nil)) (by show (2 : Nat) ≤ 100000; decide) : EvD _ _ _ (.tuple [.str "on", .tuple [.int 0, .int 0]])) H5 (Ex.refl _) _ fun hv H6 e6 hhv => ?_
      rw [← r0] at hhv
      refine ⟨e6 _ _ hp5, [(Sum.inr "word", wv), (Sum.inr "spot", .int 0), (Sum.inr "here", hv)], rfl, by show (3 : Nat) ≤ 15; decide, ?_⟩
      have e56 : Kin (upd H' p (.dK [])) H6 := e5.trans (kin_ex e6)
      have hp6 := e6 _ _ hp5
      have pm := mk2.free hp
      have pL : L ≠ p := fun z => by rw [← z, hL1] at hp; cases hp
      have kk : Kin H' (upd H6 p (.dK (lnK wv 0 hv))) := (kp.trans e56).mut hp
      have hL6 : upd H6 p (.dK (lnK wv 0 hv)) L = some (.lst (ds.map V.ref)) := kin_l kk hL1
      refine ⟨ds.map V.ref, hL6, sz_lt (by rw [List.length_map]; omega), ?_⟩
      have tk7 : Tk H6 (upd (upd H6 p (.dK (lnK wv 0 hv))) L (.lst (ds.map V.ref ++ [.ref p]))) := (tk_dK hp6).trans (tk_lst hL6)
      have frp : Fr H1 p := fr_of k1 hp
      have keep : ∀ D o, D ≠ L → upd H6 p (.dK (lnK wv 0 hv)) D = some o → upd (upd H6 p (.dK (lnK wv 0 hv))) L (.lst (ds.map V.ref ++ [.ref p])) D = some o := fun D o h1 h2 => by rw [upd_ne h1]; exact h2
      refine ⟨(k1.trans kk).mut hL, (((mk5.ex e6).upd pm).upd fr1), ds ++ [p], ⟨by rw [upd_same, List.map_append]; rfl, ?_, ?_, fun D hD => ?_⟩, by rw [List.length_append, dlen]; rfl⟩
      · refine List.nodup_append.mpr ⟨nd, by simp, fun a ha b hb => ?_⟩
        rw [List.mem_singleton.mp hb]
        rintro rfl
        obtain ⟨_, l', s', w', h', k'⟩ := lns a ha
        rw [k'.at_] at hp
        cases hp
      · intro z
        rcases List.mem_append.mp z with z | z
        · exact nL z
        · exact pL (List.mem_singleton.mp z)
      · rcases List.mem_append.mp hD with z | z
        · obtain ⟨fr, lk⟩ := lns D z
          refine ⟨fr, ?_⟩
          obtain ⟨l', s', w', h', k'⟩ := lk.kin kk
          have DL : D ≠ L := fun y => nL (y ▸ z)
          exact ⟨l', s', w', h', { k' with at_ := keep D _ DL k'.at_, dw := k'.dw.tk (tk_lst hL6), dh := k'.dh.tk (tk_lst hL6) }⟩
        · cases List.mem_singleton.mp z
          exact ⟨frp, l, 0, wv, hv, ⟨keep p _ (fun y => pL y.symm) upd_same, (hwv.tk (tk_ex e6)).tk tk7, hhv.tk tk7, wo, by omega, by omega, Nat.zero_le _, fun j hj => by omega⟩⟩
    obtain ⟨k1, mk2, ds0, lk0, dlen⟩ := inv
    have dlen : ds0.length = 3 := dlen
    have mk2 : Mok H' m c (n + 3) := mk2
    have hxk : Dt H' x (machD sz lv) := rc_tk ((kin_ex e1).trans k1) hx
    refine q_forR1 (D := { nx := _, rt := _ }) (n := 12) (ea_cons ev_c ea_nil) (by decide) (fun t σ' H2 => ∃ z5 z6 z7 z8 z9 : Option V, σ' = [some (.ref m), some x, some (.ref Wd), some (.ref L), none, z5, z6, z7, z8, z9, none] ∧ Kin H1 H2 ∧ Mok H2 m c (n + 3 + 2 * t) ∧ lnsOk sz lv H1 H2 L ds0)
      (fun H2 e2 => ⟨_, _, _, _, _, rfl, k1.trans (kin_ex e2), (mk2.ex e2).mono (by omega), e2 _ _ lk0.1, lk0.2.1, lk0.2.2.1, fun D hD => ⟨(lk0.2.2.2 D hD).1, (lk0.2.2.2 D hD).2.kin (kin_ex e2)⟩⟩) (fun t σ' H2 lt inv => ?_) (fun σ' H2 inv => ?_)
    · obtain ⟨z5, z6, z7, z8, z9, rfl, k2, mk3, hL2, nd, nL, lns⟩ := inv
      have hx2 : Dt H2 x (machD sz lv) := rc_tk ((kin_ex e1).trans k2) hx
      refine ⟨_, rfl, _, rfl, m, c, L, n + 3 + 2 * t, ds0.map V.ref, rfl, SqL.of hL2, (fun z => by
        have := congrArg List.length z
        rw [List.length_map, dlen] at this
        cases this), (by rw [List.length_map]; omega), mk3, by omega, fun zv H3 hz k3 mk4 => ?_⟩
      obtain ⟨D, hD, rfl⟩ := List.mem_map.mp hz
      obtain ⟨frD, l, s, wv, hv, kD⟩ := lns D hD
      have kD3 := kD.kin k3
      have sl := kD.sl
      have l5 := kD.l5
      have sp : ∀ {σ : L2.St} {H4 : Hp}, Kin H3 H4 → σ[6]? = some (some (.ref D)) → Ev (tDGet (tVar 6) (tC (.str "spot"))) σ H4 (.int (s : Int)) := fun k h => ev_kget (ev_var h) (k _ _ kD3.at_ fun q => lnK_ne q) rfl
      refine qm_asg (n1 := n + 3 + 2 * t + 2) (D := { nx := _, rt := _, bk := _, ct := _ }) (i := 7) mk4 (em_slTo (K := K) (lo := (s : Int)) (Pz := fun z => (s : Int) < z) (fun H4 k4 => ed_kget (ev_var rfl) (k4 _ _ kD3.at_ fun q => lnK_ne q) rfl (rc_tk k4 kD3.dw)) (fun H4 k4 => sp k4 rfl) (em_op (em_of (d := .int ((s : Int) + 1)) (P := fun d => d = .int ((s : Int) + 1)) (fun H4 k4 => ed_int (ev_op (sp k4 rfl) ev_c rv_I0)) rfl) (em_draw (b := 3) rfl (fun _ _ => ev_c) (by decide) (by decide) (by omega)) fun u v d e H4 pd pe hu hv => ?_)) fun pv d H4 pd k4 mk5 hpv => ?_
      · subst pd
        obtain ⟨z, rfl, z0, z1⟩ := pe
        cases dt_int hu
        cases dt_int hv
        exact ⟨.int ((s : Int) + 1 + z), ⟨_, rfl, by omega⟩, ed_int (ev_op (ev_var rfl) (ev_var rfl) rv_I0)⟩
      obtain ⟨ii, hii, rfl⟩ := pd
      obtain ⟨pl, epl, plen, pat⟩ := cut_both (l := l) (s := s) (i := ii) sl hii
      rw [epl] at hpv
      have kD4 := kD3.kin k4
      have k14 := (k2.trans k3).trans k4
      have hL4 := kin_l (k3.trans k4) hL2
      have others : ∀ {H5 : Hp}, Kin H4 H5 → lnsOk sz lv H1 H5 L ds0 := fun k => ⟨kin_l k hL4, nd, nL, fun D' hD' => ⟨(lns D' hD').1, (lns D' hD').2.kin ((k3.trans k4).trans k)⟩⟩
      refine s_when (D := { nx := _, rt := _, bk := _, ct := _ }) (et_isOn (ed_kget (ev_var rfl) kD4.at_ rfl kD4.dh)) (fun gb H5 e5 => ?_) (fun gb H5 e5 => ⟨_, _, _, _, _, rfl, k14.trans (kin_ex e5), (mk5.ex e5).mono (by omega), others (kin_ex e5)⟩)
      have ic := mo.walk i0 (w := dgs l) (c := s) (fun j hj => (kD.wok.n (by omega)).1) kD.on
      have kD5 := kD4.kin (kin_ex e5)
      have pw : WOk sz (0 + s) pl := fun j hj => by
        rw [pat j hj]
        have := kD.wok (s + j) (by omega)
        rw [← Nat.add_assoc] at this
        exact this
      obtain ⟨cc, far⟩ : ∃ cc, FarTo lv (0 + s) (ixF lv 0 0 (dgs l) s) (dgs pl) pl.length cc := by
        have key : ∀ k, k ≤ pl.length → (∃ cc, FarTo lv (0 + s) (ixF lv 0 0 (dgs l) s) (dgs pl) pl.length cc) ∨ ∀ j, j < k → isGo (sAt lv (0 + s + j) (ixF lv (0 + s) (ixF lv 0 0 (dgs l) s) (dgs pl) j)) = true := by
          intro k
          induction k with
          | zero => exact fun _ => .inr fun j hj => by omega
          | succ k ih =>
            intro hk
            rcases ih (by omega) with z | z
            · exact .inl z
            · cases y : isGo (sAt lv (0 + s + k) (ixF lv (0 + s) (ixF lv 0 0 (dgs l) s) (dgs pl) k)) with
              | false => exact .inl ⟨k, by omega, z, .inr y⟩
              | true =>
                refine .inr fun j hj => ?_
                by_cases e : j = k
                · subst e; exact y
                · exact z j (by omega)
        rcases key pl.length (Nat.le_refl _) with z | z
        · exact z
        · exact ⟨pl.length, Nat.le_refl _, z, .inl rfl⟩
      have ixs : ∀ j, j ≤ pl.length → ixF lv (0 + s) (ixF lv 0 0 (dgs l) s) (dgs pl) j = ixF lv 0 0 (dgs l) (s + j) := fun j hj => by
        rw [← ixF_add (t := 0) (n := 0) (w := dgs l) s j]
        refine ixF_congr fun b hb => ?_
        show (pl.getD b 0).toNat = (l.getD (s + b) 0).toNat
        rw [pat b (by omega)]
      have hx5 : Dt H5 x (machD sz lv) := rc_tk (((k3.trans k4).trans (kin_ex e5))) hx2
      refine sd_two (D := { nx := _, rt := _, bk := _, ct := _ }) (i := 8) (j := 9) (d1 := resD lv (0 + s + cc) (ixF lv (0 + s) (ixF lv 0 0 (dgs l) s) (dgs pl) cc)) (d2 := .int (cc : Nat)) (ed_call (eds_cons (ed_var rfl hx5) (eds_cons (ed_here (ed_kget (ev_var rfl) kD5.at_ rfl kD5.dh) gb) (eds_cons (ed_var rfl (hpv.tk (tk_ex e5))) eds_nil))) ⟨sz, lv, 0 + s, _, cc, pl, rfl, mo, ic, gb, pw, by omega, far, rfl⟩) fun tv cv H6 e6 htv hcv => ?_
      cases dt_int hcv
      have kD6 := kD5.kin (kin_ex e6)
      have DL : D ≠ L := fun y => nL (y ▸ hD)
      have ctn : Ev (tDGet (tVar 6) (tC (.str "spot"))) [some (.ref m), some x, some (.ref Wd), some (.ref L), none, some (.int (t : Nat)), some (.ref D), some pv, some tv, some (.int (cc : Nat)), none] H6 (.int (s : Int)) := ev_kget (ev_var rfl) kD6.at_ rfl
      have ea : EvA (tCons (tVar 8) (tCons (tOp (rI0 fun i j => .int (i + j)) (tDGet (tVar 6) (tC (.str "spot"))) (tVar 9)) tNil)) [some (.ref m), some x, some (.ref Wd), some (.ref L), none, some (.int (t : Nat)), some (.ref D), some pv, some tv, some (.int (cc : Nat)), none] H6 [tv, .int ((s + cc : Nat) : Int)] := ea_cons (ev_var rfl) (ea_cons (ev_is (ev_op ctn (ev_var rfl) rv_I0) (congrArg V.int (by show (s : Int) + (cc : Int) = _; omega))) ea_nil)
      refine q_asgU2 (D := { nx := _, rt := _, bk := _, ct := _ }) ea fun T H8 e77 hT7 => ?_
      have e48 : Ex H4 H8 := (e5.trans e6).trans e77
      have kD8 := kD6.kin (kin_ex e77)
      have atD : H8 D = some (.dK (lnK wv s hv)) := kD8.at_
      have mk8 := mk5.ex e48
      have mD : m ≠ D ∧ c ≠ D := by
        obtain ⟨q1, q2, q3, q4, h1, h2, _⟩ := mk8
        constructor
        · intro z
          subst z
          rw [atD] at h1
          exact lnK_ne ((q1, q2), c, q3) (Option.some.inj h1)
        · intro z
          subst z
          rw [atD] at h2
          cases h2
      have htv8 := htv.tk (tk_ex e77)
      refine ⟨T, _, rfl, SqT.of hT7, rfl, _, _, rfl, ?_⟩
      refine ⟨_, rfl, D, _, rfl, DPut.k (k := (Sum.inr "here" : Key)) atD (sz_lt (by show (3 : Nat) < 100000; decide)), ?_⟩
      have tk9 : Tk H8 (upd H8 D (.dK (lnK wv s tv))) := tk_dK atD
      have at9 : upd H8 D (.dK (lnK wv s tv)) D = some (.dK (lnK wv s tv)) := upd_same
      have k19 : Kin H1 (upd H8 D (.dK (lnK wv s tv))) := (k14.trans (kin_ex e48)).mutF frD
      have mk9 := mk8.upd (o := .dK (lnK wv s tv)) mD
      have oth9 : ∀ a o, a ≠ D → H8 a = some o → upd H8 D (.dK (lnK wv s tv)) a = some o := fun a o h1 h2 => by rw [upd_ne h1]; exact h2
      show gCons _ _ [V.int ((s + cc : Nat) : Int)] _ (upd H8 D (.dK (lnK wv s tv))) _
      generalize upd H8 D (.dK (lnK wv s tv)) = H9 at tk9 at9 k19 mk9 oth9 ⊢
      refine ⟨_, _, rfl, ?_⟩
      refine ⟨_, rfl, D, _, rfl, DPut.k (k := (Sum.inr "spot" : Key)) at9 (sz_lt (by show (3 : Nat) < 100000; decide)), rfl, ?_⟩
      have tk10 : Tk H8 (upd H9 D (.dK (lnK wv (s + cc) tv))) := tk9.trans (tk_dK at9)
      have oth10 : ∀ a o, a ≠ D → H8 a = some o → upd H9 D (.dK (lnK wv (s + cc) tv)) a = some o := fun a o h1 h2 => by rw [upd_ne h1]; exact oth9 a o h1 h2
      refine ⟨_, _, _, _, _, rfl, k19.mutF frD, (mk9.upd mD).mono (by omega), oth10 L _ (fun y => DL y.symm) (e48 _ _ hL4), nd, nL, fun D' hD' => ⟨(lns D' hD').1, ?_⟩⟩
      by_cases z : D' = D
      · subst z
        have ccl := far.le
        refine ⟨l, s + cc, wv, tv, ⟨upd_same, kD8.dw.tk tk10, ?_, kD.wok, kD.len, kD.l5, by omega, fun j hj => ?_⟩⟩
        · have h := htv8.tk tk10
          rw [ixs cc ccl, Nat.add_assoc] at h
          exact h
        · by_cases y : j < s
          · exact kD.on j y
          · have h := far.on (j - s) (by omega)
            rw [ixs (j - s) (by omega), Nat.add_assoc, show s + (j - s) = j by omega] at h
            exact h
      · obtain ⟨l', s', w', h', k'⟩ := (lns D' hD').2.kin ((k3.trans k4).trans (kin_ex e48))
        exact ⟨l', s', w', h', { k' with at_ := oth10 D' _ z k'.at_, dw := k'.dw.tk tk10, dh := k'.dh.tk tk10 }⟩
    · obtain ⟨z5, z6, z7, z8, z9, rfl, k2, mk3, hL2, nd, nL, lns⟩ := inv
      refine q_forLn (D := { nx := _, rt := _ }) (ev_var rfl) (SqL.of hL2) (fun i σ' H3 => ∃ z6 z10 : Option V, σ' = [some (.ref m), some x, some (.ref Wd), some (.ref L), none, z5, z6, z7, z8, z9, z10] ∧ Ex H2 H3) (fun H3 e3 => ⟨_, _, rfl, e3⟩) (fun i σ' H3 _ p => by obtain ⟨_, _, _, e⟩ := p; exact SqL.of (e _ _ hL2)) (fun i v σ' H3 hi p => ?_) (fun σ' H3 p => ?_)
      · obtain ⟨z6, z10, rfl, e3⟩ := p
        obtain ⟨D, hD, rfl⟩ := List.mem_map.mp (List.mem_of_getElem? hi)
        obtain ⟨frD, l, s, wv, hv, kD⟩ := lns D hD
        have kD3 := kD.kin (kin_ex e3)
        have hx3 : Dt H3 x (machD sz lv) := rc_tk (((kin_ex e1).trans k2).trans (kin_ex e3)) hx
        have all0 : ∀ j, dgs l j < sizeN sz j := fun j => by
          by_cases z : j < l.length
          · have := (kD.wok.n z).1
            rw [Nat.zero_add] at this
            exact this
          · unfold dgs
            rw [List.getD_eq_getElem?_getD, List.getElem?_eq_none (by omega)]
            have := (mo.s.n j).1
            show 0 < sizeN sz j
            omega
        obtain ⟨T, tl, Tl⟩ := mo.tells all0
        refine q_asgD (D := { nx := _, rt := _, bk := _, ct := _ }) (i := 10) (d := endD lv (dgs l) T) (ed_toldBy (ed_var rfl hx3) (ed_kget (ev_var rfl) kD3.at_ rfl kD3.dw) mo kD.wok kD.len tl) fun due H4 e4 hdue => ?_
        have kD4 := kD3.kin (kin_ex e4)
        have ic := mo.walk i0 (w := dgs l) (c := s) (fun j hj => by rw [Nat.zero_add]; exact all0 j) kD.on
        have fr4 := f_res mo ic
        have sl := kD.sl
        have l5 := kD.l5
        have onT : ∀ j, j < s → isGo (sAt lv j (ixF lv 0 0 (dgs l) j)) = true := fun j hj => by
          have := kD.on j hj
          rw [Nat.zero_add] at this
          exact this
        refine q_unless (D := { nx := _, rt := _, bk := _, ct := _ }) (b := !isGo (sAt lv (0 + s) (ixF lv 0 0 (dgs l) s)) && false) (et_and (et_isTold (ed_kget (ev_var rfl) kD4.at_ rfl kD4.dh)) fun hg => ?_) (Bool.and_false _) fun H5 e5 => ?_
        · have off : isGo (sAt lv s (ixF lv 0 0 (dgs l) s)) = false := by
            rw [Nat.zero_add] at hg
            cases y : isGo (sAt lv s (ixF lv 0 0 (dgs l) s)) with
            | false => rfl
            | true => rw [y] at hg; cases hg
          obtain rfl : T = s := tl.one ⟨onT, off⟩
          obtain ⟨d, hd⟩ := told_of off
          have rd : resD lv (0 + T) (ixF lv 0 0 (dgs l) T) = .tuple [.str "told", valS (sAt lv T (ixF lv 0 0 (dgs l) T)), .int (T : Nat)] := by
            unfold resD
            rw [Nat.zero_add, hd]
            rfl
          refine et_is (et_neS (ev_showR (ed_kget (ev_var rfl) kD4.at_ rfl kD4.dh) fr4 (by decide) (by decide)) (ev_showT (ed_tup (eds_cons ed_str (eds_cons (ed_ix (d := valS (sAt lv T (ixF lv 0 0 (dgs l) T))) (ed_var rfl hdue) ev_c rfl) (eds_cons (ed_ix (d := .int (T : Nat)) (ed_var rfl hdue) ev_c rfl) eds_nil))) (by show (3 : Nat) ≤ 100000; decide)) (by rw [← rd]; exact fr4) (by decide) (by decide))) (neS ?_)
          show (resD lv (0 + T) (ixF lv 0 0 (dgs l) T)).shown = _
          rw [rd]
        · refine s_when (D := { nx := _, rt := _, bk := _, ct := _ }) (b := isGo (sAt lv (0 + s) (ixF lv 0 0 (dgs l) s)) && false) (et_and (et_isOn (ed_kget (ev_var rfl) (e5 _ _ kD4.at_) rfl (kD4.dh.tk (tk_ex e5)))) fun hg => ?_) (fun z => by rw [Bool.and_false] at z; cases z) fun _ H6 e6 => ⟨_, _, rfl, ((e3.trans e4).trans e5).trans e6⟩
          have lt : s < T := by
            rw [Nat.zero_add] at hg
            rcases Nat.lt_trichotomy s T with z | z | z
            · exact z
            · subst z
              rw [tl.off] at hg
              cases hg
            · have := onT T z
              rw [tl.off] at this
              cases this
          exact et_is (et_test (ev_op (ev_kget (ev_var rfl) (e5 _ _ kD4.at_) rfl) (int_ed (ed_ix (d := .int (T : Nat)) (ed_var rfl (hdue.tk (tk_ex e5))) ev_c rfl)) rv_I0)) (decide_eq_false (by omega))
      · obtain ⟨z6, z10, rfl, e3⟩ := p
        exact s_ret (v := .bl true) (D := { nx := fun _ H' => Q .non H', rt := Q }) (σ := [some (.ref m), some x, some (.ref Wd), some (.ref L), none, z5, z6, z7, z8, z9, z10]) ev_c fun H4 e4 => q H4 (((kin_ex e1).trans k2).trans (kin_ex (e3.trans e4))) ((mk3.ex (e3.trans e4)).mono (by omega))
end
end K10
set_option Elab.async false
set_option linter.all false
set_option maxRecDepth 100000
set_option maxHeartbeats 1000000
namespace K10
open PySem PySem.Spec PyProof.Rows L2 Evl
/-! ### the law: told rows; the whole -/
def EachI (P : Nat → PyData → Prop) (n : Nat) (ds : List PyData) : Prop := ds.length = n ∧ ∀ i d, ds[i]? = some d → P i d
def CwMI (m c : Addr) (H : Hp) (P : Nat → PyData → Prop) (L : Addr) (n t i : Nat) (H' : Hp) : Prop := H L = none ∧ Kin H H' ∧ Mok H' m c (n + t * i) ∧ (m ≠ L ∧ c ≠ L) ∧ ∃ acc ds, H' L = some (.lst acc) ∧ DtAll H' acc ds ∧ EachI P i ds
section
variable {K : PySem.W.Frag} {σ : L2.St} {H H' : Hp} {ta tb te td tx tl : TE} {v x : V} {m c : Addr} {n n' n1 n2 : Nat} {ds es : List PyData} {D : Ends} {tz : TS} {d : PyData} {P : Nat → PyData → Prop}
theorem cwmi_turn {L : Addr} {t i : Nat} {σ2 : L2.St} (p : CwMI m c H P L n t i H') (hi : i < 50000) (he : EvM m c te σ2 H (n + t * i) (n + t * i + t) (P i)) : te σ2 H' fun y H4 => ∃ acc, H4 L = some (.lst acc) ∧ acc.length < sizeLine ∧ CwMI m c H P L n t (i + 1) (upd H4 L (.lst (acc ++ [y]))) := by
  obtain ⟨p1, p2, p3, p4, acc, ds, p5, p6, p7⟩ := p
  refine he H' p2 p3 _ fun y d H4 pd e4 mk4 hy => ?_
  have hL : H4 L = some (.lst acc) := e4 L _ p5 fun _ z => nomatch z
  have still : Tk H4 (upd H4 L (.lst (acc ++ [y]))) := tk_lst hL
  refine ⟨acc, hL, sz_lt (by rw [p6.len, p7.1]; omega), p1, (p2.trans e4).mut p1, ?_, p4, _, ds ++ [d], upd_same, ?_, ?_⟩
  · have e : n + t * (i + 1) = n + t * i + t := by rw [Nat.mul_add, Nat.mul_one, Nat.add_assoc]
    rw [e]
    exact mk4.upd p4
  · exact ((p6.tk (tk_kin e4)).tk still).append (.cons (hy.tk still) .nil)
  · refine ⟨by rw [List.length_append, p7.1]; rfl, fun j d' hd => ?_⟩
    by_cases z : j < ds.length
    · rw [List.getElem?_append_left z] at hd
      exact p7.2 j d' hd
    · have lt := (List.getElem?_eq_some_iff.mp hd).1
      rw [List.length_append] at lt
      have e : j = ds.length := by
        simp at lt
        omega
      subst e
      rw [List.getElem?_append_right (Nat.le_refl _), Nat.sub_self] at hd
      cases Option.some.inj hd
      rw [p7.1]
      exact pd
/-- [te for x in tl], tl a tuple: each told by its place -/
theorem eml_lcTi {vs : List Nat} {j t : Nat} (h : ∀ H1, Kin H H1 → EvD tl σ H1 (.tuple ds)) (small : ds.length ≤ 1000) (hw : ∀ x, wipe ((wipe σ vs).set j (some x)) vs = wipe σ vs)
    (each : ∀ i d x H1, Kin H H1 → ds[i]? = some d → Dt H1 x d → EvM m c te ((wipe σ vs).set j (some x)) H1 (n + t * i) (n + t * i + t) (P i)) : EvMl m c (tLc (iTup K tl) (gName j) tYes te vs) σ H n (n + t * ds.length) fun es => EachI P ds.length es := fun H1 e1 mk Q q =>
  h H1 e1 H1 (Ex.refl _) _ fun x H2 e2 hx => by
    obtain ⟨a, xs, rfl, hp, all⟩ := dt_tup hx
    refine ⟨a, rfl, ⟨xs, SqT.of hp⟩, fun L hL => ?_⟩
    have mk2 := mk.ex e2
    refine lc_tup (xs := xs) (CwMI m c H2 P L n t) ⟨hL, kin_ex (Ex.new hL), (mk2.ex (Ex.new hL)).mono (by omega), mk2.free hL, [], [], upd_same, .nil, rfl, fun i d hd => by simp at hd⟩ (fun i H' _ p => SqT.of (tk_kin p.2.1 _ _ hp)) (fun i y H' hi p => ?_) (fun H' p => ?_)
    · have lt : i < ds.length := by
        rw [← all.len]
        exact (List.getElem?_eq_some_iff.mp hi).1
      obtain ⟨y', hy', hd⟩ := all.get (List.getElem?_eq_getElem lt)
      rw [hi] at hy'
      cases hy'
      refine ⟨hw _, ?_⟩
      unfold tYes
      dsimp only
      rw [if_pos rfl]
      exact cwmi_turn p (by omega) (each i _ y H2 (e1.trans (kin_ex e2)) (List.getElem?_eq_getElem lt) hd)
    · obtain ⟨p1, p2, p3, p4, acc, es, p5, p6, p7⟩ := p
      rw [all.len] at p3 p7
      exact q L acc es H' p7 ((kin_ex e2).trans p2) p3 p5 p6
end
theorem ent_b {bs rs : List Int} {size : Int} (hr : rs ≠ []) (h1 : ∀ x ∈ bs, 0 ≤ x ∧ x < size) (h2 : ∀ x ∈ rs, 0 ≤ x ∧ x < size) (i : Nat) : 0 ≤ ent bs rs i ∧ ent bs rs i < size := ent_in hr h1 h2 i
theorem rows_key : ∀ {sz : List Int} {ds : List PyData}, EachI (fun k d => IsRow (sz.getD k 0) 3 3 d) sz.length ds → ∃ rws : List (List Int × List Int), ds = rws.map rwD ∧ RowsOk sz rws := by
  intro sz ds h
  have pick : ∀ i, i < ds.length → ∃ p : List Int × List Int, ds[i]? = some (rwD p) ∧ p.2 ≠ [] ∧ ∀ j, 0 ≤ ent p.1 p.2 j ∧ ent p.1 p.2 j < sz.getD i 0 := fun i hi => by
    obtain ⟨bs, rs, e, _, r1, _, hb, hr⟩ := h.2 i _ (List.getElem?_eq_getElem hi)
    have rne : rs ≠ [] := fun z => by rw [z] at r1; exact absurd r1 (by decide)
    exact ⟨(bs, rs), by rw [List.getElem?_eq_getElem hi, e]; rfl, rne, ent_b rne hb hr⟩
  have key : ∀ n, n ≤ ds.length → ∃ rws : List (List Int × List Int), rws.length = n ∧ ∀ i, i < n → ∃ p, rws[i]? = some p ∧ ds[i]? = some (rwD p) ∧ p.2 ≠ [] ∧ ∀ j, 0 ≤ ent p.1 p.2 j ∧ ent p.1 p.2 j < sz.getD i 0 := by
    intro n
    induction n with
    | zero => exact fun _ => ⟨[], rfl, fun i hi => by omega⟩
    | succ n ih =>
      intro hn
      obtain ⟨rws, l, hr⟩ := ih (by omega)
      obtain ⟨p, hp⟩ := pick n (by omega)
      refine ⟨rws ++ [p], by rw [List.length_append, l]; rfl, fun i hi => ?_⟩
      by_cases z : i < n
      · obtain ⟨p', h1, h2⟩ := hr i z
        exact ⟨p', by rw [List.getElem?_append_left (by omega)]; exact h1, h2⟩
      · have e : i = n := by omega
        subst e
        exact ⟨p, by rw [List.getElem?_append_right (by omega), l, Nat.sub_self]; rfl, hp⟩
  obtain ⟨rws, l, hr⟩ := key ds.length (Nat.le_refl _)
  refine ⟨rws, ?_, by rw [l, h.1], fun k p hp => ?_⟩
  · apply List.ext_getElem?
    intro i
    by_cases z : i < ds.length
    · obtain ⟨p, h1, h2, _⟩ := hr i z
      rw [h2, List.getElem?_map, h1]
      rfl
    · rw [List.getElem?_eq_none (by omega), List.getElem?_eq_none (by rw [List.length_map]; omega)]
  · obtain ⟨p', h1, _, h3, h4⟩ := hr k (by rw [← l]; exact (List.getElem?_eq_some_iff.mp hp).1)
    rw [hp] at h1
    cases h1
    exact ⟨h3, h4⟩
theorem ixTK {X : Cx} (K : PySem.W.Frag) (e : X.K = K) : IxR X (rIxT K) := by
  subst e
  exact ix_tup
theorem ed_toldByL {K : PySem.W.Frag} {σ : L2.St} {H : Hp} {tm tw : TE} {sz : List Int} {lv : List (List St)} {l : List Int} {T : Nat} {E : XK} {p : Addr} (h1 : EvD tm σ H (machD sz lv)) (h2 : Ev tw σ H (.ref p)) (hp : H p = some (.lst (l.map V.int))) (mo : MOk sz lv) (wo : WOk sz 0 l) (len : lv.length ≤ l.length + 1) (tl : Tells lv (dgs l) T) : EvD (tCall (spToldBy K) [] E (tCons tm (tCons tw tNil))) σ H (endD lv (dgs l) T) := fun H1 e1 Q q =>
  h1 H1 e1 _ fun x H2 e2 hx => h2 H2 (e1.trans e2) _ fun H3 e3 => ⟨x, .ref p, sz, lv, l, T, rfl, hx.tk (tk_ex e3), .inr ⟨p, rfl, ((e1.trans e2).trans e3) _ _ hp⟩, mo, wo, len, tl, fun x' H4 e4 hx' => q x' H4 ((e2.trans e3).trans e4) hx'⟩
def spRowsR : Sp := fun vs H Q _ => ∃ (m c : Addr) (n : Nat) (x : V) (sz : List Int) (lv : List (List St)), vs = [.ref m, x] ∧ Dt H x (machD sz lv) ∧ MOk sz lv ∧ Mok H m c n ∧ n + 30 < 1000000 ∧ ∀ H', Kin H H' → Mok H' m c (n + 30) → Q (.bl true) H'
section
variable {P : Program} {w : World} {K : PySem.W.Frag} {mg : Str → Option Value} {base : Heap} {f f1 f2 f3 f4 f5 f6 f7 f8 f9 : Addr} {fd fd1 fd2 fd3 fd4 fd5 fd6 fd7 fd8 fd9 : FuncData} {k : Nat}
theorem ok_rowsR (F : Fun K "_law_rows_right" "_law_rows_right" sRowsR f fd) (m1 : mg "len" = none) (m2 : mg "range" = none) (m3 : mg "tuple" = none) (m4 : mg "int" = none) (m5 : mg "repr" = none)
    (G1 : FnOk P w K mg base CX0 k f1 fd1 ["m", "size"] (spM 8 okLRow)) (g1 : mg "_law_row" = some (.ref f1)) (kp1 : PySem.W.keepIn K (.ref f1) = true) (b1 : Binds K fd1 ["m", "size"] [])
    (G2 : FnOk P w K mg base CX0 k f2 fd2 ["row", "i"] (spD okEntry)) (g2 : mg "_law_told_entry" = some (.ref f2)) (kp2 : PySem.W.keepIn K (.ref f2) = true) (b2 : Binds K fd2 ["row", "i"] [])
    (G3 : FnOk P w K mg base CX0 k f3 fd3 ["machine", "rows"] (spD okRunOn)) (g3 : mg "run_on" = some (.ref f3)) (kp3 : PySem.W.keepIn K (.ref f3) = true) (b3 : Binds K fd3 ["machine", "rows"] [])
    (G4 : FnOk P w K mg base CX0 k f4 fd4 ["machine", "word"] (spToldBy K)) (g4 : mg "_law_told_by" = some (.ref f4)) (kp4 : PySem.W.keepIn K (.ref f4) = true) (b4 : Binds K fd4 ["machine", "word"] []) :
    Ok1 P w K mg base (k + 1) f fd ["m", "machine"] spRowsR := by
  refine ok1_of F scRowsR (fun vs H Q E h => ?_) (fun cdv A outer s H vs Q E guard hr h => ?_)
  · obtain ⟨m, c, n, x, sz, lv, rfl, _⟩ := h
    rfl
  · obtain ⟨m, c, n, x, sz, lv, rfl, hx, mo, mk, few, q⟩ := h
    refine ⟨_, pss_cons (ps_asg (pe_tup (pa_cons (pe_ix ix_tup (pv 1) pe_int (fun _ _ => rfl)) (pa_cons (pe_callB call_len_seq (by rfl) m1 (by decide +kernel) (pa_cons (pe_ix ix_tup (pv 1) pe_int (fun _ _ => rfl)) pa_nil)) pa_nil))) (pg_tup (by rfl) (pgs_cons (pg_name (i := 2) scRowsR.nd rfl (Or.inr rfl)) (pgs_cons (pg_name (i := 3) scRowsR.nd rfl (Or.inl rfl)) pgs_nil))))
      (pss_cons (ps_set (i := 4) scRowsR.nd rfl (.inr rfl) (pe_callTy tupB (by rfl) m3 (by decide +kernel) (pa_cons (pe_lc (own := [("size", 5)]) (g := gName 5) rfl scRowsR.nd (pi_tup (pv 2)) (blkOk_by (N := nRowsR) (sc := defScope sRowsR) (by decide +kernel))
          (fun _ _ _ _ _ => pg_name (i := 5) scRowsR.nd rfl (Or.inl rfl)) (fun _ _ _ _ _ => pts_nil) (fun _ _ _ _ _ => pe_call G1 hr (by rfl) g1 kp1 b1 .nil pass0 (pa_cons (pv 0) (pa_cons (pv 5) pa_nil)))) pa_nil)))
      (pss_cons (ps_setLc (i := 6) (own := [("t", 7)]) (g := gName 7) rfl scRowsR.nd rfl rfl (sw_true rfl rfl rfl (by decide +kernel)) (pi_range1 (by rfl) m2 (pa_cons (pv 3) pa_nil)) (blkOk_by (N := nRowsR) (sc := defScope sRowsR) (by decide +kernel))
          (fun _ _ _ _ _ => pg_name (i := 7) scRowsR.nd rfl (Or.inl rfl)) (fun _ _ _ _ _ => pts_nil) (fun _ _ _ _ _ => pe_call G2 hr (by rfl) g2 kp2 b2 .nil pass0 (pa_cons (pe_ix (ixTK K rfl) (pv 4) (pe_op op_mod (pe_callTy call_int1 (by rfl) m4 (by decide +kernel) (pa_cons (pv 7) pa_nil)) (pe_callB (lenK K rfl) (by rfl) m1 (by decide +kernel) (pa_cons (pv 2) pa_nil))) (fun _ _ => rfl)) (pa_cons (pe_op op_fdiv (pv 7) (pe_callB (lenK K rfl) (by rfl) m1 (by decide +kernel) (pa_cons (pv 2) pa_nil))) pa_nil))))
      (pss_one (ps_ret (pe_cmpR op_eq (pe_callB (showK K rfl guard hr.units) (by rfl) m5 (by decide +kernel) (pa_cons (pe_call G3 hr (by rfl) g3 kp3 b3 .nil pass0 (pa_cons (pv 1) (pa_cons (pv 4) pa_nil))) pa_nil)) (pe_callB (showK K rfl guard hr.units) (by rfl) m5 (by decide +kernel) (pa_cons (pe_call G4 hr (by rfl) g4 kp4 b4 .nil pass0 (pa_cons (pv 1) (pa_cons (pv 6) pa_nil))) pa_nil)) (nomark _)))))), ?_⟩
    have l1 := mo.l1
    have l6 := mo.l6
    have s1 := mo.s.1
    have s3 := mo.s.2.1
    refine sd_two (D := { nx := _, rt := _ }) (i := 2) (j := 3) (d1 := intsD sz) (d2 := .int ((lv.length : Nat) : Int)) (ed_tup (eds_cons (ed_menu (ed_var rfl hx)) (eds_cons (ed_int (ev_is (ev_lenT (ed_levels (ed_var rfl hx))) (by rw [List.length_map]))) eds_nil)) (by show (2 : Nat) ≤ 100000; decide)) fun u v H1 e1 hu hv => ?_
    cases dt_int hv
    have mk1 := mk.ex e1
    refine qm_asg (D := { nx := _, rt := _ }) (i := 4) (n1 := n + 8 * (sz.map PyData.int).length) (P := fun d => ∃ rws, d = .tuple (rws.map rwD) ∧ RowsOk sz rws) mk1 (em_tupOf (PP := fun ds => EachI (fun k d => IsRow (sz.getD k 0) 3 3 d) sz.length ds) (by
      have z := eml_lcTi (K := K) (m := m) (c := c) (n := n) (t := 8) (ds := sz.map .int) (P := fun k d => IsRow (sz.getD k 0) 3 3 d) (tl := tVar 2) (te := tCall (spM 8 okLRow) [] E0 (tCons (tVar 0) (tCons (tVar 5) tNil))) (vs := [5]) (j := 5) (σ := [some (.ref m), some x, some u, some (.int ((lv.length : Nat) : Int)), none, none, none, none]) (H := H1) (fun H2 e2 => ed_var rfl (rc_tk e2 hu)) (by rw [List.length_map]; omega) (fun _ => rfl) fun i d y H2 e2 hd hy => by
          obtain ⟨s, hs, rfl⟩ := map_at hd
          have es : sz.getD i 0 = s := by rw [List.getD_eq_getElem?_getD, hs]; rfl
          have bs := mo.s.2.2 s (List.mem_of_getElem? hs)
          have li := (List.getElem?_eq_some_iff.mp hs).1
          cases dt_int hy
          rw [es]
          exact em_call (t := 8) (ok := okLRow) (ds := [.int s]) (P := IsRow s 3 3) rfl (fun _ _ => eds_cons (ed_int (ev_var rfl)) eds_nil) ⟨s, rfl, by omega, by omega, rfl⟩ (by omega)
      rw [List.length_map] at z ⊢
      exact z) fun ds pp => by
        obtain ⟨rws, rfl, ok⟩ := rows_key pp
        exact ⟨rws, rfl, ok⟩) fun rv d H2 pd e2 mk2 hrv => ?_
    obtain ⟨rws, rfl, ro⟩ := pd
    have hx2 : Dt H2 x (machD sz lv) := rc_tk ((kin_ex e1).trans e2) hx
    have hu2 := rc_tk e2 hu
    let l : List Int := (List.range lv.length).map fun t => ((rowW sz rws t : Nat) : Int)
    have ll : l.length = lv.length := by simp [l]
    have lat : ∀ t, t < lv.length → l.getD t 0 = ((rowW sz rws t : Nat) : Int) := fun t ht => by simp [l, ht]
    refine q_asgLd (D := { nx := _, rt := _ }) (i := 6) (ds := l.map .int) (eld_is (eld_lcR (n := lv.length) (fun _ => true) (fun t => .int ((rowW sz rws t : Nat) : Int)) (ea_cons (ev_var rfl) ea_nil) (by omega) fun t H3 e3 ht => ?_) ?_) fun p xs H3 e3 hp all => ?_
    · obtain ⟨pr, hpr, pne, wlt, wen⟩ := ro.n mo.s t
      refine turn_name rfl (et_yes rfl) fun _ => ?_
      rw [wen]
      exact ed_call (eds_cons (ed_ix (d := rwD pr) (ed_var rfl (hrv.tk (tk_ex e3))) (ev_modN (rc_int (ev_var rfl)) (ev_lenI (ed_var rfl (hu2.tk (tk_ex e3)))) (by omega)) (atI_nat (by rw [List.getElem?_map, hpr]; rfl))) (eds_cons (ed_int (ev_divN (ev_var rfl) (ev_lenI (ed_var rfl (hu2.tk (tk_ex e3)))) ⟨by omega, by omega⟩)) eds_nil)) ⟨pr.1, pr.2, t / sz.length, rfl, pne, rfl⟩
    · rw [givD_all]
      show _ = ((List.range lv.length).map fun t => ((rowW sz rws t : Nat) : Int)).map PyData.int
      rw [List.map_map]
      rfl
    cases dts_ints all
    obtain ⟨T, tl, Tl⟩ := mo.tells (w := rowW sz rws) fun j => by obtain ⟨_, _, _, h, _⟩ := ro.n mo.s j; exact h
    have dg : ∀ t, t < lv.length → dgs l t = rowW sz rws t := fun t ht => by
      unfold dgs
      rw [lat t ht, Int.toNat_natCast]
    have ixe : ∀ j, j ≤ T → ixF lv 0 0 (dgs l) j = ixF lv 0 0 (rowW sz rws) j := fun j hj => ixF_congr fun b hb => dg b (by omega)
    have tl2 : Tells lv (dgs l) T := ⟨fun j hj => by rw [ixe j (by omega)]; exact tl.on j hj, by rw [ixe T (Nat.le_refl _)]; exact tl.off⟩
    have ee : endD lv (dgs l) T = endD lv (rowW sz rws) T := by
      unfold endD
      rw [ixe T (Nat.le_refl _)]
    have wok : WOk sz 0 l := fun j hj => by
      rw [ll] at hj
      rw [lat j hj, Nat.zero_add]
      obtain ⟨_, _, _, h, _⟩ := ro.n mo.s j
      omega
    have iT := mo.walk mo.in0 (w := rowW sz rws) (c := T) (fun j hj => by rw [Nat.zero_add]; obtain ⟨_, _, _, h, _⟩ := ro.n mo.s j; exact h) (fun j hj => by rw [Nat.zero_add]; exact tl.on j hj)
    rw [Nat.zero_add] at iT
    have fine : Fine 30 3 (endD lv (rowW sz rws) T) := by
      obtain ⟨d, hd⟩ := told_of tl.off
      have so := mo.st T _ iT
      rw [hd] at so
      unfold endD
      rw [hd]
      exact (f_tuple (fa_cons (f_good so) (fa_cons (f_nat (n := T) (by omega)) fa_nil))).up (by decide) (by decide)
    have hx3 := hx2.tk (tk_ex e3)
    have told := ed_toldByL (K := K) (E := E0) (σ := [some (.ref m), some x, some u, some (.int ((lv.length : Nat) : Int)), some rv, none, some (.ref p), none]) (H := H3) (ed_var (i := 1) rfl hx3) (ev_var (i := 6) rfl) hp mo wok (by omega) tl2
    rw [ee] at told
    refine s_ret (v := .bl true) (ev_is (ev_op (ev_showT (ed_call (eds_cons (ed_var rfl hx3) (eds_cons (ed_var rfl (hrv.tk (tk_ex e3))) eds_nil)) ⟨sz, lv, rws, T, rfl, mo, ro, tl, rfl⟩) fine (by decide) (by decide)) (ev_showT told fine (by decide) (by decide)) (rv_eq rfl)) (by simp)) fun H4 e4 => q H4 (((kin_ex e1).trans e2).trans (kin_ex (e3.trans e4))) ((mk2.ex (e3.trans e4)).mono (by rw [List.length_map]; omega))
end
end K10
set_option Elab.async false
set_option linter.all false
set_option maxRecDepth 100000
set_option maxHeartbeats 1000000
namespace K10
open PySem PySem.Spec PyProof.Rows L2 Evl
/-! ### the law -/
theorem f_st {sz : List Int} {lv : List (List St)} {t : Nat} {s : St} (h : StOk sz lv t s) (s3 : sizeN sz t ≤ 3) (c : ((lv.getD (t + 1) []).length : Int) ≤ 4) : Fine 20 2 (stD s) := by
  cases s with
  | told d => exact (f_tuple (fa_cons (f_word (.inr (.inl rfl))) (fa_cons (f_good h) fa_nil))).up (by decide) (by decide)
  | go ns =>
    obtain ⟨_, h2, h3⟩ := h
    exact (f_tuple (fa_cons (f_word (.inr (.inr rfl))) (fa_cons (f_ints (N := 3) (fun x hx => by have := h3 x hx; omega) (by omega)) fa_nil))).up (by decide) (by decide)
theorem f_mach {sz : List Int} {lv : List (List St)} (m : MOk sz lv) : Fine 2000 6 (machD sz lv) := by
  have l6 := m.l6
  have s3 := m.s.2.1
  have lev : ∀ l ∈ lv, Fine 84 3 (levD l) := fun l hl => by
    obtain ⟨t, ht⟩ := List.getElem?_of_mem hl
    have lt := (List.getElem?_eq_some_iff.mp ht).1
    have el : lv.getD t [] = l := by rw [List.getD_eq_getElem?_getD, ht]; rfl
    have c := m.cs t lt
    rw [el] at c
    have c1 : ((lv.getD (t + 1) []).length : Int) ≤ 4 := by
      by_cases z : t + 1 < lv.length
      · have := (m.cs (t + 1) z).2
        omega
      · rw [List.getD_eq_getElem?_getD, List.getElem?_eq_none (by omega)]
        decide
    exact (f_tuple (fa_each (n := 20) (t := 2) fun d hd => by
      obtain ⟨s, hs, rfl⟩ := List.mem_map.mp hd
      obtain ⟨n, hn⟩ := List.getElem?_of_mem hs
      have nt := (List.getElem?_eq_some_iff.mp hn).1
      have so := m.st t n ⟨lt, by rw [el]; exact nt⟩
      have es : sAt lv t n = s := by
        unfold sAt
        rw [el, List.getD_eq_getElem?_getD, hn]
        rfl
      rw [es] at so
      exact f_st so (by have := (m.s.n t).1; omega) c1)).up (by rw [List.length_map]; omega) (by decide)
  exact (f_tuple (fa_cons (f_ints (N := 3) (fun x hx => by have := m.s.2.2 x hx; omega) s3) (fa_cons (f_tuple (fa_each (n := 84) (t := 3) (ds := lv.map levD) fun d hd => by
    obtain ⟨l, hl, rfl⟩ := List.mem_map.mp hd
    exact lev l hl)) fa_nil))).up (by rw [List.length_map]; omega) (by decide)
theorem ev_min2 {σ : L2.St} {H : Hp} {ta tb : TE} {i j : Int} (ha : Ev ta σ H (.int i)) (hb : Ev tb σ H (.int j)) : Ev (tCB (fun xs H Q => ∃ i j, xs = [V.int i, V.int j] ∧ Q (.int (if j < i then j else i)) H) (tCons ta (tCons tb tNil))) σ H (.int (if j < i then j else i)) := fun H1 e Q q =>
  ha H1 e _ fun H2 e2 => hb H2 (e.trans e2) _ fun H3 e3 => ⟨i, j, rfl, q H3 (e2.trans e3)⟩
theorem rv_notB {H : Hp} {a b : Bool} : RV rNotB (.bl a) (.bl b) H (.bl (!decide (a = b))) := fun H1 _ _ q => ⟨a, b, rfl, rfl, q H1 (Ex.refl H1)⟩
theorem words_call {ta : TA} {σ : L2.St} {H : Hp} {E : XK} {sz : List Int} {many : Nat} {Q : List V → Hp → Prop} (ok : SzOk sz) (h5 : many ≤ 5) (h : EvDs ta σ H [intsD sz, .int many])
    (k : ∀ p xs ls H', Ex H H' → H' p = some (.lst xs) → DtAll H' xs (ls.map intsD) → Words sz many ls → Q [.ref p] H') : tCons (tCall spWords [] E ta) tNil σ H Q :=
  h H (Ex.refl H) _ fun vs H1 e1 hvs => by
    obtain ⟨x, y, rfl, hx, hy⟩ := dts2 hvs
    cases dt_int hy
    exact ⟨x, sz, many, rfl, hx, ok, h5, fun p xs ls H2 e2 hp hxs wd => k p xs ls H2 (e1.trans e2) hp hxs wd⟩
section
variable {P : Program} {w : World} {K : PySem.W.Frag} {mg : Str → Option Value} {base : Heap} {f f1 f2 f3 f4 f5 f6 f7 f8 f9 : Addr} {fd fd1 fd2 fd3 fd4 fd5 fd6 fd7 fd8 fd9 : FuncData} {k : Nat}
theorem ok_law (F : Fun K "law" "law" sLaw f fd) (m1 : mg "len" = none) (m2 : mg "range" = none) (m3 : mg "min" = none) (m4 : mg "tuple" = none) (m5 : mg "repr" = none)
    (G1 : FnOk P w K mg base CX0 k f1 fd1 ["script", "k"] (spBegn K)) (g1 : mg "_law_begun" = some (.ref f1)) (kp1 : PySem.W.keepIn K (.ref f1) = true) (b1 : Binds K fd1 ["script", "k"] [])
    (G2 : FnOk P w K mg base CX0 k f2 fd2 ["m", "below"] spDraw) (g2 : mg "_law_draw" = some (.ref f2)) (kp2 : PySem.W.keepIn K (.ref f2) = true) (b2 : Binds K fd2 ["m", "below"] [])
    (G3 : FnOk P w K mg base CX0 k f3 fd3 ["m"] (spM 5 okSizes)) (g3 : mg "_law_sizes" = some (.ref f3)) (kp3 : PySem.W.keepIn K (.ref f3) = true) (b3 : Binds K fd3 ["m"] [])
    (G4 : FnOk P w K mg base CX0 k f4 fd4 ["m", "sizes", "many", "ends"] spMachine) (g4 : mg "_law_machine" = some (.ref f4)) (kp4 : PySem.W.keepIn K (.ref f4) = true) (b4 : Binds K fd4 ["m", "sizes", "many", "ends"] [])
    (G5 : FnOk P w K mg base CX0 k f5 fd5 ["sizes", "many"] spWords) (g5 : mg "_law_words" = some (.ref f5)) (kp5 : PySem.W.keepIn K (.ref f5) = true) (b5 : Binds K fd5 ["sizes", "many"] [])
    (G6 : FnOk P w K mg base CX0 k f6 fd6 ["value"] (spD okMach)) (g6 : mg "is_machine" = some (.ref f6)) (kp6 : PySem.W.keepIn K (.ref f6) = true) (b6 : Binds K fd6 ["value"] [])
    (G7 : FnOk P w K mg base CX0 k f7 fd7 ["machine"] (spD okStates)) (g7 : mg "states_at" = some (.ref f7)) (kp7 : PySem.W.keepIn K (.ref f7) = true) (b7 : Binds K fd7 ["machine"] [])
    (G8 : Ok1 P w K mg base k f8 fd8 ["machine", "word"] spWordR) (g8 : mg "_law_word_right" = some (.ref f8)) (kp8 : PySem.W.keepIn K (.ref f8) = true) (b8 : Binds K fd8 ["machine", "word"] [])
    (G9 : Ok1 P w K mg base k f9 fd9 ["m", "machine", "words"] spTurns) (g9 : mg "_law_turns_right" = some (.ref f9)) (kp9 : PySem.W.keepIn K (.ref f9) = true) (b9 : Binds K fd9 ["m", "machine", "words"] [])
    {fA : Addr} {fdA : FuncData} (GA : Ok1 P w K mg base k fA fdA ["m", "machine"] spRowsR) (gA : mg "_law_rows_right" = some (.ref fA)) (kpA : PySem.W.keepIn K (.ref fA) = true) (bA : Binds K fdA ["m", "machine"] []) :
    Ok1 P w K mg base (k + 1) f fd ["script"] (spLaw K) := by
  refine ok1_of F scLaw (fun vs H Q E h => ?_) (fun cdv A outer s H vs Q E guard hr h => ?_)
  · obtain ⟨a, ns, rfl, _⟩ := h
    rfl
  · obtain ⟨a, ns, rfl, hl, few, q⟩ := h
    refine ⟨_, pss_cons (ps_for PassesOwn.never rfl (pi_range1 (by rfl) m2 (pa_cons pe_int pa_nil)) (pg_name (i := 1) scLaw.nd rfl (Or.inl rfl))
        (pss_cons (ps_set (i := 2) scLaw.nd rfl (.inl rfl) (pe_call G1 hr (by rfl) g1 kp1 b1 .nil pass0 (pa_cons (pv 0) (pa_cons (pv 1) pa_nil))))
        (pss_cons (ps_set (i := 3) scLaw.nd rfl (.inl rfl) (pe_call G3 hr (by rfl) g3 kp3 b3 .nil pass0 (pa_cons (pv 2) pa_nil)))
        (pss_cons (ps_set (i := 4) scLaw.nd rfl (.inl rfl) (pe_call G4 hr (by rfl) g4 kp4 b4 .nil pass0 (pa_cons (pv 2) (pa_cons (pv 3) (pa_cons (pe_op op_add pe_int (pe_call G2 hr (by rfl) g2 kp2 b2 .nil pass0 (pa_cons (pv 2) (pa_cons pe_int pa_nil)))) (pa_cons (pe_lst (pa_cons pe_int (pa_cons pe_int (pa_cons (pe_tup (pa_cons pe_int (pa_cons pe_int pa_nil))) (pa_cons pe_int pa_nil))))) pa_nil))))))
        (pss_cons (ps_par (i := 5) (j := 6) (by rfl) scLaw.nd rfl rfl (by decide) rfl rfl (pa_cons (pe_callB (showK K rfl guard hr.units) (by rfl) m5 (by decide +kernel) (pa_cons (pv 4) pa_nil)) (pa_cons (pe_call G5 hr (by rfl) g5 kp5 b5 .nil pass0 (pa_cons (pv 3) (pa_cons (pe_callB (call_min2 (by rfl)) (by rfl) m3 (by decide +kernel) (pa_cons pe_int (pa_cons (pe_op op_sub (pe_callB call_len_seq (by rfl) m1 (by decide +kernel) (pa_cons (pe_ix ix_tup (pv 4) pe_int (fun _ _ => rfl)) pa_nil)) pe_int) pa_nil))) pa_nil))) pa_nil)) (by rfl))
        (pss_cons (ps_set (i := 7) scLaw.nd rfl (.inl rfl) (pe_callTy tupB (by rfl) m4 (by decide +kernel) (pa_cons (pe_lc (own := [("level", 8)]) (g := gName 8) rfl scLaw.nd (pi_tup (pe_ix ix_tup (pv 4) pe_int (fun _ _ => rfl))) (blkOk_by (N := nLaw) (sc := defScope sLaw) (by decide +kernel))
          (fun _ _ _ _ _ => pg_name (i := 8) scLaw.nd rfl (Or.inl rfl)) (fun _ _ _ _ _ => pts_nil) (fun _ _ _ _ _ => pe_callB (lenK K rfl) (by rfl) m1 (by decide +kernel) (pa_cons (pv 8) pa_nil))) pa_nil)))
        (pss_cons (ps_if (PW.pt (pw_or (pt_cmpR op_notBl (pe_call G6 hr (by rfl) g6 kp6 b6 .nil pass0 (pa_cons (pv 4) pa_nil)) pe_bl (nomark _)) (pw_or1 (pt_cmpR op_ne (pe_callB (showK K rfl guard hr.units) (by rfl) m5 (by decide +kernel) (pa_cons (pe_call G7 hr (by rfl) g7 kp7 b7 .nil pass0 (pa_cons (pv 4) pa_nil)) pa_nil)) (pe_callB (showK K rfl guard hr.units) (by rfl) m5 (by decide +kernel) (pa_cons (pv 7) pa_nil)) (nomark _))))) (pss_one (ps_ret pe_bl)) pss_nil)
        (pss_cons (ps_for PassesOwn.never rfl (pi_list (pv 6)) (pg_name (i := 9) scLaw.nd rfl (Or.inl rfl)) (pss_one (ps_if (pt_not (pt_val (pe_call1 G8 guard hr (by rfl) g8 kp8 b8 (pa_cons (pv 4) (pa_cons (pv 9) pa_nil))))) (pss_one (ps_ret pe_bl)) pss_nil)))
        (pss_one (ps_if (PW.pt (pw_or (pt_not (pt_val (pe_call1 G9 guard hr (by rfl) g9 kp9 b9 (pa_cons (pv 2) (pa_cons (pv 4) (pa_cons (pv 6) pa_nil)))))) (pw_or (pt_not (pt_val (pe_call1 GA guard hr (by rfl) gA kpA bA (pa_cons (pv 2) (pa_cons (pv 4) pa_nil))))) (pw_or1 (pt_cmpR op_ne (pe_callB (showK K rfl guard hr.units) (by rfl) m5 (by decide +kernel) (pa_cons (pv 4) pa_nil)) (pv 5) (nomark _)))))) (pss_one (ps_ret pe_bl)) pss_nil))))))))))
      (pss_one (ps_ret pe_bl)), ?_⟩
    refine q_forR1 (D := { nx := _, rt := _ }) (n := 2) (ea_cons ev_c ea_nil) (by decide) (fun i σ' H' => (∃ z1 z2 z3 z4 z5 z6 z7 z9, σ' = [some (.ref a), z1, z2, z3, z4, z5, z6, z7, none, z9]) ∧ Kin H H') (fun H1 e1 => ⟨⟨_, _, _, _, _, _, _, _, rfl⟩, kin_ex e1⟩) (fun i σ' H' lt p => ?_) (fun σ' H' p => ?_)
    · obtain ⟨⟨z1, z2, z3, z4, z5, z6, z7, z9, rfl⟩, k0⟩ := p
      refine ⟨_, rfl, _, rfl, a, ns, (i : Int), rfl, sq_kin k0 hl, few, by omega, by omega, fun m c H2 e2 mk2 => ?_⟩
      refine qm_asg (D := { nx := _, rt := _, bk := _, ct := _ }) (i := 3) (n1 := 0 + 5) (P := fun d => ∃ sz : List Int, d = intsD sz ∧ SzOk sz) mk2 (em_call (t := 5) (ok := okSizes) (ds := []) rfl (fun _ _ => eds_nil) ⟨rfl, rfl⟩ (by omega)) fun sv d H3 pd e3 mk3 hs => ?_
      obtain ⟨sz, rfl, sok⟩ := pd
      refine ⟨_, rfl, _, rfl, ?_⟩
      refine em_op (P := fun d => ∃ k : Nat, d = .int k ∧ 1 ≤ k ∧ k ≤ 6) (em_of (d := .int 1) (P := fun d => d = .int 1) (fun _ _ => ed_int ev_c) rfl) (em_draw (b := 6) rfl (fun _ _ => ev_c) (by decide) (by decide) (by omega)) (fun x y d e H4 pd pe hx hy => ?_) H3 (Kin.refl _) mk3 _ fun mv d H4 pd e4 mk4 hmv => ?_
      · subst pd
        obtain ⟨z, rfl, z0, z1⟩ := pe
        cases dt_int hx
        cases dt_int hy
        exact ⟨.int (1 + z), ⟨(1 + z).toNat, by congr 1; omega, by omega, by omega⟩, ed_int (ev_op (ev_var rfl) (ev_var rfl) rv_I0)⟩
      obtain ⟨many, rfl, mn1, mn6⟩ := pd
      cases dt_int hmv
      refine (eld_lst (ds := endsD) (eds_cons (ed_int ev_c) (eds_cons (ed_int ev_c) (eds_cons (ed_tup (eds_cons (ed_int ev_c) (eds_cons (ed_int ev_c) eds_nil)) (by show (2 : Nat) ≤ 100000; decide)) (eds_cons (ed_int ev_c) eds_nil)))) (by show (4 : Nat) ≤ 100000; decide)) H4 (Ex.refl _) _ fun p es H5 np e5 hp hes => ?_
      have hs5 : Dt H5 sv (intsD sz) := rc_tk (e4.trans (kin_ex e5)) hs
      refine ⟨m, c, p, _, many, sv, sz, es, rfl, hs5, sok, mn1, mn6, hp, hes, mk4.ex e5, by omega, fun y lv H6 mo len e6 mk6 hy => ?_⟩
      have hs6 := rc_tk e6 hs5
      have fm := f_mach mo
      have l1 := mo.l1
      have l6 := mo.l6
      -- kept and the words
      have emin : Ev (tCB (fun xs H Q => ∃ i j, xs = [V.int i, V.int j] ∧ Q (.int (if j < i then j else i)) H) (tCons (tC (.int 5)) (tCons (tOp (rI0 fun i j => .int (i - j)) (tCB (rLenS K) (tCons (tOp (rIxT K) (tVar 4) (tC (.int 1))) tNil)) (tC (.int 1))) tNil))) [some (.ref a), some (.int (i : Int)), some (.ref m), some sv, some y, z5, z6, z7, none, z9] H6 (.int ((lv.length - 1 : Nat) : Int)) := by
        refine ev_is (ev_min2 ev_c (ev_op (ev_lenT (ed_levels (ed_var rfl hy))) ev_c rv_I0)) (congrArg V.int ?_)
        rw [List.length_map]
        split <;> omega
      refine (ev_showT (K := K) (ed_var (i := 4) rfl hy) fm (by decide) (by decide)) H6 (Ex.refl _) _ fun H7 e7 => ?_
      have sW : EvDs (tCons (tVar 3) (tCons (tCB (fun xs H Q => ∃ i j, xs = [V.int i, V.int j] ∧ Q (.int (if j < i then j else i)) H) (tCons (tC (.int 5)) (tCons (tOp (rI0 fun i j => .int (i - j)) (tCB (rLenS K) (tCons (tOp (rIxT K) (tVar 4) (tC (.int 1))) tNil)) (tC (.int 1))) tNil))) tNil)) [some (.ref a), some (.int (i : Int)), some (.ref m), some sv, some y, z5, z6, z7, none, z9] H6 [intsD sz, .int ((lv.length - 1 : Nat) : Int)] := eds_cons (ed_var rfl hs6) (eds_cons (ed_int emin) eds_nil)
      refine words_call sok (by omega) (fun H1 e1 => sW H1 (e7.trans e1)) fun Wd ws ls H9 e9 hW hws wds => ?_
      refine ⟨_, _, rfl, ?_⟩
      have e69 := e7.trans e9
      have hy9 := hy.tk (tk_ex e69)
      refine q_asgD (D := { nx := _, rt := _, bk := _, ct := _ }) (i := 7) (d := intsD (cntsOf lv)) (ed_tupOf (eld_is (eld_lcT (ds := lv.map levD) (fun _ => true) (fun i => .int (((lv.getD i []).length : Nat) : Int)) (ed_levels (ed_var rfl hy9)) (by rw [List.length_map]; omega) fun i d y H10 e10 hd hy => ?_) ?_)) fun cv H10 e10 hcv => ?_
      · obtain ⟨l, hl, rfl⟩ := map_at hd
        have el : lv.getD i [] = l := by rw [List.getD_eq_getElem?_getD, hl]; rfl
        refine turn_name rfl (et_yes rfl) fun _ => ed_int (ev_is (ev_lenT (ed_var rfl hy)) ?_)
        rw [List.length_map, el]
      · rw [givD_all, List.length_map]
        unfold cntsOf
        apply List.ext_getElem
        · simp
        · intro i h1 h2
          simp only [List.length_map, List.length_range] at h1
          simp [h1]
      have hy10 := hy9.tk (tk_ex e10)
      have fc : Fine 6 1 (intsD (cntsOf lv)) := f_ints (N := 6) (fun x hx => by
        obtain ⟨l, hl, rfl⟩ := List.mem_map.mp hx
        obtain ⟨t, ht⟩ := List.getElem?_of_mem hl
        have lt := (List.getElem?_eq_some_iff.mp ht).1
        have c := mo.cs t lt
        have el : lv.getD t [] = l := by rw [List.getD_eq_getElem?_getD, ht]; rfl
        rw [el] at c
        omega) (by show (lv.map _).length ≤ 6; rw [List.length_map]; exact l6)
      refine q_when (D := { nx := _, rt := _, bk := _, ct := _ }) (b := false) (et_f2 (et_is (et_test (ev_op (bool_ed (ed_call (eds_cons (ed_var rfl hy10) eds_nil) ⟨sz, lv, rfl, mo, rfl⟩)) ev_c rv_notB)) rfl) (et_is (et_neS (ev_showT (ed_call (eds_cons (ed_var rfl hy10) eds_nil) ⟨sz, lv, rfl, by omega, rfl⟩) fc (by decide) (by decide)) (ev_showT (ed_var rfl hcv) fc (by decide) (by decide))) (neS rfl))) (fun z => by cases z) fun _ H11 e11 => ?_
      have e611 := (e69.trans e10).trans e11
      have hy11 := hy.tk (tk_ex e611)
      have hW11 := (e10.trans e11) _ _ hW
      have hws11 := hws.tk (tk_ex (e10.trans e11))
      have mk11 := mk6.ex e611
      have k11 : Kin H H11 := (((((k0.trans (kin_ex e2)).trans e3).trans e4).trans (kin_ex e5)).trans e6).trans (kin_ex e611)
      have ll5 : lv.length - 1 ≤ 5 := by omega
      refine q_forLn (D := { nx := _, rt := _, bk := _, ct := _ }) (ev_var rfl) (SqL.of hW11) (fun j σ' H' => ∃ z9 : Option V, σ' = [some (.ref a), some (.int (i : Int)), some (.ref m), some sv, some y, some (.str (machD sz lv).shown), some (.ref Wd), some cv, none, z9] ∧ Ex H11 H') (fun H12 e12 => ⟨_, rfl, e12⟩) (fun j σ' H' _ p => by obtain ⟨_, _, e⟩ := p; exact SqL.of (e _ _ hW11)) (fun j v σ' H12 hj p => ?_) (fun σ' H12 p => ?_)
      · obtain ⟨z9, rfl, e12⟩ := p
        obtain ⟨d, hd, hv⟩ := dt_mem hws11 (List.mem_of_getElem? hj)
        obtain ⟨l, hl, rfl⟩ := List.mem_map.mp hd
        obtain ⟨wl, wo⟩ := wds.2.2 l hl
        exact ⟨_, rfl, _, rfl, y, v, sz, lv, l, rfl, hy11.tk (tk_ex e12), hv.tk (tk_ex e12), mo, wo, by omega, fun H13 e13 => ⟨true, rfl, iteF ⟨_, rfl, e12.trans e13⟩⟩⟩
      · obtain ⟨z9, rfl, e12⟩ := p
        have hy12 := hy11.tk (tk_ex e12)
        refine ⟨_, rfl, _, rfl, _, rfl, m, c, Wd, _, y, sz, lv, ws, ls, rfl, hy12, mo, e12 _ _ hW11, hws11.tk (tk_ex e12), wds, mk11.ex e12, by omega, fun H13 k13 mk13 => ⟨true, rfl, iteF ?_⟩⟩
        have hy13 := rc_tk k13 hy12
        refine ⟨_, rfl, _, rfl, m, c, _, y, sz, lv, rfl, hy13, mo, mk13, by omega, fun H14 k14 mk14 => ⟨true, rfl, iteF ?_⟩⟩
        have hy14 := rc_tk k14 hy13
        refine (et_is (et_neS (ev_showT (ed_var (i := 4) rfl hy14) fm (by decide) (by decide)) (ev_var (i := 5) rfl)) (neS rfl)) H14 (Ex.refl _) _ fun H15 e15 => iteF ?_
        exact ⟨⟨_, _, _, _, _, _, _, _, rfl⟩, ((k11.trans (kin_ex e12)).trans k13).trans (k14.trans (kin_ex e15))⟩
    · obtain ⟨⟨z1, z2, z3, z4, z5, z6, z7, z9, rfl⟩, k0⟩ := p
      exact s_ret (v := .bl true) ev_c fun H2 _ => q H2
end
end K10
set_option Elab.async false
set_option linter.all false
set_option maxRecDepth 100000
set_option maxHeartbeats 0
namespace K10
open PySem PySem.Spec PyProof.Rows L2 Evl
/-! ### the head: facts by names, the run -/
def d0 : He.DefD := ⟨("is_between", none), "is_between", "is_between", defArgs sBetween, defBody sBetween, defScope sBetween, [], []⟩
def d1 : He.DefD := ⟨("told_entry", none), "told_entry", "told_entry", defArgs sEntry, defBody sEntry, defScope sEntry, [], []⟩
def d2 : He.DefD := ⟨("is_data", none), "is_data", "is_data", defArgs sIsData, defBody sIsData, defScope sIsData, [], []⟩
def d3 : He.DefD := ⟨("_is_menu", none), "_is_menu", "_is_menu", defArgs sIsMenu, defBody sIsMenu, defScope sIsMenu, [], []⟩
def d4 : He.DefD := ⟨("_is_state", none), "_is_state", "_is_state", defArgs sIsState, defBody sIsState, defScope sIsState, [], []⟩
def d5 : He.DefD := ⟨("size_at", none), "size_at", "size_at", defArgs sSizeAt, defBody sSizeAt, defScope sSizeAt, [], []⟩
def d6 : He.DefD := ⟨("is_machine", none), "is_machine", "is_machine", defArgs sIsMach, defBody sIsMach, defScope sIsMach, [], []⟩
def d7 : He.DefD := ⟨("states_at", none), "states_at", "states_at", defArgs sStatesAt, defBody sStatesAt, defScope sStatesAt, [], []⟩
def d8 : He.DefD := ⟨("run_on", none), "run_on", "run_on", defArgs sRunOn, defBody sRunOn, defScope sRunOn, [], []⟩
def d9 : He.DefD := ⟨("_result_at", none), "_result_at", "_result_at", defArgs sResultAt, defBody sResultAt, defScope sResultAt, [], []⟩
def d10 : He.DefD := ⟨("first_reader", none), "first_reader", "first_reader", defArgs sFirst, defBody sFirst, defScope sFirst, [], []⟩
def d11 : He.DefD := ⟨("read", none), "read", "read", defArgs sRead, defBody sRead, defScope sRead, [], []⟩
def d12 : He.DefD := ⟨("read_all", none), "read_all", "read_all", defArgs sReadAll, defBody sReadAll, defScope sReadAll, [], []⟩
def d13 : He.DefD := ⟨("_law_begun", none), "_law_begun", "_law_begun", defArgs sBegun, defBody sBegun, defScope sBegun, [], []⟩
def d14 : He.DefD := ⟨("_law_draw", none), "_law_draw", "_law_draw", defArgs sDraw, defBody sDraw, defScope sDraw, [], []⟩
def d15 : He.DefD := ⟨("_law_of", none), "_law_of", "_law_of", defArgs sOf, defBody sOf, defScope sOf, [], []⟩
def d16 : He.DefD := ⟨("_law_sizes", none), "_law_sizes", "_law_sizes", defArgs sSizes, defBody sSizes, defScope sSizes, [], []⟩
def d17 : He.DefD := ⟨("_law_told_entry", none), "_law_told_entry", "_law_told_entry", defArgs sLEntry, defBody sLEntry, defScope sLEntry, [], []⟩
def d18 : He.DefD := ⟨("_law_machine", none), "_law_machine", "_law_machine", defArgs sMachine, defBody sMachine, defScope sMachine, [], []⟩
def d19 : He.DefD := ⟨("_law_words", none), "_law_words", "_law_words", defArgs sWords, defBody sWords, defScope sWords, [], []⟩
def d20 : He.DefD := ⟨("_law_told_by", none), "_law_told_by", "_law_told_by", defArgs sToldBy, defBody sToldBy, defScope sToldBy, [], []⟩
def d21 : He.DefD := ⟨("_law_result", none), "_law_result", "_law_result", defArgs sResult, defBody sResult, defScope sResult, [], []⟩
def d22 : He.DefD := ⟨("_law_word_right", none), "_law_word_right", "_law_word_right", defArgs sWordR, defBody sWordR, defScope sWordR, [], []⟩
def d23 : He.DefD := ⟨("_law_turns_right", none), "_law_turns_right", "_law_turns_right", defArgs sTurns, defBody sTurns, defScope sTurns, [], []⟩
def d24 : He.DefD := ⟨("_law_row", none), "_law_row", "_law_row", defArgs sRow, defBody sRow, defScope sRow, [], []⟩
def d25 : He.DefD := ⟨("_law_rows_right", none), "_law_rows_right", "_law_rows_right", defArgs sRowsR, defBody sRowsR, defScope sRowsR, [], []⟩
def d26 : He.DefD := ⟨("law", none), "law", "law", defArgs sLaw, defBody sLaw, defScope sLaw, [], []⟩
def fn : List He.DefD := [d0, d1, d2, d3, d4, d5, d6, d7, d8, d9, d10, d11, d12, d13, d14, d15, d16, d17, d18, d19, d20, d21, d22, d23, d24, d25, d26]
def fa : List He.Fa := [.glo "is_between", .glo "told_entry", .glo "is_data", .glo "_is_menu", .glo "_is_state", .glo "size_at", .glo "is_machine", .glo "states_at", .glo "run_on", .glo "_result_at", .glo "first_reader", .glo "read", .glo "read_all", .glo "_law_begun", .glo "_law_draw", .glo "_law_of", .glo "_law_sizes", .glo "_law_told_entry", .glo "_law_machine", .glo "_law_words", .glo "_law_told_by", .glo "_law_result", .glo "_law_word_right", .glo "_law_turns_right", .glo "_law_row", .glo "_law_rows_right", .glo "law", .free "isinstance", .free "int", .free "bool", .free "tuple", .free "len", .free "str", .free "all", .free "sum", .free "enumerate", .free "range", .free "repr", .free "min", .int "MOST_LEVELS" 401, .int "MOST_STATES" 2000, .int "MOST_ROWS" 4]
abbrev R : PySem.W.OpenRow := PySem.W.OpenLaw.row PySem.Challenge.rw_allendless_k59_whole_readers
abbrev hk : PySem.W.Hook := He.hookD 4 fa fn
def ob (s : PySem.W.SharedT) : He.AlD := He.obsDG 4 fa fn (HandSHeadRun.getT s)
theorem ob_eq (s : PySem.W.SharedT) : ob s = hk.obs s.abs := He.obsDG_eq (HandSHeadRun.getT_eq s)
def loose : List PySem.Str := ["MOST_LEVELS", "MOST_STATES", "MOST_ROWS", "is_between", "told_entry", "is_data", "_is_menu", "_is_state", "size_at", "is_machine", "states_at", "run_on", "_result_at", "first_reader", "read", "read_all", "_law_begun", "_law_draw", "_law_of", "_law_sizes", "_law_told_entry", "_law_machine", "_law_words", "_law_told_by", "_law_result", "_law_word_right", "_law_turns_right", "_law_row", "_law_rows_right"]
theorem run (w : World) : HandSHeadRun.RunEq R (PySem.W.view R.prog [34]) hk ob 6000 loose w := by
  intro os
  kernel_rfl
end K10
set_option Elab.async false
set_option linter.all false
set_option maxRecDepth 100000
set_option maxHeartbeats 0
namespace K10
open PySem PySem.Spec PyProof.Rows L2 Evl
theorem facts {P : Program} {w : World} {K : PySem.W.Frag} {h : Heap} {mg : Str → Option Value} {f : Addr} (X : K.In h) (G : h.Ns mainGlobals mg) (hfa : mg ("law" : Str) = some (.ref f)) (c : He.SaysD fa fn K) :
    ∃ fd : FuncData, (∀ (s : Shared) (v : Value), BindsTo s fd ⟨[v], []⟩ [("script", v)]) ∧ ∀ base : Heap, K.In base → base.Ns mainGlobals mg → Ok1 P w K mg base 6 f fd ["script"] (spLaw K) := by
  obtain ⟨fd0, D0⟩ := c.def_ 0 (d := d0) rfl
  have F0 : Fun K "is_between" "is_between" sBetween (He.fAd K d0.at_) fd0 := fun_of D0
  have g0 : mg "is_between" = some (.ref (He.fAd K d0.at_)) := He.glo_ok X G (c.fact 0 (f := .glo "is_between") rfl)
  have b0 : Binds K fd0 ["value", "low", "high"] [] := F0.binds fun _ _ _ _ _ _ us hl => match us, hl with | [_, _, _], _ => rfl
  obtain ⟨fd1, D1⟩ := c.def_ 1 (d := d1) rfl
  have F1 : Fun K "told_entry" "told_entry" sEntry (He.fAd K d1.at_) fd1 := fun_of D1
  have g1 : mg "told_entry" = some (.ref (He.fAd K d1.at_)) := He.glo_ok X G (c.fact 1 (f := .glo "told_entry") rfl)
  have b1 : Binds K fd1 ["row", "i"] [] := F1.binds fun _ _ _ _ _ _ us hl => match us, hl with | [_, _], _ => rfl
  obtain ⟨fd2, D2⟩ := c.def_ 2 (d := d2) rfl
  have F2 : Fun K "is_data" "is_data" sIsData (He.fAd K d2.at_) fd2 := fun_of D2
  have g2 : mg "is_data" = some (.ref (He.fAd K d2.at_)) := He.glo_ok X G (c.fact 2 (f := .glo "is_data") rfl)
  have b2 : Binds K fd2 ["value"] [] := F2.binds fun _ _ _ _ _ _ us hl => match us, hl with | [_], _ => rfl
  obtain ⟨fd3, D3⟩ := c.def_ 3 (d := d3) rfl
  have F3 : Fun K "_is_menu" "_is_menu" sIsMenu (He.fAd K d3.at_) fd3 := fun_of D3
  have g3 : mg "_is_menu" = some (.ref (He.fAd K d3.at_)) := He.glo_ok X G (c.fact 3 (f := .glo "_is_menu") rfl)
  have b3 : Binds K fd3 ["value"] [] := F3.binds fun _ _ _ _ _ _ us hl => match us, hl with | [_], _ => rfl
  obtain ⟨fd4, D4⟩ := c.def_ 4 (d := d4) rfl
  have F4 : Fun K "_is_state" "_is_state" sIsState (He.fAd K d4.at_) fd4 := fun_of D4
  have g4 : mg "_is_state" = some (.ref (He.fAd K d4.at_)) := He.glo_ok X G (c.fact 4 (f := .glo "_is_state") rfl)
  have b4 : Binds K fd4 ["value", "size", "many"] [] := F4.binds fun _ _ _ _ _ _ us hl => match us, hl with | [_, _, _], _ => rfl
  obtain ⟨fd5, D5⟩ := c.def_ 5 (d := d5) rfl
  have F5 : Fun K "size_at" "size_at" sSizeAt (He.fAd K d5.at_) fd5 := fun_of D5
  have g5 : mg "size_at" = some (.ref (He.fAd K d5.at_)) := He.glo_ok X G (c.fact 5 (f := .glo "size_at") rfl)
  have b5 : Binds K fd5 ["menu", "t"] [] := F5.binds fun _ _ _ _ _ _ us hl => match us, hl with | [_, _], _ => rfl
  obtain ⟨fd6, D6⟩ := c.def_ 6 (d := d6) rfl
  have F6 : Fun K "is_machine" "is_machine" sIsMach (He.fAd K d6.at_) fd6 := fun_of D6
  have g6 : mg "is_machine" = some (.ref (He.fAd K d6.at_)) := He.glo_ok X G (c.fact 6 (f := .glo "is_machine") rfl)
  have b6 : Binds K fd6 ["value"] [] := F6.binds fun _ _ _ _ _ _ us hl => match us, hl with | [_], _ => rfl
  obtain ⟨fd7, D7⟩ := c.def_ 7 (d := d7) rfl
  have F7 : Fun K "states_at" "states_at" sStatesAt (He.fAd K d7.at_) fd7 := fun_of D7
  have g7 : mg "states_at" = some (.ref (He.fAd K d7.at_)) := He.glo_ok X G (c.fact 7 (f := .glo "states_at") rfl)
  have b7 : Binds K fd7 ["machine"] [] := F7.binds fun _ _ _ _ _ _ us hl => match us, hl with | [_], _ => rfl
  obtain ⟨fd8, D8⟩ := c.def_ 8 (d := d8) rfl
  have F8 : Fun K "run_on" "run_on" sRunOn (He.fAd K d8.at_) fd8 := fun_of D8
  have g8 : mg "run_on" = some (.ref (He.fAd K d8.at_)) := He.glo_ok X G (c.fact 8 (f := .glo "run_on") rfl)
  have b8 : Binds K fd8 ["machine", "rows"] [] := F8.binds fun _ _ _ _ _ _ us hl => match us, hl with | [_, _], _ => rfl
  obtain ⟨fd9, D9⟩ := c.def_ 9 (d := d9) rfl
  have F9 : Fun K "_result_at" "_result_at" sResultAt (He.fAd K d9.at_) fd9 := fun_of D9
  have g9 : mg "_result_at" = some (.ref (He.fAd K d9.at_)) := He.glo_ok X G (c.fact 9 (f := .glo "_result_at") rfl)
  have b9 : Binds K fd9 ["machine", "t", "n"] [] := F9.binds fun _ _ _ _ _ _ us hl => match us, hl with | [_, _, _], _ => rfl
  obtain ⟨fd10, D10⟩ := c.def_ 10 (d := d10) rfl
  have F10 : Fun K "first_reader" "first_reader" sFirst (He.fAd K d10.at_) fd10 := fun_of D10
  have g10 : mg "first_reader" = some (.ref (He.fAd K d10.at_)) := He.glo_ok X G (c.fact 10 (f := .glo "first_reader") rfl)
  have b10 : Binds K fd10 ["machine"] [] := F10.binds fun _ _ _ _ _ _ us hl => match us, hl with | [_], _ => rfl
  obtain ⟨fd11, D11⟩ := c.def_ 11 (d := d11) rfl
  have F11 : Fun K "read" "read" sRead (He.fAd K d11.at_) fd11 := fun_of D11
  have g11 : mg "read" = some (.ref (He.fAd K d11.at_)) := He.glo_ok X G (c.fact 11 (f := .glo "read") rfl)
  have b11 : Binds K fd11 ["machine", "reader", "digit"] [] := F11.binds fun _ _ _ _ _ _ us hl => match us, hl with | [_, _, _], _ => rfl
  obtain ⟨fd12, D12⟩ := c.def_ 12 (d := d12) rfl
  have F12 : Fun K "read_all" "read_all" sReadAll (He.fAd K d12.at_) fd12 := fun_of D12
  have g12 : mg "read_all" = some (.ref (He.fAd K d12.at_)) := He.glo_ok X G (c.fact 12 (f := .glo "read_all") rfl)
  have b12 : Binds K fd12 ["machine", "reader", "digits"] [] := F12.binds fun _ _ _ _ _ _ us hl => match us, hl with | [_, _, _], _ => rfl
  obtain ⟨fd13, D13⟩ := c.def_ 13 (d := d13) rfl
  have F13 : Fun K "_law_begun" "_law_begun" sBegun (He.fAd K d13.at_) fd13 := fun_of D13
  have g13 : mg "_law_begun" = some (.ref (He.fAd K d13.at_)) := He.glo_ok X G (c.fact 13 (f := .glo "_law_begun") rfl)
  have b13 : Binds K fd13 ["script", "k"] [] := F13.binds fun _ _ _ _ _ _ us hl => match us, hl with | [_, _], _ => rfl
  obtain ⟨fd14, D14⟩ := c.def_ 14 (d := d14) rfl
  have F14 : Fun K "_law_draw" "_law_draw" sDraw (He.fAd K d14.at_) fd14 := fun_of D14
  have g14 : mg "_law_draw" = some (.ref (He.fAd K d14.at_)) := He.glo_ok X G (c.fact 14 (f := .glo "_law_draw") rfl)
  have b14 : Binds K fd14 ["m", "below"] [] := F14.binds fun _ _ _ _ _ _ us hl => match us, hl with | [_, _], _ => rfl
  obtain ⟨fd15, D15⟩ := c.def_ 15 (d := d15) rfl
  have F15 : Fun K "_law_of" "_law_of" sOf (He.fAd K d15.at_) fd15 := fun_of D15
  have g15 : mg "_law_of" = some (.ref (He.fAd K d15.at_)) := He.glo_ok X G (c.fact 15 (f := .glo "_law_of") rfl)
  have b15 : Binds K fd15 ["m", "some"] [] := F15.binds fun _ _ _ _ _ _ us hl => match us, hl with | [_, _], _ => rfl
  obtain ⟨fd16, D16⟩ := c.def_ 16 (d := d16) rfl
  have F16 : Fun K "_law_sizes" "_law_sizes" sSizes (He.fAd K d16.at_) fd16 := fun_of D16
  have g16 : mg "_law_sizes" = some (.ref (He.fAd K d16.at_)) := He.glo_ok X G (c.fact 16 (f := .glo "_law_sizes") rfl)
  have b16 : Binds K fd16 ["m"] [] := F16.binds fun _ _ _ _ _ _ us hl => match us, hl with | [_], _ => rfl
  obtain ⟨fd17, D17⟩ := c.def_ 17 (d := d17) rfl
  have F17 : Fun K "_law_told_entry" "_law_told_entry" sLEntry (He.fAd K d17.at_) fd17 := fun_of D17
  have g17 : mg "_law_told_entry" = some (.ref (He.fAd K d17.at_)) := He.glo_ok X G (c.fact 17 (f := .glo "_law_told_entry") rfl)
  have b17 : Binds K fd17 ["row", "i"] [] := F17.binds fun _ _ _ _ _ _ us hl => match us, hl with | [_, _], _ => rfl
  obtain ⟨fd18, D18⟩ := c.def_ 18 (d := d18) rfl
  have F18 : Fun K "_law_machine" "_law_machine" sMachine (He.fAd K d18.at_) fd18 := fun_of D18
  have g18 : mg "_law_machine" = some (.ref (He.fAd K d18.at_)) := He.glo_ok X G (c.fact 18 (f := .glo "_law_machine") rfl)
  have b18 : Binds K fd18 ["m", "sizes", "many", "ends"] [] := F18.binds fun _ _ _ _ _ _ us hl => match us, hl with | [_, _, _, _], _ => rfl
  obtain ⟨fd19, D19⟩ := c.def_ 19 (d := d19) rfl
  have F19 : Fun K "_law_words" "_law_words" sWords (He.fAd K d19.at_) fd19 := fun_of D19
  have g19 : mg "_law_words" = some (.ref (He.fAd K d19.at_)) := He.glo_ok X G (c.fact 19 (f := .glo "_law_words") rfl)
  have b19 : Binds K fd19 ["sizes", "many"] [] := F19.binds fun _ _ _ _ _ _ us hl => match us, hl with | [_, _], _ => rfl
  obtain ⟨fd20, D20⟩ := c.def_ 20 (d := d20) rfl
  have F20 : Fun K "_law_told_by" "_law_told_by" sToldBy (He.fAd K d20.at_) fd20 := fun_of D20
  have g20 : mg "_law_told_by" = some (.ref (He.fAd K d20.at_)) := He.glo_ok X G (c.fact 20 (f := .glo "_law_told_by") rfl)
  have b20 : Binds K fd20 ["machine", "word"] [] := F20.binds fun _ _ _ _ _ _ us hl => match us, hl with | [_, _], _ => rfl
  obtain ⟨fd21, D21⟩ := c.def_ 21 (d := d21) rfl
  have F21 : Fun K "_law_result" "_law_result" sResult (He.fAd K d21.at_) fd21 := fun_of D21
  have g21 : mg "_law_result" = some (.ref (He.fAd K d21.at_)) := He.glo_ok X G (c.fact 21 (f := .glo "_law_result") rfl)
  have b21 : Binds K fd21 ["machine", "t", "n"] [] := F21.binds fun _ _ _ _ _ _ us hl => match us, hl with | [_, _, _], _ => rfl
  obtain ⟨fd22, D22⟩ := c.def_ 22 (d := d22) rfl
  have F22 : Fun K "_law_word_right" "_law_word_right" sWordR (He.fAd K d22.at_) fd22 := fun_of D22
  have g22 : mg "_law_word_right" = some (.ref (He.fAd K d22.at_)) := He.glo_ok X G (c.fact 22 (f := .glo "_law_word_right") rfl)
  have b22 : Binds K fd22 ["machine", "word"] [] := F22.binds fun _ _ _ _ _ _ us hl => match us, hl with | [_, _], _ => rfl
  obtain ⟨fd23, D23⟩ := c.def_ 23 (d := d23) rfl
  have F23 : Fun K "_law_turns_right" "_law_turns_right" sTurns (He.fAd K d23.at_) fd23 := fun_of D23
  have g23 : mg "_law_turns_right" = some (.ref (He.fAd K d23.at_)) := He.glo_ok X G (c.fact 23 (f := .glo "_law_turns_right") rfl)
  have b23 : Binds K fd23 ["m", "machine", "words"] [] := F23.binds fun _ _ _ _ _ _ us hl => match us, hl with | [_, _, _], _ => rfl
  obtain ⟨fd24, D24⟩ := c.def_ 24 (d := d24) rfl
  have F24 : Fun K "_law_row" "_law_row" sRow (He.fAd K d24.at_) fd24 := fun_of D24
  have g24 : mg "_law_row" = some (.ref (He.fAd K d24.at_)) := He.glo_ok X G (c.fact 24 (f := .glo "_law_row") rfl)
  have b24 : Binds K fd24 ["m", "size"] [] := F24.binds fun _ _ _ _ _ _ us hl => match us, hl with | [_, _], _ => rfl
  obtain ⟨fd25, D25⟩ := c.def_ 25 (d := d25) rfl
  have F25 : Fun K "_law_rows_right" "_law_rows_right" sRowsR (He.fAd K d25.at_) fd25 := fun_of D25
  have g25 : mg "_law_rows_right" = some (.ref (He.fAd K d25.at_)) := He.glo_ok X G (c.fact 25 (f := .glo "_law_rows_right") rfl)
  have b25 : Binds K fd25 ["m", "machine"] [] := F25.binds fun _ _ _ _ _ _ us hl => match us, hl with | [_, _], _ => rfl
  obtain ⟨fd26, D26⟩ := c.def_ 26 (d := d26) rfl
  have F26 : Fun K "law" "law" sLaw (He.fAd K d26.at_) fd26 := fun_of D26
  have g26 : mg "law" = some (.ref (He.fAd K d26.at_)) := He.glo_ok X G (c.fact 26 (f := .glo "law") rfl)
  have b26 : Binds K fd26 ["script"] [] := F26.binds fun _ _ _ _ _ _ us hl => match us, hl with | [_], _ => rfl
  have m_isinstance : mg "isinstance" = none := He.free_ok X G (c.fact 27 (f := .free "isinstance") rfl)
  have m_int : mg "int" = none := He.free_ok X G (c.fact 28 (f := .free "int") rfl)
  have m_bool : mg "bool" = none := He.free_ok X G (c.fact 29 (f := .free "bool") rfl)
  have m_tuple : mg "tuple" = none := He.free_ok X G (c.fact 30 (f := .free "tuple") rfl)
  have m_len : mg "len" = none := He.free_ok X G (c.fact 31 (f := .free "len") rfl)
  have m_str : mg "str" = none := He.free_ok X G (c.fact 32 (f := .free "str") rfl)
  have m_all : mg "all" = none := He.free_ok X G (c.fact 33 (f := .free "all") rfl)
  have m_sum : mg "sum" = none := He.free_ok X G (c.fact 34 (f := .free "sum") rfl)
  have m_enumerate : mg "enumerate" = none := He.free_ok X G (c.fact 35 (f := .free "enumerate") rfl)
  have m_range : mg "range" = none := He.free_ok X G (c.fact 36 (f := .free "range") rfl)
  have m_repr : mg "repr" = none := He.free_ok X G (c.fact 37 (f := .free "repr") rfl)
  have m_min : mg "min" = none := He.free_ok X G (c.fact 38 (f := .free "min") rfl)
  obtain ⟨t0, m_MOST_LEVELS⟩ := He.int_ok X G (c.fact 39 (f := .int "MOST_LEVELS" 401) rfl)
  obtain ⟨t1, m_MOST_STATES⟩ := He.int_ok X G (c.fact 40 (f := .int "MOST_STATES" 2000) rfl)
  obtain ⟨t2, m_MOST_ROWS⟩ := He.int_ok X G (c.fact 41 (f := .int "MOST_ROWS" 4) rfl)
  have e := hfa.symm.trans g26
  cases e
  have ba := FunD.bindsA (ps := ["script"]) D26 fun _ _ _ _ _ _ us hl => match us, hl with | [_], _ => rfl
  refine ⟨fd26, fun s v => ba s [v] rfl, fun base _ _ => ?_⟩
  have G0 := ok_between (P := P) (w := w) (mg := mg) (base0 := base) (k := 0) F0 m_isinstance m_int m_bool
  have G1 := ok_entry (P := P) (w := w) (mg := mg) (base0 := base) (k := 0) F1 m_len
  have G2 := ok_isData (P := P) (w := w) (mg := mg) (base0 := base) (k := 0) F2 m_isinstance m_tuple m_len m_int m_bool
  have G3 := ok_isMenu (P := P) (w := w) (mg := mg) (base0 := base) (k := 1) F3 m_isinstance m_tuple m_len m_all m_MOST_ROWS (G0.mono (by decide)) g0 F0.kp b0
  have G4 := ok_isState (P := P) (w := w) (mg := mg) (base0 := base) (k := 1) F4 m_isinstance m_tuple m_len m_all m_str (G0.mono (by decide)) g0 F0.kp b0 (G2.mono (by decide)) g2 F2.kp b2
  have G5 := ok_sizeAt (P := P) (w := w) (mg := mg) (base0 := base) (k := 0) F5 m_len
  have G6 := ok_isMach (P := P) (w := w) (mg := mg) (base0 := base) (k := 2) F6 m_isinstance m_tuple m_len m_all m_sum m_enumerate m_MOST_LEVELS m_MOST_STATES (G3.mono (by decide)) g3 F3.kp b3 (G4.mono (by decide)) g4 F4.kp b4 (G5.mono (by decide)) g5 F5.kp b5
  have G7 := ok_states (P := P) (w := w) (mg := mg) (base0 := base) (k := 0) F7 m_len m_tuple
  have G8 := ok_runOn (P := P) (w := w) (mg := mg) (base0 := base) (k := 1) F8 m_len (G1.mono (by decide)) g1 F1.kp b1
  have G9 := ok_resultAt (P := P) (w := w) (mg := mg) (base0 := base) (k := 0) F9
  have G10 := ok_first (P := P) (w := w) (mg := mg) (base0 := base) (k := 1) F10  (G9.mono (by decide)) g9 F9.kp b9
  have G11 := ok_read (P := P) (w := w) (mg := mg) (base0 := base) (k := 1) F11  (G9.mono (by decide)) g9 F9.kp b9
  have G12 := ok_readAll (P := P) (w := w) (mg := mg) (base0 := base) (k := 2) F12  (G11.mono (by decide)) g11 F11.kp b11
  have G13 := ok_begun (P := P) (w := w) (mg := mg) (base := base) (k := 0) F13 m_int m_len
  have G14 := ok_draw (P := P) (w := w) (mg := mg) (base := base) (k := 0) F14 m_int m_len
  have G15 := ok_of (P := P) (w := w) (mg := mg) (base := base) (k := 1) F15 m_len (G14.mono (by decide)) g14 F14.kp b14
  have G16 := ok_sizes (P := P) (w := w) (mg := mg) (base0 := base) (k := 2) F16 m_range m_tuple (G14.mono (by decide)) g14 F14.kp b14 (G15.mono (by decide)) g15 F15.kp b15
  have G17 := ok_lentry (P := P) (w := w) (mg := mg) (base0 := base) (k := 0) F17 m_len m_int
  have G18 := ok_machine (P := P) (w := w) (mg := mg) (base0 := base) (k := 2) F18 m_len m_range m_tuple m_int (G14.mono (by decide)) g14 F14.kp b14 (G15.mono (by decide)) g15 F15.kp b15
  have G19 := ok_words (P := P) (w := w) (mg := mg) (base0 := base) (k := 0) F19 m_len m_range m_int
  have G20 := ok_toldBy (P := P) (w := w) (mg := mg) (base0 := base) (k := 0) F20
  have G21 := ok_result (P := P) (w := w) (mg := mg) (base0 := base) (k := 0) F21
  have G22 := ok_wordR (P := P) (w := w) (mg := mg) (base := base) (k := 3) F22 m_len m_repr (G21.mono (by decide)) g21 F21.kp b21 (G10.mono (by decide)) g10 F10.kp b10 (G11.mono (by decide)) g11 F11.kp b11 (G12.mono (by decide)) g12 F12.kp b12
  have G23 := ok_turns (P := P) (w := w) (mg := mg) (base := base) (k := 3) F23 m_range m_repr (G14.mono (by decide)) g14 F14.kp b14 (G15.mono (by decide)) g15 F15.kp b15 (G20.mono (by decide)) g20 F20.kp b20 (G12.mono (by decide)) g12 F12.kp b12
  have G24 := ok_lrow (P := P) (w := w) (mg := mg) (base0 := base) (k := 1) F24 m_range m_tuple (G14.mono (by decide)) g14 F14.kp b14
  have G25 := ok_rowsR (P := P) (w := w) (mg := mg) (base := base) (k := 2) F25 m_len m_range m_tuple m_int m_repr (G24.mono (by decide)) g24 F24.kp b24 (G17.mono (by decide)) g17 F17.kp b17 (G8.mono (by decide)) g8 F8.kp b8 (G20.mono (by decide)) g20 F20.kp b20
  have G26 := ok_law (P := P) (w := w) (mg := mg) (base := base) (k := 5) F26 m_len m_range m_min m_tuple m_repr (G13.mono (by decide)) g13 F13.kp b13 (G14.mono (by decide)) g14 F14.kp b14 (G16.mono (by decide)) g16 F16.kp b16 (G18.mono (by decide)) g18 F18.kp b18 (G19.mono (by decide)) g19 F19.kp b19 (G6.mono (by decide)) g6 F6.kp b6 (G7.mono (by decide)) g7 F7.kp b7 (G22.mono (by decide)) g22 F22.kp b22 (G23.mono (by decide)) g23 F23.kp b23 (G25.mono (by decide)) g25 F25.kp b25
  exact G26
end K10
open PySem PySem.W PySem.Calls PyProof.Rows
theorem PySem.Challenge.cw_allendless_k59_whole_readers_holds : PySem.Challenge.rw_allendless_k59_whole_readers.Holds := by
  w_on; o_law
  refine HandSHeadRun.head_any (r := OpenLaw.row PySem.Challenge.rw_allendless_k59_whole_readers) (q := view (OpenLaw.row PySem.Challenge.rw_allendless_k59_whole_readers).prog [34]) (H := K10.hk) (ob := K10.ob) (M := 6000) (loose := K10.loose) (d := HandSHeadRun.topDef (OpenLaw.row PySem.Challenge.rw_allendless_k59_whole_readers).prog 34) (kwd := []) K10.ob_eq
    (by kernel_rfl) (fun s => by kernel_rfl) K10.run (by kernel_rfl) (by kernel_rfl) (by kernel_rfl) (by rfl) (by first | assumption | decide +kernel) (by decide +kernel) ⟨rfl, rfl, rfl, rfl, rfl, by decide +kernel⟩ ?hw ?hc
  case hw => w_witness2
  case hc =>
    refine K10.walk1E (l := PySem.Challenge.rw_allendless_k59_whole_readers) (n := 63) (k := 6) (x := "script") rfl (by decide) (by kernel_rfl) ⟨rfl, by decide, by decide⟩ ?F
    intro w mg fa h Y G hmg0
    obtain ⟨K, KX, c⟩ := Y
    have hmg : mg ("law" : PySem.Str) = some (.ref fa) := by
      have e : (HandSHeadRun.topDef (OpenLaw.row PySem.Challenge.rw_allendless_k59_whole_readers).prog 34).name = ("law" : PySem.Str) := by kernel_rfl
      rw [← e]
      exact hmg0
    obtain ⟨fd, hb, hF⟩ := K10.facts (P := (PySem.Challenge.rw_allendless_k59_whole_readers).prog) (w := w) KX G hmg c
    exact ⟨K, fd, K10.spLaw K, KX, hb, fun H a ns hl _ hS => ⟨a, ns, rfl, hS, hl, fun _ => rfl⟩, hF⟩

import PyProof.Rows.All
import Wide.All
import OpenK.AllK
import Wide.FinOn
import PySem.Challenge.RW_untaughthelm_k06_rows_and_tables
import HandS.Defaults
import HandS.Flow
import HandS.Ends
import HandS.ForMost
import HandS.Wide
import HandS.Gcd
import HandS.IsInst
import HandS.Deep
import HandS.TupMul
import HandS.FStr
import HandS.Zip
import HandS.Zip0
import HandS.MapObj
import HandS.Star
import HandS.RevTup
import PyProof.ReprRoads
import HandS.Head3
import HandS.HeadHook2
import HandS.EndBits
import HandS.HeadEnd
import PyProof.ReprLen
import PyProof.Rows.ReprOcc
set_option Elab.async false
set_option linter.all false
set_option maxRecDepth 100000
set_option maxHeartbeats 1000000
/-! Calls where no repr is under way: what a def does is said only of such surroundings. -/
namespace Pv
open PySem PySem.Spec PyProof.Rows L2
structure FnG (P : Program) (w : World) (K : W.Frag) (mg : Str → Option Value) (base : Heap) (CX : CXT) (k : Nat) (f : Addr) (fd : FuncData) (ps : List Str) (sp : Sp) : Prop where
  cnt : ∀ vs H Q E, sp vs H Q E → vs.length = ps.length
  go : ∀ {A : Around} {outer : List Env} {s : Shared} {H : Hp} {args : Args} {us : List Value} {vs : List V} {Q : VK} {E : XK}, A.guards = some [] → Room k A → Env0 P w K mg base A outer s H → BindsTo s fd args (ps.zip us) → Vals vs us → sp vs H Q E →
    codeAny (model P w) A (.call (.ref f) args) (CR CX outer P w H s Q E) s
theorem guards_make (A : Around) (C : Addr) (us : List Value) (kw : List (Str × Value)) : (A.under (.builtin "type.__call__" ⟨.ref C :: us, kw⟩)).guards = A.guards := by
  obtain ⟨hd, d, fr, g, u⟩ := A
  cases g with
  | none => rfl
  | some g => first | rfl | simp [Around.under, pushGuards, Code.guards, guardIds]
theorem guards_deeper (A : Around) (env : Env) : (A.deeper env).guards = A.guards := rfl
section
variable {X : Cx} {CX : CXT} {k : Nat} {f C : Addr} {fd : FuncData} {ps : List Str} {sp : Sp} {dvs : List V} {ds : List Value} {E : XK}
theorem run_fnG {pins : List (Addr × Obj)} {σ : L2.St} {H : Hp} {s : Shared} {Q : VK} {us : List Value} {vs : List V} (F : FnG X.prog X.w X.K X.mg X.base CX k f fd ps sp) (gg : X.A.guards = some []) (hr : Room k X.A) (hb : Binds X.K fd ps ds) (hd : Vals dvs ds) (hx : Passes CX X E)
    (I : Inv X pins σ H s) (r : Vals vs us) (h : sp (vs ++ dvs) H Q E) : wpAny (model X.prog X.w) X.A (call (.ref f) us) (EP X pins σ Q) X.xe s := by
  have rr := r.append hd
  have n1 : (us ++ ds).length = ps.length := rr.length.symm.trans (F.cnt _ _ _ _ h)
  refine wpAny_call (codeAny_mono (F.go gg hr I.env0 (hb s us I.kIn n1) rr h) fun res t hq => ?_)
  match res, hq with
  | .error e, hq => exact hx pins σ H s e t I hq
  | .ok (.ret u), hq => exact I.after hq
  | .ok .next, hq => exact hq.elim
  | .ok .brk, hq => exact hq.elim
  | .ok .cont, hq => exact hq.elim
theorem run_makeG {pins : List (Addr × Obj)} {σ : L2.St} {H : Hp} {s : Shared} {Q : VK} {us : List Value} {vs : List V} (M : Mk X.K C f) (F : FnG X.prog X.w X.K X.mg X.base CX k f fd ps sp) (gg : X.A.guards = some []) (hr : Room (k + 1) X.A) (hb : Binds X.K fd ps ds) (hd : Vals dvs ds)
    (hx : Passes CX X E) (I : Inv X pins σ H s) (r : Vals vs us)
    (h : ∀ x dx, H x = none → H dx = none → dx ≠ x → sp (.ref x :: (vs ++ dvs)) (upd (upd H dx (.own x)) x (.ins C dx [])) (fun v H2 => v = .non ∧ Q (.ref x) H2) E) : wpAny (model X.prog X.w) X.A (call (.ref C) us) (EP X pins σ Q) X.xe s := by
  let n := s.heap.objs.size
  have J := Inv.made (C := C) I
  have hs := h (n + 1) n (I.hok.fresh (Nat.le_succ n)) (I.hok.fresh (Nat.le_refl n)) (Nat.ne_of_lt (Nat.lt_succ_self n))
  have rr : Vals (V.ref (n + 1) :: (vs ++ dvs)) (Value.ref (n + 1) :: (us ++ ds)) := .cons rfl (r.append hd)
  have n1 : (Value.ref (n + 1) :: us ++ ds).length = ps.length := rr.length.symm.trans (F.cnt _ _ _ _ hs)
  refine wpAny_call (make_map (f := f) I.kIn M.makes M.init (beq_iff_eq.mp M.fn) (codeAny_mono (F.go (args := ⟨Value.ref (n + 1) :: us, []⟩) (us := Value.ref (n + 1) :: (us ++ ds)) ((guards_make X.A C us []).trans gg) (hr.make C us []) (J.env0.make C us [])
    (hb _ (Value.ref (n + 1) :: us) J.kIn n1) rr hs) fun res t hq => ?_))
  match res, hq with
  | .error e, hq => exact hx pins σ _ _ e t J hq
  | .ok .next, hq => exact hq.elim
  | .ok .brk, hq => exact hq.elim
  | .ok .cont, hq => exact hq.elim
  | .ok (.ret u), hq =>
    obtain ⟨v, H', I', rv, rfl, q⟩ := J.after hq
    exact ⟨rv, ⟨V.ref (n + 1), H', I', rfl, q⟩⟩
end
section
variable {P : Program} {w : World} {K : W.Frag} {mg : Str → Option Value} {base : Heap} {x qual : Str} {params : Arguments} {body : List Stmt} {scope : Scope} {dvs : List V} {kws : List (Str × V)} {f : Addr} {fd : FuncData}
/-- a def by its body -/
theorem fnG_of {CX : CXT} {N ps : List Str} {k : Nat} {sp : Sp} (F : FunD K x qual params body scope dvs kws f fd) (S : FnScope N ps scope) (cnt : ∀ vs H Q E, sp vs H Q E → vs.length = ps.length)
    (run : ∀ (cdv : Value) (A : Around) (outer : List Env) (s : Shared) (H : Hp) (vs : List V) (Q : VK) (E : XK), A.guards = some [] → Room k (A.deeper (envOfC qual scope s.heap.objs.size f cdv)) → sp vs H Q E →
      ∃ t, PSs (cxOf CX P w K mg base N qual scope f cdv A outer s H E) body t ∧ t { nx := fun _ H' => Q .non H', rt := Q } (start N vs) H) : FnG P w K mg base CX (k + 1) f fd ps sp := by
  obtain ⟨oc, od, dV, kV, doc, pm, an, cdv, ct, osl, rfl, lk, hcd, _, _⟩ := F.ex
  refine ⟨cnt, fun {A outer s H args us vs Q E} gg hr e0 hb r hsp => ?_⟩
  have hn := cnt _ _ _ _ hsp
  have st : ∀ b o, base.get? b = some o → s.heap.get? b = some o := fun b o e => (e0.bs b o e).1
  have KX : K.In s.heap := e0.mod.kin.keeps st
  have bd : ∀ y ∈ ps.zip us, scope.names.lookup y.1 = some .local ∨ (scope.names.lookup y.1 = some .cell ∧ ((cellsFrom (s.heap.objs.size + 1) scope.names []).lookup y.1).isSome = true) := by
    rintro ⟨z, v⟩ hz
    rcases S.par z (List.of_mem_zip hz).1 with a | a
    · exact .inl a
    · exact .inr ⟨a, W.cellsFrom_some _ _ _ (.inl a)⟩
  refine codeAny_call_function hr.depth (KX _ _ lk) rfl S.co S.gen rfl (W.codeRec_of KX hcd) (hb _ _ _ _ (wpAny_newFunctionEnv_cells S.kind bd fun env he t1 ic => ?_))
  subst he
  refine ⟨e0.mod.nolimit.keeps (fun b o e => ic.toInCall.keep b o (st b o e)), codeAny_func ?_⟩
  obtain ⟨tt, ht, hq⟩ := run cdv A outer s H vs Q E gg (hr.deeper _) hsp
  have I : Inv (cxOf CX P w K mg base N qual scope f cdv A outer s H E) [] (start N vs) H t1 := inv_start S hr.hd e0 hn r ic
  refine wpAny_mono (ht.run [] t1 (start N vs) H _ I hq) (fun fl t hs => ?_) fun _ _ z => z
  match fl, hs with
  | .ret u, ⟨v, _, H', J, rv, q⟩ => exact ⟨v, H', J.os, J.bare, J.base, J.hok, rv, q⟩
  | .next, ⟨_, H', J, q⟩ => exact ⟨V.non, H', J.os, J.bare, J.base, J.hok, rfl, q⟩
  | .brk, ⟨_, _, _, q⟩ => exact q.elim
  | .cont, ⟨_, _, _, q⟩ => exact q.elim
end
/-- the law's def at the top's heap -/
theorem law_callG {P : Program} {w : World} {K : W.Frag} {mg mb : Str → Option Value} {CX : CXT} {k : Nat} {fa a : Addr} {fd : FuncData} {x : Str} {sp : Sp} {s : Shared} {vs : List Value} {ns : List Int}
    (KX : K.In s.heap) (hns : s.heap.Ns mainGlobals mg) (hb : s.heap.Ns builtinsNs mb) (hbb : ∀ x : Str, x ≠ "__name__" → mb x = bootBuiltins x) (hlim : s.heap.NoLimit) (hg : s.gens = #[])
    (ha : s.heap.get? a = some { cls := .type "list", data := .seq vs.toArray }) (hi : IntsAre vs ns) (hl : ns.length ≤ sizeLine) (hr : Room k callerA)
    (F : ∀ base : Heap, K.In base → base.Ns mainGlobals mg → FnG P w K mg base CX k fa fd [x] sp) (hbind : ∀ (s : Shared) (u : Value), BindsTo s fd ⟨[u], []⟩ [(x, u)])
    (hsp : ∀ H : Hp, Only H → SqL K H a (ns.map V.int) → sp [.ref a] H (fun v _ => v = .bl true) fun _ _ _ => False) (hCX : ∀ H e t, CX [] H s (fun _ _ _ => False) e t → False) :
    codeAny (model P w) callerA (.call (.ref fa) ⟨[.ref a], []⟩) (fun r t => r = .ok (.ret (.bool true)) ∧ OldK s.heap t.heap ∧ t.os = s.os ∧ AllBare t.gens) s := by
  have main : ∀ H : Hp, Only H → SqL K H a (ns.map V.int) → HOk P w H s.heap → (∀ b, b ≠ a → H b = none) → (K.lookup a = none ∨ H a = none) →
      codeAny (model P w) callerA (.call (.ref fa) ⟨[.ref a], []⟩) (fun r t => r = .ok (.ret (.bool true)) ∧ OldK s.heap t.heap ∧ t.os = s.os ∧ AllBare t.gens) s := by
    intro H hO hS ok far nK
    have nsOf : ∀ {b : Addr} {m : Str → Option Value}, s.heap.Ns b m → (hidT s.heap H).Ns b m := by
      rintro b m ⟨o, es, ep, e, d, r⟩
      refine ⟨o, es, ep, hidT_get e (far b fun z => ?_), d, r⟩
      subst z
      rw [ha] at e
      cases e
      exact Data.noConfusion (show Data.seq vs.toArray _ = Data.dict es ep from d)
    have kin : K.In (hidT s.heap H) := fun b o e => by
      refine hidT_get (KX b o e) ?_
      by_cases z : b = a
      · subst z
        rcases nK with z | z
        · rw [z] at e; cases e
        · exact z
      · exact far b z
    have md : Mod K mg (hidT s.heap H) := ⟨kin, nsOf hns, ⟨mb, nsOf hb, hbb⟩, hlim.elim fun mc z => ⟨mc, nsOf z.1, z.2⟩⟩
    have no : ∀ {b : Addr}, b ∈ ([] : List Addr) → False := fun z => by simp at z
    have e0 : Env0 P w K mg (hidT s.heap H) callerA [] s H := ⟨rfl, md, fun _ _ e => of_hidT e, Nat.le_of_eq (hidT_size _ _), trivial, fun _ z => (no z).elim, ok, .of_eq hg⟩
    refine codeAny_mono ((F _ kin (nsOf hns)).go (args := ⟨[.ref a], []⟩) (us := [.ref a]) (vs := [.ref a]) rfl hr e0 (hbind s (.ref a)) (.cons rfl .nil) (hsp H hO hS)) fun r t hq => ?_
    match r, hq with
    | .error e, hq => exact (hCX H e t hq).elim
    | .ok .next, hq => exact hq.elim
    | .ok .brk, hq => exact hq.elim
    | .ok .cont, hq => exact hq.elim
    | .ok (.ret u), ⟨v, H', os, bare, un, ok', rv, q⟩ =>
      have q : v = .bl true := q
      subst q
      have rv : u = Value.bool true := rv
      subst rv
      refine ⟨rfl, OldK.of_keep fun b o e => ?_, os, bare⟩
      rcases hO b with z | ⟨ob, xs, z⟩
      · exact un.keep b o e z (fun y => no y) (by simp)
      · obtain ⟨e1, _⟩ := ok b _ z
        obtain ⟨e2, _⟩ := ok' b _ (un.frzs b ob _ z)
        rw [e] at e1
        cases e1
        exact e2
  have rv := vals_ints hi
  have nv := hi.length
  cases hk : K.lookup a with
  | some o =>
    have e := KX a o hk
    rw [ha] at e
    cases e
    exact main (fun _ => none) (fun _ => .inl rfl) (.inr ⟨_, vs.toArray, _, hk, rfl, rfl, rfl, by rw [List.size_toArray, nv]; exact hl, by simpa using rv⟩) (fun b u z => nomatch (show (none : Option HO) = some u from z)) (fun _ _ => rfl) (.inr rfl)
  | none =>
    let o : HO := .frz { cls := .type "list", data := .seq vs.toArray } (.lst (ns.map V.int))
    have e1 : (fun b => if b = a then some o else none : Hp) a = some o := if_pos rfl
    have e2 : ∀ b, b ≠ a → (fun b => if b = a then some o else none : Hp) b = none := fun b z => if_neg z
    refine main (fun b => if b = a then some o else none) (fun b => ?_) (.inl (.inr ⟨_, e1⟩)) (fun b u z => ?_) e2 (.inl hk)
    · by_cases z : b = a
      · exact .inr ⟨_, _, if_pos z⟩
      · exact .inl (e2 b z)
    · by_cases y : b = a
      · subst y
        have z := e1.symm.trans z
        cases z
        exact ⟨ha, by rw [List.length_map]; exact hl, vs, _, rv, ha⟩
      · have z := (e2 b y).symm.trans z
        cases z
end Pv

set_option Elab.async false
set_option linter.all false
set_option maxRecDepth 100000
set_option maxHeartbeats 1000000
/-! zip and enumerate over lists and tuples, mixed as they come. -/
namespace Pv
open PySem PySem.Spec PyProof.Rows L2
/-- an iterator over a tuple (true) or a list -/
def SIt (b : Bool) (h : Heap) (it l : Addr) (i : Nat) : Prop := match b with
  | true => h.IsTupleIter it l i
  | false => h.IsListIter it l i
def SSq (b : Bool) (h : Heap) (l : Addr) (xs : Array Value) : Prop := match b with
  | true => h.IsTuple l xs
  | false => h.IsList l xs
theorem SIt.ob {b : Bool} {h : Heap} {it l : Addr} {i : Nat} (q : SIt b h it l i) : ∃ o, h.get? it = some o ∧ ∀ v, o.data ≠ .cell v := by
  cases b with
  | true =>
    obtain ⟨o, e, _, d⟩ := q
    exact ⟨o, e, fun v z => by rw [d] at z; cases z⟩
  | false =>
    obtain ⟨o, e, _, d⟩ := q
    exact ⟨o, e, fun v z => by rw [d] at z; cases z⟩
theorem SIt.to {b : Bool} {h h' : Heap} {it l : Addr} {i : Nat} (q : SIt b h it l i) (k : ∀ o, h.get? it = some o → h'.get? it = some o) : SIt b h' it l i := by
  cases b with
  | true =>
    obtain ⟨o, e, r⟩ := q
    exact ⟨o, k o e, r⟩
  | false =>
    obtain ⟨o, e, r⟩ := q
    exact ⟨o, k o e, r⟩
theorem SSq.to {b : Bool} {h h' : Heap} {l : Addr} {xs : Array Value} (q : SSq b h l xs) (k : ∀ o, h.get? l = some o → h'.get? l = some o) : SSq b h' l xs := by
  cases b with
  | true =>
    obtain ⟨o, e, r⟩ := q
    exact ⟨o, k o e, r⟩
  | false =>
    obtain ⟨o, e, r⟩ := q
    exact ⟨o, k o e, r⟩
theorem SSq.lt {b : Bool} {h : Heap} {l : Addr} {xs : Array Value} (q : SSq b h l xs) : l < h.objs.size := by
  cases b with
  | true =>
    obtain ⟨o, e, _⟩ := q
    exact Heap.lt_size e
  | false =>
    obtain ⟨o, e, _⟩ := q
    exact Heap.lt_size e
section
variable {prog : Program} {w : World} {A : Around} {E : Value → Shared → Prop} {s : Shared}
theorem nx_item {b : Bool} {it l : Addr} {i : Nat} {xs : Array Value} {x : Value} {Q : Value → Shared → Prop} (hi : SIt b s.heap it l i) (hl : SSq b s.heap l xs) (hx : xs[i]? = some x)
    (k : ∀ h', SIt b h' it l (i + 1) → Heap.SameBut it s.heap h' → Q x { s with heap := h' }) : wpAny (model prog w) A (Builtin.SmallTypes.nextOf (.ref it)) Q E s := by
  cases b with
  | true => exact RZ.nextOf_tuple_item hi hl hx k
  | false => exact wpAny_nextOf_list_item hi hl hx k
theorem nx_end {b : Bool} {it l : Addr} {i : Nat} {xs : Array Value} {Q : Value → Shared → Prop} (hh : A.handled = none) (hi : SIt b s.heap it l i) (hl : SSq b s.heap l xs) (hx : xs[i]? = none)
    (k : ∀ h' e, Heap.ExtBut it s.heap h' → (∃ o, h'.get? e = some o ∧ o.cls = .type "StopIteration") → E (.ref e) { s with heap := h' }) : wpAny (model prog w) A (Builtin.SmallTypes.nextOf (.ref it)) Q E s := by
  cases b with
  | true => exact RZ.nextOf_tuple_end hh hi hl hx k
  | false => exact wpAny_nextOf_list_end hh hi hl hx k
theorem iter_of {b : Bool} {l : Addr} {xs : Array Value} {Q : Value → Shared → Prop} (hl : SSq b s.heap l xs)
    (k : ∀ t, Q (.ref s.heap.objs.size) { s with heap := s.heap.push { cls := .type (if b then "tuple_iterator" else "list_iterator"), data := .fields #[.ref l, .int 0 0] }, toks := t }) : wpAny (model prog w) A (pyIter (.ref l)) Q E s := by
  cases b with
  | true => exact wpAny_pyIter_tuple hl (k _)
  | false => exact wpAny_pyIter_list hl (k _)
/-- zip's next pair -/
theorem zp_item {b1 b2 : Bool} {zz ti tt j1 j2 c1 c2 : Addr} {n1 n2 : Nat} {as bs : Array Value} {x y p q : Value} {Q : Value → Shared → Prop} (D : ZipApart zz ti tt j1 j2 c1 c2) (gz : IsZip s.heap zz ti tt .none) (gi : IsPair s.heap ti (.ref j1) (.ref j2)) (go : IsPair s.heap tt p q)
    (g1 : SIt b1 s.heap j1 c1 n1) (g2 : SIt b2 s.heap j2 c2 n2) (l1 : SSq b1 s.heap c1 as) (l2 : SSq b2 s.heap c2 bs) (hx : as[n1]? = some x) (hy : bs[n2]? = some y)
    (hQ : ∀ h', IsZip h' zz ti tt (rawInt s.heap.objs.size) → IsPair h' tt x y → SIt b1 h' j1 c1 (n1 + 1) → SIt b2 h' j2 c2 (n2 + 1) → IsPair h' s.heap.objs.size x y → (∀ c o, c ≠ zz → c ≠ tt → c ≠ j1 → c ≠ j2 → s.heap.get? c = some o → h'.get? c = some o) → Q (.ref s.heap.objs.size) { s with heap := h' }) :
    wpAny (model prog w) A (Builtin.«zip.__next__» ⟨[.ref zz], []⟩) (fun fin s' => ∃ v, fin = .done (.ret v) ∧ Q v s') E s := by
  show wpAny _ _ (field (.ref zz) 2 >>= _) _ _ _
  refine wpAny_bind (wpAny_field gz rfl (x := .bool false) rfl ?_)
  show wpAny _ _ (field (.ref zz) 3 >>= _) _ _ _
  refine wpAny_bind (wpAny_field gz rfl (x := .ref ti) rfl ?_)
  refine wpAny_bind (wpAny_seqItems gi rfl ?_)
  show wpAny _ _ (Builtin.SmallTypes.ownedTupleIsFree (.ref zz) >>= _) _ _ _
  refine wpAny_bind ?_
  unfold Builtin.SmallTypes.ownedTupleIsFree
  refine wpAny_bind (wpAny_field gz rfl (x := .none) rfl (wpAny_pure ?_))
  simp only [if_true]
  refine wpAny_bind (wpAny_rule ?_)
  refine wpAny_bind (wpAny_field gz rfl (x := .ref tt) rfl ?_)
  refine wpAny_bind (wpAny_setField_rec gz (by simp) fun ha za sa => ?_)
  replace za : IsZip ha zz ti tt .ellipsis := za
  refine wpAny_bind ?_
  simp only [List.zipIdx_cons, List.zipIdx_nil, List.forIn_cons, List.forIn_nil]
  refine wpAny_bind (wpAny_bind (wpAny_onRaise ?_))
  show wpAny _ _ (Builtin.SmallTypes.nextOf (.ref j1) >>= _) _ _ _
  refine wpAny_bind (nx_item (g1.to fun o z => sa.extBut _ _ D.i1z z) (l1.to fun o z => sa.extBut _ _ D.l1z z) hx fun hb g1b sb => wpAny_pure ?_)
  have gob : IsPair hb tt p q := sb.extBut _ _ D.TOi1 (sa.extBut _ _ D.TOz go)
  refine wpAny_bind (wpAny_seqItems gob rfl ?_)
  refine wpAny_bind (wpAny_updateSeq_pair gob fun hc goc sc => ?_)
  replace goc : IsPair hc tt x q := goc
  refine wpAny_bind (wpAny_letGo (wpAny_pure ?_))
  refine wpAny_bind (wpAny_bind (wpAny_onRaise ?_))
  show wpAny _ _ (Builtin.SmallTypes.nextOf (.ref j2) >>= _) _ _ _
  refine wpAny_bind (nx_item (g2.to fun o z => sc.extBut _ _ D.TOi2.symm (sb.extBut _ _ D.i12.symm (sa.extBut _ _ D.i2z z))) (l2.to fun o z => sc.extBut _ _ D.l2TO (sb.extBut _ _ D.l2i1 (sa.extBut _ _ D.l2z z))) hy fun hd g2d sd => wpAny_pure ?_)
  have god : IsPair hd tt x q := sd.extBut _ _ D.TOi2 goc
  refine wpAny_bind (wpAny_seqItems god rfl ?_)
  refine wpAny_bind (wpAny_updateSeq_pair god fun he goe se => ?_)
  replace goe : IsPair he tt x y := goe
  refine wpAny_bind (wpAny_letGo (wpAny_pure (wpAny_pure ?_)))
  refine wpAny_bind (wpAny_seqItems goe rfl ?_)
  refine wpAny_bind (wpAny_newTuple ?_)
  have sz : he.objs.size = s.heap.objs.size := by rw [se.1, sd.1, sc.1, sb.1, sa.1]
  have ze : IsZip he zz ti tt .ellipsis := se.extBut _ _ D.TOz.symm (sd.extBut _ _ D.i2z.symm (sc.extBut _ _ D.TOz.symm (sb.extBut _ _ D.i1z.symm za)))
  have ke : ∀ c o, c ≠ zz → c ≠ tt → c ≠ j1 → c ≠ j2 → s.heap.get? c = some o → he.get? c = some o := fun c o m1 m2 m3 m4 e => se.extBut _ _ m2 (sd.extBut _ _ m4 (sc.extBut _ _ m2 (sb.extBut _ _ m3 (sa.extBut _ _ m1 e))))
  have g1e : SIt b1 he j1 c1 (n1 + 1) := g1b.to fun o z => se.extBut _ _ D.TOi1.symm (sd.extBut _ _ D.i12 (sc.extBut _ _ D.TOi1.symm z))
  have g2e : SIt b2 he j2 c2 (n2 + 1) := g2d.to fun o z => se.extBut _ _ D.TOi2.symm z
  have zlt : zz < he.objs.size := Heap.lt_size ze
  show wpAny _ _ (Builtin.SmallTypes.ownedTupleHandOut (.ref zz) (.ref he.objs.size) >>= _) _ _ _
  refine wpAny_bind ?_
  unfold Builtin.SmallTypes.ownedTupleHandOut
  have zf : IsZip (he.push { cls := .type "tuple", data := .seq #[x, y] }) zz ti tt .ellipsis := Heap.get?_push_of_some _ ze
  refine wpAny_bind (wpAny_setField_rec zf (by simp) fun hg zg sg => ?_)
  replace zg : IsZip hg zz ti tt (rawInt he.objs.size) := zg
  refine wpAny_setField_rec zg (by simp) fun hi zi si => ?_
  replace zi : IsZip hi zz ti tt (rawInt he.objs.size) := zi
  have up : ∀ c o, c ≠ zz → he.get? c = some o → hi.get? c = some o := fun c o m e => si.extBut _ _ m (sg.extBut _ _ m (Heap.get?_push_of_some _ e))
  have ti' : IsPair hi he.objs.size x y := si.extBut _ _ (Nat.ne_of_gt zlt) (sg.extBut _ _ (Nat.ne_of_gt zlt) (Heap.get?_push_size _ rfl))
  rw [sz] at zi ti'
  refine wpAny_pure ⟨_, rfl, ?_⟩
  show Q (.ref he.objs.size) _
  rw [sz]
  exact hQ hi zi (up _ _ D.TOz goe) (g1e.to fun o e => up _ o D.i1z e) (g2e.to fun o e => up _ o D.i2z e) ti' fun c o m1 m2 m3 m4 e => up c o m1 (ke c o m1 m2 m3 m4 e)
theorem zp_end {b1 b2 : Bool} {zz ti tt j1 j2 c1 c2 : Addr} {n1 n2 : Nat} {as bs : Array Value} {p q : Value} {Q : PySem.Fin → Shared → Prop} (hh : A.handled = none) (D : ZipApart zz ti tt j1 j2 c1 c2) (gz : IsZip s.heap zz ti tt .none) (gi : IsPair s.heap ti (.ref j1) (.ref j2)) (go : IsPair s.heap tt p q)
    (g1 : SIt b1 s.heap j1 c1 n1) (g2 : SIt b2 s.heap j2 c2 n2) (l1 : SSq b1 s.heap c1 as) (l2 : SSq b2 s.heap c2 bs) (hend : as[n1]? = none ∨ bs[n2]? = none)
    (hE : ∀ h' e, (∀ c o, c ≠ zz → c ≠ tt → c ≠ j1 → c ≠ j2 → s.heap.get? c = some o → h'.get? c = some o) → (∃ o, h'.get? e = some o ∧ o.cls = .type "StopIteration") → E (.ref e) { s with heap := h' }) :
    wpAny (model prog w) A (Builtin.«zip.__next__» ⟨[.ref zz], []⟩) Q E s := by
  show wpAny _ _ (field (.ref zz) 2 >>= _) _ _ _
  refine wpAny_bind (wpAny_field gz rfl (x := .bool false) rfl ?_)
  show wpAny _ _ (field (.ref zz) 3 >>= _) _ _ _
  refine wpAny_bind (wpAny_field gz rfl (x := .ref ti) rfl ?_)
  refine wpAny_bind (wpAny_seqItems gi rfl ?_)
  show wpAny _ _ (Builtin.SmallTypes.ownedTupleIsFree (.ref zz) >>= _) _ _ _
  refine wpAny_bind ?_
  unfold Builtin.SmallTypes.ownedTupleIsFree
  refine wpAny_bind (wpAny_field gz rfl (x := .none) rfl (wpAny_pure ?_))
  simp only [if_true]
  refine wpAny_bind (wpAny_rule ?_)
  refine wpAny_bind (wpAny_field gz rfl (x := .ref tt) rfl ?_)
  refine wpAny_bind (wpAny_setField_rec gz (by simp) fun ha za sa => ?_)
  replace za : IsZip ha zz ti tt .ellipsis := za
  refine wpAny_bind ?_
  simp only [List.zipIdx_cons, List.zipIdx_nil, List.forIn_cons, List.forIn_nil]
  refine wpAny_bind (wpAny_bind (wpAny_onRaise ?_))
  show wpAny _ _ (Builtin.SmallTypes.nextOf (.ref j1) >>= _) _ _ _
  cases hx : as[n1]? with
  | none =>
    refine wpAny_bind (nx_end hh (g1.to fun o z => sa.extBut _ _ D.i1z z) (l1.to fun o z => sa.extBut _ _ D.l1z z) hx fun hb e sb ee => ?_)
    obtain ⟨oe, e1, e2⟩ := ee
    have zb : IsZip hb zz ti tt .ellipsis := sb _ _ D.i1z.symm za
    have ne : e ≠ zz := fun z => by
      subst z
      rw [zb] at e1
      cases e1
      simp at e2
    exact wpAny_setField_rec zb (by simp) fun hc _ sc => hE hc e (fun c o m1 _ m3 _ z => sc.extBut _ _ m1 (sb _ _ m3 (sa.extBut _ _ m1 z))) ⟨oe, sc.extBut _ _ ne e1, e2⟩
  | some x =>
    have hy : bs[n2]? = none := hend.resolve_left fun z => by rw [hx] at z; cases z
    refine wpAny_bind (nx_item (g1.to fun o z => sa.extBut _ _ D.i1z z) (l1.to fun o z => sa.extBut _ _ D.l1z z) hx fun hb g1b sb => wpAny_pure ?_)
    have gob : IsPair hb tt p q := sb.extBut _ _ D.TOi1 (sa.extBut _ _ D.TOz go)
    refine wpAny_bind (wpAny_seqItems gob rfl ?_)
    refine wpAny_bind (wpAny_updateSeq_pair gob fun hc goc sc => ?_)
    refine wpAny_bind (wpAny_letGo (wpAny_pure ?_))
    refine wpAny_bind (wpAny_bind (wpAny_onRaise ?_))
    show wpAny _ _ (Builtin.SmallTypes.nextOf (.ref j2) >>= _) _ _ _
    refine wpAny_bind (nx_end hh (g2.to fun o z => sc.extBut _ _ D.TOi2.symm (sb.extBut _ _ D.i12.symm (sa.extBut _ _ D.i2z z))) (l2.to fun o z => sc.extBut _ _ D.l2TO (sb.extBut _ _ D.l2i1 (sa.extBut _ _ D.l2z z))) hy fun hd e sd ee => ?_)
    obtain ⟨oe, e1, e2⟩ := ee
    have zd : IsZip hd zz ti tt .ellipsis := sd _ _ D.i2z.symm (sc.extBut _ _ D.TOz.symm (sb.extBut _ _ D.i1z.symm za))
    have ne : e ≠ zz := fun z => by
      subst z
      rw [zd] at e1
      cases e1
      simp at e2
    exact wpAny_setField_rec zd (by simp) fun he _ se => hE he e (fun c o m1 m2 m3 m4 z => se.extBut _ _ m1 (sd _ _ m4 (sc.extBut _ _ m2 (sb.extBut _ _ m3 (sa.extBut _ _ m1 z))))) ⟨oe, se.extBut _ _ ne e1, e2⟩
theorem zp_nextI {b1 b2 : Bool} {zz ti tt j1 j2 c1 c2 : Addr} {n1 n2 : Nat} {as bs : Array Value} {x y p q : Value} {Q : Option Value → Shared → Prop} (D : ZipApart zz ti tt j1 j2 c1 c2) (gz : IsZip s.heap zz ti tt .none) (gi : IsPair s.heap ti (.ref j1) (.ref j2)) (go : IsPair s.heap tt p q)
    (g1 : SIt b1 s.heap j1 c1 n1) (g2 : SIt b2 s.heap j2 c2 n2) (l1 : SSq b1 s.heap c1 as) (l2 : SSq b2 s.heap c2 bs) (hx : as[n1]? = some x) (hy : bs[n2]? = some y)
    (hQ : ∀ h', IsZip h' zz ti tt (rawInt s.heap.objs.size) → IsPair h' tt x y → SIt b1 h' j1 c1 (n1 + 1) → SIt b2 h' j2 c2 (n2 + 1) → IsPair h' s.heap.objs.size x y → (∀ c o, c ≠ zz → c ≠ tt → c ≠ j1 → c ≠ j2 → s.heap.get? c = some o → h'.get? c = some o) → Q (some (.ref s.heap.objs.size)) { s with heap := h' }) :
    wpAny (model prog w) A (pyNext (.ref zz)) Q E s := by
  have ty : s.TypeIs (.ref zz) "zip" := ⟨_, gz, rfl⟩
  unfold pyNext
  exact wpAny_bind (wpAny_attempt (wpAny_callSpecial?_slot (name := Str.ofString "__next__") ty F.slot_zip_next (wpAny_call_entry F.slot_zip_next ty F.entry_zip_next (zp_item D gz gi go g1 g2 l1 l2 hx hy fun h' a1 a2 a3 a4 a5 a6 => wpAny_pure (hQ h' a1 a2 a3 a4 a5 a6)) (F.args_zip_next_1 _))))
theorem zp_nextE {b1 b2 : Bool} {zz ti tt j1 j2 c1 c2 : Addr} {n1 n2 : Nat} {as bs : Array Value} {p q : Value} {Q : Option Value → Shared → Prop} (hh : A.handled = none) (D : ZipApart zz ti tt j1 j2 c1 c2) (gz : IsZip s.heap zz ti tt .none) (gi : IsPair s.heap ti (.ref j1) (.ref j2)) (go : IsPair s.heap tt p q)
    (g1 : SIt b1 s.heap j1 c1 n1) (g2 : SIt b2 s.heap j2 c2 n2) (l1 : SSq b1 s.heap c1 as) (l2 : SSq b2 s.heap c2 bs) (hend : as[n1]? = none ∨ bs[n2]? = none)
    (hQ : ∀ h', (∀ c o, c ≠ zz → c ≠ tt → c ≠ j1 → c ≠ j2 → s.heap.get? c = some o → h'.get? c = some o) → Q none { s with heap := h' }) : wpAny (model prog w) A (pyNext (.ref zz)) Q E s := by
  have ty : s.TypeIs (.ref zz) "zip" := ⟨_, gz, rfl⟩
  unfold pyNext
  refine wpAny_bind (wpAny_attempt (wpAny_callSpecial?_slot (name := Str.ofString "__next__") ty F.slot_zip_next (wpAny_call_entry F.slot_zip_next ty F.entry_zip_next (zp_end hh D gz gi go g1 g2 l1 l2 hend fun h' e hk he => ?_) (F.args_zip_next_1 _))))
  obtain ⟨o, e1, e2⟩ := he
  refine wpAny_bind (wpAny_isInstance (T := "StopIteration") (b := true) ⟨o, e1, e2⟩ isSubtype_stop ?_)
  exact wpAny_pure (hQ _ hk)
end
/-! ### zip is made -/
abbrev kN (b : Bool) : String := if b then "tuple_iterator" else "list_iterator"
abbrev zq1 (u : String) (h : Heap) (l : Addr) : Heap := h.push { cls := .type u, data := .fields #[.ref l, .int 0 0] }
abbrev zq2 (u v : String) (h : Heap) (l m : Addr) : Heap := zq1 v (zq1 u h l) m
abbrev zq3 (u v : String) (h : Heap) (l m : Addr) : Heap := (zq2 u v h l m).push { cls := .type "tuple", data := .seq #[.ref h.objs.size, .ref (zq1 u h l).objs.size] }
abbrev zq4 (u v : String) (h : Heap) (l m : Addr) : Heap := (zq3 u v h l m).push { cls := .type "tuple", data := .seq #[.none, .none] }
abbrev zq5 (u v : String) (h : Heap) (l m : Addr) : Heap := (zq4 u v h l m).push { cls := .type "zip", data := .fields #[.none, .bool false, .bool false, .ref (zq2 u v h l m).objs.size, .ref (zq3 u v h l m).objs.size] }
theorem meets_zTL (l m : Addr) (as bs : Array Value) : Meets (Builtin.«zip.__new__» ⟨[.type "zip", .ref l, .ref m], []⟩) (fun _ R s => s.heap.IsTuple l as ∧ s.heap.IsList m bs ∧ R (.ok (.ret (.ref (zq4 "tuple_iterator" "list_iterator" s.heap l m).objs.size))) { s with heap := zq5 "tuple_iterator" "list_iterator" s.heap l m }) :=
  .of_wp fun prog w A R s h => by
    obtain ⟨hp, g, d, tk, os⟩ := s
    obtain ⟨q1, q2, h⟩ := h
    have hsub := sub_zip
    have p1 : Heap.IsTuple (Shared.heap ⟨hp, g, d, tk, os⟩) l as := q1
    have p2 : Heap.IsList (Shared.heap ⟨zq1 "tuple_iterator" hp l, g, d, tk, os⟩) m bs := Heap.IsList.push q2 _
    wp_walk using wpAny_pyIter_tuple p1, wpAny_pyIter_list p2
    exact ⟨_, rfl, h⟩
theorem meets_zLT (l m : Addr) (as bs : Array Value) : Meets (Builtin.«zip.__new__» ⟨[.type "zip", .ref l, .ref m], []⟩) (fun _ R s => s.heap.IsList l as ∧ s.heap.IsTuple m bs ∧ R (.ok (.ret (.ref (zq4 "list_iterator" "tuple_iterator" s.heap l m).objs.size))) { s with heap := zq5 "list_iterator" "tuple_iterator" s.heap l m }) :=
  .of_wp fun prog w A R s h => by
    obtain ⟨hp, g, d, tk, os⟩ := s
    obtain ⟨q1, q2, h⟩ := h
    have hsub := sub_zip
    have p1 : Heap.IsList (Shared.heap ⟨hp, g, d, tk, os⟩) l as := q1
    have p2 : Heap.IsTuple (Shared.heap ⟨zq1 "list_iterator" hp l, g, d, tk, os⟩) m bs := Heap.IsTuple.push q2 _
    wp_walk using wpAny_pyIter_list p1, wpAny_pyIter_tuple p2
    exact ⟨_, rfl, h⟩
section
variable {prog : Program} {w : World} {A : Around} {E : Value → Shared → Prop} {s : Shared}
theorem zq_facts (u v : String) (h : Heap) (l m : Addr) : (zq4 u v h l m).objs.size = h.objs.size + 4 ∧ IsZip (zq5 u v h l m) (h.objs.size + 4) (h.objs.size + 2) (h.objs.size + 3) .none ∧ IsPair (zq5 u v h l m) (h.objs.size + 2) (.ref h.objs.size) (.ref (h.objs.size + 1)) ∧ IsPair (zq5 u v h l m) (h.objs.size + 3) .none .none ∧
    (zq5 u v h l m).get? h.objs.size = some { cls := .type u, data := .fields #[.ref l, .int 0 0] } ∧ (zq5 u v h l m).get? (h.objs.size + 1) = some { cls := .type v, data := .fields #[.ref m, .int 0 0] } ∧ ∀ c o, h.get? c = some o → (zq5 u v h l m).get? c = some o := by
  have y1 : (zq1 u h l).objs.size = h.objs.size + 1 := Heap.size_push ..
  have y2 : (zq2 u v h l m).objs.size = h.objs.size + 2 := by rw [Heap.size_push, y1]
  have y3 : (zq3 u v h l m).objs.size = h.objs.size + 3 := by rw [Heap.size_push, y2]
  have y4 : (zq4 u v h l m).objs.size = h.objs.size + 4 := by rw [Heap.size_push, y3]
  have w5 : (zq5 u v h l m).get? (zq4 u v h l m).objs.size = some _ := Heap.get?_push_size _ rfl
  have w4 : (zq5 u v h l m).get? (zq3 u v h l m).objs.size = some _ := Heap.get?_push_of_some _ (Heap.get?_push_size _ rfl)
  have w3 : (zq5 u v h l m).get? (zq2 u v h l m).objs.size = some _ := Heap.get?_push_of_some _ (Heap.get?_push_of_some _ (Heap.get?_push_size _ rfl))
  have w2 : (zq5 u v h l m).get? (zq1 u h l).objs.size = some _ := Heap.get?_push_of_some _ (Heap.get?_push_of_some _ (Heap.get?_push_of_some _ (Heap.get?_push_size _ rfl)))
  have w1 : (zq5 u v h l m).get? h.objs.size = some _ := Heap.get?_push_of_some _ (Heap.get?_push_of_some _ (Heap.get?_push_of_some _ (Heap.get?_push_of_some _ (Heap.get?_push_size _ rfl))))
  rw [y2, y3, y4] at w5
  rw [y3] at w4
  rw [y1, y2] at w3
  rw [y1] at w2
  exact ⟨y4, w5, w3, w4, w1, w2, fun c o e => Heap.get?_push_of_some _ (Heap.get?_push_of_some _ (Heap.get?_push_of_some _ (Heap.get?_push_of_some _ (Heap.get?_push_of_some _ e))))⟩
theorem call_zp {b1 b2 : Bool} {l m : Addr} {as bs : Array Value} {Q : Value → Shared → Prop} (q1 : SSq b1 s.heap l as) (q2 : SSq b2 s.heap m bs)
    (h : ∀ h', IsZip h' (s.heap.objs.size + 4) (s.heap.objs.size + 2) (s.heap.objs.size + 3) .none → IsPair h' (s.heap.objs.size + 2) (.ref s.heap.objs.size) (.ref (s.heap.objs.size + 1)) → IsPair h' (s.heap.objs.size + 3) .none .none → SIt b1 h' s.heap.objs.size l 0 → SIt b2 h' (s.heap.objs.size + 1) m 0 →
      (∀ c o, s.heap.get? c = some o → h'.get? c = some o) → Q (.ref (s.heap.objs.size + 4)) { s with heap := h' }) : wpAny (model prog w) A (call (.type "zip") [.ref l, .ref m]) Q E s := by
  cases b1 with
  | true =>
    cases b2 with
    | true => exact RZ.call_zipT q1 q2 fun h' a1 a2 a3 a4 a5 _ a7 => h h' a1 a2 a3 a4 a5 a7
    | false =>
      obtain ⟨f0, f1, f2, f3, f4, f5, f6⟩ := zq_facts "tuple_iterator" "list_iterator" s.heap l m
      refine callType_new F.called_zip (by decide) (F.typeCall_zip_2 _ _) (F.newCall_zip_2 _ _) (fun obj => F.args_object_init_3 obj _ _) F.entry_zip_new (meets_zTL l m as bs) ⟨q1, q2, ?_⟩
      show _ ∧ _
      rw [f0]
      exact ⟨⟨_, f1, rfl⟩, h _ f1 f2 f3 ⟨_, f4, rfl, rfl⟩ ⟨_, f5, rfl, rfl⟩ f6⟩
  | false =>
    cases b2 with
    | true =>
      obtain ⟨f0, f1, f2, f3, f4, f5, f6⟩ := zq_facts "list_iterator" "tuple_iterator" s.heap l m
      refine callType_new F.called_zip (by decide) (F.typeCall_zip_2 _ _) (F.newCall_zip_2 _ _) (fun obj => F.args_object_init_3 obj _ _) F.entry_zip_new (meets_zLT l m as bs) ⟨q1, q2, ?_⟩
      show _ ∧ _
      rw [f0]
      exact ⟨⟨_, f1, rfl⟩, h _ f1 f2 f3 ⟨_, f4, rfl, rfl⟩ ⟨_, f5, rfl, rfl⟩ f6⟩
    | false => exact call_zip_2 q1 q2 fun h' a1 a2 a3 a4 a5 _ a7 => h h' a1 a2 a3 a4 a5 a7
end
end Pv

set_option Elab.async false
set_option linter.all false
set_option maxRecDepth 100000
set_option maxHeartbeats 1000000
/-! What a loop over zip or enumerate walks. -/
namespace Pv
open PySem PySem.Spec PyProof.Rows L2
/-- a tuple (true) or a list, as it reads -/
def SqB (K : W.Frag) (H : Hp) (b : Bool) (a : Addr) (xs : List V) : Prop := match b with
  | true => SqT K H a xs
  | false => SqL K H a xs
section
variable {X : Cx} {pins : List (Addr × Obj)} {σ : L2.St} {H : Hp} {s : Shared}
theorem sqB_at (I : Inv X pins σ H s) {b : Bool} {a : Addr} {xs : List V} (q : SqB X.K H b a xs) : ∃ its : List Value, Vals xs its ∧ SSq b s.heap a its.toArray := by
  cases b with
  | true =>
    obtain ⟨its, rv, p, _⟩ := I.tuple q
    exact ⟨its, rv, p⟩
  | false =>
    obtain ⟨its, rv, p, _⟩ := I.list q
    exact ⟨its, rv, p.isList⟩
theorem sqB_one (I : Inv X pins σ H s) {b : Bool} {a : Addr} {xs ys : List V} (q : SqB X.K H b a xs) (r : SqB X.K H b a ys) : xs = ys := by
  cases b with
  | true => exact I.tuple_inj q r
  | false => exact I.list_inj q r
end
/-- pairs off two sequences as they stand at each turn -/
def Izz (K : W.Frag) (b1 b2 : Bool) (a c : Addr) : It :=
  ⟨fun i H => ∃ (as cs : List V) (x y : V), SqB K H b1 a as ∧ SqB K H b2 c cs ∧ as[i]? = some x ∧ cs[i]? = some y,
    fun i H v H' => ∃ t x y, v = .ref t ∧ H t = none ∧ H' = upd H t (.tup [x, y]) ∧ (∀ as, SqB K H b1 a as → as[i]? = some x) ∧ ∀ cs, SqB K H b2 c cs → cs[i]? = some y,
    fun i H => ∃ as cs : List V, SqB K H b1 a as ∧ SqB K H b2 c cs ∧ (as.length ≤ i ∨ cs.length ≤ i)⟩
theorem turn_zz {P : Program} {w : World} {K : W.Frag} {elts : List Expr} {kk : Nat} {tpos : Pos} {b1 b2 : Bool} {a c zz ti tt j1 j2 : Addr} (D : ZipApart zz ti tt j1 j2 a c) :
    Turn P w K (.Tuple elts kk tpos) (Izz K b1 b2 a c) [zz, ti, tt, j1, j2] zz (fun i h => IsZip h zz ti tt .none ∧ IsPair h ti (.ref j1) (.ref j2) ∧ (∃ x y, IsPair h tt x y) ∧ SIt b1 h j1 a i ∧ SIt b2 h j2 c i) where
  mem := by simp
  obj := fun i h st d hd => by
    obtain ⟨gz, gi, ⟨x, y, go⟩, g1, g2⟩ := st
    have hd' : d = zz ∨ d = ti ∨ d = tt ∨ d = j1 ∨ d = j2 := by simpa using hd
    rcases hd' with rfl | rfl | rfl | rfl | rfl
    · exact ⟨_, gz, fun v z => nomatch z⟩
    · exact ⟨_, gi, fun v z => nomatch z⟩
    · exact ⟨_, go, fun v z => nomatch z⟩
    · exact g1.ob
    · exact g2.ob
  keep := fun i h h' st k => by
    obtain ⟨gz, gi, ⟨x, y, go⟩, g1, g2⟩ := st
    exact ⟨k zz (by simp) _ gz, k ti (by simp) _ gi, ⟨x, y, k tt (by simp) _ go⟩, g1.to fun o z => k j1 (by simp) o z, g2.to fun o z => k j2 (by simp) o z⟩
  item := by
    intro X hP hw hK hcalm i pins s σ H E I hf st hg
    subst hP hw hK
    obtain ⟨gz, gi, ⟨x0, y0, go⟩, g1, g2⟩ := st
    obtain ⟨as, cs, x, y, qa, qc, ha, hc⟩ := hg
    obtain ⟨is1, rv1, p1⟩ := sqB_at I qa
    obtain ⟨is2, rv2, p2⟩ := sqB_at I qc
    obtain ⟨u1, hu1, ru1⟩ := rv1.get ha
    obtain ⟨u2, hu2, ru2⟩ := rv2.get hc
    have zl : zz < s.heap.objs.size := Heap.lt_size gz
    refine zp_nextI D gz gi go g1 g2 p1 p2 (x := u1) (y := u2) (by simpa using hu1) (by simpa using hu2) fun h' zz' tt' g1' g2' hT hk => ?_
    refine ⟨_, rfl, wpAny_letOwnedTupleGo_zip (s := { s with heap := h' }) zz' fun h2 zz2 sb => ?_⟩
    have hT2 : h2.get? s.heap.objs.size = some { cls := .type "tuple", data := .seq #[u1, u2] } := (sb.2 _ (Nat.ne_of_gt zl)).trans hT
    have new : ObjOk X.prog X.w (upd H s.heap.objs.size (.tup [x, y])) h2 s.heap.objs.size (.tup [x, y]) := ⟨show 2 ≤ sizeLine by decide, [u1, u2], .cons ru1 (.cons ru2 .nil), ⟨_, hT2, rfl, _, rfl⟩⟩
    have far : ∀ d o, d ∉ [zz, ti, tt, j1, j2] → s.heap.get? d = some o → h2.get? d = some o := fun d o hd z => (sb.2 d fun e => hd (by simp [e])).trans (hk d o (fun e => hd (by simp [e])) (fun e => hd (by simp [e])) (fun e => hd (by simp [e])) (fun e => hd (by simp [e])) z)
    have I2 : Inv X pins σ (upd H s.heap.objs.size (.tup [x, y])) { s with heap := h2 } := I.turnedNew (t' := s.toks) (ch := [zz, ti, tt, j1, j2]) far hf (Nat.le_refl _) new
    refine ⟨.ref s.heap.objs.size, _, I2, rfl, ⟨_, x, y, rfl, I.hok.fresh (Nat.le_refl _), rfl, fun l hl => by rw [sqB_one I hl qa]; exact ha, fun l hl => by rw [sqB_one I hl qc]; exact hc⟩, ⟨zz2, (sb.2 _ D.TIz).trans (hk _ _ D.TIz D.TITO D.TIi1 D.TIi2 gi), ⟨u1, u2, (sb.2 _ D.TOz).trans tt'⟩, g1'.to fun o z => (sb.2 _ D.i1z).trans z, g2'.to fun o z => (sb.2 _ D.i2z).trans z⟩, fun d hd => ?_⟩
    have dl : d < s.heap.objs.size := by
      have hd' : d = zz ∨ d = ti ∨ d = tt ∨ d = j1 ∨ d = j2 := by simpa using hd
      rcases hd' with rfl | rfl | rfl | rfl | rfl
      · exact zl
      · exact Heap.lt_size gi
      · exact Heap.lt_size go
      · obtain ⟨_, e, _⟩ := g1.ob
        exact Heap.lt_size e
      · obtain ⟨_, e, _⟩ := g2.ob
        exact Heap.lt_size e
    rw [upd_ne (Nat.ne_of_lt dl)]
    exact (hf d hd).1
  done := by
    intro X hP hw hK hcalm i pins s σ H E I hf st hg
    subst hP hw hK
    obtain ⟨gz, gi, ⟨x0, y0, go⟩, g1, g2⟩ := st
    obtain ⟨as, cs, qa, qc, hend⟩ := hg
    obtain ⟨is1, rv1, p1⟩ := sqB_at I qa
    obtain ⟨is2, rv2, p2⟩ := sqB_at I qc
    have n1 := rv1.length
    have n2 := rv2.length
    have he : is1.toArray[i]? = none ∨ is2.toArray[i]? = none := hend.imp (fun z => by simp; omega) (fun z => by simp; omega)
    exact zp_nextE (I.ok.hd hcalm) D gz gi go g1 g2 p1 p2 he fun h' hk => ⟨rfl, I.turnedL (t' := s.toks) (ch := [zz, ti, tt, j1, j2]) (fun d o hd z => hk d o (fun e => hd (by simp [e])) (fun e => hd (by simp [e])) (fun e => hd (by simp [e])) (fun e => hd (by simp [e])) z) hf⟩
  self := fun A i s Q E st h => wpAny_pyIter_zip st.1 h
def iZz (K : W.Frag) (ta : TA) : TI := fun σ H R => ta σ H fun vs H1 => ∃ b1 b2 a c as cs, vs = [.ref a, .ref c] ∧ SqB K H1 b1 a as ∧ SqB K H1 b2 c cs ∧ R (Izz K b1 b2 a c) H1
theorem pi_zz {X : Cx} {e e2 : Expr} {ta : TA} {p pos tpos : Pos} {elts : List Expr} {kk : Nat} (hg : Gl X "zip") (hm : X.mg "zip" = none) (ha : PA X [e, e2] ta) (hs : starEach [e, e2] X.env = (false, eval e X.env) :: starEach [e2] X.env) (hpl : (backTo pos (starEach [e2] X.env)).any (·.1) = false) :
    PI X (.Tuple elts kk tpos) (.Call (.Name "zip" p) [e, e2] [] pos) (iZz X.K ta) := by
  refine ⟨fun pins s σ H R I h => ?_⟩
  refine Call_ (ld_blt I hg hm PyProof.Rows.boot_zip (PyProof.Rows.callWith_type1 (thn (ha.run pos pins s σ H _ I h) fun us s1 ⟨vs, H1, I1, r1, q1⟩ => ?_) hs hpl))
  obtain ⟨b1, b2, a, c, as, cs, ev, qa, qc, q⟩ := q1
  subst ev
  cases r1 with
  | cons ru r2 =>
  cases r2 with
  | cons rv r3 =>
    cases r3
    cases ru
    cases rv
    obtain ⟨is1, rv1, p1⟩ := sqB_at I1 qa
    obtain ⟨is2, rv2, p2⟩ := sqB_at I1 qc
    refine call_zp p1 p2 fun h' gz gi go g1 g2 hk => wpAny_pyIter_zip gz ?_
    have I2 : Inv X pins σ H1 { s1 with heap := h' } := I1.kept (t' := s1.toks) hk
    refine ⟨s1.heap.objs.size + 4, [s1.heap.objs.size + 4, s1.heap.objs.size + 2, s1.heap.objs.size + 3, s1.heap.objs.size, s1.heap.objs.size + 1], _, _, H1, rfl, I2, turn_zz (W.ktu_apart s1.heap.objs.size a c p1.lt p2.lt), ⟨gz, gi, ⟨_, _, go⟩, g1, g2⟩, fun d hd => ?_, q⟩
    have hle : s1.heap.objs.size ≤ d := by
      have hd' : d = s1.heap.objs.size + 4 ∨ d = s1.heap.objs.size + 2 ∨ d = s1.heap.objs.size + 3 ∨ d = s1.heap.objs.size ∨ d = s1.heap.objs.size + 1 := by simpa using hd
      rcases hd' with e | e | e | e | e
      · rw [e]; exact Nat.le_add_right _ 4
      · rw [e]; exact Nat.le_add_right _ 2
      · rw [e]; exact Nat.le_add_right _ 3
      · rw [e]; exact Nat.le_refl _
      · rw [e]; exact Nat.le_add_right _ 1
    exact I1.fpOk hle (I1.hok.fresh hle)
end Pv

set_option Elab.async false
set_option linter.all false
set_option maxRecDepth 100000
set_option maxHeartbeats 1000000
/-! enumerate over a list or a tuple. -/
namespace Pv
open PySem PySem.Spec PyProof.Rows L2
theorem meets_enT (l : Addr) (xs : Array Value) : Meets (Builtin.«enumerate.__new__» ⟨[.type "enumerate", .ref l], []⟩) (fun _ R s => s.heap.IsTuple l xs ∧ R (.ok (.ret (.ref (zq1 "tuple_iterator" s.heap l).objs.size))) { s with heap := (zq1 "tuple_iterator" s.heap l).push { cls := .type "enumerate", data := .fields #[.none, .bool false, .ref s.heap.objs.size, rawInt 0, .none, .none] } }) :=
  .of_wp fun prog w A R s h => by
    obtain ⟨hp, g, d, tk, os⟩ := s
    obtain ⟨q1, h⟩ := h
    have hsub := sub_enumerate
    have p1 : Heap.IsTuple (Shared.heap ⟨hp, g, d, tk, os⟩) l xs := q1
    wp_walk
    refine wpAny_stack_any fun st => wpAny_pure ?_
    split
    · rename_i c _ _ _ _ _
      cases (c == Value.type "enumerate")
      · wp_walk using wpAny_pyIter_tuple p1
        exact ⟨_, rfl, h⟩
      · wp_walk using wpAny_pyIter_tuple p1
        exact ⟨_, rfl, h⟩
    · wp_walk using wpAny_pyIter_tuple p1
      exact ⟨_, rfl, h⟩
section
variable {prog : Program} {w : World} {A : Around} {E : Value → Shared → Prop} {s : Shared}
theorem call_en {b : Bool} {l : Addr} {xs : Array Value} {Q : Value → Shared → Prop} (q : SSq b s.heap l xs)
    (h : ∀ h', IsEnum h' (s.heap.objs.size + 1) s.heap.objs.size 0 .none → SIt b h' s.heap.objs.size l 0 → (∀ d o, s.heap.get? d = some o → h'.get? d = some o) → Q (.ref (s.heap.objs.size + 1)) { s with heap := h' }) : wpAny (model prog w) A (call (.type "enumerate") [.ref l]) Q E s := by
  cases b with
  | false => exact call_enumerate_list q fun h' a1 a2 _ a4 => h h' a1 a2 a4
  | true =>
    refine callType_new F.called_enumerate (by decide) (F.typeCall_enumerate_1 _) (F.newCall_enumerate_1 _) (fun obj => F.args_object_init_2 obj _) F.entry_enumerate_new (meets_enT l xs) ⟨q, ?_⟩
    have y1 : (zq1 "tuple_iterator" s.heap l).objs.size = s.heap.objs.size + 1 := Heap.size_push ..
    have w2 := Heap.get?_push_size (zq1 "tuple_iterator" s.heap l) (o := { cls := .type "enumerate", data := .fields #[.none, .bool false, .ref s.heap.objs.size, rawInt 0, .none, .none] }) rfl
    rw [y1] at w2
    show _ ∧ _
    rw [y1]
    exact ⟨⟨_, w2, rfl⟩, h _ w2 ⟨_, Heap.get?_push_of_some _ (Heap.get?_push_size _ rfl), rfl, rfl⟩ fun d o e => Heap.get?_push_of_some _ (Heap.get?_push_of_some _ e)⟩
/-- enumerate's next pair -/
theorem en_item {b : Bool} {ee it l : Addr} {i : Nat} {xs : Array Value} {x old : Value} {Q : Value → Shared → Prop} (ge : IsEnum s.heap ee it i old) (gi : SIt b s.heap it l i) (gl : SSq b s.heap l xs) (hx : xs[i]? = some x) (ne : ee ≠ it)
    (hQ : ∀ h', IsEnumOut h' ee it ((i : Int) + 1) x s.heap.objs.size → SIt b h' it l (i + 1) → h'.get? s.heap.objs.size = some { cls := .type "tuple", data := .seq #[.int i s.toks, x] } → (∀ d o, d ≠ ee → d ≠ it → s.heap.get? d = some o → h'.get? d = some o) → Q (.ref s.heap.objs.size) { s with heap := h', toks := s.toks + 1 }) :
    wpAny (model prog w) A (Builtin.«enumerate.__next__» ⟨[.ref ee], []⟩) (fun fin s' => ∃ v, fin = .done (.ret v) ∧ Q v s') E s := by
  obtain ⟨hp, g, d, tk, os⟩ := s
  show wpAny _ _ (field (.ref ee) 2 >>= _) _ _ _
  refine wpAny_bind (wpAny_field ge rfl (x := .ref it) rfl ?_)
  refine wpAny_bind (nx_item gi gl hx fun ha gia sa => ?_)
  replace sa : Heap.SameBut it hp ha := sa
  have gea : IsEnum ha ee it i old := (sa.2 ee ne).trans ge
  show wpAny _ _ (field (.ref ee) 3 >>= _) _ _ ⟨ha, g, d, tk, os⟩
  refine wpAny_bind (wpAny_field gea rfl (x := rawInt i) rfl ?_)
  show wpAny _ _ (field (.ref ee) 4 >>= _) _ _ ⟨ha, g, d, tk, os⟩
  refine wpAny_bind (wpAny_field gea rfl (x := .none) rfl ?_)
  show wpAny _ _ (mkInt i >>= _) _ _ ⟨ha, g, d, tk, os⟩
  refine wpAny_bind (wpAny_mkInt ?_)
  show wpAny _ _ (setField (.ref ee) 3 (rawInt ((i : Int) + 1)) >>= _) _ _ ⟨ha, g, d, tk + 1, os⟩
  refine wpAny_bind (wpAny_setField_rec gea (by simp) fun hb geb sb => ?_)
  replace sb : Heap.SameBut ee ha hb := sb
  replace geb : IsEnum hb ee it ((i : Int) + 1) old := geb
  show wpAny _ _ (setField (.ref ee) 4 .none >>= _) _ _ ⟨hb, g, d, tk + 1, os⟩
  refine wpAny_bind (wpAny_setField_rec geb (by simp) fun hc gec sc => ?_)
  replace sc : Heap.SameBut ee hb hc := sc
  replace gec : IsEnum hc ee it ((i : Int) + 1) old := gec
  show wpAny _ _ (newTuple [.int i tk, x] >>= _) _ _ ⟨hc, g, d, tk + 1, os⟩
  refine wpAny_bind (wpAny_newTuple ?_)
  have ged : IsEnum (hc.push { cls := .type "tuple", data := .seq #[.int i tk, x] }) ee it ((i : Int) + 1) old := Heap.get?_push_of_some _ gec
  generalize hhd : hc.push { cls := .type "tuple", data := .seq #[.int i tk, x] } = hd at ged
  have sz : hc.objs.size = hp.objs.size := by rw [sc.1, sb.1, sa.1]
  have el : ee < hp.objs.size := Heap.lt_size ge
  have td : hd.get? hp.objs.size = some { cls := .type "tuple", data := .seq #[.int i tk, x] } := by
    rw [← hhd, ← sz]
    exact Heap.get?_push_size _ rfl
  have kd : ∀ c o, c ≠ ee → c ≠ it → hp.get? c = some o → hd.get? c = some o := fun c o m1 m2 z => by
    rw [← hhd]
    exact Heap.get?_push_of_some _ (sc.extBut c o m1 (sb.extBut c o m1 (sa.extBut c o m2 z)))
  have gid : SIt b hd it l (i + 1) := by
    rw [← hhd]
    exact gia.to fun o z => Heap.get?_push_of_some _ (sc.extBut _ _ (Ne.symm ne) (sb.extBut _ _ (Ne.symm ne) z))
  show wpAny _ _ (Builtin.SmallTypes.ownedTupleIsFree (.ref ee) >>= _) _ _ ⟨hd, g, d, tk + 1, os⟩
  rw [sz]
  clear hhd gec sc geb sb gea sa gia sz hc hb ha
  refine wpAny_bind ?_
  unfold Builtin.SmallTypes.ownedTupleIsFree
  refine wpAny_bind (wpAny_field ged rfl (x := .none) rfl (wpAny_pure ?_))
  simp only [if_true]
  refine wpAny_bind (wpAny_rule ?_)
  refine wpAny_bind (wpAny_field ged rfl (x := old) rfl ?_)
  refine wpAny_bind (wpAny_setField_rec ged (by simp) fun he gee se => ?_)
  replace se : Heap.SameBut ee hd he := se
  replace gee : IsEnum he ee it ((i : Int) + 1) x := gee
  show wpAny _ _ (Builtin.SmallTypes.ownedTupleHandOut (.ref ee) (.ref hp.objs.size) >>= _) _ _ ⟨he, g, d, tk + 1, os⟩
  refine wpAny_bind ?_
  unfold Builtin.SmallTypes.ownedTupleHandOut
  refine wpAny_bind (wpAny_setField_rec gee (by simp) fun hf gef sf => ?_)
  replace sf : Heap.SameBut ee he hf := sf
  replace gef : IsEnumOut hf ee it ((i : Int) + 1) x hp.objs.size := gef
  refine wpAny_setField_rec gef (by simp) fun hg geg sg => ?_
  replace sg : Heap.SameBut ee hf hg := sg
  replace geg : IsEnumOut hg ee it ((i : Int) + 1) x hp.objs.size := geg
  have up : ∀ c o, c ≠ ee → hd.get? c = some o → hg.get? c = some o := fun c o m z => sg.extBut c o m (sf.extBut c o m (se.extBut c o m z))
  exact wpAny_bind (wpAny_letGo (wpAny_pure ⟨_, rfl, hQ hg geg (gid.to fun o z => up _ o (Ne.symm ne) z) (up _ _ (Nat.ne_of_gt el) td) fun c o m1 m2 z => up c o m1 (kd c o m1 m2 z)⟩))
theorem en_nextI {b : Bool} {ee it l : Addr} {i : Nat} {xs : Array Value} {x old : Value} {Q : Option Value → Shared → Prop} (ge : IsEnum s.heap ee it i old) (gi : SIt b s.heap it l i) (gl : SSq b s.heap l xs) (hx : xs[i]? = some x) (ne : ee ≠ it)
    (hQ : ∀ h', IsEnumOut h' ee it ((i : Int) + 1) x s.heap.objs.size → SIt b h' it l (i + 1) → h'.get? s.heap.objs.size = some { cls := .type "tuple", data := .seq #[.int i s.toks, x] } → (∀ d o, d ≠ ee → d ≠ it → s.heap.get? d = some o → h'.get? d = some o) → Q (some (.ref s.heap.objs.size)) { s with heap := h', toks := s.toks + 1 }) : wpAny (model prog w) A (pyNext (.ref ee)) Q E s := by
  have ty : s.TypeIs (.ref ee) "enumerate" := ⟨_, ge, rfl⟩
  unfold pyNext
  exact wpAny_bind (wpAny_attempt (wpAny_callSpecial?_slot (name := Str.ofString "__next__") ty F.slot_enumerate_next (wpAny_call_entry F.slot_enumerate_next ty F.entry_enumerate_next (en_item ge gi gl hx ne fun h' a1 a2 a3 a4 => wpAny_pure (hQ h' a1 a2 a3 a4)) (F.args_enumerate_next_1 _))))
theorem en_nextE {b : Bool} {ee it l : Addr} {i : Nat} {xs : Array Value} {old : Value} {Q : Option Value → Shared → Prop} (hh : A.handled = none) (ge : IsEnum s.heap ee it i old) (gi : SIt b s.heap it l i) (gl : SSq b s.heap l xs) (hx : xs[i]? = none)
    (hQ : ∀ h', Heap.ExtBut it s.heap h' → Q none { s with heap := h' }) : wpAny (model prog w) A (pyNext (.ref ee)) Q E s := by
  have ty : s.TypeIs (.ref ee) "enumerate" := ⟨_, ge, rfl⟩
  unfold pyNext
  refine wpAny_bind (wpAny_attempt (wpAny_callSpecial?_slot (name := Str.ofString "__next__") ty F.slot_enumerate_next (wpAny_call_entry F.slot_enumerate_next ty F.entry_enumerate_next ?_ (F.args_enumerate_next_1 _))))
  show wpAny _ _ (field (.ref ee) 2 >>= _) _ _ _
  refine wpAny_bind (wpAny_field ge rfl (x := .ref it) rfl ?_)
  refine wpAny_bind (nx_end hh gi gl hx fun h' e eb z => ?_)
  obtain ⟨o, e1, e2⟩ := z
  refine wpAny_bind (wpAny_isInstance (T := "StopIteration") (b := true) ⟨o, e1, e2⟩ isSubtype_stop ?_)
  exact wpAny_pure (hQ _ eb)
end
/-- numbered items off a sequence as it stands at each turn -/
def Ien (K : W.Frag) (b : Bool) (a : Addr) : It :=
  ⟨fun i H => ∃ (as : List V) (x : V), SqB K H b a as ∧ as[i]? = some x, fun i H v H' => ∃ t x, v = .ref t ∧ H t = none ∧ H' = upd H t (.tup [.int (i : Nat), x]) ∧ ∀ as, SqB K H b a as → as[i]? = some x, fun i H => ∃ as : List V, SqB K H b a as ∧ as.length ≤ i⟩
theorem turn_en {P : Program} {w : World} {K : W.Frag} {elts : List Expr} {kk : Nat} {tpos : Pos} (b : Bool) (a ee it : Addr) :
    Turn P w K (.Tuple elts kk tpos) (Ien K b a) [ee, it] ee (fun i h => (∃ old, IsEnum h ee it ((i : Nat) : Int) old) ∧ SIt b h it a i ∧ ee ≠ it) where
  mem := by simp
  obj := fun i h st d hd => by
    obtain ⟨⟨old, ge⟩, gi, _⟩ := st
    have hd' : d = ee ∨ d = it := by simpa using hd
    rcases hd' with rfl | rfl
    · exact ⟨_, ge, fun v z => nomatch z⟩
    · exact gi.ob
  keep := fun i h h' st k => let ⟨⟨old, ge⟩, gi, ne⟩ := st; ⟨⟨old, k ee (by simp) _ ge⟩, gi.to fun o z => k it (by simp) o z, ne⟩
  item := by
    intro X hP hw hK hcalm i pins s σ H E I hf st hg
    subst hP hw hK
    obtain ⟨⟨old, ge⟩, gi, ne⟩ := st
    obtain ⟨as, x, qa, ha⟩ := hg
    obtain ⟨is1, rv1, p1⟩ := sqB_at I qa
    obtain ⟨u1, hu1, ru1⟩ := rv1.get ha
    have el : ee < s.heap.objs.size := Heap.lt_size ge
    have il : it < s.heap.objs.size := by
      obtain ⟨_, e, _⟩ := gi.ob
      exact Heap.lt_size e
    refine en_nextI ge gi p1 (x := u1) (by simpa using hu1) ne fun h' go gi' hT hk => ?_
    refine ⟨_, rfl, wpAny_letOwnedTupleGo_enum (s := { s with heap := h', toks := s.toks + 1 }) go fun h2 ge2 sb => ?_⟩
    have hT2 : h2.get? s.heap.objs.size = some { cls := .type "tuple", data := .seq #[.int i s.toks, u1] } := (sb.2 _ (Nat.ne_of_gt el)).trans hT
    have new : ObjOk X.prog X.w (upd H s.heap.objs.size (.tup [.int (i : Nat), x])) h2 s.heap.objs.size (.tup [.int (i : Nat), x]) := ⟨show 2 ≤ sizeLine by decide, [.int i s.toks, u1], .cons ⟨_, rfl⟩ (.cons ru1 .nil), ⟨_, hT2, rfl, _, rfl⟩⟩
    have far : ∀ d o, d ∉ [ee, it] → s.heap.get? d = some o → h2.get? d = some o := fun d o hd z => (sb.2 d fun e => hd (by simp [e])).trans (hk d o (fun e => hd (by simp [e])) (fun e => hd (by simp [e])) z)
    have I2 : Inv X pins σ (upd H s.heap.objs.size (.tup [.int (i : Nat), x])) { s with heap := h2, toks := s.toks + 1 } := I.turnedNew (ch := [ee, it]) far hf (Nat.le_refl _) new
    refine ⟨.ref s.heap.objs.size, _, I2, rfl, ⟨_, x, rfl, I.hok.fresh (Nat.le_refl _), rfl, fun l hl => by rw [sqB_one I hl qa]; exact ha⟩, ⟨⟨u1, ?_⟩, gi'.to fun o z => (sb.2 it (Ne.symm ne)).trans z, ne⟩, fun d hd => ?_⟩
    · have e1 : ((i + 1 : Nat) : Int) = (i : Int) + 1 := by omega
      rw [e1]
      exact ge2
    · have dl : d < s.heap.objs.size := by
        have hd' : d = ee ∨ d = it := by simpa using hd
        rcases hd' with rfl | rfl
        · exact el
        · exact il
      rw [upd_ne (Nat.ne_of_lt dl)]
      exact (hf d hd).1
  done := by
    intro X hP hw hK hcalm i pins s σ H E I hf st hg
    subst hP hw hK
    obtain ⟨⟨old, ge⟩, gi, ne⟩ := st
    obtain ⟨as, qa, hx⟩ := hg
    obtain ⟨is1, rv1, p1⟩ := sqB_at I qa
    obtain ⟨f0, f1, f2, f3, f4, f5⟩ := hf it (by simp)
    have n1 := rv1.length
    exact en_nextE (I.ok.hd hcalm) ge gi p1 (by simp; omega) fun h' eb => ⟨rfl, I.turned (t' := s.toks) (fun d o hd z => eb d o hd z) f0 f1 f3 f4 f5⟩
  self := fun A i s Q E st h => let ⟨⟨_, ge⟩, _⟩ := st; wpAny_pyIter_enum ge h
def iEn (K : W.Frag) (ta : TA) : TI := fun σ H R => ta σ H fun vs H1 => ∃ b a as, vs = [.ref a] ∧ SqB K H1 b a as ∧ R (Ien K b a) H1
theorem pi_en {X : Cx} {e : Expr} {ta : TA} {p pos tpos : Pos} {elts : List Expr} {kk : Nat} (hg : Gl X "enumerate") (hm : X.mg "enumerate" = none) (ha : PA X [e] ta) (hs : starEach [e] X.env = [(false, eval e X.env)]) :
    PI X (.Tuple elts kk tpos) (.Call (.Name "enumerate" p) [e] [] pos) (iEn X.K ta) := by
  refine ⟨fun pins s σ H R I h => ?_⟩
  refine Call_ (ld_blt I hg hm boot_enumerate (PyProof.Rows.callWith_type1 (thn (ha.run pos pins s σ H _ I h) fun us s1 ⟨vs, H1, I1, r1, q1⟩ => ?_) hs rfl))
  obtain ⟨b, a, as, ev, qa, q⟩ := q1
  subst ev
  cases r1 with
  | cons ru r2 =>
    cases r2
    cases ru
    obtain ⟨is1, rv1, p1⟩ := sqB_at I1 qa
    refine call_en p1 fun h' ge gi hk => wpAny_pyIter_enum ge ?_
    have I2 : Inv X pins σ H1 { s1 with heap := h' } := I1.kept (t' := s1.toks) hk
    refine ⟨s1.heap.objs.size + 1, [s1.heap.objs.size + 1, s1.heap.objs.size], _, _, H1, rfl, I2, turn_en b a (s1.heap.objs.size + 1) s1.heap.objs.size, ⟨⟨.none, ge⟩, gi, Nat.succ_ne_self _⟩, fun d hd => ?_, q⟩
    have hle : s1.heap.objs.size ≤ d := by
      have hd' : d = s1.heap.objs.size + 1 ∨ d = s1.heap.objs.size := by simpa using hd
      rcases hd' with e | e
      · rw [e]; exact Nat.le_add_right _ 1
      · rw [e]; exact Nat.le_refl _
    exact I1.fpOk hle (I1.hok.fresh hle)
end Pv

set_option Elab.async false
set_option linter.all false
set_option maxRecDepth 100000
set_option maxHeartbeats 1000000
/-! zip of a row of sequences. -/
namespace Pv
open PySem PySem.Spec PyProof.Rows L2
section
variable {prog : Program} {w : World} {A : Around} {E : Value → Shared → Prop} {s : Shared}
/-- a loop by an invariant -/
theorem forIn_inv {α β : Type} {f : α → β → Sem (ForInStep β)} {Q : β → Shared → Prop} (J : Nat → β → Shared → Prop) : ∀ {L : List α} {b : β} {s : Shared} (n : Nat), J n b s →
    (∀ (i : Nat) (a : α) (b : β) (s : Shared), L[i]? = some a → J (n + i) b s → wpAny (model prog w) A (f a b) (fun r s' => ∃ b', r = .yield b' ∧ J (n + i + 1) b' s') E s) →
    (∀ b s, J (n + L.length) b s → Q b s) → wpAny (model prog w) A (forIn L b f) Q E s
  | [], b, s, n, h0, _, hq => by
    rw [List.forIn_nil]
    exact wpAny_pure (hq b s h0)
  | a :: L, b, s, n, h0, st, hq => by
    rw [List.forIn_cons]
    refine wpAny_bind (wpAny_mono (st 0 a b s rfl h0) (fun r s' h => ?_) fun _ _ z => z)
    obtain ⟨b', rfl, h⟩ := h
    exact forIn_inv J (n + 1) h (fun i a b s e hj => by
      have := st (i + 1) a b s e (by rw [show n + (i + 1) = n + 1 + i by omega]; exact hj)
      rw [show n + (i + 1) + 1 = n + 1 + i + 1 by omega] at this
      exact this) fun b s hj => hq b s (by rw [List.length_cons, show n + (L.length + 1) = n + 1 + L.length by omega]; exact hj)
/-- the iterators over the sources -/
def mkIts : Heap → List (Bool × Addr) → Heap
  | h, [] => h
  | h, (b, c) :: r => mkIts (h.push { cls := .type (if b then "tuple_iterator" else "list_iterator"), data := .fields #[.ref c, .int 0 0] }) r
theorem mkIts_keep : ∀ {src : List (Bool × Addr)} {h : Heap} {c : Addr} {o : Obj}, h.get? c = some o → (mkIts h src).get? c = some o
  | [], _, _, _, e => e
  | (_, _) :: r, _, _, _, e => mkIts_keep (src := r) (Heap.get?_push_of_some _ e)
theorem mkIts_size : ∀ {src : List (Bool × Addr)} {h : Heap}, (mkIts h src).objs.size = h.objs.size + src.length
  | [], _ => rfl
  | (_, _) :: r, h => by
    unfold mkIts
    rw [mkIts_size (src := r), Heap.size_push, List.length_cons]
    omega
theorem mkIts_at : ∀ {src : List (Bool × Addr)} {h : Heap} {k : Nat} {b : Bool} {c : Addr}, src[k]? = some (b, c) → SIt b (mkIts h src) (h.objs.size + k) c 0
  | [], _, _, _, _, e => by simp at e
  | (b, c) :: r, h, 0, _, _, e => by
    cases e
    cases b with
    | true => exact ⟨_, mkIts_keep (src := r) (Heap.get?_push_size _ rfl), rfl, rfl⟩
    | false => exact ⟨_, mkIts_keep (src := r) (Heap.get?_push_size _ rfl), rfl, rfl⟩
  | (b, c) :: r, h, k + 1, b', c', e => by
    have := mkIts_at (src := r) (h := h.push { cls := .type (if b then "tuple_iterator" else "list_iterator"), data := .fields #[.ref c, .int 0 0] }) (k := k) (b := b') (c := c') e
    rw [Heap.size_push, show h.objs.size + 1 + k = h.objs.size + (k + 1) by omega] at this
    exact this
abbrev jsOf (B n : Nat) : List Value := (List.range n).map fun k => Value.ref (B + k)
theorem iterAll_src {src : List (Bool × Addr)} {Q : List Value → Shared → Prop} (hs : ∀ p ∈ src, ∃ xs, SSq p.1 s.heap p.2 xs)
    (k : ∀ t, Q (jsOf s.heap.objs.size src.length) { s with heap := mkIts s.heap src, toks := t }) : wpAny (model prog w) A (Builtin.SmallTypes.iterAll (src.map fun p => .ref p.2)) Q E s := by
  unfold Builtin.SmallTypes.iterAll
  refine wpAny_bind (forIn_inv (fun i (b : Array Value) s' => b.toList = jsOf s.heap.objs.size i ∧ ∃ t, s' = { s with heap := mkIts s.heap (src.take i), toks := t }) 0 ⟨rfl, _, rfl⟩ (fun i a b s' e hj => ?_) fun b s' hj => ?_)
  · rw [Nat.zero_add] at hj ⊢
    obtain ⟨hb, t, rfl⟩ := hj
    rw [List.getElem?_map] at e
    cases q : src[i]? with
    | none => rw [q] at e; cases e
    | some p =>
      rw [q] at e
      cases e
      obtain ⟨xs, hx⟩ := hs p (List.mem_of_getElem? q)
      have hi : i < src.length := (List.getElem?_eq_some_iff.mp q).1
      refine wpAny_bind (wpAny_holding (iter_of (hx.to fun o z => mkIts_keep z) fun t' => wpAny_pure ⟨_, rfl, ?_, t', ?_⟩))
      · rw [Array.toList_push, hb, mkIts_size, List.length_take, Nat.min_eq_left (Nat.le_of_lt hi)]
        simp [jsOf, List.range_succ]
      · have e2 : src.take (i + 1) = src.take i ++ [p] := by rw [List.take_succ, q]; rfl
        have app : ∀ (l : List (Bool × Addr)) (h : Heap), mkIts h (l ++ [p]) = (mkIts h l).push { cls := .type (if p.1 then "tuple_iterator" else "list_iterator"), data := .fields #[.ref p.2, .int 0 0] } := by
          intro l
          induction l with
          | nil => intro h; rfl
          | cons a l ih => intro h; obtain ⟨b, c⟩ := a; exact ih _
        rw [e2, app]
  · rw [Nat.zero_add, List.length_map] at hj
    obtain ⟨hb, t, rfl⟩ := hj
    refine wpAny_pure ?_
    rw [hb, List.take_length]
    exact k t
end
end Pv

set_option Elab.async false
set_option linter.all false
set_option maxRecDepth 100000
set_option maxHeartbeats 1000000
namespace Pv
open PySem PySem.Spec PyProof.Rows L2
theorem typeCall_zipN : ∀ {vs : List Value}, vs.length ≤ 12 → checkTypeCall "zip" ⟨vs, []⟩ = pure ()
  | [], _ => by kernel_rfl
  | [_], _ => by kernel_rfl
  | [_, _], _ => by kernel_rfl
  | [_, _, _], _ => by kernel_rfl
  | [_, _, _, _], _ => by kernel_rfl
  | [_, _, _, _, _], _ => by kernel_rfl
  | [_, _, _, _, _, _], _ => by kernel_rfl
  | [_, _, _, _, _, _, _], _ => by kernel_rfl
  | [_, _, _, _, _, _, _, _], _ => by kernel_rfl
  | [_, _, _, _, _, _, _, _, _], _ => by kernel_rfl
  | [_, _, _, _, _, _, _, _, _, _], _ => by kernel_rfl
  | [_, _, _, _, _, _, _, _, _, _, _], _ => by kernel_rfl
  | [_, _, _, _, _, _, _, _, _, _, _, _], _ => by kernel_rfl
  | _ :: _ :: _ :: _ :: _ :: _ :: _ :: _ :: _ :: _ :: _ :: _ :: _ :: _, h => by simp at h
theorem newCall_zipN : ∀ {vs : List Value}, vs.length ≤ 12 → checkBuiltinCall "zip.__new__" ⟨.type "zip" :: vs, []⟩ = pure ()
  | [], _ => by kernel_rfl
  | [_], _ => by kernel_rfl
  | [_, _], _ => by kernel_rfl
  | [_, _, _], _ => by kernel_rfl
  | [_, _, _, _], _ => by kernel_rfl
  | [_, _, _, _, _], _ => by kernel_rfl
  | [_, _, _, _, _, _], _ => by kernel_rfl
  | [_, _, _, _, _, _, _], _ => by kernel_rfl
  | [_, _, _, _, _, _, _, _], _ => by kernel_rfl
  | [_, _, _, _, _, _, _, _, _], _ => by kernel_rfl
  | [_, _, _, _, _, _, _, _, _, _], _ => by kernel_rfl
  | [_, _, _, _, _, _, _, _, _, _, _], _ => by kernel_rfl
  | [_, _, _, _, _, _, _, _, _, _, _, _], _ => by kernel_rfl
  | _ :: _ :: _ :: _ :: _ :: _ :: _ :: _ :: _ :: _ :: _ :: _ :: _ :: _, h => by simp at h
theorem args_initN (a : Value) : ∀ {vs : List Value}, vs.length ≤ 12 → argsOk "object.__init__" ⟨a :: vs, []⟩ := by
  intro vs h
  unfold argsOk
  rw [signature?_of (id := "object.__init__") (n := ['_', '_', 't', 'i', 'n', 'i', '_', '_']) (o := ['t', 'c', 'e', 'j', 'b', 'o']) (by kernel_rfl) PySem.F.owner_object]
  match vs, h with
  | [], _ => kernel_rfl
  | [_], _ => kernel_rfl
  | [_, _], _ => kernel_rfl
  | [_, _, _], _ => kernel_rfl
  | [_, _, _, _], _ => kernel_rfl
  | [_, _, _, _, _], _ => kernel_rfl
  | [_, _, _, _, _, _], _ => kernel_rfl
  | [_, _, _, _, _, _, _], _ => kernel_rfl
  | [_, _, _, _, _, _, _, _], _ => kernel_rfl
  | [_, _, _, _, _, _, _, _, _], _ => kernel_rfl
  | [_, _, _, _, _, _, _, _, _, _], _ => kernel_rfl
  | [_, _, _, _, _, _, _, _, _, _, _], _ => kernel_rfl
  | [_, _, _, _, _, _, _, _, _, _, _, _], _ => kernel_rfl
  | _ :: _ :: _ :: _ :: _ :: _ :: _ :: _ :: _ :: _ :: _ :: _ :: _ :: _, h => simp at h
theorem newClass_zip (vs : List Value) : Builtin.SmallTypes.newClass "zip" ⟨.type "zip" :: vs, []⟩ = pure (.type "zip", vs) := by
  unfold Builtin.SmallTypes.newClass
  simp only [isType, sub_zip, pure_bind, Bool.not_true, Bool.false_eq_true, if_false]
abbrev IsZp (h : Heap) (zz ti tt : Addr) (f0 f1 : Value) : Prop := h.get? zz = some { cls := .type "zip", dict := none, data := .fields #[f0, f1, .bool false, .ref ti, .ref tt], slots := #[] }
abbrev zt1 (h : Heap) (src : List (Bool × Addr)) : Heap := (mkIts h src).push { cls := .type "tuple", data := .seq (jsOf h.objs.size src.length).toArray }
abbrev zt2 (h : Heap) (src : List (Bool × Addr)) : Heap := (zt1 h src).push { cls := .type "tuple", data := .seq ((jsOf h.objs.size src.length).map fun _ => Value.none).toArray }
abbrev zt3 (h : Heap) (src : List (Bool × Addr)) : Heap := (zt2 h src).push { cls := .type "zip", data := .fields #[.none, .bool false, .bool false, .ref (mkIts h src).objs.size, .ref (zt1 h src).objs.size] }
theorem new_zp {prog : Program} {w : World} (src : List (Bool × Addr)) : MeetsIn prog w (Builtin.«zip.__new__» ⟨.type "zip" :: src.map (fun p => .ref p.2), []⟩)
    (fun A R s => src.length ≤ 12 ∧ (∀ p ∈ src, ∃ xs, SSq p.1 s.heap p.2 xs) ∧ ∀ t, R (.ok (.ret (.ref (zt2 s.heap src).objs.size))) { s with heap := zt3 s.heap src, toks := t }) :=
  .of_wp fun A R s h => by
    unfold Builtin.«zip.__new__»
    refine wpAny_bind (wpAny_of_eq (newClass_zip _) ?_)
    dsimp only
    have hz : 12 ≤ sizeLine := by decide
    refine wpAny_bind (iterAll_src h.2.1 fun t => ?_)
    refine wpAny_bind (wpAny_newTuple ?_ (hsz := by simp; omega))
    refine wpAny_bind (wpAny_newTuple ?_ (hsz := by simp; omega))
    show wpAny _ _ (newObj (.type "zip") (.fields #[.none, .bool false, .bool false, .ref (mkIts s.heap src).objs.size, .ref (zt1 s.heap src).objs.size]) >>= _) _ _ _
    refine wpAny_bind (wpAny_newObj_type ?_)
    exact wpAny_pure ⟨_, rfl, h.2.2 t⟩
/-- the zip object behind i columns: its iterators at N .., then their row, its own row, itself -/
structure ZS (h : Heap) (N : Addr) (src : List (Bool × Addr)) (i : Nat) (f0 f1 : Value) : Prop where
  zp : IsZp h (N + src.length + 2) (N + src.length) (N + src.length + 1) f0 f1
  is_ : h.get? (N + src.length) = some { cls := .type "tuple", data := .seq (jsOf N src.length).toArray }
  ow : ∃ arr : Array Value, h.get? (N + src.length + 1) = some { cls := .type "tuple", data := .seq arr } ∧ arr.size = src.length
  it : ∀ (k : Nat) (b : Bool) (c : Addr), src[k]? = some (b, c) → SIt b h (N + k) c i
section
variable {prog : Program} {w : World} {A : Around} {E : Value → Shared → Prop} {s : Shared}
theorem call_zpN {src : List (Bool × Addr)} {Q : Value → Shared → Prop} (hn : src.length ≤ 12) (hs : ∀ p ∈ src, ∃ xs, SSq p.1 s.heap p.2 xs)
    (k : ∀ h' t, ZS h' s.heap.objs.size src 0 .none (.bool false) → (∀ c o, s.heap.get? c = some o → h'.get? c = some o) → h'.objs.size = s.heap.objs.size + src.length + 3 →
      Q (.ref (s.heap.objs.size + src.length + 2)) { s with heap := h', toks := t }) : wpAny (model prog w) A (call (.type "zip") (src.map fun p => .ref p.2)) Q E s := by
  have hl : (src.map fun p => Value.ref p.2).length ≤ 12 := by rw [List.length_map]; exact hn
  refine callType_newIn PySem.F.called_zip (by decide) (typeCall_zipN hl) (newCall_zipN hl) (fun obj => args_initN obj hl) PySem.F.entry_zip_new (new_zp src) ⟨hn, hs, fun t => ?_⟩
  have y0 : (mkIts s.heap src).objs.size = s.heap.objs.size + src.length := mkIts_size
  have y1 : (zt1 s.heap src).objs.size = s.heap.objs.size + src.length + 1 := by rw [Heap.size_push, y0]
  have y2 : (zt2 s.heap src).objs.size = s.heap.objs.size + src.length + 2 := by rw [Heap.size_push, y1]
  have g3 : (zt3 s.heap src).get? (zt2 s.heap src).objs.size = some _ := Heap.get?_push_size _ rfl
  have g2 : (zt3 s.heap src).get? (zt1 s.heap src).objs.size = some _ := Heap.get?_push_of_some _ (Heap.get?_push_size _ rfl)
  have g1 : (zt3 s.heap src).get? (mkIts s.heap src).objs.size = some _ := Heap.get?_push_of_some _ (Heap.get?_push_of_some _ (Heap.get?_push_size _ rfl))
  have up : ∀ c o, (mkIts s.heap src).get? c = some o → (zt3 s.heap src).get? c = some o := fun c o e => Heap.get?_push_of_some _ (Heap.get?_push_of_some _ (Heap.get?_push_of_some _ e))
  have st : ZS (zt3 s.heap src) s.heap.objs.size src 0 .none (.bool false) := by
    refine ⟨?_, ?_, ⟨_, by rw [y1] at g2; exact g2, by simp⟩, fun k b c e => (mkIts_at e).to fun o z => up _ o z⟩
    · rw [y2] at g3
      show (zt3 s.heap src).get? _ = _
      rw [g3, y0, y1]
    · rw [y0] at g1
      exact g1
  refine ⟨⟨_, g3, rfl⟩, ?_⟩
  have := k _ t st (fun c o e => up c o (mkIts_keep e)) (by rw [Heap.size_push, y2])
  rw [← y2] at this
  exact this
theorem updSeq {T : Addr} {arr : Array Value} {x : Value} {k : Nat} {Q : Unit → Shared → Prop} (hz : arr.size ≤ 12) (hT : s.heap.get? T = some { cls := .type "tuple", data := .seq arr })
    (h : ∀ h', h'.get? T = some { cls := .type "tuple", data := .seq (arr.setIfInBounds k x) } → Heap.SameBut T s.heap h' → Q () { s with heap := h' }) : wpAny (model prog w) A (updateSeq T (·.setIfInBounds k x)) Q E s := by
  have h12 : 12 ≤ sizeLine := by decide
  refine wpAny_updateSeq hT rfl (h _ ?_ (Heap.SameBut.update ..)) (by omega) (by simp; omega)
  rw [Heap.get?_update_self _ hT rfl]
  simp [Obj.mapSeq]
end
end Pv

set_option Elab.async false
set_option linter.all false
set_option maxRecDepth 100000
set_option maxHeartbeats 1000000
/-! zip of a row of sequences: its columns. -/
namespace Pv
open PySem PySem.Spec PyProof.Rows L2
theorem neA {a b : Nat} (h : a < b ∨ b < a) : @Ne Addr a b := fun e => by
  have e : @Eq Nat a b := e
  omega
section
variable {prog : Program} {w : World} {A : Around} {E : Value → Shared → Prop} {s : Shared}
/-- the first column -/
theorem zn_first {N i : Nat} {src : List (Bool × Addr)} {col : Nat → Value} {Q : Value → Shared → Prop} (hn : src ≠ []) (hz : src.length ≤ 12) (hlt : ∀ p ∈ src, p.2 < N) (st : ZS s.heap N src i .none (.bool false))
    (hv : ∀ (k : Nat) (b : Bool) (c : Addr), src[k]? = some (b, c) → ∃ xs : Array Value, SSq b s.heap c xs ∧ xs[i]? = some (col k))
    (hQ : ∀ h', ZS h' N src (i + 1) (rawInt s.heap.objs.size) (.bool false) → h'.get? s.heap.objs.size = some { cls := .type "tuple", data := .seq ((List.range src.length).map col).toArray } → h'.objs.size = s.heap.objs.size + 1 →
      (∀ c o, (c < N ∨ N + src.length + 2 < c) → s.heap.get? c = some o → h'.get? c = some o) → Q (.ref s.heap.objs.size) { s with heap := h' }) :
    wpAny (model prog w) A (Builtin.«zip.__next__» ⟨[.ref (N + src.length + 2)], []⟩) (fun fin s' => ∃ v, fin = .done (.ret v) ∧ Q v s') E s := by
  have np : 0 < src.length := List.length_pos_iff.mpr hn
  obtain ⟨zp, is_, ⟨arr, ow, oz⟩, it⟩ := st
  show wpAny _ _ (field (.ref (N + src.length + 2)) 2 >>= _) _ _ _
  refine wpAny_bind (wpAny_field zp rfl (x := .bool false) rfl ?_)
  show wpAny _ _ (field (.ref (N + src.length + 2)) 3 >>= _) _ _ _
  refine wpAny_bind (wpAny_field zp rfl (x := .ref (N + src.length)) rfl ?_)
  refine wpAny_bind (wpAny_seqItems is_ rfl ?_)
  dsimp only
  have ne : (jsOf N src.length).toArray.isEmpty = false := by
    rw [Array.isEmpty_eq_false_iff]
    simp
    omega
  rw [ne]
  simp only [Bool.false_eq_true, if_false]
  refine wpAny_bind ?_
  unfold Builtin.SmallTypes.ownedTupleIsFree
  refine wpAny_bind (wpAny_field zp rfl (x := .none) rfl (wpAny_pure ?_))
  simp only [if_true]
  refine wpAny_bind (wpAny_rule ?_)
  refine wpAny_bind (wpAny_field zp rfl (x := .ref (N + src.length + 1)) rfl ?_)
  refine wpAny_bind (wpAny_setField_rec zp (by simp) fun ha za sa => ?_)
  replace za : IsZp ha (N + src.length + 2) (N + src.length) (N + src.length + 1) .ellipsis (.bool false) := za
  refine wpAny_bind (forIn_inv (fun k b s' => b = (none, ()) ∧ ∃ h', s' = { s with heap := h' } ∧ IsZp h' (N + src.length + 2) (N + src.length) (N + src.length + 1) .ellipsis (.bool false) ∧ h'.objs.size = s.heap.objs.size ∧
    (∃ ar : Array Value, h'.get? (N + src.length + 1) = some { cls := .type "tuple", data := .seq ar } ∧ ar.size = src.length ∧ ∀ r : Nat, r < k → ar[r]? = some (col r)) ∧
    (∀ (r : Nat) (b : Bool) (c : Addr), src[r]? = some (b, c) → SIt b h' (N + r) c (if r < k then i + 1 else i)) ∧
    (∀ c o, (c < N ∨ c = N + src.length ∨ N + src.length + 2 < c) → s.heap.get? c = some o → h'.get? c = some o)) 0 ?_ (fun k a b s' e hj => ?_) fun b s' hj => ?_)
  · refine ⟨rfl, ha, rfl, za, sa.1, ⟨arr, sa.extBut _ _ (neA (by omega)) ow, oz, fun r hr => by omega⟩, fun (r : Nat) b c e => ?_, fun c o hc e => sa.extBut _ _ (neA (by omega)) e⟩
    rw [if_neg (Nat.not_lt_zero r)]
    have hr : r < src.length := (List.getElem?_eq_some_iff.mp e).1
    exact (it r b c e).to fun o z => sa.extBut _ _ (neA (by omega)) z
  · rw [Nat.zero_add] at hj ⊢
    obtain ⟨rfl, h', rfl, zb, sz, ⟨ar, go, gz, gv⟩, ib, kp⟩ := hj
    have hk : k < src.length := by
      have := (List.getElem?_eq_some_iff.mp e).1
      simpa using this
    have ea : a = (.ref (N + k), k) := by
      rw [List.getElem?_eq_some_iff] at e
      obtain ⟨_, e⟩ := e
      rw [← e]
      simp
    subst ea
    obtain ⟨⟨b, c⟩, eb⟩ : ∃ p, src[k]? = some p := ⟨_, List.getElem?_eq_getElem hk⟩
    have ik := ib k b c eb
    rw [if_neg (Nat.lt_irrefl k)] at ik
    obtain ⟨xs, hx, hxi⟩ := hv k b c eb
    have hc : c < N := hlt _ (List.mem_of_getElem? eb)
    refine wpAny_bind (wpAny_onRaise ?_)
    show wpAny _ _ (Builtin.SmallTypes.nextOf (.ref (N + k)) >>= _) _ _ _
    refine wpAny_bind (nx_item ik (hx.to fun o z => kp _ o (.inl hc) z) hxi fun hb ik' sb => wpAny_pure ?_)
    have gob := sb.extBut _ _ (neA (by omega)) go
    refine wpAny_bind (wpAny_seqItems gob rfl ?_)
    refine wpAny_bind (updSeq (by omega) gob fun hc' goc sc => ?_)
    refine wpAny_bind (wpAny_letGo (wpAny_pure ⟨_, rfl, rfl, hc', rfl, ?_⟩))
    refine ⟨sc.extBut _ _ (neA (by omega)) (sb.extBut _ _ (neA (by omega)) zb), by rw [sc.1, sb.1, sz], ⟨_, goc, by simpa using gz, fun (r : Nat) hr => ?_⟩, fun (r : Nat) b' c' e' => ?_, fun c o hc2 e2 => sc.extBut _ _ (neA (by omega)) (sb.extBut _ _ (neA (by omega)) (kp c o hc2 e2))⟩
    · by_cases hrk : r = k
      · subst hrk
        rw [Array.getElem?_setIfInBounds_self_of_lt (by omega)]
      · rw [Array.getElem?_setIfInBounds_ne (Ne.symm hrk)]
        exact gv r (by omega)
    · have hr' : r < src.length := (List.getElem?_eq_some_iff.mp e').1
      by_cases hrk : r = k
      · subst hrk
        rw [eb] at e'
        cases e'
        rw [if_pos (by omega)]
        exact ik'.to fun o z => sc.extBut _ _ (neA (by omega)) z
      · have := (ib r b' c' e').to fun o z => sc.extBut _ _ (neA (by omega)) (sb.extBut _ _ (neA (by omega)) z)
        by_cases hl : r < k
        · rw [if_pos hl] at this
          rw [if_pos (by omega)]
          exact this
        · rw [if_neg hl] at this
          rw [if_neg (by omega)]
          exact this
  · rw [Nat.zero_add] at hj
    obtain ⟨rfl, h', rfl, zb, sz, ⟨ar, go, gz, gv⟩, ib, kp⟩ := hj
    have ll : (jsOf N src.length).toArray.toList.zipIdx.length = src.length := by simp
    rw [ll] at gv ib
    dsimp only
    refine wpAny_bind (wpAny_seqItems go rfl ?_)
    have h12 : 12 ≤ sizeLine := by decide
    have el : ar.toList = (List.range src.length).map col := by
      apply List.ext_getElem?
      intro r
      by_cases hr : r < src.length
      · rw [Array.getElem?_toList, gv r hr, List.getElem?_map, List.getElem?_range hr]
        rfl
      · rw [List.getElem?_eq_none (by simp; omega), List.getElem?_eq_none (by simp; omega)]
    dsimp only
    rw [el]
    refine wpAny_bind (wpAny_newTuple ?_ (hsz := by simp; omega))
    show wpAny _ _ (Builtin.SmallTypes.ownedTupleHandOut (.ref (N + src.length + 2)) (.ref h'.objs.size) >>= _) _ _ _
    refine wpAny_bind ?_
    unfold Builtin.SmallTypes.ownedTupleHandOut
    have zlt : N + src.length + 2 < h'.objs.size := Heap.lt_size zb
    have zf : IsZp (h'.push { cls := .type "tuple", data := .seq ((List.range src.length).map col).toArray }) (N + src.length + 2) (N + src.length) (N + src.length + 1) .ellipsis (.bool false) := Heap.get?_push_of_some _ zb
    refine wpAny_bind (wpAny_setField_rec zf (by simp) fun hg zg sg => ?_)
    replace zg : IsZp hg (N + src.length + 2) (N + src.length) (N + src.length + 1) (rawInt h'.objs.size) (.bool false) := zg
    refine wpAny_setField_rec zg (by simp) fun hi zi si => ?_
    replace zi : IsZp hi (N + src.length + 2) (N + src.length) (N + src.length + 1) (rawInt h'.objs.size) (.bool false) := zi
    have up : ∀ c o, c ≠ N + src.length + 2 → (h'.push { cls := .type "tuple", data := .seq ((List.range src.length).map col).toArray }).get? c = some o → hi.get? c = some o := fun c o m e => si.extBut _ _ m (sg.extBut _ _ m e)
    have up2 : ∀ c o, c ≠ N + src.length + 2 → h'.get? c = some o → hi.get? c = some o := fun c o m e => up c o m (Heap.get?_push_of_some _ e)
    refine wpAny_pure ⟨_, rfl, ?_⟩
    show Q (.ref h'.objs.size) _
    rw [sz] at zi zlt ⊢
    refine hQ hi ⟨zi, up2 _ _ (neA (by omega)) (kp _ _ (.inr (.inl rfl)) is_), ⟨ar, up2 _ _ (neA (by omega)) go, gz⟩, fun (r : Nat) b c e => ?_⟩ ?_ ?_ fun c o hc e => up2 _ _ (neA (by omega)) (kp c o (by omega) e)
    · have hr : r < src.length := (List.getElem?_eq_some_iff.mp e).1
      have := ib r b c e
      rw [if_pos hr] at this
      exact this.to fun o z => up2 _ _ (neA (by omega)) z
    · have g0 : (h'.push { cls := .type "tuple", data := .seq ((List.range src.length).map col).toArray }).get? h'.objs.size = some { cls := .type "tuple", data := .seq ((List.range src.length).map col).toArray } := Heap.get?_push_size _ rfl
      have := up _ _ (neA (by omega)) g0
      rw [sz] at this
      exact this
    · rw [si.1, sg.1, Heap.size_push, sz]
end
end Pv

set_option Elab.async false
set_option linter.all false
set_option maxRecDepth 100000
set_option maxHeartbeats 1000000
/-! zip of a row of sequences: further columns, the end. -/
namespace Pv
open PySem PySem.Spec PyProof.Rows L2
section
variable {prog : Program} {w : World} {A : Around} {E : Value → Shared → Prop} {s : Shared}
theorem loadAl {M : Model} {a : Addr} {Q : Option Obj → Shared → Prop} (h : Q (s.heap.get? a) s) : wpAny M A (loadIfAlive a) Q E s := fun Γ p _ => by
  show Sem.wp M Γ (.loadIfAlive a .pure) _ _ p s
  rw [Sem.wp_loadIfAlive]
  exact h
/-- its last row is held by someone: a new one is due -/
theorem notFree {N n a : Nat} {f : Bool} {ti tt : Addr} {o : Obj} {Q : Bool → Shared → Prop} (zp : IsZp s.heap (N + n + 2) ti tt (rawInt a) (.bool f)) (ho : s.heap.get? a = some o)
    (k : ∀ h', IsZp h' (N + n + 2) ti tt (rawInt a) (.bool true) → Heap.SameBut (N + n + 2) s.heap h' → Q false { s with heap := h' }) : wpAny (model prog w) A (Builtin.SmallTypes.ownedTupleIsFree (.ref (N + n + 2))) Q E s := by
  unfold Builtin.SmallTypes.ownedTupleIsFree
  refine wpAny_bind (wpAny_field zp rfl (x := rawInt a) rfl ?_)
  show wpAny _ _ (loadIfAlive (Int.toNat (a : Int)) >>= _) _ _ _
  refine wpAny_bind (loadAl ?_)
  rw [show Int.toNat (a : Int) = a from Int.toNat_natCast a, ho]
  simp only [Option.isNone_some, Bool.false_eq_true, if_false]
  refine wpAny_bind (wpAny_field zp rfl (x := .bool f) rfl ?_)
  cases f with
  | true =>
    simp only [bne_self_eq_false, Bool.false_eq_true, if_false]
    exact wpAny_pure (k s.heap zp ⟨rfl, fun _ _ => rfl⟩)
  | false =>
    have : (Value.bool false != Value.bool true) = true := by decide
    rw [if_pos this]
    refine wpAny_bind (wpAny_setField_rec zp (by simp) fun ha za sa => wpAny_pure (k ha za sa))
/-- a further column -/
theorem zn_later {N i a : Nat} {f : Bool} {src : List (Bool × Addr)} {col : Nat → Value} {o : Obj} {Q : Value → Shared → Prop} (hn : src ≠ []) (hz : src.length ≤ 12) (hlt : ∀ p ∈ src, p.2 < N) (st : ZS s.heap N src i (rawInt a) (.bool f)) (ho : s.heap.get? a = some o)
    (hv : ∀ (k : Nat) (b : Bool) (c : Addr), src[k]? = some (b, c) → ∃ xs : Array Value, SSq b s.heap c xs ∧ xs[i]? = some (col k))
    (hQ : ∀ h', ZS h' N src (i + 1) (rawInt a) (.bool true) → h'.get? s.heap.objs.size = some { cls := .type "tuple", data := .seq ((List.range src.length).map col).toArray } → h'.objs.size = s.heap.objs.size + 1 →
      (∀ c o, (c < N ∨ N + src.length + 2 < c) → s.heap.get? c = some o → h'.get? c = some o) → Q (.ref s.heap.objs.size) { s with heap := h' }) :
    wpAny (model prog w) A (Builtin.«zip.__next__» ⟨[.ref (N + src.length + 2)], []⟩) (fun fin s' => ∃ v, fin = .done (.ret v) ∧ Q v s') E s := by
  have np : 0 < src.length := List.length_pos_iff.mpr hn
  obtain ⟨zp, is_, ⟨arr, ow, oz⟩, it⟩ := st
  show wpAny _ _ (field (.ref (N + src.length + 2)) 2 >>= _) _ _ _
  refine wpAny_bind (wpAny_field zp rfl (x := .bool false) rfl ?_)
  show wpAny _ _ (field (.ref (N + src.length + 2)) 3 >>= _) _ _ _
  refine wpAny_bind (wpAny_field zp rfl (x := .ref (N + src.length)) rfl ?_)
  refine wpAny_bind (wpAny_seqItems is_ rfl ?_)
  dsimp only
  have ne : (jsOf N src.length).toArray.isEmpty = false := by
    rw [Array.isEmpty_eq_false_iff]
    simp
    omega
  rw [ne]
  simp only [Bool.false_eq_true, if_false]
  refine wpAny_bind (notFree zp ho fun ha za sa => ?_)
  simp only [Bool.false_eq_true, if_false]
  refine wpAny_bind ?_
  rw [List.forIn_toArray]
  refine forIn_inv (fun k b s' => b = (none, ((List.range k).map col).toArray) ∧ ∃ h', s' = { s with heap := h' } ∧ IsZp h' (N + src.length + 2) (N + src.length) (N + src.length + 1) (rawInt a) (.bool true) ∧ h'.objs.size = s.heap.objs.size ∧
    (∀ (r : Nat) (b : Bool) (c : Addr), src[r]? = some (b, c) → SIt b h' (N + r) c (if r < k then i + 1 else i)) ∧
    (∀ c o, (c < N ∨ c = N + src.length ∨ c = N + src.length + 1 ∨ N + src.length + 2 < c) → s.heap.get? c = some o → h'.get? c = some o)) 0 ?_ (fun k x b s' e hj => ?_) fun b s' hj => ?_
  · refine ⟨rfl, ha, rfl, za, sa.1, fun (r : Nat) b c e => ?_, fun c o hc e => sa.extBut _ _ (neA (by omega)) e⟩
    rw [if_neg (Nat.not_lt_zero r)]
    have hr : r < src.length := (List.getElem?_eq_some_iff.mp e).1
    exact (it r b c e).to fun o z => sa.extBut _ _ (neA (by omega)) z
  · rw [Nat.zero_add] at hj ⊢
    obtain ⟨rfl, h', rfl, zb, sz, ib, kp⟩ := hj
    have hk : k < src.length := by
      have := (List.getElem?_eq_some_iff.mp e).1
      simpa using this
    have ea : x = .ref (N + k) := by
      rw [List.getElem?_eq_some_iff] at e
      obtain ⟨_, e⟩ := e
      rw [← e]
      simp
    subst ea
    obtain ⟨⟨b, c⟩, eb⟩ : ∃ p, src[k]? = some p := ⟨_, List.getElem?_eq_getElem hk⟩
    have ik := ib k b c eb
    rw [if_neg (Nat.lt_irrefl k)] at ik
    obtain ⟨xs, hx, hxi⟩ := hv k b c eb
    have hc : c < N := hlt _ (List.mem_of_getElem? eb)
    refine wpAny_bind (wpAny_holding ?_)
    show wpAny _ _ (Builtin.SmallTypes.nextOf (.ref (N + k)) >>= _) _ _ _
    refine wpAny_bind (nx_item ik (hx.to fun o z => kp _ o (.inl hc) z) hxi fun hb ik' sb => wpAny_pure (wpAny_pure ⟨_, rfl, ?_, hb, rfl, ?_⟩))
    · simp [List.range_succ]
    · refine ⟨sb.extBut _ _ (neA (by omega)) zb, by rw [sb.1, sz], fun (r : Nat) b' c' e' => ?_, fun c o hc2 e2 => sb.extBut _ _ (neA (by omega)) (kp c o hc2 e2)⟩
      have hr' : r < src.length := (List.getElem?_eq_some_iff.mp e').1
      by_cases hrk : r = k
      · subst hrk
        rw [eb] at e'
        cases e'
        rw [if_pos (by omega)]
        exact ik'
      · have := (ib r b' c' e').to fun o z => sb.extBut _ _ (neA (by omega)) z
        by_cases hl : r < k
        · rw [if_pos hl] at this
          rw [if_pos (by omega)]
          exact this
        · rw [if_neg hl] at this
          rw [if_neg (by omega)]
          exact this
  · rw [Nat.zero_add] at hj
    obtain ⟨rfl, h', rfl, zb, sz, ib, kp⟩ := hj
    have ll : (jsOf N src.length).length = src.length := by simp
    rw [ll] at ib
    dsimp only
    have h12 : 12 ≤ sizeLine := by decide
    rw [ll]
    refine wpAny_bind (wpAny_newTuple ?_ (hsz := by simp; omega))
    refine wpAny_pure ⟨_, rfl, ?_⟩
    show Q (.ref h'.objs.size) _
    have up : ∀ c o, h'.get? c = some o → (h'.push { cls := .type "tuple", data := .seq ((List.range src.length).map col).toArray }).get? c = some o := fun c o e => Heap.get?_push_of_some _ e
    have g0 : (h'.push { cls := .type "tuple", data := .seq ((List.range src.length).map col).toArray }).get? h'.objs.size = some { cls := .type "tuple", data := .seq ((List.range src.length).map col).toArray } := Heap.get?_push_size _ rfl
    rw [sz] at g0 ⊢
    refine hQ _ ⟨up _ _ zb, up _ _ (kp _ _ (.inr (.inl rfl)) is_), ⟨arr, up _ _ (kp _ _ (.inr (.inr (.inl rfl))) ow), oz⟩, fun (r : Nat) b c e => ?_⟩ g0 ?_ fun c o hc e => up _ _ (kp c o (by omega) e)
    · have hr : r < src.length := (List.getElem?_eq_some_iff.mp e).1
      have := ib r b c e
      rw [if_pos hr] at this
      exact this.to fun o z => up _ _ z
    · rw [Heap.size_push, sz]
/-- behind the last column -/
theorem zn_end {N i a : Nat} {f : Bool} {b0 : Bool} {c0 : Addr} {src : List (Bool × Addr)} {xs : Array Value} {o : Obj} {Q : PySem.Fin → Shared → Prop} (hh : A.handled = none) (h0 : src[0]? = some (b0, c0)) (hlt : ∀ p ∈ src, p.2 < N) (st : ZS s.heap N src i (rawInt a) (.bool f)) (ho : s.heap.get? a = some o)
    (hx : SSq b0 s.heap c0 xs) (hxi : xs[i]? = none)
    (hE : ∀ h' e, (∀ c o, (c < N ∨ N + src.length + 2 < c) → s.heap.get? c = some o → h'.get? c = some o) → (∃ o, h'.get? e = some o ∧ o.cls = .type "StopIteration") → E (.ref e) { s with heap := h' }) :
    wpAny (model prog w) A (Builtin.«zip.__next__» ⟨[.ref (N + src.length + 2)], []⟩) Q E s := by
  have np : 0 < src.length := (List.getElem?_eq_some_iff.mp h0).1
  obtain ⟨zp, is_, ⟨arr, ow, oz⟩, it⟩ := st
  show wpAny _ _ (field (.ref (N + src.length + 2)) 2 >>= _) _ _ _
  refine wpAny_bind (wpAny_field zp rfl (x := .bool false) rfl ?_)
  show wpAny _ _ (field (.ref (N + src.length + 2)) 3 >>= _) _ _ _
  refine wpAny_bind (wpAny_field zp rfl (x := .ref (N + src.length)) rfl ?_)
  refine wpAny_bind (wpAny_seqItems is_ rfl ?_)
  dsimp only
  have ne : (jsOf N src.length).toArray.isEmpty = false := by
    rw [Array.isEmpty_eq_false_iff]
    intro z
    have := congrArg Array.size z
    simp at this
    rw [this] at np
    simp at np
  rw [ne]
  simp only [Bool.false_eq_true, if_false]
  refine wpAny_bind (notFree zp ho fun ha za sa => ?_)
  simp only [Bool.false_eq_true, if_false]
  refine wpAny_bind ?_
  obtain ⟨m, hm⟩ : ∃ m, src.length = m + 1 := ⟨src.length - 1, by omega⟩
  rw [List.forIn_toArray]
  have ej : jsOf N src.length = .ref (N + 0) :: ((List.range m).map Nat.succ).map fun k => Value.ref (N + k) := by
    unfold jsOf
    rw [hm, List.range_succ_eq_map, List.map_cons]
  rw [show (forIn (jsOf N src.length) : _ → _ → Sem _) = forIn (.ref (N + 0) :: ((List.range m).map Nat.succ).map fun k => Value.ref (N + k)) by rw [ej]]
  rw [List.forIn_cons]
  have hc : @LT.lt Nat _ c0 N := hlt _ (List.mem_of_getElem? h0)
  have i0 := (it 0 b0 c0 h0).to fun o z => sa.extBut _ _ (neA (by omega)) z
  refine wpAny_bind (wpAny_bind (wpAny_holding ?_))
  show wpAny _ _ (Builtin.SmallTypes.nextOf (.ref (N + 0)) >>= _) _ _ _
  refine wpAny_bind (nx_end hh i0 (hx.to fun o z => sa.extBut _ _ (neA (.inl (by omega))) z) hxi fun hb e sb ee => ?_)
  exact hE hb e (fun c o hc2 z => sb _ _ (neA (by omega)) (sa.extBut _ _ (neA (by omega)) z)) ee
end
end Pv

set_option Elab.async false
set_option linter.all false
set_option maxRecDepth 100000
set_option maxHeartbeats 1000000
/-! tuple(zip(*rows)). -/
namespace Pv
open PySem PySem.Spec PyProof.Rows L2
theorem nolen_zip : typeLookup (.type "zip") "__len__" = pure none := by rw [typeLookup_type, builtinLookup_eq_fast]; kernel_rfl
theorem nohint_zip : typeLookup (.type "zip") "__length_hint__" = pure none := by rw [typeLookup_type, builtinLookup_eq_fast]; kernel_rfl
section
variable {prog : Program} {w : World} {A : Around} {E : Value → Shared → Prop} {s : Shared}
theorem zn_pyItem {zz : Addr} {Q : Option Value → Shared → Prop} {f0 f1 : Value} {ti tt : Addr} (gz : IsZp s.heap zz ti tt f0 f1) (h : wpAny (model prog w) A (Builtin.«zip.__next__» ⟨[.ref zz], []⟩) (fun fin s' => ∃ v, fin = .done (.ret v) ∧ Q (some v) s') E s) :
    wpAny (model prog w) A (Builtin.«zip.__next__» ⟨[.ref zz], []⟩) (fun fin s' => ∃ v, fin = .done (.ret v) ∧ wpAny (model prog w) A (pure (some v)) Q E s') E s := wpAny_mono h (fun fin s' ⟨v, e, q⟩ => ⟨v, e, wpAny_pure q⟩) fun _ _ z => z
end
/-- so many rows: how the zip's own cell stands behind i columns -/
def ZF (h : Heap) (N : Nat) (src : List (Bool × Addr)) (i : Nat) : Prop := (i = 0 ∧ ZS h N src i .none (.bool false)) ∨ ∃ (a : Nat) (f : Bool) (o : Obj), i ≠ 0 ∧ h.get? a = some o ∧ N + src.length + 2 < a ∧ ZS h N src i (rawInt a) (.bool f)
theorem ZF.ty {h : Heap} {N : Nat} {src : List (Bool × Addr)} {i : Nat} (z : ZF h N src i) : ∃ f0 f1, IsZp h (N + src.length + 2) (N + src.length) (N + src.length + 1) f0 f1 := by
  rcases z with ⟨_, z⟩ | ⟨_, _, _, _, _, _, z⟩
  · exact ⟨_, _, z.zp⟩
  · exact ⟨_, _, z.zp⟩
theorem ZS.to {h h' : Heap} {N : Nat} {src : List (Bool × Addr)} {i : Nat} {f0 f1 : Value} (z : ZS h N src i f0 f1) (k : ∀ (c : Nat) (o : Obj), N ≤ c → c ≤ N + src.length + 2 → h.get? c = some o → h'.get? c = some o) : ZS h' N src i f0 f1 := by
  obtain ⟨zp, is_, ⟨arr, ow, oz⟩, it⟩ := z
  refine ⟨k _ _ (by omega) (Nat.le_refl _) zp, k _ _ (by omega) (by omega) is_, ⟨arr, k _ _ (by omega) (by omega) ow, oz⟩, fun (r : Nat) b c e => ?_⟩
  have hr : r < src.length := (List.getElem?_eq_some_iff.mp e).1
  exact (it r b c e).to fun o z => k _ _ (by omega) (by omega) z
theorem ZF.to {h h' : Heap} {N : Nat} {src : List (Bool × Addr)} {i : Nat} (z : ZF h N src i) (k : ∀ (c : Nat) (o : Obj), N ≤ c → (c ≤ N + src.length + 2 ∨ N + src.length + 2 < c) → h.get? c = some o → ∃ o', h'.get? c = some o' ∧ (c ≤ N + src.length + 2 → o' = o)) : ZF h' N src i := by
  have k1 : ∀ (c : Nat) (o : Obj), N ≤ c → c ≤ N + src.length + 2 → h.get? c = some o → h'.get? c = some o := fun c o h1 h2 e => by
    obtain ⟨o', e', q⟩ := k c o h1 (.inl h2) e
    rw [e', q h2]
  rcases z with ⟨i0, z⟩ | ⟨a, f, o, i0, ha, hl, z⟩
  · exact .inl ⟨i0, z.to k1⟩
  · obtain ⟨o', e', _⟩ := k a o (show @LE.le Nat _ N a by omega) (.inr hl) ha
    exact .inr ⟨a, f, o', i0, e', hl, z.to k1⟩
/-- the columns, one behind another, each a new tuple -/
def Cols (Q : List Addr → Hp → Prop) : List (List V) → List Addr → Hp → Prop
  | [], ts, H => Q ts H
  | c :: cs, ts, H => ∀ t, H t = none → Cols Q cs (ts ++ [t]) (upd H t (.tup c))
/-- column i of some rows -/
def colV (rows : List (List V)) (i : Nat) : List V := rows.filterMap (·[i]?)
theorem colV_get {rows : List (List V)} {i : Nat} (h : ∀ r ∈ rows, i < r.length) : ∀ k : Nat, (colV rows i)[k]? = (rows[k]?).bind (·[i]?) := by
  induction rows with
  | nil => intro k; simp [colV]
  | cons r rows ih =>
    have hr := h r (by simp)
    have e : colV (r :: rows) i = r[i] :: colV rows i := by
      unfold colV
      rw [List.filterMap_cons, List.getElem?_eq_getElem hr]
    intro k
    rw [e]
    cases k with
    | zero => simp [List.getElem?_eq_getElem hr]
    | succ k => simpa using ih (fun r hr => h r (by simp [hr])) k
theorem colV_len {rows : List (List V)} {i : Nat} (h : ∀ r ∈ rows, i < r.length) : (colV rows i).length = rows.length := by
  induction rows with
  | nil => rfl
  | cons r rows ih =>
    have hr := h r (by simp)
    unfold colV
    rw [List.filterMap_cons, List.getElem?_eq_getElem hr]
    simpa [colV] using ih (fun r hr => h r (by simp [hr]))
section
variable {X : Cx} {pins : List (Addr × Obj)} {σ : L2.St} {A : Around}
/-- what is walked -/
structure Src (K : W.Frag) (H : Hp) (N m : Nat) (src : List (Bool × Addr)) (rows : List (List V)) : Prop where
  len : rows.length = src.length
  n0 : src ≠ []
  n12 : src.length ≤ 12
  lt : ∀ p ∈ src, p.2 < N
  sq : ∀ (k : Nat) (b : Bool) (c : Addr) (r : List V), src[k]? = some (b, c) → rows[k]? = some r → SqB K H b c r
  wd : ∀ r ∈ rows, r.length = m
theorem Src.mono {K : W.Frag} {H : Hp} {N m : Nat} {src : List (Bool × Addr)} {rows : List (List V)} {t : Addr} {o : HO} (q : Src K H N m src rows) (h : H t = none) : Src K (upd H t o) N m src rows := by
  refine ⟨q.len, q.n0, q.n12, q.lt, fun k b c r e1 e2 => ?_, q.wd⟩
  have := q.sq k b c r e1 e2
  have up : ∀ {d : Addr} {u : HO}, H d = some u → upd H t o d = some u := fun {d u} e => by
    rw [upd_ne (fun z => by rw [z, h] at e; cases e)]
    exact e
  cases b with
  | true =>
    rcases this with (z | ⟨u, z⟩) | z
    · exact .inl (.inl (up z))
    · exact .inl (.inr ⟨u, up z⟩)
    · exact .inr z
  | false =>
    rcases this with (z | ⟨u, z⟩) | z
    · exact .inl (.inl (up z))
    · exact .inl (.inr ⟨u, up z⟩)
    · exact .inr z
/-- the values of column i -/
theorem Src.col {H : Hp} {s : Shared} {N m i : Nat} {src : List (Bool × Addr)} {rows : List (List V)} (q : Src X.K H N m src rows) (I : Inv X pins σ H s) (hi : i < m) :
    ∃ col : Nat → Value, (∀ (k : Nat) (b : Bool) (c : Addr), src[k]? = some (b, c) → ∃ xs : Array Value, SSq b s.heap c xs ∧ xs[i]? = some (col k)) ∧ Vals (colV rows i) ((List.range src.length).map col) := by
  have key : ∀ k : Nat, ∃ v : Value, ∀ (b : Bool) (c : Addr) (r : List V) (y : V), src[k]? = some (b, c) → rows[k]? = some r → r[i]? = some y → (∃ xs : Array Value, SSq b s.heap c xs ∧ xs[i]? = some v) ∧ RelV y v := by
    intro k
    cases e1 : src[k]? with
    | none => exact ⟨.none, fun b c r y z => by cases z⟩
    | some p =>
      obtain ⟨b, c⟩ := p
      cases e2 : rows[k]? with
      | none => exact ⟨.none, fun b c r y _ z => by cases z⟩
      | some r =>
        obtain ⟨its, rv, p1⟩ := sqB_at I (q.sq k b c r e1 e2)
        have hr : i < r.length := by rw [q.wd r (List.mem_of_getElem? e2)]; exact hi
        obtain ⟨u, hu, ru⟩ := rv.get (List.getElem?_eq_getElem hr)
        refine ⟨u, fun b' c' r' y z1 z2 z3 => ?_⟩
        cases z1
        cases z2
        rw [List.getElem?_eq_getElem hr] at z3
        cases z3
        exact ⟨⟨its.toArray, p1, by simpa using hu⟩, ru⟩
  obtain ⟨col, hc⟩ := Classical.axiomOfChoice key
  have wl : ∀ r ∈ rows, i < r.length := fun r hr => by rw [q.wd r hr]; exact hi
  have row : ∀ k : Nat, k < src.length → ∃ r y, rows[k]? = some r ∧ r[i]? = some y := fun k hk => by
    have h1 : k < rows.length := by rw [q.len]; exact hk
    exact ⟨rows[k], (rows[k])[i]'(wl _ (List.getElem_mem h1)), List.getElem?_eq_getElem h1, List.getElem?_eq_getElem _⟩
  refine ⟨col, fun k b c e => ?_, ?_⟩
  · obtain ⟨r, y, h1, h2⟩ := row k (List.getElem?_eq_some_iff.mp e).1
    exact (hc k b c r y e h1 h2).1
  · have gen : ∀ (as : List V) (bs : List Value), as.length = bs.length → (∀ (k : Nat) (y : V) (v : Value), as[k]? = some y → bs[k]? = some v → RelV y v) → Vals as bs := by
      intro as
      induction as with
      | nil => intro bs h _; cases bs with
        | nil => exact .nil
        | cons _ _ => simp at h
      | cons a as ih =>
        intro bs h f
        cases bs with
        | nil => simp at h
        | cons b bs => exact .cons (f 0 a b rfl rfl) (ih bs (by simpa using h) fun k y v e1 e2 => f (k + 1) y v (by simpa using e1) (by simpa using e2))
    refine gen _ _ (by rw [colV_len wl]; simp [q.len]) fun k y v e1 e2 => ?_
    rw [colV_get wl] at e1
    have hk : k < src.length := by
      by_cases hk : k < src.length
      · exact hk
      · rw [List.getElem?_eq_none (by simp; omega)] at e2
        cases e2
    obtain ⟨r, y', h1, h2⟩ := row k hk
    rw [h1] at e1
    simp only [Option.bind_some] at e1
    rw [h2] at e1
    obtain rfl : y' = y := Option.some.inj e1
    rw [List.getElem?_map, List.getElem?_range hk] at e2
    cases e2
    obtain ⟨⟨b, c⟩, e3⟩ : ∃ p, src[k]? = some p := ⟨_, List.getElem?_eq_getElem hk⟩
    exact (hc k b c r y' e3 h1 h2).2
theorem pushZ {h : Heap} {S : Addr} {xs : Array Value} {n : Nat} {v : Value} (e : h.get? S = some { cls := .type "list", dict := none, data := .seq xs n, slots := #[] }) :
    ∃ n', (h.update S (Obj.mapSeq (·.push v))).get? S = some { cls := .type "list", dict := none, data := .seq (xs.push v) n', slots := #[] } :=
  ⟨if (xs.push v).size == xs.size then n else n + 1, Heap.get?_update_self (Obj.mapSeq (·.push v)) e rfl⟩
/-- the list grows by the columns -/
theorem ext_cols {N m S : Nat} {src : List (Bool × Addr)} {rows : List (List V)} {Qc : List Addr → Hp → Prop} {R : Result → Shared → Prop} {res : Value} (hh : A.handled = none) (hS : N + src.length + 2 < S) (hm : m ≤ sizeLine)
    (hR : ∀ s' H' (ts : List Addr) n, Inv X pins σ H' s' → s'.heap.get? S = some { cls := .type "list", dict := none, data := .seq (ts.map Value.ref).toArray n, slots := #[] } → ts.length = m → Qc ts H' → R (.ok (.ret res)) s') :
    ∀ (j i : Nat) (s : Shared) (H : Hp) (ts : List Addr) (n : Nat), i + j = m → i ≠ 0 ∨ 0 < m → Inv X pins σ H s → (∀ b : Nat, N ≤ b → (b ≤ N + src.length + 2 ∨ b = S) → FpOk X pins H b) → Src X.K H N m src rows → ZF s.heap N src i → S < s.heap.objs.size →
      s.heap.get? S = some { cls := .type "list", dict := none, data := .seq (ts.map Value.ref).toArray n, slots := #[] } → ts.length = i → Cols Qc ((List.range' i j).map (colV rows)) ts H →
      codeAny (model X.prog X.w) A (.builtin "list.extend.loop" ⟨[.ref S, .ref (N + src.length + 2), res], []⟩) R s := by
  intro j
  induction j with
  | zero =>
    intro i s H ts n e hi I hf q z hl hg ht hc
    have ei : i = m := by omega
    subst ei
    have i0 : i ≠ 0 := hi.elim id fun z => by omega
    rcases z with ⟨z, _⟩ | ⟨a, f, o, _, ha, hla, z⟩
    · exact absurd z i0
    refine codeAny_builtin PySem.F.entry_extend_loop ?_
    rw [Around.under_plainId PySem.F.plain_extend_loop _]
    show wpAny _ A.in1 (pyNext (.ref (N + src.length + 2)) >>= _) _ _ s
    have hh1 : A.in1.handled = none := hh
    obtain ⟨⟨b0, c0⟩, h0⟩ : ∃ p, src[0]? = some p := ⟨_, List.getElem?_eq_getElem (List.length_pos_iff.mpr q.n0)⟩
    obtain ⟨r0, hr0⟩ : ∃ r, rows[0]? = some r := ⟨_, List.getElem?_eq_getElem (by rw [q.len]; exact List.length_pos_iff.mpr q.n0)⟩
    obtain ⟨its, rv, p1⟩ := sqB_at I (q.sq 0 b0 c0 r0 h0 hr0)
    have nn : its.length = i := by rw [← rv.length]; exact q.wd r0 (List.mem_of_getElem? hr0)
    have ty : s.TypeIs (.ref (N + src.length + 2)) "zip" := ⟨_, z.zp, rfl⟩
    refine wpAny_bind ?_
    unfold pyNext
    refine wpAny_bind (wpAny_attempt (wpAny_callSpecial?_slot (name := Str.ofString "__next__") ty PySem.F.slot_zip_next (wpAny_call_entry PySem.F.slot_zip_next ty PySem.F.entry_zip_next (zn_end hh1 h0 q.lt z ha p1 (by simp [nn]) fun h' e hk he => ?_) (PySem.F.args_zip_next_1 _))))
    obtain ⟨oe, e1, e2⟩ := he
    refine wpAny_bind (wpAny_isInstance (T := "StopIteration") (b := true) ⟨oe, e1, e2⟩ isSubtype_stop ?_)
    refine wpAny_pure ?_
    refine wpAny_pure (hR _ H ts n (I.turnedL (t' := s.toks) (ch := (List.range (src.length + 3)).map (N + ·)) (fun b o hb e => hk b o ?_ e) (fun b hb => ?_)) (hk S _ (.inr hS) hg) ht hc)
    · by_cases h1 : @LT.lt Nat _ b N
      · exact .inl h1
      · by_cases h2 : @LT.lt Nat _ (N + src.length + 2) b
        · exact .inr h2
        · refine absurd ?_ hb
          rw [List.mem_map]
          exact ⟨@HSub.hSub Nat Nat Nat _ b N, by rw [List.mem_range]; omega, by show N + (b - N) = b; omega⟩
    · rw [List.mem_map] at hb
      obtain ⟨k, hk, rfl⟩ := hb
      rw [List.mem_range] at hk
      exact hf _ (by omega) (.inl (by omega))
  | succ j ih =>
    intro i s H ts n e hi I hf q z hl hg ht hc
    have him : i < m := by omega
    obtain ⟨col, hv, vals⟩ := q.col I him
    have hh1 : A.in1.handled = none := hh
    have nw : ∀ c o, (c < N ∨ N + src.length + 2 < c) → s.heap.get? c = some o → s.heap.get? c = some o := fun c o _ z => z
    have fr : H s.heap.objs.size = none := I.hok.fresh (Nat.le_refl _)
    have hT : @LT.lt Nat _ S s.heap.objs.size := hl
    refine codeAny_builtin PySem.F.entry_extend_loop ?_
    rw [Around.under_plainId PySem.F.plain_extend_loop _]
    show wpAny _ A.in1 (pyNext (.ref (N + src.length + 2)) >>= _) _ _ s
    obtain ⟨f0, f1, gz⟩ := z.ty
    have ty : s.TypeIs (.ref (N + src.length + 2)) "zip" := ⟨_, gz, rfl⟩
    have rest : ∀ (h' : Heap) (g0 : Value) (g1 : Bool), (∃ (a : Nat) (o : Obj), h'.get? a = some o ∧ N + src.length + 2 < a ∧ ZS h' N src (i + 1) (rawInt a) (.bool g1)) → h'.get? s.heap.objs.size = some { cls := .type "tuple", data := .seq ((List.range src.length).map col).toArray } → h'.objs.size = s.heap.objs.size + 1 →
        (∀ c o, (c < N ∨ N + src.length + 2 < c) → s.heap.get? c = some o → h'.get? c = some o) →
        wpAny (model X.prog X.w) A.in1 (updateSeq S (·.push (.ref s.heap.objs.size)) >>= fun _ => again (.builtin "list.extend.loop" ⟨[.ref S, .ref (N + src.length + 2), res], []⟩)) (fun fin s' => match fin with
          | .done f => R (.ok f) s'
          | .again c => c.quiet = true ∧ codeAny (model X.prog X.w) A c R s') (fun e s' => R (.error e) s') { s with heap := h' } := by
      rintro h' g0 g1 ⟨a, o, ha, hla, zs⟩ hnew hsz hk
      have chk : ∀ b : Nat, b ∉ (List.range (src.length + 3)).map (N + ·) → b < N ∨ N + src.length + 2 < b := fun b hb => by
        by_cases h1 : b < N
        · exact .inl h1
        · by_cases h2 : N + src.length + 2 < b
          · exact .inr h2
          · refine absurd ?_ hb
            rw [List.mem_map]
            exact ⟨b - N, by rw [List.mem_range]; omega, by show N + (b - N) = b; omega⟩
      have fpo : ∀ b : Nat, b ∈ (List.range (src.length + 3)).map (N + ·) → N ≤ b ∧ b ≤ N + src.length + 2 := fun b hb => by
        rw [List.mem_map] at hb
        obtain ⟨k, hk, rfl⟩ := hb
        rw [List.mem_range] at hk
        omega
      have clen : (colV rows i).length ≤ sizeLine := by
        have h12 : 12 ≤ sizeLine := by decide
        have := q.n12
        rw [colV_len fun r hr => by rw [q.wd r hr]; exact him, q.len]
        omega
      have new : ObjOk X.prog X.w (upd H s.heap.objs.size (.tup (colV rows i))) h' s.heap.objs.size (.tup (colV rows i)) := ⟨clen, _, vals, ⟨_, hnew, rfl, _, rfl⟩⟩
      have I1 : Inv X pins σ (upd H s.heap.objs.size (.tup (colV rows i))) { s with heap := h', toks := s.toks } := I.turnedNew (ch := (List.range (src.length + 3)).map (N + ·)) (fun b o hb e => hk b o (chk b hb) e) (fun b hb => hf b (fpo b hb).1 (.inl (fpo b hb).2)) (Nat.le_refl _) new
      have hf1 : ∀ b : Nat, N ≤ b → (b ≤ N + src.length + 2 ∨ b = S) → FpOk X pins (upd H s.heap.objs.size (.tup (colV rows i))) b := fun b h1 h2 => by
        have := hf b h1 h2
        refine ⟨?_, this.2⟩
        rw [upd_ne (neA (.inl (by omega)))]
        exact this.1
      have gS : h'.get? S = _ := hk S _ (.inr hS) hg
      have tl : ts.length ≤ sizeLine := by omega
      have hts : (ts.map Value.ref).toArray.size = i := by simp [ht]
      refine wpAny_bind (wpAny_updateSeq gS rfl (wpAny_pure ⟨plainId_quiet PySem.F.plain_extend_loop _, ?_⟩) (by rw [hts]; omega) (by rw [Array.size_push, hts]; omega))
      have oth : ∀ (b : Nat) (o : Obj), b ≠ S → h'.get? b = some o → (h'.update S (Obj.mapSeq (·.push (.ref s.heap.objs.size)))).get? b = some o := fun b o hb e => (Heap.get?_update_other _ _ (Ne.symm hb)).trans e
      have gS2 := Heap.get?_update_self (Obj.mapSeq (·.push (.ref s.heap.objs.size))) gS rfl
      obtain ⟨n', gS3⟩ : ∃ n', (h'.update S (Obj.mapSeq (·.push (.ref s.heap.objs.size)))).get? S = some { cls := .type "list", dict := none, data := .seq ((ts ++ [s.heap.objs.size]).map Value.ref).toArray n', slots := #[] } := by
        rw [show ((ts ++ [s.heap.objs.size]).map Value.ref).toArray = (ts.map Value.ref).toArray.push (.ref s.heap.objs.size) by simp]
        exact pushZ gS
      have I2 : Inv X pins σ (upd H s.heap.objs.size (.tup (colV rows i))) { s with heap := h'.update S (Obj.mapSeq (·.push (.ref s.heap.objs.size))), toks := s.toks } := Inv.turnedL (s := { s with heap := h', toks := s.toks }) (t' := s.toks) (ch := [S]) I1 (fun b o hb e => oth b o (fun z => hb (by rw [z]; simp)) e) (fun b hb => by
        rw [List.mem_singleton] at hb
        subst hb
        exact hf1 _ (by omega) (.inr rfl))
      have hc2 : Cols Qc ((List.range' (i + 1) j).map (colV rows)) (ts ++ [s.heap.objs.size]) (upd H s.heap.objs.size (.tup (colV rows i))) := by
        rw [List.range'_succ, List.map_cons] at hc
        exact hc _ fr
      have zf : ZF h' N src (i + 1) := .inr ⟨a, g1, o, Nat.succ_ne_zero i, ha, hla, zs⟩
      refine ih (i + 1) _ _ (ts ++ [s.heap.objs.size]) n' (by omega) (.inl (Nat.succ_ne_zero i)) I2 hf1 (q.mono fr) (zf.to fun c o h1 h2 e => ?_) ?_ gS3 (by simp [ht]) hc2
      · by_cases hcS : c = S
        · subst hcS
          exact ⟨_, gS3, fun h3 => by omega⟩
        · exact ⟨o, oth c o hcS e, fun _ => rfl⟩
      · show S < (h'.update S _).objs.size
        exact Heap.lt_size gS2
    refine wpAny_bind ?_
    unfold pyNext
    refine wpAny_bind (wpAny_attempt (wpAny_callSpecial?_slot (name := Str.ofString "__next__") ty PySem.F.slot_zip_next (wpAny_call_entry PySem.F.slot_zip_next ty PySem.F.entry_zip_next ?_ (PySem.F.args_zip_next_1 _))))
    rcases z with ⟨i0, z⟩ | ⟨a, f, o, i0, ha, hla, z⟩
    · subst i0
      exact zn_first q.n0 q.n12 q.lt z hv fun h' a1 a2 a3 a4 => wpAny_pure (rest h' .none false ⟨s.heap.objs.size, _, a2, by omega, a1⟩ a2 a3 a4)
    · exact zn_later q.n0 q.n12 q.lt z ha hv fun h' a1 a2 a3 a4 => wpAny_pure (rest h' .none true ⟨a, o, a4 a o (.inr hla) ha, hla, a1⟩ a2 a3 a4)
end
end Pv

set_option Elab.async false
set_option linter.all false
set_option maxRecDepth 100000
set_option maxHeartbeats 1000000
/-! tuple(zip(*rows)): the call. -/
namespace Pv
open PySem PySem.Spec PyProof.Rows L2
section
variable {X : Cx} {pins : List (Addr × Obj)} {σ : L2.St} {H : Hp} {s : Shared} {A : Around} {E : Value → Shared → Prop} {N m : Nat} {src : List (Bool × Addr)} {rows : List (List V)} {Qc : List Addr → Hp → Prop}
theorem collect_zp {Q : List Value → Shared → Prop} (hh : A.handled = none) (hm : m ≤ sizeLine) (m0 : 0 < m) (I : Inv X pins σ H s) (hf : ∀ b : Nat, N ≤ b → b ≤ N + src.length + 2 → FpOk X pins H b) (q : Src X.K H N m src rows) (z : ZS s.heap N src 0 .none (.bool false))
    (hc : Cols Qc ((List.range' 0 m).map (colV rows)) [] H) (hQ : ∀ s' H' (ts : List Addr), Inv X pins σ H' s' → ts.length = m → Qc ts H' → Q (ts.map Value.ref) s') : wpAny (model X.prog X.w) A (collect (.ref (N + src.length + 2))) Q E s := by
  have zlt : @LT.lt Nat _ (N + src.length + 2) s.heap.objs.size := Heap.lt_size z.zp
  unfold collect
  refine wpAny_bind (wpAny_runValue (codeAny_builtin PySem.F.entry_proto_collect ?_))
  rw [Around.under_plainId PySem.F.plain_proto_collect _]
  show wpAny _ A.in1 (newList [] >>= fun l => again (.builtin "list.__iadd__" ⟨[l, .ref (N + src.length + 2)], []⟩)) _ _ s
  refine wpAny_bind (wpAny_newObj_type ?_)
  refine wpAny_pure ⟨plainId_quiet PySem.F.plain_list_iadd _, codeAny_builtin PySem.F.entry_list_iadd ?_⟩
  rw [Around.under_plainId PySem.F.plain_list_iadd _]
  let S : Nat := s.heap.objs.size
  let h1 : Heap := s.heap.push { cls := .type "list", data := .seq #[] }
  have z1 : ZS h1 N src 0 .none (.bool false) := z.to fun c o _ _ e => Heap.get?_push_of_some _ e
  show wpAny _ A.in1 (Builtin.List.listExtendWith (.ref S) (.ref (N + src.length + 2)) (.ref S)) _ _ { s with heap := h1 }
  unfold Builtin.List.listExtendWith
  have ty : ({ s with heap := h1 } : Shared).TypeIs (.ref (N + src.length + 2)) "zip" := ⟨_, z1.zp, rfl⟩
  refine wpAny_bind (wpAny_typeOf ty ?_)
  have ne : Builtin.List.listSameRef (.ref S) (.ref (N + src.length + 2)) = false := by
    have : S ≠ N + src.length + 2 := by show s.heap.objs.size ≠ _; omega
    simp [Builtin.List.listSameRef, this]
  have t1 : (Value.type "zip" == Value.type "list") = false := by decide
  have t2 : (Value.type "zip" == Value.type "tuple") = false := by decide
  simp only [ne, t1, t2, Bool.or_false, Bool.false_eq_true, if_false]
  refine wpAny_bind (wpAny_pyIter_zip z1.zp ?_)
  refine wpAny_bind (wpAny_holding ?_)
  unfold Builtin.List.listLengthHint
  refine wpAny_bind (wpAny_specialOf ty nolen_zip ?_)
  show wpAny _ A.in1 (specialOf (Value.ref (N + src.length + 2)) (Str.ofString "__length_hint__") >>= _) _ _ _
  refine wpAny_bind (wpAny_specialOf ty nohint_zip ?_)
  refine wpAny_pure ?_
  show wpAny _ A.in1 (rule "list.extend.makes-room" >>= fun _ => Builtin.List.listTouch (.ref S) >>= fun _ => again (.builtin "list.extend.loop" ⟨[.ref S, .ref (N + src.length + 2), .ref S], []⟩)) _ _ { s with heap := h1 }
  refine wpAny_bind (wpAny_rule ?_)
  have g1 : h1.get? S = some { cls := .type "list", dict := none, data := .seq #[], slots := #[] } := Heap.get?_push_size _ rfl
  refine wpAny_bind ?_
  show wpAny _ A.in1 (updateSeq S (·.push .none) >>= fun _ => updateSeq S (·.pop)) _ _ { s with heap := h1 }
  have o0 : (0 : Nat) ≤ sizeLine := Nat.zero_le _
  have o1 : 1 ≤ sizeLine := by decide
  refine wpAny_bind (wpAny_updateSeq g1 rfl ?_ (by simp) (by simp))
  obtain ⟨n2, g2⟩ := pushZ (v := .none) g1
  refine wpAny_updateSeq g2 rfl ?_ (by simpa using o1) (by simp)
  have g3 : ((h1.update S (Obj.mapSeq (·.push .none))).update S (Obj.mapSeq (·.pop))).get? S = some { cls := .type "list", dict := none, data := .seq #[] (n2 + 1), slots := #[] } := (Heap.get?_update_self (Obj.mapSeq (·.pop)) g2 rfl).trans (by rfl)
  have oth : ∀ (b : Nat) (o : Obj), b ≠ S → h1.get? b = some o → ((h1.update S (Obj.mapSeq (·.push .none))).update S (Obj.mapSeq (·.pop))).get? b = some o := fun b o hb e => (Heap.get?_update_other _ _ (Ne.symm hb)).trans ((Heap.get?_update_other _ _ (Ne.symm hb)).trans e)
  have up : ∀ (b : Nat) (o : Obj), s.heap.get? b = some o → ((h1.update S (Obj.mapSeq (·.push .none))).update S (Obj.mapSeq (·.pop))).get? b = some o := fun b o e => oth b o (fun y => by
    subst y
    exact absurd (Heap.lt_size e) (Nat.lt_irrefl _)) (Heap.get?_push_of_some _ e)
  have fS : FpOk X pins H S := I.fpOk (Nat.le_refl _) (I.hok.fresh (Nat.le_refl _))
  have I3 : Inv X pins σ H { s with heap := (h1.update S (Obj.mapSeq (·.push .none))).update S (Obj.mapSeq (·.pop)), toks := s.toks } := I.kept (t' := s.toks) fun b o e => up b o e
  refine wpAny_pure ⟨plainId_quiet PySem.F.plain_extend_loop _, ?_⟩
  refine ext_cols (A := A) (N := N) (m := m) (S := S) (src := src) (rows := rows) (Qc := Qc) (res := .ref S) hh zlt hm (fun s' H' ts n I' gS ht hq => ?_) m 0 _ H [] (n2 + 1) (by omega) (.inr m0) I3 (fun b h1 h2 => ?_) q (.inl ⟨rfl, z.to fun c o _ _ e => up c o e⟩) (Heap.lt_size g3) g3 rfl hc
  · show wpAny _ A (load S >>= _) _ _ s'
    refine wpAny_bind (wpAny_load gS ?_)
    refine wpAny_pure ?_
    have := hQ s' H' ts I' ht hq
    simpa using this
  · rcases h2 with h2 | h2
    · exact hf b h1 h2
    · subst h2
      exact fS
theorem vals_refs : ∀ ts : List Addr, Vals (ts.map V.ref) (ts.map Value.ref)
  | [] => .nil
  | t :: ts => .cons rfl (vals_refs ts)
theorem code_tup_zp {R : Result → Shared → Prop} (hh : A.handled = none) (hm : m ≤ sizeLine) (m0 : 0 < m) (I : Inv X pins σ H s) (hf : ∀ b : Nat, N ≤ b → b ≤ N + src.length + 2 → FpOk X pins H b) (q : Src X.K H N m src rows) (z : ZS s.heap N src 0 .none (.bool false))
    (hc : Cols Qc ((List.range' 0 m).map (colV rows)) [] H) (hQ : ∀ s' H' (ts : List Addr), Inv X pins σ H' s' → ts.length = m → Qc ts H' → R (.ok (.ret (.ref s'.heap.objs.size))) { s' with heap := s'.heap.push { cls := .type "tuple", data := .seq (ts.map Value.ref).toArray } }) :
    codeAny (model X.prog X.w) A (.call (.builtin "tuple.__new__") ⟨[.type "tuple", .ref (N + src.length + 2)], []⟩) R s := by
  refine codeAny_of_tree ?_
  show wpAny _ A.in1 (do checkBuiltinCall "tuple.__new__" ⟨[.type "tuple", .ref (N + src.length + 2)], []⟩; again (.builtin "tuple.__new__" ⟨[.type "tuple", .ref (N + src.length + 2)], []⟩)) _ _ s
  refine wpAny_bind (wpAny_of_eq (PySem.F.newCall_tuple_1 _) (wpAny_pure ⟨plainId_quiet PySem.F.plain_tuple_new _, codeAny_builtin PySem.F.entry_tuple_new ?_⟩))
  rw [Around.under_plainId PySem.F.plain_tuple_new _]
  have f1 := sub_tuple_self
  have f2 := init_tuple_lookup
  have f3 := madeHere_tuple
  have ty : s.TypeIs (.ref (N + src.length + 2)) "zip" := ⟨_, z.zp, rfl⟩
  have hh1 : A.in1.handled = none := hh
  wp_walk using wpAny_typeOf ty, collect_zp (A := A.in1) hh1 hm m0 I hf q z hc
  intro s' H' ts I' ht hq
  show wpAny _ _ (Builtin.Tuple.tupleExact (ts.map Value.ref).toArray >>= fun v => ret v) _ _ _
  unfold Builtin.Tuple.tupleExact
  refine wpAny_bind (wpAny_newObj_type ?_ (by show (ts.map Value.ref).toArray.size ≤ sizeLine; simp [ht]; exact hm))
  exact wpAny_pure (hQ s' H' ts I' ht hq)
/-- what comes of tuple(zip(*x)) -/
def tTrn (K : W.Frag) (te : TE) : TE := fun σ H Q => te σ H fun x H1 => ∃ (a : Addr) (b : Bool) (src : List (Bool × Addr)) (rows : List (List V)) (m : Nat), x = .ref a ∧ SqB K H1 b a (src.map fun p => V.ref p.2) ∧ rows.length = src.length ∧ src ≠ [] ∧ src.length ≤ 12 ∧
  (∀ (k : Nat) (b : Bool) (c : Addr) (r : List V), src[k]? = some (b, c) → rows[k]? = some r → SqB K H1 b c r) ∧ (∀ r ∈ rows, r.length = m) ∧ 0 < m ∧ m ≤ sizeLine ∧
  Cols (fun ts H' => ∀ p, H' p = none → Q (.ref p) (upd H' p (.tup (ts.map V.ref)))) ((List.range' 0 m).map (colV rows)) [] H1
theorem vals_ref_eq : ∀ {l : List Addr} {us : List Value}, Vals (l.map V.ref) us → us = l.map Value.ref
  | [], _, .nil => rfl
  | a :: l, _, .cons r h => by
    cases r
    rw [vals_ref_eq h]
    rfl
theorem zip_hk {M : Model} : ∀ h : Heap, True → ∃ k, (k = Keeper.frame ∨ k = Keeper.machine ∨ k = Keeper.boundFrame) ∧ W.Looks M h (keeperOf (.type "zip")) k := fun h _ => ⟨.machine, .inr (.inl rfl), W.Looks.of_pure rfl⟩
theorem pe_trn {e : Expr} {te : TE} {p1 p2 p3 pos1 pos2 : Pos} (hc : X.calm = true) (hg1 : Gl X "tuple") (hm1 : X.mg "tuple" = none) (hg2 : Gl X "zip") (hm2 : X.mg "zip" = none) (he : PE X e te) :
    PE X (.Call (.Name "tuple" p1) [.Call (.Name "zip" p2) [.Starred e p3] [] pos2] [] pos1) (tTrn X.K te) := by
  refine ⟨fun pins s σ H Q I h => ?_⟩
  refine wpAny_Call_Name_kw (ld_blt I hg1 hm1 (by decide +kernel : bootBuiltins ("tuple" : Str) = some (.type "tuple")) ?_)
  refine PyProof.Rows.callWith_type1 ?_ (by rfl) (by rfl)
  refine Calls.spliced_cons ?_
  refine wpAny_Call_Name_kw (ld_blt I hg2 hm2 PyProof.Rows.boot_zip ?_)
  refine W.ks_call (P := fun _ => True) rfl zip_hk (W.ks_lone (thn (he.run pins s σ H _ I h) fun v s1 ⟨y, H1, I1, ry, a, b, src, rows, m, ey, hsq, hl, n0, n12, sq, wd, m0, hm, hcol⟩ => ?_))
  subst ey
  obtain rfl : v = Value.ref a := ry
  have hxs : SqT X.K H1 a (src.map fun p => V.ref p.2) ∨ SqL X.K H1 a (src.map fun p => V.ref p.2) := by
    cases b with
    | true => exact .inl hsq
    | false => exact .inr hsq
  refine StX.star_any I1 hxs fun us s2 I2 rv => ⟨trivial, ?_⟩
  have eu : us = src.map fun p => Value.ref p.2 := by
    have : (src.map fun p => V.ref p.2) = (src.map (·.2)).map V.ref := by simp
    rw [this] at rv
    rw [vals_ref_eq rv]
    simp
  subst eu
  have row : ∀ k : Nat, k < src.length → ∃ r, rows[k]? = some r := fun k hk => ⟨_, List.getElem?_eq_getElem (by rw [hl]; exact hk)⟩
  have all : ∀ p ∈ src, ∃ xs, SSq p.1 s2.heap p.2 xs := fun p hp => by
    obtain ⟨k, hk, e⟩ := List.getElem_of_mem hp
    obtain ⟨r, hr⟩ := row k hk
    obtain ⟨its, _, z⟩ := sqB_at I2 (sq k p.1 p.2 r (by rw [List.getElem?_eq_getElem hk, e]) hr)
    exact ⟨_, z⟩
  show wpAny _ _ (call (.type "zip") (src.map fun p => Value.ref p.2)) _ _ s2
  refine call_zpN n12 all fun h' t zs hk hsz => ?_
  refine Calls.spliced_nil ?_
  show wpAny _ _ (call (.type "tuple") [.ref (s2.heap.objs.size + src.length + 2)]) _ _ _
  have I3 : Inv X pins σ H1 { s2 with heap := h', toks := t } := I2.kept (t' := t) hk
  have hf : ∀ b : Nat, s2.heap.objs.size ≤ b → b ≤ s2.heap.objs.size + src.length + 2 → FpOk X pins H1 b := fun b h1 _ => I2.fpOk h1 (I2.hok.fresh h1)
  have q : Src X.K H1 s2.heap.objs.size m src rows := ⟨hl, n0, n12, fun p hp => (all p hp).elim fun _ z => z.lt, sq, wd⟩
  have hh1 : X.A.in1.handled = none := I.ok.hd hc
  refine callType_codes (Q₁ := fun obj s₁ => s₁.TypeIs obj "tuple" ∧ EP X pins σ Q obj s₁) PySem.F.called_tuple (PySem.F.typeCall_tuple_1 _) PySem.F.entry_object_init
    (code_tup_zp (A := X.A.in1) hh1 hm m0 I3 hf q zs hcol fun s' H' ts I' ht hq => ?_) fun obj s₁ h₁ => ?_
  · refine ⟨⟨_, Heap.get?_push_size _ rfl, rfl⟩, .ref s'.heap.objs.size, _, I'.laid (t' := s'.toks) (o := .tup (ts.map V.ref)) (fun b ob q => Heap.get?_push_of_some _ q) (Nat.le_refl _) ?_, rfl, hq _ (I'.hok.fresh (Nat.le_refl _))⟩
    exact ⟨by rw [List.length_map, ht]; exact hm, _, vals_refs ts, IsTup.new _ _⟩
  · exact ⟨h₁.1, PySem.F.args_object_init_2 obj _, object_init_meets PySem.F.called_tuple.init.lookup PySem.F.called_tuple.made (by decide) X.prog X.w X.A.in1 _ s₁ ⟨h₁.1, rfl, h₁.2⟩⟩
end
end Pv

set_option Elab.async false
set_option linter.all false
set_option maxRecDepth 100000
/-! Values without addresses, a store of what may change, and what of them stands in the abstract heap. -/
namespace Pv
open PySem PySem.Spec PyProof.Rows L2

inductive PV where
  | non | bl (b : Bool) | int (i : Int) | str (x : Str) | ty (n : String)
  | tup (xs : List PV) | lst (xs : List PV) | scr (ns : List Int)
  | ins (c : Nat) (fs : List (Str × PV))
  | ref (n : Nat)
/-- what may change: a list, an instance -/
inductive SO where
  | lst (xs : List PV) | ins (c : Nat) (fs : List (Str × PV))
abbrev Store := List SO

/-- never written by a program: a tuple, a locked thing -/
def Stay : HO → Prop
  | .tup _ => True
  | .frz _ _ => True
  | _ => False

/-- a list that the top has written -/
def KL (K : W.Frag) (a : Addr) (xs : List V) : Prop := ∃ (o : Obj) (its : Array Value) (n : Nat), K.lookup a = some o ∧ o.cls = .type "list" ∧ o.dict = none ∧ o.data = .seq its n ∧ its.size ≤ sizeLine ∧ Vals xs its.toList
section
variable (K : W.Frag) (cl : Nat → Addr) (H : Hp) (m : List Addr)
mutual
def Rp : PV → V → Prop
  | .non, v => v = .non
  | .bl b, v => v = .bl b
  | .int i, v => v = .int i
  | .str x, v => v = .str x
  | .ty n, v => v = .ty n
  | .tup xs, v => ∃ a ys, v = .ref a ∧ SqT K H a ys ∧ RpL xs ys
  | .lst xs, v => ∃ a ys, v = .ref a ∧ H a = some (.lst ys) ∧ a ∉ m ∧ RpL xs ys
  | .scr ns, v => ∃ a, v = .ref a ∧ ((Rd H a (.lst (ns.map V.int)) ∧ a ∉ m) ∨ KL K a (ns.map V.int))
  | .ins c fs, v => ∃ a dx gs, v = .ref a ∧ H a = some (.ins (cl c) dx gs) ∧ a ∉ m ∧ RpF fs gs
  | .ref n, v => ∃ a, v = .ref a ∧ m[n]? = some a
def RpL : List PV → List V → Prop
  | [], ys => ys = []
  | x :: xs, ys => ∃ y zs, ys = y :: zs ∧ Rp x y ∧ RpL xs zs
def RpF : List (Str × PV) → List (Str × V) → Prop
  | [], ys => ys = []
  | (f, x) :: xs, ys => ∃ y zs, ys = (f, y) :: zs ∧ Rp x y ∧ RpF xs zs
end
def RpO : SO → HO → Prop
  | .lst xs, o => ∃ ys, o = .lst ys ∧ RpL K cl H m xs ys
  | .ins c fs, o => ∃ dx gs, o = .ins (cl c) dx gs ∧ RpF K cl H m fs gs
/-- the store as it stands -/
structure SR (st : Store) : Prop where
  len : m.length = st.length
  nd : m.Nodup
  at_ : ∀ (n : Nat) (a : Addr) (o : SO), m[n]? = some a → st[n]? = some o → ∃ u, H a = some u ∧ RpO K cl H m o u
/-- the names' values -/
def ER (env : List (Option PV)) (σ : L2.St) : Prop := env.length = σ.length ∧ ∀ (i : Nat) (x : PV), env[i]? = some (some x) → ∃ v, σ[i]? = some (some v) ∧ Rp K cl H m x v
end

/-- later: what was not to change is as it was; more may be tracked -/
structure Ext (m : List Addr) (H : Hp) (m' : List Addr) (H' : Hp) : Prop where
  pre : ∃ new, m' = m ++ new ∧ ∀ a ∈ new, H a = none
  keep : ∀ a o, H a = some o → (a ∉ m ∨ Stay o) → H' a = some o
  trk : ∀ a, H a ≠ none → H' a ≠ none

theorem Ext.refl (m : List Addr) (H : Hp) : Ext m H m H := ⟨⟨[], by simp, fun _ h => by simp at h⟩, fun _ _ h _ => h, fun _ h => h⟩
theorem Ext.trans {m m1 m2 : List Addr} {H H1 H2 : Hp} (a : Ext m H m1 H1) (b : Ext m1 H1 m2 H2) : Ext m H m2 H2 := by
  obtain ⟨⟨n1, rfl, f1⟩, k1, t1⟩ := a
  obtain ⟨⟨n2, rfl, f2⟩, k2, t2⟩ := b
  refine ⟨⟨n1 ++ n2, by rw [List.append_assoc], fun c hc => ?_⟩, fun c o h q => ?_, fun c h => t2 c (t1 c h)⟩
  · rcases List.mem_append.mp hc with z | z
    · exact f1 c z
    · cases e : H c with
      | none => rfl
      | some o => exact absurd (f2 c z) (t1 c (by rw [e]; simp))
  · have h1 := k1 c o h q
    refine k2 c o h1 ?_
    rcases q with q | q
    · refine .inl fun z => ?_
      rcases List.mem_append.mp z with z | z
      · exact q z
      · rw [f1 c z] at h; cases h
    · exact .inr q
section
variable {K : W.Frag} {cl : Nat → Addr} {m m' : List Addr} {H H' : Hp}
theorem Ext.notin (e : Ext m H m' H') {a : Addr} {o : HO} (h : H a = some o) (n : a ∉ m) : a ∉ m' := by
  obtain ⟨⟨new, rfl, f⟩, _, _⟩ := e
  intro z
  rcases List.mem_append.mp z with z | z
  · exact n z
  · rw [f a z] at h; cases h
theorem Ext.at_ (e : Ext m H m' H') {n : Nat} {a : Addr} (h : m[n]? = some a) : m'[n]? = some a := by
  obtain ⟨⟨new, rfl, f⟩, _, _⟩ := e
  rw [List.getElem?_append_left (List.getElem?_eq_some_iff.mp h).1]
  exact h
theorem Ext.sqT (e : Ext m H m' H') {a : Addr} {ys : List V} (h : SqT K H a ys) : SqT K H' a ys := by
  rcases h with (h | ⟨o, h⟩) | h
  · exact .inl (.inl (e.keep _ _ h (.inr trivial)))
  · exact .inl (.inr ⟨o, e.keep _ _ h (.inr trivial)⟩)
  · exact .inr h
theorem Ext.rdL (e : Ext m H m' H') {a : Addr} {ys : List V} (h : Rd H a (.lst ys)) (n : a ∉ m) : Rd H' a (.lst ys) := by
  rcases h with h | ⟨o, h⟩
  · exact .inl (e.keep _ _ h (.inl n))
  · exact .inr ⟨o, e.keep _ _ h (.inr trivial)⟩
theorem Rd.trk {a : Addr} {o : HO} (h : Rd H a o) : ∃ u, H a = some u := by
  rcases h with h | ⟨_, h⟩
  · exact ⟨_, h⟩
  · exact ⟨_, h⟩
mutual
theorem Rp.mono (e : Ext m H m' H') : ∀ (x : PV) (v : V), Rp K cl H m x v → Rp K cl H' m' x v
  | .non, v, h => h
  | .bl b, v, h => h
  | .int i, v, h => h
  | .str i, v, h => h
  | .ty n, v, h => h
  | .tup xs, v, h => by
    obtain ⟨a, ys, e1, q, r⟩ := h
    exact ⟨a, ys, e1, e.sqT q, RpL.mono e xs ys r⟩
  | .lst xs, v, h => by
    obtain ⟨a, ys, e1, q, n, r⟩ := h
    exact ⟨a, ys, e1, e.keep _ _ q (.inl n), e.notin q n, RpL.mono e xs ys r⟩
  | .scr ns, v, h => by
    obtain ⟨a, e1, q⟩ := h
    rcases q with ⟨q, n⟩ | q
    · obtain ⟨u, hu⟩ := Rd.trk q
      exact ⟨a, e1, .inl ⟨e.rdL q n, e.notin hu n⟩⟩
    · exact ⟨a, e1, .inr q⟩
  | .ins c fs, v, h => by
    obtain ⟨a, dx, gs, e1, q, n, r⟩ := h
    exact ⟨a, dx, gs, e1, e.keep _ _ q (.inl n), e.notin q n, RpF.mono e fs gs r⟩
  | .ref n, v, h => by
    obtain ⟨a, e1, q⟩ := h
    exact ⟨a, e1, e.at_ q⟩
theorem RpL.mono (e : Ext m H m' H') : ∀ (xs : List PV) (vs : List V), RpL K cl H m xs vs → RpL K cl H' m' xs vs
  | [], vs, h => h
  | x :: xs, vs, h => by
    obtain ⟨y, zs, e1, r, q⟩ := h
    exact ⟨y, zs, e1, Rp.mono e x y r, RpL.mono e xs zs q⟩
theorem RpF.mono (e : Ext m H m' H') : ∀ (xs : List (Str × PV)) (vs : List (Str × V)), RpF K cl H m xs vs → RpF K cl H' m' xs vs
  | [], vs, h => h
  | (f, x) :: xs, vs, h => by
    obtain ⟨y, zs, e1, r, q⟩ := h
    exact ⟨y, zs, e1, Rp.mono e x y r, RpF.mono e xs zs q⟩
end
theorem ER.mono (e : Ext m H m' H') {env : List (Option PV)} {σ : L2.St} (h : ER K cl H m env σ) : ER K cl H' m' env σ :=
  ⟨h.1, fun i x hx => let ⟨v, h1, h2⟩ := h.2 i x hx; ⟨v, h1, Rp.mono e _ _ h2⟩⟩
end
end Pv

set_option Elab.async false
set_option linter.all false
set_option maxRecDepth 100000
/-! A small language and what it does: the mirror of a program's text. -/
namespace Pv
open PySem PySem.Spec PyProof.Rows L2

inductive BOp where | add | sub | mul | fdiv | mod | pow
inductive COp where | lt | le | gt | ge | eq | ne | isN | notN | mem | notMem | isC | notC
/-- a class: a built-in one, an own one -/
inductive Cs where | ty (n : String) | cl (c : Nat)
  deriving DecidableEq
inductive Bi where
  | len | tuple | list (mu : Bool) | abs | int | gcd | all | any | sum | min2 | max2 | str
  | isi (t : Cs) | isiT (ts : List Cs) | repr
def isIsi : Bi → Bool
  | .isi _ => true | .isiT _ => true | _ => false
def isGcd : Bi → Bool
  | .gcd => true | _ => false
/-- what a loop walks -/
inductive Ik where | seq | rng1 | rng2 | zip2 | enum
inductive Tg where
  | n (i : Nat) | t (ts : List Tg)
inductive Ex where
  | v (i : Nat) | c (x : PV) | g (i : Nat)
  | bin (o : BOp) (a b : Ex) | cat (mu : Bool) (a b : Ex) | neg (a : Ex) | not (a : Ex)
  | cmp (o : COp) (a b : Ex) | chain (o p : COp) (a b c : Ex)
  | and (a b : Ex) | or (a b : Ex) | ite (c a b : Ex)
  | tup (es : List Ex) | lst (mu : Bool) (es : List Ex)
  | idx (a i : Ex) | slc (a lo hi : Ex) | nil
  | attr (a : Ex) (f : Str)
  | call (f : Nat) (es : List Ex) | new (c : Nat) (mu : Bool) (es : List Ex) | meth (a : Ex) (m : Str) (es : List Ex)
  | bi (b : Bi) (es : List Ex)
  | comp (mu : Bool) (e : Ex) (tg : Tg) (k : Ik) (its : List Ex) (ts : List Ex)
  | trn (a : Ex)
inductive Sm where
  | set (t : Tg) (e : Ex) | par (i j : Nat) (a b : Ex) | aug (i : Nat) (o : BOp) (e : Ex)
  | setIx (a i e : Ex) | swap (a i b j : Ex) (x y : Ex) | setAt (a : Ex) (f : Str) (e : Ex)
  | ex (e : Ex) | app (a e : Ex) | ext (a e : Ex)
  | ite (c : Ex) (a b : List Sm) | whl (c : Ex) (b : List Sm) | for_ (tg : Tg) (k : Ik) (its : List Ex) (b : List Sm)
  | ret (e : Ex) | retN | brk | cnt | pass | bad

/-- an exception in the air: its class, what it was made of -/
structure PX where
  c : Nat
  fs : List (Str × PV)
inductive Res (α : Type) where
  | ok (a : α) (st : Store) | exc (x : PX) (st : Store) | bad
def Res.bind {α β : Type} (r : Res α) (f : α → Store → Res β) : Res β := match r with
  | .ok a st => f a st
  | .exc x st => .exc x st
  | .bad => .bad
inductive Fl where | nx | ret (v : PV) | bk | ct
abbrev En := List (Option PV)

/-- a def: how many parameters, the defaults of the last ones, how many names, its body; mu: a list that it hands back stays one that may change -/
structure Df where
  np : Nat
  dv : List PV
  nn : Nat
  mu : Bool
  body : List Sm
/-- a class: its __init__ and its methods by name (numbers of defs) -/
structure Kl where
  init : Option Nat
  ms : List (Str × Nat)
  ats : List Str
structure Prog where
  df : List Df
  kl : List Kl
  gl : List PV
  isl : List (Cs × Cs × Bool)
  /-- how often a while loop may turn -/
  wf : Nat

/-! ### data -/
mutual
/-- every reference replaced -/
def frz (f : Nat → Option PV) : PV → Option PV
  | .tup xs => match frzL f xs with
    | some ys => some (.tup ys)
    | none => none
  | .lst xs => match frzL f xs with
    | some ys => some (.lst ys)
    | none => none
  | .ins c fs => match frzF f fs with
    | some gs => some (.ins c gs)
    | none => none
  | .ref n => f n
  | .non => some .non
  | .bl b => some (.bl b)
  | .int i => some (.int i)
  | .str x => some (.str x)
  | .ty n => some (.ty n)
  | .scr ns => some (.scr ns)
def frzL (f : Nat → Option PV) : List PV → Option (List PV)
  | [] => some []
  | x :: xs => match frz f x, frzL f xs with
    | some y, some ys => some (y :: ys)
    | _, _ => none
def frzF (f : Nat → Option PV) : List (Str × PV) → Option (List (Str × PV))
  | [] => some []
  | (n, x) :: xs => match frz f x, frzF f xs with
    | some y, some ys => some ((n, y) :: ys)
    | _, _ => none
end
/-- references from n₀ on replaced by what stands there (but x), d deep -/
def onRef (st : Store) (n₀ x : Nat) : Nat → Nat → Option PV
  | 0, n => if n < n₀ then some (.ref n) else none
  | d + 1, n => if n < n₀ then some (.ref n) else if n = x then none else match st[n]? with
    | some (.lst xs) => match frzL (onRef st n₀ x d) xs with
      | some ys => some (.lst ys)
      | none => none
    | some (.ins c fs) => match frzF (onRef st n₀ x d) fs with
      | some gs => some (.ins c gs)
      | none => none
    | none => none
mutual
/-- a value as data -/
def dat (f : Nat → Option PyData) : PV → Option PyData
  | .non => some .none
  | .bl b => some (.bool b)
  | .int i => some (.int i)
  | .str x => some (.str x)
  | .tup xs => match dats f xs with
    | some ds => some (.tuple ds)
    | none => none
  | .lst xs => match dats f xs with
    | some ds => some (.list ds)
    | none => none
  | .ref n => f n
  | _ => none
def dats (f : Nat → Option PyData) : List PV → Option (List PyData)
  | [] => some []
  | x :: xs => match dat f x, dats f xs with
    | some y, some ys => some (y :: ys)
    | _, _ => none
end
def refD (st : Store) : Nat → Nat → Option PyData
  | 0, _ => none
  | d + 1, n => match st[n]? with
    | some (.lst xs) => match dats (refD st d) xs with
      | some ds => some (.list ds)
      | none => none
    | _ => none
/-- lists that may change are read -/
def datOf (st : Store) (v : PV) : Option PyData := dat (refD st 3) v
/-- a list or a tuple: whether it is a tuple, its items -/
def seqOf (st : Store) : PV → Option (Bool × List PV)
  | .tup xs => some (true, xs)
  | .lst xs => some (false, xs)
  | .ref n => match st[n]? with
    | some (.lst xs) => some (false, xs)
    | _ => none
  | _ => none
/-- each a list or a tuple -/
def seqsOf (st : Store) : List PV → Option (List (List PV))
  | [] => some []
  | x :: xs => match seqOf st x, seqsOf st xs with
    | some (_, ys), some r => some (ys :: r)
    | _, _ => none
def colP (rows : List (List PV)) (i : Nat) : List PV := rows.filterMap (·[i]?)
/-- tuple(zip(*rows)), all rows of one length -/
def trnR (rows : List (List PV)) (st : Store) : Res PV := match rows with
  | [] => .bad
  | r :: rs => if rs.length < 12 ∧ 0 < r.length ∧ r.length ≤ sizeLine ∧ (∀ x ∈ rs, x.length = r.length) then .ok (.tup ((List.range' 0 r.length).map fun i => .tup (colP (r :: rs) i))) st else .bad
def insOf (st : Store) : PV → Option (Nat × List (Str × PV))
  | .ins c fs => some (c, fs)
  | .ref n => match st[n]? with
    | some (.ins c fs) => some (c, fs)
    | _ => none
  | _ => none
def truth (st : Store) : PV → Option Bool
  | .non => some false
  | .bl b => some b
  | .int i => some (decide (i ≠ 0))
  | .str x => if x.length ≤ sizeLine then some (decide (x.length ≠ 0)) else none
  | .tup xs => some (!xs.isEmpty)
  | .lst xs => some (!xs.isEmpty)
  | .ref n => match st[n]? with
    | some (.lst xs) => some (!xs.isEmpty)
    | _ => none
  | _ => none
/-- a new list: one that may change, or one that will not -/
def mkL (mu : Bool) (xs : List PV) (st : Store) : Res PV := if mu then .ok (.ref st.length) (st ++ [.lst xs]) else .ok (.lst xs) st

/-! ### operations -/
def MulOk (i j : Int) : Prop := i.natAbs.log2 + j.natAbs.log2 < 100000000
def DivOk (_ j : Int) : Prop := j ≠ 0 ∧ j.natAbs.log2 < 9000
def PowOk (i j : Int) : Prop := 0 ≤ j ∧ j ≤ 1000 ∧ i.natAbs < 2 ^ 64
instance : Decidable (MulOk i j) := by unfold MulOk; infer_instance
instance : Decidable (DivOk i j) := by unfold DivOk; infer_instance
instance : Decidable (PowOk i j) := by unfold PowOk; infer_instance
def bin2 (o : BOp) (a b : PV) (st : Store) : Res PV := match o, a, b with
  | .add, .int i, .int j => .ok (.int (i + j)) st
  | .sub, .int i, .int j => .ok (.int (i - j)) st
  | .mul, .int i, .int j => if MulOk i j then .ok (.int (i * j)) st else .bad
  | .fdiv, .int i, .int j => if DivOk i j then .ok (.int (i.fdiv j)) st else .bad
  | .mod, .int i, .int j => if j ≠ 0 then .ok (.int (i.fmod j)) st else .bad
  | .pow, .int i, .int j => if PowOk i j then .ok (.int (i ^ j.toNat)) st else .bad
  | .add, .tup xs, .tup ys => if xs.length + ys.length ≤ sizeLine then .ok (.tup (xs ++ ys)) st else .bad
  | .mul, .tup xs, .int k => if 0 ≤ k ∧ k ≤ 1000 ∧ xs.length ≤ 1000 then .ok (.tup (List.replicate k.toNat xs).flatten) st else .bad
  | .add, .str x, .str y => if x.length + y.length ≤ sizeLine then .ok (.str (x ++ y)) st else .bad
  | _, _, _ => .bad
/-- lists are added to a new list -/
def addL (mu : Bool) (a b : PV) (st : Store) : Res PV := match seqOf st a, seqOf st b with
  | some (false, xs), some (false, ys) => if xs.length + ys.length ≤ sizeLine then mkL mu (xs ++ ys) st else .bad
  | _, _ => .bad
def cmp2 (o : COp) (a b : PV) (st : Store) : Option Bool := match o with
  | .lt => match a, b with | .int i, .int j => some (decide (i < j)) | _, _ => none
  | .le => match a, b with | .int i, .int j => some (decide (i ≤ j)) | _, _ => none
  | .gt => match a, b with | .int i, .int j => some (decide (j < i)) | _, _ => none
  | .ge => match a, b with | .int i, .int j => some (decide (j ≤ i)) | _, _ => none
  | .eq => match datOf st a, datOf st b with
    | some d, some e => if SeqAt.shaped d = true ∧ SeqAt.shaped e = true then some (PyData.eqv d e) else none
    | _, _ => none
  | .ne => match datOf st a, datOf st b with
    | some d, some e => if SeqAt.shaped d = true ∧ SeqAt.shaped e = true then some (!PyData.eqv d e) else none
    | _, _ => none
  | .isN => match b with | .non => some (match a with | .non => true | _ => false) | _ => none
  | .notN => match b with | .non => some (match a with | .non => false | _ => true) | _ => none
  | _ => none

/-- a in b: a list of any data, a tuple of flat data -/
def memL (st : Store) (a b : PV) : Option Bool := match datOf st a, datOf st b with
  | some d, some (.list ds) => if SeqAt.shaped d = true ∧ SeqAt.shaped (.list ds) = true then some (ds.any fun z => PyData.eqv z d) else none
  | _, _ => none
def intsOf : List PV → Option (List Int)
  | [] => some []
  | .int i :: xs => match intsOf xs with
    | some is => some (i :: is)
    | none => none
  | _ :: _ => none
def blsOf : List PV → Option (List Bool)
  | [] => some []
  | .bl i :: xs => match blsOf xs with
    | some is => some (i :: is)
    | none => none
  | _ :: _ => none
def mem2 (st : Store) (a b : PV) : Option Bool := match b with
  | .tup xs => match a, intsOf xs with
    | .int i, some is => some (is.any fun j => decide (j = i))
    | _, _ => none
  | _ => memL st a b
def isV (a b : PV) : Option Bool := match b with
  | .non => some (match a with | .non => true | _ => false)
  | .bl c => some (match a with | .bl d => decide (d = c) | _ => false)
  | _ => none
def cmpR (o : COp) (a b : PV) (st : Store) : Option Bool := match o with
  | .mem => mem2 st a b
  | .notMem => (mem2 st a b).map (!·)
  | .isC => isV a b
  | .notC => (isV a b).map (!·)
  | o => cmp2 o a b st
/-- the type's name -/
def tyOf (st : Store) : PV → Option Cs
  | .non => some (.ty "NoneType")
  | .bl _ => some (.ty "bool")
  | .int _ => some (.ty "int")
  | .str _ => some (.ty "str")
  | .tup _ => some (.ty "tuple")
  | .lst _ => some (.ty "list")
  | .ins c _ => some (.cl c)
  | .ref n => match st[n]? with
    | some (.lst _) => some (.ty "list")
    | some (.ins c _) => some (.cl c)
    | none => none
  | _ => none
/-- is one class under another: built-in ones as they are, others by a list -/
def isaT (l : List (Cs × Cs × Bool)) (a b : Cs) : Option Bool := match a, b with
  | .ty x, .ty y => kitB x y
  | a, b => (l.find? fun q => decide (q.1 = a ∧ q.2.1 = b)).map (·.2.2)
def isaA (l : List (Cs × Cs × Bool)) (a : Cs) : List Cs → Option Bool
  | [] => some false
  | c :: r => match isaT l a c with
    | some true => some true
    | some false => isaA l a r
    | none => none
def csOk (n : Nat) : Cs → Bool
  | .ty _ => true
  | .cl c => decide (c < n)
def biF (l : List (Cs × Cs × Bool)) (n : Nat) (b : Bi) (vs : List PV) (st : Store) : Res PV := match b, vs with
  | .len, [v] => match seqOf st v with
    | some (_, xs) => .ok (.int xs.length) st
    | none => .bad
  | .tuple, [v] => match seqOf st v with
    | some (_, xs) => .ok (.tup xs) st
    | none => .bad
  | .list mu, [v] => match seqOf st v with
    | some (_, xs) => mkL mu xs st
    | none => .bad
  | .abs, [.int i] => .ok (.int (if i < 0 then -i else i)) st
  | .int, [.int i] => .ok (.int i) st
  | .gcd, [.int i, .int j] => .ok (.int ((Nat.gcd i.natAbs j.natAbs : Nat) : Int)) st
  | .all, [v] => match seqOf st v with
    | some (false, xs) => match blsOf xs with
      | some bs => .ok (.bl (bs.all id)) st
      | none => .bad
    | _ => .bad
  | .any, [v] => match seqOf st v with
    | some (false, xs) => match blsOf xs with
      | some bs => .ok (.bl (bs.any id)) st
      | none => .bad
    | _ => .bad
  | .sum, [v] => match seqOf st v with
    | some (false, xs) => match intsOf xs with
      | some is => .ok (.int is.sum) st
      | none => .bad
    | _ => .bad
  | .min2, [.int i, .int j] => .ok (.int (if j < i then j else i)) st
  | .max2, [.int i, .int j] => .ok (.int (if j > i then j else i)) st
  | .str, [.int i] => if i.natAbs.log2 < 1920 then .ok (.str (toString i)) st else .bad
  | .repr, [v] => match seqOf st v, datOf st v with
    | some _, some d => if d.showable = true ∧ d.hasDict = false ∧ d.depth ≤ 40 ∧ d.shown.length ≤ sizeLine then .ok (.str d.shown) st else .bad
    | _, _ => .bad
  | .isi c, [v] => match (tyOf st v).bind fun t => if csOk n t then isaT l t c else none with
    | some r => .ok (.bl r) st
    | none => .bad
  | .isiT cs, [v] => match (tyOf st v).bind fun t => if csOk n t then isaA l t cs else none with
    | some r => .ok (.bl r) st
    | none => .bad
  | _, _ => .bad

/-! ### running -/
structure Ev where
  E : Ex → En → Store → Res PV
  T : Ex → En → Store → Res Bool
  S : Sm → En → Store → Res (Fl × En)
  call : Nat → List PV → Store → Res PV
def evL (r : Ev) : List Ex → En → Store → Res (List PV)
  | [], _, st => .ok [] st
  | e :: es, env, st => (r.E e env st).bind fun v st => (evL r es env st).bind fun vs st => .ok (v :: vs) st
def blk (r : Ev) : List Sm → En → Store → Res (Fl × En)
  | [], env, st => .ok (.nx, env) st
  | s :: ss, env, st => (r.S s env st).bind fun a st => match a with
    | (.nx, env) => blk r ss env st
    | (f, env) => .ok (f, env) st
mutual
def asg : Tg → PV → En → Option En
  | .n i, v, env => if i < env.length then some (env.set i (some v)) else none
  | .t ts, v, env => match v with
    | .tup xs => asgs ts xs env
    | _ => none
def asgs : List Tg → List PV → En → Option En
  | [], [], env => some env
  | t :: ts, x :: xs, env => match asg t x env with
    | some env => asgs ts xs env
    | none => none
  | _, _, _ => none
end
mutual
def slots : Tg → List Nat
  | .n i => [i]
  | .t ts => slotss ts
def slotss : List Tg → List Nat
  | [] => []
  | t :: ts => slots t ++ slotss ts
end
/-- what a loop walks: the items, and what must stay as it is meanwhile -/
def walk (k : Ik) (vs : List PV) (st : Store) : Option (List PV × (Store → Prop)) := match k, vs with
  | .seq, [v] => match seqOf st v with
    | some (b, xs) => some (xs, fun st' => seqOf st' v = some (b, xs))
    | none => none
  | .rng1, [.int j] => if -(2 ^ 62) ≤ j ∧ j < 2 ^ 62 then some ((List.range j.toNat).map fun (i : Nat) => .int i, fun _ => True) else none
  | .rng2, [.int i, .int j] => if -(2 ^ 62) ≤ i ∧ i < 2 ^ 62 ∧ -(2 ^ 62) ≤ j ∧ j < 2 ^ 62 then some ((List.range (j - i).toNat).map fun (k : Nat) => .int (i + k), fun _ => True) else none
  | .zip2, [v, w] => match seqOf st v, seqOf st w with
    | some (b, xs), some (c, ys) => some ((xs.zip ys).map fun p => .tup [p.1, p.2], fun st' => seqOf st' v = some (b, xs) ∧ seqOf st' w = some (c, ys))
    | _, _ => none
  | .enum, [v] => match seqOf st v with
    | some (b, xs) => some (xs.zipIdx.map fun p => .tup [.int p.2, p.1], fun st' => seqOf st' v = some (b, xs))
    | none => none
  | _, _ => none
open Classical in
noncomputable def forL (r : Ev) (tg : Tg) (body : List Sm) (g : Store → Prop) : List PV → En → Store → Res (Fl × En)
  | [], env, st => if g st then .ok (.nx, env) st else .bad
  | x :: xs, env, st => if g st then match asg tg x env with
      | some env => (blk r body env st).bind fun a st => match a with
        | (.nx, env) => forL r tg body g xs env st
        | (.ct, env) => forL r tg body g xs env st
        | (.bk, env) => .ok (.nx, env) st
        | (.ret v, env) => .ok (.ret v, env) st
      | none => .bad
    else .bad
def whileN (r : Ev) (c : Ex) (body : List Sm) : Nat → En → Store → Res (Fl × En)
  | 0, _, _ => .bad
  | n + 1, env, st => (r.T c env st).bind fun b st => if b then (blk r body env st).bind fun a st => match a with
      | (.nx, env) => whileN r c body n env st
      | (.ct, env) => whileN r c body n env st
      | (.bk, env) => .ok (.nx, env) st
      | (.ret v, env) => .ok (.ret v, env) st
    else .ok (.nx, env) st
def tests (r : Ev) : List Ex → En → Store → Res Bool
  | [], _, st => .ok true st
  | [t], env, st => r.T t env st
  | _, _, _ => .bad
/-- one item more at the list at d -/
def push (d : Nat) (y : PV) (st : Store) : Option Store := match st[d]? with
  | some (.lst acc) => if acc.length < sizeLine then some (st.set d (.lst (acc ++ [y]))) else none
  | _ => none
open Classical in
noncomputable def compL (r : Ev) (e : Ex) (tg : Tg) (ts : List Ex) (g : Store → Prop) (d : Nat) (env : En) : List PV → Store → Res Unit
  | [], st => if g st then .ok () st else .bad
  | x :: xs, st => if g st then match asg tg x env with
      | some env' => (tests r ts env' st).bind fun b st => if b then (r.E e env' st).bind fun y st => match push d y st with
          | some st => compL r e tg ts g d env xs st
          | none => .bad
        else compL r e tg ts g d env xs st
      | none => .bad
    else .bad
def wipeE (env : En) : List Nat → En
  | [] => env
  | v :: vs => (wipeE env vs).set v none
mutual
/-- no reference from n₀ on -/
def oldV (n₀ : Nat) : PV → Bool
  | .tup xs => oldVs n₀ xs
  | .lst xs => oldVs n₀ xs
  | .ins _ fs => oldFs n₀ fs
  | .ref n => decide (n < n₀)
  | _ => true
def oldVs (n₀ : Nat) : List PV → Bool
  | [] => true
  | x :: xs => oldV n₀ x && oldVs n₀ xs
def oldFs (n₀ : Nat) : List (Str × PV) → Bool
  | [] => true
  | (_, x) :: xs => oldV n₀ x && oldFs n₀ xs
end
def oldO (n₀ : Nat) : SO → Bool
  | .lst xs => oldVs n₀ xs
  | .ins _ fs => oldFs n₀ fs
/-- what stood before a call refers to nothing that was made in it -/
def OldOk (st st' : Store) : Prop := st.length ≤ st'.length ∧ ∀ n, n < st.length → st'[n]? = st[n]? ∨ ∀ o, st'[n]? = some o → oldO st.length o = true
open Classical in
/-- behind a call: what it made is let go; mu: the list that it hands back may change on -/
noncomputable def done (st : Store) (mu : Bool) (v : PV) (st' : Store) : Res PV :=
  if st'.length = st.length then .ok v st'
  else if OldOk st st' then match mu, v with
    | true, .ref n => if n < st.length then .ok (.ref n) (st'.take st.length) else match st'[n]? with
      | some (.lst xs) => match frzL (onRef st' st.length n 3) xs with
        | some ys => .ok (.ref st.length) (st'.take st.length ++ [.lst ys])
        | none => .bad
      | some (.ins c fs) => match frzF (onRef st' st.length n 3) fs with
        | some gs => .ok (.ref st.length) (st'.take st.length ++ [.ins c gs])
        | none => .bad
      | none => .bad
    | _, v => match frz (onRef st' st.length st'.length 3) v with
      | some v' => .ok v' (st'.take st.length)
      | none => .bad
  else .bad
noncomputable def comp (r : Ev) (mu : Bool) (e : Ex) (tg : Tg) (k : Ik) (its ts : List Ex) (env : En) (st : Store) : Res PV :=
  (evL r its env st).bind fun vs st => match walk k vs st with
    | some (xs, g) => (compL r e tg ts g st.length (wipeE env (slots tg)) xs (st ++ [.lst []])).bind fun _ st' => if mu then .ok (.ref st.length) st' else done st false (.ref st.length) st'
    | none => .bad
def partOf (r : Ev) (e : Ex) (env : En) (st : Store) : Res (Option Int) := match e with
  | .nil => .ok none st
  | e => (r.E e env st).bind fun v st => match v with
    | .int i => .ok (some i) st
    | _ => .bad
def cutP (xs : List PV) (lo hi : Option Int) : List PV := (xs.drop (HT.sIx xs.length 0 lo)).take (HT.sIx xs.length xs.length hi - HT.sIx xs.length 0 lo)
def tl {α : Type} (x : Option α) (st : Store) : Res α := match x with
  | some a => .ok a st
  | none => .bad
def putP (f : Str) (v : PV) : List (Str × PV) → List (Str × PV)
  | [] => [(f, v)]
  | (g, x) :: r => if g = f then (g, v) :: r else (g, x) :: putP f v r
/-- the arguments with the defaults behind them -/
def pad (d : Df) (vs : List PV) : List PV := vs ++ d.dv.drop (d.dv.length - (d.np - vs.length))
open Classical in
noncomputable def newI (r : Ev) (c f : Nat) (mu : Bool) (vs : List PV) (st : Store) : Res PV :=
  (r.call f (.ref st.length :: vs) (st ++ [.ins c []])).bind fun v st' => match v with
    | .non => if mu then .ok (.ref st.length) st' else done st false (.ref st.length) st'
    | _ => .bad
noncomputable def stepE (P : Prog) (r : Ev) : Ex → En → Store → Res PV
  | .v i, env, st => match env[i]? with
    | some (some x) => .ok x st
    | _ => .bad
  | .c x, _, st => .ok x st
  | .g i, _, st => tl P.gl[i]? st
  | .bin o a b, env, st => (r.E a env st).bind fun x st => (r.E b env st).bind fun y st => bin2 o x y st
  | .cat mu a b, env, st => (r.E a env st).bind fun x st => (r.E b env st).bind fun y st => addL mu x y st
  | .neg a, env, st => (r.E a env st).bind fun x st => match x with
    | .int i => .ok (.int (-i)) st
    | _ => .bad
  | .not a, env, st => (r.E a env st).bind fun x st => (tl (truth st x) st).bind fun b st => .ok (.bl (!b)) st
  | .cmp o a b, env, st => (r.E a env st).bind fun x st => (r.E b env st).bind fun y st => (tl (cmpR o x y st) st).bind fun b st => .ok (.bl b) st
  | .chain o p a b c, env, st => (r.E a env st).bind fun x st => (r.E b env st).bind fun y st => (tl (cmpR o x y st) st).bind fun k st =>
      if k then (r.E c env st).bind fun z st => (tl (cmpR p y z st) st).bind fun k st => .ok (.bl k) st else .ok (.bl false) st
  | .and a b, env, st => (r.E a env st).bind fun x st => match x with
    | .bl true => r.E b env st
    | .bl false => .ok (.bl false) st
    | _ => .bad
  | .or a b, env, st => (r.E a env st).bind fun x st => match x with
    | .bl false => r.E b env st
    | .bl true => .ok (.bl true) st
    | _ => .bad
  | .ite c a b, env, st => (r.T c env st).bind fun k st => if k then r.E a env st else r.E b env st
  | .tup es, env, st => (evL r es env st).bind fun vs st => if vs.length ≤ sizeLine then .ok (.tup vs) st else .bad
  | .lst mu es, env, st => (evL r es env st).bind fun vs st => if vs.length ≤ sizeLine then mkL mu vs st else .bad
  | .idx a i, env, st => (r.E a env st).bind fun x st => (r.E i env st).bind fun y st => match y with
    | .int i => match seqOf st x with
      | some (_, xs) => tl (atI xs i) st
      | none => .bad
    | _ => .bad
  | .slc a lo hi, env, st => (r.E a env st).bind fun x st => (partOf r lo env st).bind fun l st => (partOf r hi env st).bind fun h st => match x with
    | .tup xs => if HT.sIx xs.length 0 l = 0 ∧ HT.sIx xs.length xs.length h = xs.length then .bad else .ok (.tup (cutP xs l h)) st
    | .scr ns => .ok (.lst (cutP (ns.map .int) l h)) st
    | x => match seqOf st x with
      | some (false, xs) => .ok (.lst (cutP xs l h)) st
      | _ => .bad
  | .attr a f, env, st => (r.E a env st).bind fun x st => match insOf st x with
    | some (c, fs) => match P.kl[c]? with
      | some k => if f ∈ k.ats then tl (fs.lookup f) st else .bad
      | none => .bad
    | none => .bad
  | .call f es, env, st => (evL r es env st).bind fun vs st => match P.df[f]? with
    | some d => r.call f (pad d vs) st
    | none => .bad
  | .new c mu es, env, st => (evL r es env st).bind fun vs st => match P.kl[c]? with
    | some ⟨some f, _, _⟩ => match P.df[f]? with
      | some d => newI r c f mu (pad { d with np := d.np - 1 } vs) st
      | none => .bad
    | _ => .bad
  | .meth a m es, env, st => (r.E a env st).bind fun x st => match insOf st x with
    | some (c, fs) => match P.kl[c]?, fs.lookup m with
      | some k, none => match k.ms.lookup m with
        | some f => match P.df[f]? with
          | some d => (evL r es env st).bind fun vs st => r.call f (x :: pad { d with np := d.np - 1 } vs) st
          | none => .bad
        | none => .bad
      | _, _ => .bad
    | none => .bad
  | .bi b es, env, st => (evL r es env st).bind fun vs st => biF P.isl P.kl.length b vs st
  | .comp mu e tg k its ts, env, st => comp r mu e tg k its ts env st
  | .trn a, env, st => (r.E a env st).bind fun x st => match seqOf st x with
    | some (_, xs) => match seqsOf st xs with
      | some rows => trnR rows st
      | none => .bad
    | none => .bad
  | .nil, _, _ => .bad
def stepT (r : Ev) : Ex → En → Store → Res Bool
  | .and a b, env, st => (r.T a env st).bind fun k st => if k then r.T b env st else .ok false st
  | .or a b, env, st => (r.T a env st).bind fun k st => if k then .ok true st else r.T b env st
  | .not a, env, st => (r.T a env st).bind fun k st => .ok (!k) st
  | .ite c a b, env, st => (r.T c env st).bind fun k st => if k then r.T a env st else r.T b env st
  | .cmp o a b, env, st => (r.E a env st).bind fun x st => (r.E b env st).bind fun y st => tl (cmpR o x y st) st
  | .chain o p a b c, env, st => (r.E a env st).bind fun x st => (r.E b env st).bind fun y st => (tl (cmpR o x y st) st).bind fun k st =>
      if k then (r.E c env st).bind fun z st => tl (cmpR p y z st) st else .ok false st
  | e, env, st => (r.E e env st).bind fun v st => tl (truth st v) st
noncomputable def stepS (P : Prog) (r : Ev) : Sm → En → Store → Res (Fl × En)
  | .set t e, env, st => (r.E e env st).bind fun v st => (tl (asg t v env) st).bind fun env st => .ok (.nx, env) st
  | .par i j a b, env, st => (r.E a env st).bind fun x st => (r.E b env st).bind fun y st => .ok (.nx, (env.set i (some x)).set j (some y)) st
  | .aug i o e, env, st => match env[i]? with
    | some (some x) => (r.E e env st).bind fun y st => (bin2 o x y st).bind fun z st => .ok (.nx, env.set i (some z)) st
    | _ => .bad
  | .setIx a i e, env, st => (r.E e env st).bind fun v st => (r.E a env st).bind fun x st => (r.E i env st).bind fun y st => match x, y with
    | .ref n, .int k => match st[n]? with
      | some (.lst xs) => (tl (ixN xs.length k) st).bind fun j st => .ok (.nx, env) (st.set n (.lst (xs.set j v)))
      | _ => .bad
    | _, _ => .bad
  | .setAt a f e, env, st => (r.E e env st).bind fun v st => (r.E a env st).bind fun x st => match x with
    | .ref n => match st[n]? with
      | some (.ins c fs) => match P.kl[c]? with
        | some k => if f ∈ k.ats ∧ fs.length < 1000 then .ok (.nx, env) (st.set n (.ins c (putP f v fs))) else .bad
        | none => .bad
      | _ => .bad
    | _ => .bad
  | .swap _ _ _ _ _ _, _, _ => .bad
  | .ex e, env, st => (r.E e env st).bind fun _ st => .ok (.nx, env) st
  | .app a e, env, st => (r.E a env st).bind fun x st => match x with
    | .ref n => match st[n]? with
      | some (.lst _) => (r.E e env st).bind fun y st => (tl (push n y st) st).bind fun st' _ => .ok (.nx, env) st'
      | _ => .bad
    | _ => .bad
  | .ext a e, env, st => (r.E a env st).bind fun x st => match x with
    | .ref n => match st[n]? with
      | some (.lst _) => (r.E e env st).bind fun y st => match seqOf st y, st[n]? with
        | some (false, ys), some (.lst xs) => if xs.length + ys.length ≤ sizeLine then .ok (.nx, env) (st.set n (.lst (xs ++ ys))) else .bad
        | _, _ => .bad
      | _ => .bad
    | _ => .bad
  | .ite c a b, env, st => (r.T c env st).bind fun k st => if k then blk r a env st else blk r b env st
  | .whl c b, env, st => whileN r c b P.wf env st
  | .for_ tg k its b, env, st => (evL r its env st).bind fun vs st => match walk k vs st with
    | some (xs, g) => forL r tg b g xs env st
    | none => .bad
  | .ret e, env, st => (r.E e env st).bind fun v st => .ok (.ret v, env) st
  | .retN, env, st => .ok (.ret .non, env) st
  | .brk, env, st => .ok (.bk, env) st
  | .cnt, env, st => .ok (.ct, env) st
  | .pass, env, st => .ok (.nx, env) st
  | .bad, _, _ => .bad
noncomputable def stepC (P : Prog) (r : Ev) (f : Nat) (vs : List PV) (st : Store) : Res PV := match P.df[f]? with
  | some d => if vs.length = d.np ∧ d.np ≤ d.nn then (blk r d.body (vs.map some ++ List.replicate (d.nn - d.np) none) st).bind fun a st' => match a with
      | (.nx, _) => done st d.mu .non st'
      | (.ret v, _) => done st d.mu v st'
      | _ => .bad
    else .bad
  | none => .bad
noncomputable def ev (P : Prog) : Nat → Ev
  | 0 => ⟨fun _ _ _ => .bad, fun _ _ _ => .bad, fun _ _ _ => .bad, fun _ _ _ => .bad⟩
  | k + 1 => ⟨stepE P (ev P k), stepT (ev P k), stepS P (ev P k), stepC P (ev P k)⟩
end Pv

set_option Elab.async false
set_option linter.all false
set_option maxRecDepth 100000
/-! What the small language says is what the text does: the readings. -/
namespace Pv
open PySem PySem.Spec PyProof.Rows L2
section
variable (K : W.Frag) (cl : Nat → Addr)
/-- what is wanted behind a value, from the state (m, H) on -/
def Fin (m : List Addr) (H : Hp) (res : Res PV) (Q : VK) : Prop := match res with
  | .ok v st' => ∀ u H' m', Ext m H m' H' → SR K cl H' m' st' → Rp K cl H' m' v u → Q u H'
  | _ => False
def FinB (m : List Addr) (H : Hp) (res : Res Bool) (Q : Bool → Hp → Prop) : Prop := match res with
  | .ok v st' => ∀ H' m', Ext m H m' H' → SR K cl H' m' st' → Q v H'
  | _ => False
def FinL (m : List Addr) (H : Hp) (res : Res (List PV)) (Q : List V → Hp → Prop) : Prop := match res with
  | .ok v st' => ∀ u H' m', Ext m H m' H' → SR K cl H' m' st' → RpL K cl H' m' v u → Q u H'
  | _ => False
def FinS (m : List Addr) (H : Hp) (res : Res (Fl × En)) (D : Ends) : Prop := match res with
  | .ok (.nx, env) st' => ∀ σ' H' m', Ext m H m' H' → SR K cl H' m' st' → ER K cl H' m' env σ' → D.nx σ' H'
  | .ok (.bk, env) st' => ∀ σ' H' m', Ext m H m' H' → SR K cl H' m' st' → ER K cl H' m' env σ' → D.bk σ' H'
  | .ok (.ct, env) st' => ∀ σ' H' m', Ext m H m' H' → SR K cl H' m' st' → ER K cl H' m' env σ' → D.ct σ' H'
  | .ok (.ret v, _) st' => ∀ u H' m', Ext m H m' H' → SR K cl H' m' st' → Rp K cl H' m' v u → D.rt u H'
  | _ => False
/-- a state of the mirror that stands for (σ, H) -/
def At (σ : L2.St) (H : Hp) (R : List Addr → En → Store → Prop) : Prop := ∃ m env st, SR K cl H m st ∧ ER K cl H m env σ ∧ R m env st
def rdE (r : Ev) (c : Ex) : TE := fun σ H Q => At K cl σ H fun m env st => Fin K cl m H (r.E c env st) Q
def rdT (r : Ev) (c : Ex) : TT := fun σ H Q => At K cl σ H fun m env st => FinB K cl m H (r.T c env st) Q
def rdL (r : Ev) (cs : List Ex) : TA := fun σ H Q => At K cl σ H fun m env st => FinL K cl m H (evL r cs env st) Q
def rdS (r : Ev) (c : Sm) : TS := fun D σ H => At K cl σ H fun m env st => FinS K cl m H (r.S c env st) D
def rdB (r : Ev) (cs : List Sm) : TS := fun D σ H => At K cl σ H fun m env st => FinS K cl m H (blk r cs env st) D
end
section
variable {K : W.Frag} {cl : Nat → Addr} {m m' : List Addr} {H H' : Hp} {σ : L2.St} {env : En} {st : Store}
theorem Fin.mono {res : Res PV} {Q : VK} (e : Ext m H m' H') (h : Fin K cl m H res Q) : Fin K cl m' H' res Q := by
  cases res with
  | ok v st => exact fun u H2 m2 e2 => h u H2 m2 (e.trans e2)
  | exc _ _ => exact h
  | bad => exact h
theorem FinB.mono {res : Res Bool} {Q : Bool → Hp → Prop} (e : Ext m H m' H') (h : FinB K cl m H res Q) : FinB K cl m' H' res Q := by
  cases res with
  | ok v st => exact fun H2 m2 e2 => h H2 m2 (e.trans e2)
  | exc _ _ => exact h
  | bad => exact h
theorem FinL.mono {res : Res (List PV)} {Q : List V → Hp → Prop} (e : Ext m H m' H') (h : FinL K cl m H res Q) : FinL K cl m' H' res Q := by
  cases res with
  | ok v st => exact fun u H2 m2 e2 => h u H2 m2 (e.trans e2)
  | exc _ _ => exact h
  | bad => exact h
theorem FinS.mono {res : Res (Fl × En)} {D : Ends} (e : Ext m H m' H') (h : FinS K cl m H res D) : FinS K cl m' H' res D := by
  cases res with
  | ok v st =>
    obtain ⟨f, env⟩ := v
    cases f with
    | nx => exact fun u H2 m2 e2 => h u H2 m2 (e.trans e2)
    | ret v => exact fun u H2 m2 e2 => h u H2 m2 (e.trans e2)
    | bk => exact fun u H2 m2 e2 => h u H2 m2 (e.trans e2)
    | ct => exact fun u H2 m2 e2 => h u H2 m2 (e.trans e2)
  | exc _ _ => exact h
  | bad => exact h
/-- any of the four, as a predicate of a result that goes on -/
structure Cn {α : Type} (F : List Addr → Hp → Res α → Prop) : Prop where
  mono : ∀ {m m' H H' res}, Ext m H m' H' → F m H res → F m' H' res
  nb : ∀ {m H}, ¬ F m H .bad
  nx : ∀ {m H x st}, ¬ F m H (.exc x st)
theorem cnE (Q : VK) : Cn (fun m H res => Fin K cl m H res Q) := ⟨fun e h => h.mono e, fun h => h, fun h => h⟩
theorem cnB (Q : Bool → Hp → Prop) : Cn (fun m H res => FinB K cl m H res Q) := ⟨fun e h => h.mono e, fun h => h, fun h => h⟩
theorem cnL (Q : List V → Hp → Prop) : Cn (fun m H res => FinL K cl m H res Q) := ⟨fun e h => h.mono e, fun h => h, fun h => h⟩
theorem cnS (D : Ends) : Cn (fun m H res => FinS K cl m H res D) := ⟨fun e h => h.mono e, fun h => h, fun h => h⟩
section
variable {β : Type} {F : List Addr → Hp → Res β → Prop} {r : Ev}
/-- a value, then what follows -/
theorem rdE_bind {c : Ex} {f : PV → Store → Res β} {R : VK} (C : Cn F) (sr : SR K cl H m st) (er : ER K cl H m env σ) (h : F m H ((r.E c env st).bind f))
    (k : ∀ v st' u H' m', Ext m H m' H' → SR K cl H' m' st' → ER K cl H' m' env σ → Rp K cl H' m' v u → F m' H' (f v st') → R u H') : rdE K cl r c σ H R := by
  refine ⟨m, env, st, sr, er, ?_⟩
  cases e : r.E c env st with
  | ok v st' =>
    rw [e] at h
    show Fin K cl m H (r.E c env st) R
    rw [e]
    exact fun u H' m' x s rp => k v st' u H' m' x s (er.mono x) rp (C.mono x h)
  | exc x s =>
    rw [e] at h
    exact absurd h C.nx
  | bad =>
    rw [e] at h
    exact absurd h C.nb
theorem rdT_bind {c : Ex} {f : Bool → Store → Res β} {R : Bool → Hp → Prop} (C : Cn F) (sr : SR K cl H m st) (er : ER K cl H m env σ) (h : F m H ((r.T c env st).bind f))
    (k : ∀ v st' H' m', Ext m H m' H' → SR K cl H' m' st' → ER K cl H' m' env σ → F m' H' (f v st') → R v H') : rdT K cl r c σ H R := by
  refine ⟨m, env, st, sr, er, ?_⟩
  cases e : r.T c env st with
  | ok v st' =>
    rw [e] at h
    show FinB K cl m H (r.T c env st) R
    rw [e]
    exact fun H' m' x s => k v st' H' m' x s (er.mono x) (C.mono x h)
  | exc x s =>
    rw [e] at h
    exact absurd h C.nx
  | bad =>
    rw [e] at h
    exact absurd h C.nb
theorem rdL_bind {c : List Ex} {f : List PV → Store → Res β} {R : List V → Hp → Prop} (C : Cn F) (sr : SR K cl H m st) (er : ER K cl H m env σ) (h : F m H ((evL r c env st).bind f))
    (k : ∀ v st' u H' m', Ext m H m' H' → SR K cl H' m' st' → ER K cl H' m' env σ → RpL K cl H' m' v u → F m' H' (f v st') → R u H') : rdL K cl r c σ H R := by
  refine ⟨m, env, st, sr, er, ?_⟩
  cases e : evL r c env st with
  | ok v st' =>
    rw [e] at h
    show FinL K cl m H (evL r c env st) R
    rw [e]
    exact fun u H' m' x s rp => k v st' u H' m' x s (er.mono x) rp (C.mono x h)
  | exc x s =>
    rw [e] at h
    exact absurd h C.nx
  | bad =>
    rw [e] at h
    exact absurd h C.nb
/-- a plain step that may fail -/
theorem tl_bind {α : Type} {x : Option α} {f : α → Store → Res β} (C : Cn F) (h : F m H ((tl x st).bind f)) : ∃ a, x = some a ∧ F m H (f a st) := by
  cases x with
  | some a => exact ⟨a, rfl, h⟩
  | none => exact absurd h C.nb
end
end
end Pv

set_option Elab.async false
set_option linter.all false
set_option maxRecDepth 100000
/-! The store: what is new, what is let go; data. -/
namespace Pv
open PySem PySem.Spec PyProof.Rows L2
section
variable {K : W.Frag} {cl : Nat → Addr} {m m' : List Addr} {H H' : Hp} {σ : L2.St} {env : En} {st st' : Store} {p a : Addr}
theorem SR.tracked (sr : SR K cl H m st) (h : a ∈ m) : ∃ o, H a = some o := by
  obtain ⟨n, hn⟩ := List.mem_iff_getElem?.mp h
  have hl : n < m.length := (List.getElem?_eq_some_iff.mp hn).1
  obtain ⟨u, hu, _⟩ := sr.at_ n a (st[n]'(by rw [← sr.len]; exact hl)) hn (List.getElem?_eq_getElem _)
  exact ⟨u, hu⟩
theorem SR.free (sr : SR K cl H m st) (h : H p = none) : p ∉ m := fun z => by
  obtain ⟨o, e⟩ := sr.tracked z
  rw [h] at e; cases e
theorem Ext.new (o : HO) (h : H p = none) : Ext m H m (upd H p o) :=
  ⟨⟨[], by simp, fun _ z => by simp at z⟩, fun a u e _ => by rw [upd_ne (ne_of_none e h)]; exact e, fun a e => by
    by_cases z : a = p
    · subst z; rw [upd_same]; simp
    · rw [upd_ne z]; exact e⟩
theorem RpO.mono (e : Ext m H m' H') : ∀ {o : SO} {u : HO}, RpO K cl H m o u → RpO K cl H' m' o u
  | .lst xs, u, h => let ⟨ys, e1, r⟩ := h; ⟨ys, e1, RpL.mono e _ _ r⟩
  | .ins c fs, u, h => let ⟨dx, gs, e1, r⟩ := h; ⟨dx, gs, e1, RpF.mono e _ _ r⟩
/-- the store stands on, where its own addresses are as they were -/
theorem SR.keep (sr : SR K cl H m st) (e : Ext m H m H') (k : ∀ a ∈ m, H' a = H a) : SR K cl H' m st :=
  ⟨sr.len, sr.nd, fun n a o h1 h2 => by
    obtain ⟨u, hu, r⟩ := sr.at_ n a o h1 h2
    exact ⟨u, by rw [k a (List.mem_of_getElem? h1)]; exact hu, r.mono e⟩⟩
theorem SR.new (sr : SR K cl H m st) (o : HO) (h : H p = none) : SR K cl (upd H p o) m st :=
  sr.keep (Ext.new o h) fun a ha => upd_ne (fun z => sr.free h (z ▸ ha))
/-- a new tuple -/
theorem newT (sr : SR K cl H m st) {xs : List PV} {ys : List V} (r : RpL K cl H m xs ys) (h : H p = none) :
    Ext m H m (upd H p (.tup ys)) ∧ SR K cl (upd H p (.tup ys)) m st ∧ Rp K cl (upd H p (.tup ys)) m (.tup xs) (.ref p) :=
  ⟨Ext.new _ h, sr.new _ h, ⟨p, ys, rfl, .inl (.inl upd_same), RpL.mono (Ext.new _ h) _ _ r⟩⟩
/-- a new list that will not change -/
theorem newF (sr : SR K cl H m st) {xs : List PV} {ys : List V} (r : RpL K cl H m xs ys) (h : H p = none) :
    Ext m H m (upd H p (.lst ys)) ∧ SR K cl (upd H p (.lst ys)) m st ∧ Rp K cl (upd H p (.lst ys)) m (.lst xs) (.ref p) :=
  ⟨Ext.new _ h, sr.new _ h, ⟨p, ys, rfl, upd_same, sr.free h, RpL.mono (Ext.new _ h) _ _ r⟩⟩
theorem Ext.newM (sr : SR K cl H m st) (o : HO) (h : H p = none) : Ext m H (m ++ [p]) (upd H p o) :=
  ⟨⟨[p], rfl, fun a z => by rw [List.mem_singleton.mp z]; exact h⟩, (Ext.new o h : Ext m H m _).keep, (Ext.new o h : Ext m H m _).trk⟩
/-- a new object that may change -/
theorem newO (sr : SR K cl H m st) {x : SO} {o : HO} (r : RpO K cl H m x o) (h : H p = none) :
    Ext m H (m ++ [p]) (upd H p o) ∧ SR K cl (upd H p o) (m ++ [p]) (st ++ [x]) ∧ Rp K cl (upd H p o) (m ++ [p]) (.ref st.length) (.ref p) := by
  have e := Ext.newM sr o h
  refine ⟨e, ⟨by simp [sr.len], ?_, fun n a y h1 h2 => ?_⟩, ⟨p, rfl, by rw [← sr.len]; simp⟩⟩
  · rw [List.nodup_append]
    exact ⟨sr.nd, by simp, fun a ha b hb z => by rw [List.mem_singleton] at hb; rw [hb] at z; rw [z] at ha; exact sr.free h ha⟩
  · by_cases hn : n < m.length
    · rw [List.getElem?_append_left hn] at h1
      rw [List.getElem?_append_left (by rw [← sr.len]; exact hn)] at h2
      obtain ⟨u, hu, q⟩ := sr.at_ n a y h1 h2
      have ne : a ≠ p := fun z => sr.free h (by rw [← z]; exact List.mem_of_getElem? h1)
      exact ⟨u, by rw [upd_ne ne]; exact hu, q.mono e⟩
    · rw [List.getElem?_append_right (by omega)] at h1
      rw [List.getElem?_append_right (by rw [← sr.len]; omega)] at h2
      have e0 : n - m.length = 0 := by
        by_cases z : n - m.length = 0
        · exact z
        · rw [List.getElem?_eq_none (by simp; omega)] at h1; cases h1
      rw [e0] at h1
      rw [← sr.len, e0] at h2
      have ea : p = a := Option.some.inj h1
      have ey : x = y := Option.some.inj h2
      subst ea ey
      exact ⟨o, upd_same, r.mono e⟩
theorem mkL_ok (sr : SR K cl H m st) {mu : Bool} {xs : List PV} {ys : List V} {Q : VK} (r : RpL K cl H m xs ys) (h : H p = none) (f : Fin K cl m H (mkL mu xs st) Q) : Q (.ref p) (upd H p (.lst ys)) := by
  unfold mkL at f
  cases mu with
  | true =>
    obtain ⟨e, s, q⟩ := newO (x := .lst xs) (o := .lst ys) sr ⟨ys, rfl, r⟩ h
    exact f _ _ _ e s q
  | false =>
    obtain ⟨e, s, q⟩ := newF sr r h
    exact f _ _ _ e s q
/-- what stands at a reference is written -/
theorem setO (sr : SR K cl H m st) {n : Nat} {x : SO} {o : HO} (ha : m[n]? = some a) (hn : n < st.length) (hm : Mut (H a)) (r : RpO K cl H m x o) :
    Ext m H m (upd H a o) ∧ SR K cl (upd H a o) m (st.set n x) := by
  have mem : a ∈ m := List.mem_of_getElem? ha
  have e : Ext m H m (upd H a o) := by
    refine ⟨⟨[], by simp, fun _ z => by simp at z⟩, fun b u e q => ?_, fun b e => ?_⟩
    · have ne : b ≠ a := by
        rintro rfl
        rcases q with q | q
        · exact q mem
        · rw [e] at hm
          cases u <;> first | exact hm | exact q
      rw [upd_ne ne]; exact e
    · by_cases z : b = a
      · subst z; rw [upd_same]; simp
      · rw [upd_ne z]; exact e
  refine ⟨e, ⟨by simp [sr.len], sr.nd, fun k b y h1 h2 => ?_⟩⟩
  by_cases hk : k = n
  · subst hk
    rw [ha] at h1; cases h1
    rw [List.getElem?_set_self hn] at h2
    cases h2
    exact ⟨o, upd_same, r.mono e⟩
  · rw [List.getElem?_set_ne (Ne.symm hk)] at h2
    obtain ⟨u, hu, q⟩ := sr.at_ k b y h1 h2
    have ne : b ≠ a := by
      rintro rfl
      obtain ⟨l1, e1⟩ := List.getElem?_eq_some_iff.mp h1
      obtain ⟨l2, e2⟩ := List.getElem?_eq_some_iff.mp ha
      exact hk ((List.getElem_inj sr.nd).mp (e1.trans e2.symm))
    exact ⟨u, by rw [upd_ne ne]; exact hu, q.mono e⟩
/-- a list as it stands -/
theorem seq_ok (sr : SR K cl H m st) {v : PV} {u : V} {b : Bool} {xs : List PV} (r : Rp K cl H m v u) (h : seqOf st v = some (b, xs)) :
    ∃ p ys, u = .ref p ∧ RpL K cl H m xs ys ∧ (b = true → SqT K H p ys) ∧ (b = false → H p = some (.lst ys)) := by
  cases v with
  | tup zs =>
    cases h
    obtain ⟨a, ys, e, q, r⟩ := r
    exact ⟨a, ys, e, r, fun _ => q, fun z => Bool.noConfusion z⟩
  | lst zs =>
    cases h
    obtain ⟨a, ys, e, q, _, r⟩ := r
    exact ⟨a, ys, e, r, fun z => Bool.noConfusion z, fun _ => q⟩
  | ref n =>
    obtain ⟨a, e, q⟩ := r
    simp only [seqOf] at h
    cases hs : st[n]? with
    | none => rw [hs] at h; cases h
    | some o =>
      rw [hs] at h
      cases o with
      | lst zs =>
        cases h
        obtain ⟨w, hw, ys, rfl, r⟩ := sr.at_ n a _ q hs
        exact ⟨a, ys, e, r, fun z => Bool.noConfusion z, fun _ => hw⟩
      | ins c fs => cases h
  | non => cases h
  | bl _ => cases h
  | int _ => cases h
  | str _ => cases h
  | ty _ => cases h
  | scr _ => cases h
  | ins _ _ => cases h
theorem RpL.length : ∀ {xs : List PV} {ys : List V}, RpL K cl H m xs ys → xs.length = ys.length
  | [], ys, h => by cases h; rfl
  | x :: xs, ys, h => by
    obtain ⟨y, zs, rfl, _, r⟩ := h
    simp [RpL.length r]
theorem RpL.get : ∀ {xs : List PV} {ys : List V} {i : Nat} {x : PV}, RpL K cl H m xs ys → xs[i]? = some x → ∃ y, ys[i]? = some y ∧ Rp K cl H m x y
  | [], _, _, _, _, e => by simp at e
  | x :: xs, ys, 0, z, h, e => by
    obtain ⟨y, zs, rfl, r, _⟩ := h
    cases e
    exact ⟨y, rfl, r⟩
  | x :: xs, ys, i + 1, z, h, e => by
    obtain ⟨y, zs, rfl, _, r⟩ := h
    obtain ⟨w, h1, h2⟩ := RpL.get (i := i) r (by simpa using e)
    exact ⟨w, by simpa using h1, h2⟩
theorem RpL.append : ∀ {xs xs' : List PV} {ys ys' : List V}, RpL K cl H m xs ys → RpL K cl H m xs' ys' → RpL K cl H m (xs ++ xs') (ys ++ ys')
  | [], _, ys, _, h, h' => by cases h; exact h'
  | x :: xs, _, ys, _, h, h' => by
    obtain ⟨y, zs, rfl, r, q⟩ := h
    exact ⟨y, _, rfl, r, RpL.append q h'⟩
theorem RpL.set : ∀ {xs : List PV} {ys : List V} (i : Nat) {x : PV} {y : V}, Rp K cl H m x y → RpL K cl H m xs ys → RpL K cl H m (xs.set i x) (ys.set i y)
  | [], ys, i, _, _, _, h => by cases h; rfl
  | x :: xs, ys, 0, _, _, r, h => by
    obtain ⟨y, zs, rfl, _, q⟩ := h
    exact ⟨_, zs, rfl, r, q⟩
  | x :: xs, ys, i + 1, _, _, r, h => by
    obtain ⟨y, zs, rfl, r', q⟩ := h
    exact ⟨y, _, rfl, r', RpL.set i r q⟩
theorem RpL.take : ∀ {xs : List PV} {ys : List V} (n : Nat), RpL K cl H m xs ys → RpL K cl H m (xs.take n) (ys.take n)
  | _, _, 0, _ => rfl
  | [], ys, n + 1, h => by cases h; rfl
  | x :: xs, ys, n + 1, h => by
    obtain ⟨y, zs, rfl, r, q⟩ := h
    exact ⟨y, _, rfl, r, RpL.take n q⟩
theorem RpL.drop : ∀ {xs : List PV} {ys : List V} (n : Nat), RpL K cl H m xs ys → RpL K cl H m (xs.drop n) (ys.drop n)
  | _, _, 0, h => h
  | [], ys, n + 1, h => by cases h; rfl
  | x :: xs, ys, n + 1, h => by
    obtain ⟨y, zs, rfl, r, q⟩ := h
    exact RpL.drop n q
theorem ER.get {i : Nat} {x : PV} (h : ER K cl H m env σ) (e : env[i]? = some (some x)) : ∃ v, σ[i]? = some (some v) ∧ Rp K cl H m x v := h.2 i x e
theorem ER.set {i : Nat} {x : PV} {v : V} (h : ER K cl H m env σ) (r : Rp K cl H m x v) : ER K cl H m (env.set i (some x)) (σ.set i (some v)) := by
  refine ⟨by simp [h.1], fun j y e => ?_⟩
  by_cases hj : j = i
  · subst hj
    have hl : j < env.length := by
      by_cases z : j < env.length
      · exact z
      · rw [List.getElem?_eq_none (by simpa using z)] at e; cases e
    rw [List.getElem?_set_self hl] at e
    cases e
    exact ⟨v, by rw [List.getElem?_set_self (by rw [← h.1]; exact hl)], r⟩
  · rw [List.getElem?_set_ne (Ne.symm hj)] at e
    obtain ⟨w, h1, h2⟩ := h.2 j y e
    exact ⟨w, by rw [List.getElem?_set_ne (Ne.symm hj)]; exact h1, h2⟩

/-! ### data -/
mutual
theorem dat_ok {f : Nat → Option PyData} (hf : ∀ n a d, f n = some d → m[n]? = some a → Dp K H (.ref a) d) : ∀ (v : PV) (u : V) (d : PyData), Rp K cl H m v u → dat f v = some d → Dp K H u d
  | .non, u, d, r, h => by cases h; cases r; exact .non
  | .bl b, u, d, r, h => by cases h; cases r; exact .bl b
  | .int i, u, d, r, h => by cases h; cases r; exact .int i
  | .str x, u, d, r, h => by cases h; cases r; exact .str x
  | .ty n, u, d, r, h => by cases h
  | .scr n, u, d, r, h => by cases h
  | .tup xs, u, d, r, h => by
    obtain ⟨a, ys, rfl, q, r⟩ := r
    unfold dat at h
    cases e : dats f xs with
    | none => rw [e] at h; cases h
    | some ds => rw [e] at h; cases h; exact .tup q (dats_ok hf xs ys ds r e)
  | .lst xs, u, d, r, h => by
    obtain ⟨a, ys, rfl, q, _, r⟩ := r
    unfold dat at h
    cases e : dats f xs with
    | none => rw [e] at h; cases h
    | some ds => rw [e] at h; cases h; exact .lst (.inl (.inl q)) (dats_ok hf xs ys ds r e)
  | .ins c fs, u, d, r, h => by cases h
  | .ref n, u, d, r, h => by
    obtain ⟨a, rfl, q⟩ := r
    exact hf n a d h q
theorem dats_ok {f : Nat → Option PyData} (hf : ∀ n a d, f n = some d → m[n]? = some a → Dp K H (.ref a) d) : ∀ (xs : List PV) (us : List V) (ds : List PyData), RpL K cl H m xs us → dats f xs = some ds → DpAll K H us ds
  | [], us, ds, r, h => by cases h; cases r; exact .nil
  | x :: xs, us, ds, r, h => by
    obtain ⟨y, zs, rfl, r, q⟩ := r
    unfold dats at h
    cases e : dat f x with
    | none => rw [e] at h; cases h
    | some d =>
      cases e2 : dats f xs with
      | none => rw [e, e2] at h; cases h
      | some ds' =>
        rw [e, e2] at h; cases h
        exact .cons (dat_ok hf x y d r e) (dats_ok hf xs zs ds' q e2)
end
theorem refD_ok (sr : SR K cl H m st) : ∀ (k n : Nat) (a : Addr) (d : PyData), refD st k n = some d → m[n]? = some a → Dp K H (.ref a) d
  | 0, n, a, d, h, _ => by cases h
  | k + 1, n, a, d, h, ha => by
    unfold refD at h
    cases hs : st[n]? with
    | none => rw [hs] at h; cases h
    | some o =>
      rw [hs] at h
      cases o with
      | ins c fs => cases h
      | lst xs =>
        obtain ⟨w, hw, ys, rfl, r⟩ := sr.at_ n a _ ha hs
        have h : (match dats (refD st k) xs with | some ds => some (PyData.list ds) | none => none) = some d := h
        cases e : dats (refD st k) xs with
        | none => rw [e] at h; cases h
        | some ds => rw [e] at h; cases h; exact .lst (.inl (.inl hw)) (dats_ok (refD_ok sr k) xs ys ds r e)
theorem datOf_ok (sr : SR K cl H m st) {v : PV} {u : V} {d : PyData} (r : Rp K cl H m v u) (h : datOf st v = some d) : Dp K H u d := dat_ok (refD_ok sr 3) v u d r h

/-! ### what is let go -/
mutual
theorem Rp.old {n₀ : Nat} {m2 : List Addr} (hs : ∀ b ∈ m2, b ∈ m) (hg : ∀ n, n < n₀ → m2[n]? = m[n]?) : ∀ (v : PV) (u : V), Rp K cl H m v u → oldV n₀ v = true → Rp K cl H m2 v u
  | .non, u, r, _ => r
  | .bl b, u, r, _ => r
  | .int i, u, r, _ => r
  | .str x, u, r, _ => r
  | .ty n, u, r, _ => r
  | .scr n, u, r, _ => let ⟨a, e, q⟩ := r; ⟨a, e, q.imp (fun z => ⟨z.1, fun y => z.2 (hs _ y)⟩) id⟩
  | .tup xs, u, r, h => by
    obtain ⟨a, ys, e, q, r⟩ := r
    exact ⟨a, ys, e, q, RpL.old hs hg xs ys r h⟩
  | .lst xs, u, r, h => by
    obtain ⟨a, ys, e, q, n, r⟩ := r
    exact ⟨a, ys, e, q, fun z => n (hs _ z), RpL.old hs hg xs ys r h⟩
  | .ins c fs, u, r, h => by
    obtain ⟨a, dx, gs, e, q, n, r⟩ := r
    exact ⟨a, dx, gs, e, q, fun z => n (hs _ z), RpF.old hs hg fs gs r h⟩
  | .ref n, u, r, h => by
    obtain ⟨a, e, q⟩ := r
    exact ⟨a, e, by rw [hg n (of_decide_eq_true h)]; exact q⟩
theorem RpL.old {n₀ : Nat} {m2 : List Addr} (hs : ∀ b ∈ m2, b ∈ m) (hg : ∀ n, n < n₀ → m2[n]? = m[n]?) : ∀ (xs : List PV) (us : List V), RpL K cl H m xs us → oldVs n₀ xs = true → RpL K cl H m2 xs us
  | [], us, r, _ => r
  | x :: xs, us, r, h => by
    obtain ⟨y, zs, e, r, q⟩ := r
    unfold oldVs at h
    rw [Bool.and_eq_true] at h
    exact ⟨y, zs, e, Rp.old hs hg x y r h.1, RpL.old hs hg xs zs q h.2⟩
theorem RpF.old {n₀ : Nat} {m2 : List Addr} (hs : ∀ b ∈ m2, b ∈ m) (hg : ∀ n, n < n₀ → m2[n]? = m[n]?) : ∀ (xs : List (Str × PV)) (us : List (Str × V)), RpF K cl H m xs us → oldFs n₀ xs = true → RpF K cl H m2 xs us
  | [], us, r, _ => r
  | (f, x) :: xs, us, r, h => by
    obtain ⟨y, zs, e, r, q⟩ := r
    unfold oldFs at h
    rw [Bool.and_eq_true] at h
    exact ⟨y, zs, e, Rp.old hs hg x y r h.1, RpF.old hs hg xs zs q h.2⟩
end
mutual
theorem Rp.isOld : ∀ (v : PV) (u : V), Rp K cl H m v u → oldV m.length v = true
  | .non, u, r => rfl
  | .bl b, u, r => rfl
  | .int i, u, r => rfl
  | .str x, u, r => rfl
  | .ty n, u, r => rfl
  | .scr n, u, r => rfl
  | .tup xs, u, r => by
    obtain ⟨a, ys, e, q, r⟩ := r
    exact RpL.isOld xs ys r
  | .lst xs, u, r => by
    obtain ⟨a, ys, e, q, n, r⟩ := r
    exact RpL.isOld xs ys r
  | .ins c fs, u, r => by
    obtain ⟨a, dx, gs, e, q, n, r⟩ := r
    exact RpF.isOld fs gs r
  | .ref n, u, r => by
    obtain ⟨a, e, q⟩ := r
    exact decide_eq_true (List.getElem?_eq_some_iff.mp q).1
theorem RpL.isOld : ∀ (xs : List PV) (us : List V), RpL K cl H m xs us → oldVs m.length xs = true
  | [], us, r => rfl
  | x :: xs, us, r => by
    obtain ⟨y, zs, e, r, q⟩ := r
    unfold oldVs
    rw [Rp.isOld x y r, RpL.isOld xs zs q]; rfl
theorem RpF.isOld : ∀ (xs : List (Str × PV)) (us : List (Str × V)), RpF K cl H m xs us → oldFs m.length xs = true
  | [], us, r => rfl
  | (f, x) :: xs, us, r => by
    obtain ⟨y, zs, e, r, q⟩ := r
    unfold oldFs
    rw [Rp.isOld x y r, RpF.isOld xs zs q]; rfl
end
theorem RpO.old {n₀ : Nat} {m2 : List Addr} (hs : ∀ b ∈ m2, b ∈ m) (hg : ∀ n, n < n₀ → m2[n]? = m[n]?) : ∀ {o : SO} {u : HO}, RpO K cl H m o u → oldO n₀ o = true → RpO K cl H m2 o u
  | .lst xs, u, h, q => let ⟨ys, e1, r⟩ := h; ⟨ys, e1, RpL.old hs hg _ _ r q⟩
  | .ins c fs, u, h, q => let ⟨dx, gs, e1, r⟩ := h; ⟨dx, gs, e1, RpF.old hs hg _ _ r q⟩
theorem RpO.isOld : ∀ {o : SO} {u : HO}, RpO K cl H m o u → oldO m.length o = true
  | .lst xs, u, h => let ⟨ys, e1, r⟩ := h; RpL.isOld _ _ r
  | .ins c fs, u, h => let ⟨dx, gs, e1, r⟩ := h; RpF.isOld _ _ r
mutual
theorem frz_ok {f : Nat → Option PV} {m2 : List Addr} (hs : ∀ b ∈ m2, b ∈ m) (hf : ∀ n a w, f n = some w → m[n]? = some a → Rp K cl H m2 w (.ref a)) : ∀ (v : PV) (u : V) (w : PV), Rp K cl H m v u → frz f v = some w → Rp K cl H m2 w u
  | .non, u, w, r, h => by cases h; exact r
  | .bl b, u, w, r, h => by cases h; exact r
  | .int i, u, w, r, h => by cases h; exact r
  | .str x, u, w, r, h => by cases h; exact r
  | .ty n, u, w, r, h => by cases h; exact r
  | .scr n, u, w, r, h => by cases h; exact let ⟨a, e, q⟩ := r; ⟨a, e, q.imp (fun z => ⟨z.1, fun y => z.2 (hs _ y)⟩) id⟩
  | .tup xs, u, w, r, h => by
    obtain ⟨a, ys, e1, q, r⟩ := r
    unfold frz at h
    cases e : frzL f xs with
    | none => rw [e] at h; cases h
    | some ds => rw [e] at h; cases h; exact ⟨a, ys, e1, q, frzL_ok hs hf xs ys ds r e⟩
  | .lst xs, u, w, r, h => by
    obtain ⟨a, ys, e1, q, n, r⟩ := r
    unfold frz at h
    cases e : frzL f xs with
    | none => rw [e] at h; cases h
    | some ds => rw [e] at h; cases h; exact ⟨a, ys, e1, q, fun z => n (hs _ z), frzL_ok hs hf xs ys ds r e⟩
  | .ins c fs, u, w, r, h => by
    obtain ⟨a, dx, gs, e1, q, n, r⟩ := r
    unfold frz at h
    cases e : frzF f fs with
    | none => rw [e] at h; cases h
    | some ds => rw [e] at h; cases h; exact ⟨a, dx, gs, e1, q, fun z => n (hs _ z), frzF_ok hs hf fs gs ds r e⟩
  | .ref n, u, w, r, h => by
    obtain ⟨a, rfl, q⟩ := r
    exact hf n a w h q
theorem frzL_ok {f : Nat → Option PV} {m2 : List Addr} (hs : ∀ b ∈ m2, b ∈ m) (hf : ∀ n a w, f n = some w → m[n]? = some a → Rp K cl H m2 w (.ref a)) : ∀ (xs : List PV) (us : List V) (ws : List PV), RpL K cl H m xs us → frzL f xs = some ws → RpL K cl H m2 ws us
  | [], us, ws, r, h => by cases h; exact r
  | x :: xs, us, ws, r, h => by
    obtain ⟨y, zs, rfl, r, q⟩ := r
    unfold frzL at h
    cases e : frz f x with
    | none => rw [e] at h; cases h
    | some d =>
      cases e2 : frzL f xs with
      | none => rw [e, e2] at h; cases h
      | some ds' =>
        rw [e, e2] at h; cases h
        exact ⟨y, zs, rfl, frz_ok hs hf x y d r e, frzL_ok hs hf xs zs ds' q e2⟩
theorem frzF_ok {f : Nat → Option PV} {m2 : List Addr} (hs : ∀ b ∈ m2, b ∈ m) (hf : ∀ n a w, f n = some w → m[n]? = some a → Rp K cl H m2 w (.ref a)) : ∀ (xs : List (Str × PV)) (us : List (Str × V)) (ws : List (Str × PV)), RpF K cl H m xs us → frzF f xs = some ws → RpF K cl H m2 ws us
  | [], us, ws, r, h => by cases h; exact r
  | (g, x) :: xs, us, ws, r, h => by
    obtain ⟨y, zs, rfl, r, q⟩ := r
    unfold frzF at h
    cases e : frz f x with
    | none => rw [e] at h; cases h
    | some d =>
      cases e2 : frzF f xs with
      | none => rw [e, e2] at h; cases h
      | some ds' =>
        rw [e, e2] at h; cases h
        exact ⟨y, zs, rfl, frz_ok hs hf x y d r e, frzF_ok hs hf xs zs ds' q e2⟩
end
theorem notin_take (sr : SR K cl H m st) {n n₀ : Nat} (h : m[n]? = some a) (hn : n₀ ≤ n) : a ∉ m.take n₀ := fun z => by
  obtain ⟨k, hk⟩ := List.mem_iff_getElem?.mp z
  have hlt : k < n₀ := by
    have := (List.getElem?_eq_some_iff.mp hk).1
    rw [List.length_take] at this
    omega
  rw [List.getElem?_take_of_lt hlt] at hk
  obtain ⟨l1, e1⟩ := List.getElem?_eq_some_iff.mp hk
  obtain ⟨l2, e2⟩ := List.getElem?_eq_some_iff.mp h
  have := (List.getElem_inj sr.nd).mp (e1.trans e2.symm)
  omega
theorem at_inj (sr : SR K cl H m st) {i j : Nat} (h : m[i]? = some a) (h' : m[j]? = some a) : i = j := by
  obtain ⟨l1, e1⟩ := List.getElem?_eq_some_iff.mp h
  obtain ⟨l2, e2⟩ := List.getElem?_eq_some_iff.mp h'
  exact (List.getElem_inj sr.nd).mp (e1.trans e2.symm)
theorem onRef_ok (sr : SR K cl H m st) {n₀ x : Nat} {m2 : List Addr} (hs : ∀ b ∈ m2, b ∈ m.take n₀ ∨ m[x]? = some b) (hg : ∀ n, n < n₀ → m2[n]? = m[n]?) : ∀ (k n : Nat) (a : Addr) (w : PV), onRef st n₀ x k n = some w → m[n]? = some a → Rp K cl H m2 w (.ref a)
  | 0, n, a, w, h, ha => by
    unfold onRef at h
    split at h
    · rename_i hn
      cases h
      exact ⟨a, rfl, by rw [hg n hn]; exact ha⟩
    · cases h
  | k + 1, n, a, w, h, ha => by
    have hs' : ∀ b ∈ m2, b ∈ m := fun b hb => (hs b hb).elim List.mem_of_mem_take List.mem_of_getElem?
    unfold onRef at h
    split at h
    · rename_i hn
      cases h
      exact ⟨a, rfl, by rw [hg n hn]; exact ha⟩
    · rename_i hn
      split at h
      · cases h
      rename_i hx
      have nt : a ∉ m2 := fun z => by
        rcases hs a z with q | q
        · exact notin_take sr ha (Nat.le_of_not_lt hn) q
        · exact hx (at_inj sr ha q)
      cases q : st[n]? with
      | none => rw [q] at h; cases h
      | some o =>
        rw [q] at h
        cases o with
        | lst xs =>
          obtain ⟨u, hu, ys, rfl, r⟩ := sr.at_ n a _ ha q
          have h : (match frzL (onRef st n₀ x k) xs with | some ys => some (PV.lst ys) | none => none) = some w := h
          cases e : frzL (onRef st n₀ x k) xs with
          | none => rw [e] at h; cases h
          | some ds => rw [e] at h; cases h; exact ⟨a, ys, rfl, hu, nt, frzL_ok hs' (onRef_ok sr hs hg k) xs ys ds r e⟩
        | ins c fs =>
          obtain ⟨u, hu, dx, gs, rfl, r⟩ := sr.at_ n a _ ha q
          have h : (match frzF (onRef st n₀ x k) fs with | some ys => some (PV.ins c ys) | none => none) = some w := h
          cases e : frzF (onRef st n₀ x k) fs with
          | none => rw [e] at h; cases h
          | some ds => rw [e] at h; cases h; exact ⟨a, dx, gs, rfl, hu, nt, frzF_ok hs' (onRef_ok sr hs hg k) fs gs ds r e⟩
end
end Pv

set_option Elab.async false
set_option linter.all false
set_option maxRecDepth 100000
/-! Behind a call. -/
namespace Pv
open PySem PySem.Spec PyProof.Rows L2
section
variable {K : W.Frag} {cl : Nat → Addr} {m m' : List Addr} {H H' : Hp} {σ : L2.St} {env : En} {st st' : Store} {p a : Addr}
theorem Ext.take (e : Ext m H m' H') : m'.take m.length = m := by
  obtain ⟨⟨new, rfl, _⟩, _, _⟩ := e
  simp
/-- back to the addresses of before -/
theorem Ext.back (e : Ext m H m' H') : Ext m H m H' := ⟨⟨[], by simp, fun _ z => by simp at z⟩, e.keep, e.trk⟩
theorem SR.back (sr : SR K cl H m st) (e : Ext m H m' H') (sr' : SR K cl H' m' st') (ok : OldOk st st') {m2 : List Addr} (hs : ∀ b ∈ m2, b ∈ m') (hg : ∀ n, n < st.length → m2[n]? = m'[n]?) :
    ∀ (n : Nat) (a : Addr) (o : SO), m[n]? = some a → st'[n]? = some o → ∃ u, H' a = some u ∧ RpO K cl H' m2 o u := fun n a o h1 h2 => by
  have hn : n < st.length := by rw [← sr.len]; exact (List.getElem?_eq_some_iff.mp h1).1
  obtain ⟨u, hu, r⟩ := sr'.at_ n a o (e.at_ h1) h2
  refine ⟨u, hu, r.old hs hg ?_⟩
  rcases ok.2 n hn with q | q
  · rw [q] at h2
    obtain ⟨w, _, r0⟩ := sr.at_ n a o h1 h2
    rw [← sr.len]
    exact r0.isOld
  · exact q o h2
theorem done_ok (sr0 : SR K cl H m st) (e : Ext m H m' H') (sr : SR K cl H' m' st') {mu : Bool} {v w : PV} {u : V} {st2 : Store} (r : Rp K cl H' m' v u) (h : done st mu v st' = .ok w st2) :
    ∃ m2, Ext m H m2 H' ∧ SR K cl H' m2 st2 ∧ Rp K cl H' m2 w u := by
  unfold done at h
  by_cases hl : st'.length = st.length
  · rw [if_pos hl] at h
    cases h
    exact ⟨m', e, sr, r⟩
  rw [if_neg hl] at h
  by_cases ok : OldOk st st'
  case neg => rw [if_neg ok] at h; cases h
  rw [if_pos ok] at h
  have tk : m'.take st.length = m := by rw [← sr0.len]; exact e.take
  have hle : st.length ≤ st'.length := ok.1
  have sub : ∀ b ∈ m, b ∈ m' := fun b hb => by rw [← tk] at hb; exact List.mem_of_mem_take hb
  have pre : ∀ n, n < st.length → m[n]? = m'[n]? := fun n hn => by rw [← tk, List.getElem?_take_of_lt hn]
  have len : (st'.take st.length).length = st.length := by rw [List.length_take]; omega
  have sb : SR K cl H' m (st'.take st.length) := ⟨by rw [len, sr0.len], sr0.nd, fun n a o h1 h2 => by
    have hn : n < st.length := by rw [← sr0.len]; exact (List.getElem?_eq_some_iff.mp h1).1
    rw [List.getElem?_take_of_lt hn] at h2
    exact sr0.back e sr ok sub pre n a o h1 h2⟩
  have fin : ∀ {v : PV}, Rp K cl H' m' v u → (match frz (onRef st' st.length st'.length 3) v with | some v' => Res.ok v' (st'.take st.length) | none => Res.bad) = .ok w st2 → ∃ m2, Ext m H m2 H' ∧ SR K cl H' m2 st2 ∧ Rp K cl H' m2 w u := fun {v} r h => by
    cases q : frz (onRef st' st.length st'.length 3) v with
    | none => rw [q] at h; cases h
    | some v' =>
      rw [q] at h
      cases h
      exact ⟨m, e.back, sb, frz_ok sub (onRef_ok sr (fun b hb => .inl (by rw [tk]; exact hb)) pre 3) v u _ r q⟩
  cases mu with
  | false => cases v <;> exact fin r h
  | true =>
    cases v with
    | ref n =>
      dsimp only at h
      obtain ⟨a, rfl, ha⟩ := r
      by_cases hn : n < st.length
      · rw [if_pos hn] at h
        cases h
        exact ⟨m, e.back, sb, a, rfl, by rw [pre n hn]; exact ha⟩
      · rw [if_neg hn] at h
        have free : H a = none := by
          obtain ⟨⟨new, rfl, f⟩, _, _⟩ := e
          rw [List.getElem?_append_right (by rw [sr0.len]; omega)] at ha
          exact f a (List.mem_of_getElem? ha)
        have hm : Ext m H (m ++ [a]) H' := ⟨⟨[a], rfl, fun b hb => by rw [List.mem_singleton.mp hb]; exact free⟩, e.keep, e.trk⟩
        have na : a ∉ m := sr0.free free
        have sub2 : ∀ b ∈ m ++ [a], b ∈ m' := fun b hb => by
          rcases List.mem_append.mp hb with z | z
          · exact sub b z
          · rw [List.mem_singleton.mp z]; exact List.mem_of_getElem? ha
        have pre2 : ∀ k, k < st.length → (m ++ [a])[k]? = m'[k]? := fun k hk => by
          rw [List.getElem?_append_left (by rw [sr0.len]; exact hk)]
          exact pre k hk
        have rf := fun k => onRef_ok (x := n) (n₀ := st.length) (m2 := m ++ [a]) sr (fun b hb => by
          rcases List.mem_append.mp hb with z | z
          · exact .inl (by rw [tk]; exact z)
          · rw [List.mem_singleton.mp z]; exact .inr ha) pre2 k
        have mk : ∀ (o' : SO) (u' : HO), H' a = some u' → RpO K cl H' (m ++ [a]) o' u' → ∃ m2, Ext m H m2 H' ∧ SR K cl H' m2 (st'.take st.length ++ [o']) ∧ Rp K cl H' m2 (.ref st.length) (.ref a) := fun o' u' hu q => by
          refine ⟨m ++ [a], hm, ⟨by simp [len, sr0.len], ?_, fun k b y h1 h2 => ?_⟩, a, rfl, ?_⟩
          · rw [List.nodup_append]
            exact ⟨sr0.nd, by simp, fun c hc b hb z => by rw [List.mem_singleton] at hb; rw [hb] at z; rw [z] at hc; exact na hc⟩
          · by_cases hk : k < st.length
            · rw [List.getElem?_append_left (by rw [sr0.len]; exact hk)] at h1
              rw [List.getElem?_append_left (by rw [len]; exact hk), List.getElem?_take_of_lt hk] at h2
              exact sr0.back e sr ok sub2 pre2 k b y h1 h2
            · rw [List.getElem?_append_right (by rw [sr0.len]; omega)] at h1
              rw [List.getElem?_append_right (by rw [len]; omega)] at h2
              have e0 : k - st.length = 0 := by
                by_cases z : k - st.length = 0
                · exact z
                · rw [List.getElem?_eq_none (by simp [sr0.len]; omega)] at h1; cases h1
              rw [sr0.len, e0] at h1
              rw [len, e0] at h2
              have ea : a = b := Option.some.inj h1
              have ey : o' = y := Option.some.inj h2
              subst ea ey
              exact ⟨u', hu, q⟩
          · rw [← sr0.len]; simp
        cases q : st'[n]? with
        | none => rw [q] at h; cases h
        | some o =>
          rw [q] at h
          cases o with
          | lst xs =>
            have h : (match frzL (onRef st' st.length n 3) xs with | some ys => Res.ok (PV.ref st.length) (st'.take st.length ++ [SO.lst ys]) | none => Res.bad) = .ok w st2 := h
            obtain ⟨u', hu, ys, rfl, rl⟩ := sr.at_ n a _ ha q
            cases q2 : frzL (onRef st' st.length n 3) xs with
            | none => rw [q2] at h; cases h
            | some zs =>
              rw [q2] at h
              cases h
              exact mk (.lst zs) _ hu ⟨ys, rfl, frzL_ok sub2 (rf 3) xs ys zs rl q2⟩
          | ins c fs =>
            have h : (match frzF (onRef st' st.length n 3) fs with | some ys => Res.ok (PV.ref st.length) (st'.take st.length ++ [SO.ins c ys]) | none => Res.bad) = .ok w st2 := h
            obtain ⟨u', hu, dx, gs, rfl, rl⟩ := sr.at_ n a _ ha q
            cases q2 : frzF (onRef st' st.length n 3) fs with
            | none => rw [q2] at h; cases h
            | some zs =>
              rw [q2] at h
              cases h
              exact mk (.ins c zs) _ hu ⟨dx, gs, rfl, frzF_ok sub2 (rf 3) fs gs zs rl q2⟩
    | _ => exact fin r h
end
end Pv

set_option Elab.async false
set_option linter.all false
set_option maxRecDepth 100000
set_option maxHeartbeats 1000000
/-! Operations by values. -/
namespace Pv
open PySem PySem.Spec PyProof.Rows L2
def BOp.op : BOp → Operator
  | .add => .Add | .sub => .Sub | .mul => .Mult | .fdiv => .FloorDiv | .mod => .Mod | .pow => .Pow
section
variable {K : W.Frag} {cl : Nat → Addr} {m m' : List Addr} {H H' : Hp} {σ : L2.St} {env : En} {st st' : Store} {p a : Addr} {X : Cx}
theorem Fin.val {v : PV} {u : V} {Q : VK} (sr : SR K cl H m st) (r : Rp K cl H m v u) (f : Fin K cl m H (.ok v st) Q) : Q u H := f u H m (Ext.refl _ _) sr r
theorem Fin.int {k : Int} {Q : VK} (f : Fin K cl m H (.ok (.int k) st) Q) (sr : SR K cl H m st) : Q (.int k) H := Fin.val (v := .int k) sr rfl f
theorem Fin.str {k : Str} {Q : VK} (f : Fin K cl m H (.ok (.str k) st) Q) (sr : SR K cl H m st) : Q (.str k) H := Fin.val (v := .str k) sr rfl f
theorem Fin.bl {k : Bool} {Q : VK} (f : Fin K cl m H (.ok (.bl k) st) Q) (sr : SR K cl H m st) : Q (.bl k) H := Fin.val (v := .bl k) sr rfl f
/-- .. with more of the heap tracked -/
theorem Fin.at_ {v : PV} {u : V} {Q : VK} (f : Fin K cl m H (.ok v st') Q) (h : Ext m H m' H' ∧ SR K cl H' m' st' ∧ Rp K cl H' m' v u) : Q u H' := f u H' m' h.1 h.2.1 h.2.2

/-! ### two operands -/
theorem tuple_mulW1 (l : Addr) (items : Array Value) (n : Nat) (dd : Option Addr) (sl : Array (Option Value)) (x : Int) (u : Tok) (c0 : (decide (x < -(2 ^ 63)) || decide (x ≥ 2 ^ 63)) = false) (c1 : (items.isEmpty || x == 1) = true) :
    Meets (Builtin.«tuple.__mul__» ⟨[.ref l, .int x u], []⟩) (fun _ R s => s.heap.get? l = some { cls := .type "tuple", dict := dd, data := .seq items n, slots := sl } ∧
      R (.ok (.ret (Value.ref l))) s) :=
  .of_wp fun prog w A R s h => by
    obtain ⟨hp, g, d, tk, os⟩ := s
    obtain ⟨hl, h⟩ := h
    have f1 := AutoSeq1.idx_int
    wp_walk using wpAny_loadPart' hl
    repeat (first
      | (refine wpAny_ite_false (decide_eq_false (by rw [c0]; exact Bool.false_ne_true)) ?_; wp_walk using wpAny_loadPart' hl)
      | (refine wpAny_ite_true (decide_eq_true c1) ?_; wp_walk using wpAny_loadPart' hl))
    exact ⟨_, rfl, h⟩
theorem tuple_mulW0' (l : Addr) (items : Array Value) (n : Nat) (dd : Option Addr) (sl : Array (Option Value)) (x : Int) (u : Tok) (c0 : (decide (x < -(2 ^ 63)) || decide (x ≥ 2 ^ 63)) = false) (c1 : (items.isEmpty || x == 1) = false) (c2 : (decide (x ≤ 0) || items.isEmpty) = true) :
    Meets (Builtin.«tuple.__mul__» ⟨[.ref l, .int x u], []⟩) (fun _ R s => s.heap.get? l = some { cls := .type "tuple", dict := dd, data := .seq items n, slots := sl } ∧
      R (.ok (.ret (Value.ref s.heap.objs.size))) { s with heap := s.heap.push { cls := Value.type "tuple", data := Data.seq #[] }, toks := s.toks }) :=
  .of_wp fun prog w A R s h => by
    obtain ⟨hp, g, d, tk, os⟩ := s
    obtain ⟨hl, h⟩ := h
    have f1 := AutoSeq1.idx_int
    wp_walk using wpAny_loadPart' hl
    repeat (first
      | (refine wpAny_ite_false (decide_eq_false (by rw [c0]; exact Bool.false_ne_true)) ?_; wp_walk using wpAny_loadPart' hl)
      | (refine wpAny_ite_false (decide_eq_false (by rw [c1]; exact Bool.false_ne_true)) ?_; wp_walk using wpAny_loadPart' hl)
      | (refine wpAny_ite_true (decide_eq_true c2) ?_; wp_walk using wpAny_loadPart' hl))
    exact ⟨_, rfl, h⟩
def rRep (K : PySem.W.Frag) : R2 := fun x y H Q => ∃ l k xs, x = .ref l ∧ y = .int k ∧ SqT K H l xs ∧ 0 ≤ k ∧ k ≤ 1000 ∧ xs.length ≤ 1000 ∧ ((xs = [] ∨ k = 1) → Q (.ref l) H) ∧ (xs ≠ [] → k = 0 → ∀ p, H p = none → Q (.ref p) (upd H p (.tup []))) ∧
  (xs ≠ [] → 2 ≤ k → ∀ p, H p = none → Q (.ref p) (upd H p (.tup (List.replicate k.toNat xs).flatten)))
theorem op_rep : OpR X (binaryOp .Mult) (rRep X.K) := by
  intro pins s σ H x y v u Q I rx ry h
  obtain ⟨l, k, xs, rfl, rfl, hT, h1, h2, hz, q1, q0, q⟩ := h
  by_cases hb : xs ≠ [] ∧ 2 ≤ k
  · exact op_repT pins s σ H _ _ v u Q I rx ry ⟨l, k, xs, rfl, rfl, hT, hb.1, hb.2, h2, hz, q hb.1 hb.2⟩
  cases rx
  obtain ⟨t, rfl⟩ := ry
  obtain ⟨its, r, ⟨⟨cls, dd, data, sl⟩, ho, hc, n, hd⟩, hs⟩ := I.tuple hT
  simp only at hc hd
  subst hc hd
  have hle : its.length = xs.length := r.length.symm
  have c0 : (decide (k < -(2 ^ 63)) || decide (k ≥ 2 ^ 63)) = false := by
    rw [decide_eq_false (by omega), decide_eq_false (by omega)] <;> rfl
  by_cases hx : xs = [] ∨ k = 1
  · have c1 : (its.toArray.isEmpty || k == 1) = true := by
      rcases hx with e | e
      · subst e
        cases its with
        | nil => rfl
        | cons a b => simp at hle
      · subst e
        simp
    refine wpAny_binaryOp_repeat_ref (T := "tuple") (U := "int") (by decide) ⟨_, ho, rfl⟩ (fun s' => typeIs_int s' k t) noFill_tuple_mul PySem.F.fills_int_mul PySem.F.slot_int_rmul repeat_tuple PySem.F.slot_int_index.lookup
      (call_meets PySem.F.slot_int_rmul (typeIs_int s k t) PySem.F.entry_int_rmul (PySem.F.args_int_rmul_2 _ _) (int_rmul_tuple k t l its.toArray n dd sl)
        ⟨ho, rfl, ⟨_, ho, rfl⟩, call_meets PySem.F.slot_tuple_mul ⟨_, ho, rfl⟩ PySem.F.entry_tuple_mul (PySem.F.args_tuple_mul_2 _ _) (tuple_mulW1 l its.toArray n dd sl k t c0 c1) ⟨ho, ?_⟩⟩)
    exact ⟨.ref l, H, I, rfl, q1 hx⟩
  · have hne : xs ≠ [] := fun e => hx (.inl e)
    have hk : k = 0 := by
      have := mt (fun z => And.intro hne z) hb
      have h3 : k ≠ 1 := fun e => hx (.inr e)
      omega
    subst hk
    have hn : its ≠ [] := fun e => hne (by
      rw [e] at hle
      exact List.eq_nil_of_length_eq_zero hle.symm)
    have c1 : (its.toArray.isEmpty || (0 : Int) == 1) = false := by
      cases its with
      | nil => exact absurd rfl hn
      | cons a b => rfl
    have c2 : (decide ((0 : Int) ≤ 0) || its.toArray.isEmpty) = true := by simp
    refine wpAny_binaryOp_repeat_ref (T := "tuple") (U := "int") (by decide) ⟨_, ho, rfl⟩ (fun s' => typeIs_int s' 0 t) noFill_tuple_mul PySem.F.fills_int_mul PySem.F.slot_int_rmul repeat_tuple PySem.F.slot_int_index.lookup
      (call_meets PySem.F.slot_int_rmul (typeIs_int s 0 t) PySem.F.entry_int_rmul (PySem.F.args_int_rmul_2 _ _) (int_rmul_tuple 0 t l its.toArray n dd sl)
        ⟨ho, rfl, ⟨_, ho, rfl⟩, call_meets PySem.F.slot_tuple_mul ⟨_, ho, rfl⟩ PySem.F.entry_tuple_mul (PySem.F.args_tuple_mul_2 _ _) (tuple_mulW0' l its.toArray n dd sl 0 t c0 c1 c2) ⟨ho, ?_⟩⟩)
    refine ⟨.ref s.heap.objs.size, _, I.laid (t' := s.toks) (o := .tup []) (fun b ob q => Heap.get?_push_of_some _ q) (Nat.le_refl _) ?_, rfl, q0 hne rfl _ (I.hok.fresh (Nat.le_refl _))⟩
    exact ⟨by simp [sizeLine_eq], _, .nil, IsTup.new _ _⟩
def rB (K : W.Frag) (cl : Nat → Addr) (f : PV → PV → Store → Res PV) : R2 := fun x y H Q => ∃ m st a b, SR K cl H m st ∧ Rp K cl H m a x ∧ Rp K cl H m b y ∧ Fin K cl m H (f a b st) Q
theorem op_mulP : OpR X (binaryOp .Mult) (rI MulOk fun i j => .int (i * j)) := opI fun i j _ _ _ _ _ hc q => mul_int q (by
  have b : ∀ x : Int, Builtin.Int.intBits x ≤ x.natAbs.log2 + 1 := fun x => by
    unfold Builtin.Int.intBits
    split <;> omega
  have h1 := b i
  have h2 := b j
  have h3 : i.natAbs.log2 + j.natAbs.log2 < 100000000 := hc
  have e : bitsLine = 134217728 := by decide
  unfold IntMulOk
  intro z
  rw [Bool.and_eq_true] at z
  have z2 := z.2
  unfold Builtin.Int.intTooBig at z2
  have z3 := of_decide_eq_true z2
  rw [e] at z3
  omega)
theorem op_fdivP : OpR X (binaryOp .FloorDiv) (rI DivOk fun i j => .int (i.fdiv j)) := opI fun i j _ _ _ _ _ hc q => floordiv_int hc.1 q (.inl (PyProof.noPylong_of_log2 hc.2))
theorem op_catT0 : OpR X (binaryOp .Add) (fun x y H Q => ∃ a b ys, x = .ref a ∧ y = .ref b ∧ SqT X.K H a [] ∧ SqT X.K H b ys ∧ Q (.ref b) H) := by
  intro pins s σ H x y v u Q I rx ry h
  obtain ⟨a, b, ys, rfl, rfl, ha, hb, q⟩ := h
  cases rx
  cases ry
  obtain ⟨its, r1, p1, _⟩ := I.tuple ha
  obtain ⟨its2, r2, p2, _⟩ := I.tuple hb
  obtain ⟨⟨cls, dd, data, sl⟩, ho, hc, n, hd⟩ := id p1
  obtain ⟨⟨cls2, dd2, data2, sl2⟩, ho2, hc2, n2, hd2⟩ := id p2
  simp only at hc hd hc2 hd2
  subst hc hd hc2 hd2
  cases r1
  exact concat_meets ⟨_, ho, rfl⟩ ⟨_, ho2, rfl⟩ noFill_tuple_add seq_tuple_add PySem.F.slot_tuple_add PySem.F.entry_tuple_add (PySem.F.args_tuple_add_2 _ _)
      (tuple_addW0 a b [].toArray its2.toArray n n2 dd dd2 sl sl2 rfl) ⟨ho, ho2, ⟨.ref b, H, I, rfl, q⟩⟩
theorem RpL.flat0 (n : Nat) : (List.replicate n ([] : List PV)).flatten = [] := by
  induction n with
  | zero => rfl
  | succ n ih => simpa [List.replicate_succ] using ih
theorem RpL.rep {xs : List PV} {ys : List V} (r : RpL K cl H m xs ys) : ∀ n : Nat, RpL K cl H m (List.replicate n xs).flatten (List.replicate n ys).flatten
  | 0 => rfl
  | n + 1 => by
    rw [List.replicate_succ, List.replicate_succ, List.flatten_cons, List.flatten_cons]
    exact r.append (RpL.rep r n)
theorem op_bin (hK : X.K = K) (o : BOp) : OpR X (binaryOp o.op) (rB K cl (bin2 o)) := by
  intro pins s σ H x y v u Q I rx ry h
  obtain ⟨m, st, a, b, sr, ra, rb, f⟩ := h
  subst hK
  cases a <;> cases b <;> first
    | (cases o <;> exact f.elim)
    | skip
  case int.int i j =>
    cases ra
    cases rb
    cases o with
    | add => exact op_add pins s σ H _ _ v u Q I rx ry ⟨i, j, rfl, rfl, Fin.int f sr⟩
    | sub => exact op_sub pins s σ H _ _ v u Q I rx ry ⟨i, j, rfl, rfl, Fin.int f sr⟩
    | mul =>
      simp only [bin2] at f
      split at f
      · rename_i hc
        exact op_mulP pins s σ H _ _ v u Q I rx ry ⟨i, j, rfl, rfl, hc, Fin.int f sr⟩
      · exact f.elim
    | fdiv =>
      simp only [bin2] at f
      split at f
      · rename_i hc
        exact op_fdivP pins s σ H _ _ v u Q I rx ry ⟨i, j, rfl, rfl, hc, Fin.int f sr⟩
      · exact f.elim
    | mod =>
      simp only [bin2] at f
      split at f
      · rename_i hc
        exact op_modN pins s σ H _ _ v u Q I rx ry ⟨i, j, rfl, rfl, hc, Fin.int f sr⟩
      · exact f.elim
    | pow =>
      simp only [bin2] at f
      split at f
      · rename_i hc
        exact op_pow pins s σ H _ _ v u Q I rx ry ⟨i, j, rfl, rfl, ⟨hc.1, by have := hc.2.1; omega, hc.2.2⟩, Fin.int f sr⟩
      · exact f.elim
  case str.str i j =>
    cases ra
    cases rb
    cases o with
    | add =>
      simp only [bin2] at f
      split at f
      · rename_i hc
        exact op_add_str pins s σ H _ _ v u Q I rx ry ⟨i, j, rfl, rfl, hc, Fin.str f sr⟩
      · exact f.elim
    | _ => exact f.elim
  case tup.tup xs ys =>
    obtain ⟨p, us, rfl, hp, r1⟩ := ra
    obtain ⟨q, ws, rfl, hq, r2⟩ := rb
    cases o with
    | add =>
      simp only [bin2] at f
      split at f
      case isFalse => exact f.elim
      rename_i hc
      cases us with
      | nil =>
        have e := r1.length
        have e2 : xs = [] := List.eq_nil_of_length_eq_zero e
        subst e2
        exact op_catT0 pins s σ H _ _ v u Q I rx ry ⟨p, q, ws, rfl, rfl, hp, hq, Fin.val (v := .tup ([] ++ ys)) sr ⟨q, ws, rfl, hq, r2⟩ f⟩
      | cons u0 us =>
        refine op_catT pins s σ H _ _ v u Q I rx ry ⟨p, q, _, ws, rfl, rfl, hp, hq, by simp, by rw [← r1.length, ← r2.length]; exact hc, fun e => ?_, fun _ l hl => ?_⟩
        · subst e
          have e2 : ys = [] := List.eq_nil_of_length_eq_zero r2.length
          subst e2
          rw [List.append_nil] at f
          exact Fin.val (v := .tup xs) sr ⟨p, _, rfl, hp, r1⟩ f
        · exact f.at_ (newT sr (r1.append r2) hl)
    | _ => exact f.elim
  case tup.int xs k =>
    obtain ⟨p, us, rfl, hp, r1⟩ := ra
    cases rb
    cases o with
    | mul =>
      simp only [bin2] at f
      split at f
      case isFalse => exact f.elim
      rename_i hc
      refine op_rep pins s σ H _ _ v u Q I rx ry ⟨p, k, us, rfl, rfl, hp, hc.1, hc.2.1, by rw [← r1.length]; exact hc.2.2, fun e => ?_, fun _ e q hq => ?_, fun _ _ q hq => ?_⟩
      · refine Fin.val (v := .tup (List.replicate k.toNat xs).flatten) sr ⟨p, us, rfl, hp, ?_⟩ f
        rcases e with e | e
        · subst e
          have e2 : xs = [] := List.eq_nil_of_length_eq_zero r1.length
          subst e2
          rw [RpL.flat0]
          exact rfl
        · subst e
          rw [show (List.replicate (Int.toNat 1) xs).flatten = xs by simp [List.replicate]]
          exact r1
      · subst e
        exact f.at_ (newT sr (xs := (List.replicate (Int.toNat 0) xs).flatten) (by simp [RpL]) hq)
      · exact f.at_ (newT sr (r1.rep k.toNat) hq)
    | _ => exact f.elim
theorem op_addL (hK : X.K = K) (mu : Bool) : OpR X (binaryOp .Add) (rB K cl (addL mu)) := by
  intro pins s σ H x y v u Q I rx ry h
  obtain ⟨m, st, a, b, sr, ra, rb, f⟩ := h
  subst hK
  unfold addL at f
  cases e1 : seqOf st a with
  | none => rw [e1] at f; exact f.elim
  | some w1 =>
    cases e2 : seqOf st b with
    | none => rw [e1, e2] at f; obtain ⟨_ | _, _⟩ := w1 <;> exact f.elim
    | some w2 =>
      rw [e1, e2] at f
      obtain ⟨b1, xs⟩ := w1
      obtain ⟨b2, ys⟩ := w2
      cases b1 with
      | true => exact f.elim
      | false =>
        cases b2 with
        | true => exact f.elim
        | false =>
          dsimp only at f
          split at f
          case isFalse => exact f.elim
          rename_i hc
          obtain ⟨p, us, rfl, r1, _, h1⟩ := seq_ok sr ra e1
          obtain ⟨q, ws, rfl, r2, _, h2⟩ := seq_ok sr rb e2
          exact op_cat pins s σ H _ _ v u Q I rx ry ⟨p, q, us, ws, rfl, rfl, h1 rfl, h2 rfl, by rw [← r1.length, ← r2.length]; exact hc, fun l hl => mkL_ok sr (r1.append r2) hl f⟩

/-! ### comparisons -/
def COp.op : COp → CmpOp
  | .lt => .Lt | .le => .LtE | .gt => .Gt | .ge => .GtE | .eq => .Eq | .ne => .NotEq | .isN => .Is | .notN => .IsNot | .mem => .In | .notMem => .NotIn | .isC => .Is | .notC => .IsNot
def rC (K : W.Frag) (cl : Nat → Addr) (o : COp) : R2 := fun x y H Q => ∃ m st a b c, SR K cl H m st ∧ Rp K cl H m a x ∧ Rp K cl H m b y ∧ cmpR o a b st = some c ∧ Q (.bl c) H
theorem isV_ok {neg : Bool} {a b : PV} {c : Bool} {x y : V} {v u : Value} {pins : List (Addr × Obj)} {s : Shared} {Q : VK} (I : Inv X pins σ H s) (rx : RelV x v) (ry : RelV y u) (ra : Rp K cl H m a x) (rb : Rp K cl H m b y) (h : isV a b = some c) (q : Q (.bl (if neg then !c else c)) H) :
    wpAny (model X.prog X.w) X.A (compareOp (if neg then .IsNot else .Is) v u) (EP X pins σ Q) X.xe s := by
  have key : plainIs v u = true ∧ (v == u) = c := by
    cases b with
    | non =>
      cases rb
      cases ry
      cases a with
      | non => cases h; cases ra; cases rx; exact ⟨rfl, rfl⟩
      | bl _ => cases h; cases ra; cases rx; exact ⟨rfl, rfl⟩
      | int _ => cases h; cases ra; obtain ⟨_, rfl⟩ := rx; exact ⟨rfl, rfl⟩
      | str _ => cases h; cases ra; obtain ⟨_, rfl⟩ := rx; exact ⟨rfl, rfl⟩
      | ty _ => cases h; cases ra; cases rx; exact ⟨rfl, rfl⟩
      | tup _ => cases h; obtain ⟨_, _, rfl, _⟩ := ra; cases rx; exact ⟨rfl, rfl⟩
      | lst _ => cases h; obtain ⟨_, _, rfl, _⟩ := ra; cases rx; exact ⟨rfl, rfl⟩
      | scr _ => cases h; obtain ⟨_, rfl, _⟩ := ra; cases rx; exact ⟨rfl, rfl⟩
      | ins _ _ => cases h; obtain ⟨_, _, _, rfl, _⟩ := ra; cases rx; exact ⟨rfl, rfl⟩
      | ref _ => cases h; obtain ⟨_, rfl, _⟩ := ra; cases rx; exact ⟨rfl, rfl⟩
    | bl k =>
      cases rb
      cases ry
      cases a with
      | non => cases h; cases ra; cases rx; exact ⟨rfl, rfl⟩
      | bl l => cases h; cases ra; cases rx; exact ⟨rfl, by cases k <;> cases l <;> rfl⟩
      | int _ => cases h; cases ra; obtain ⟨_, rfl⟩ := rx; exact ⟨rfl, rfl⟩
      | str _ => cases h; cases ra; obtain ⟨_, rfl⟩ := rx; exact ⟨rfl, rfl⟩
      | ty _ => cases h; cases ra; cases rx; exact ⟨rfl, rfl⟩
      | tup _ => cases h; obtain ⟨_, _, rfl, _⟩ := ra; cases rx; exact ⟨rfl, rfl⟩
      | lst _ => cases h; obtain ⟨_, _, rfl, _⟩ := ra; cases rx; exact ⟨rfl, rfl⟩
      | scr _ => cases h; obtain ⟨_, rfl, _⟩ := ra; cases rx; exact ⟨rfl, rfl⟩
      | ins _ _ => cases h; obtain ⟨_, _, _, rfl, _⟩ := ra; cases rx; exact ⟨rfl, rfl⟩
      | ref _ => cases h; obtain ⟨_, rfl, _⟩ := ra; cases rx; exact ⟨rfl, rfl⟩
    | _ => cases h
  cases neg with
  | false => exact wpAny_is_plain key.1 ⟨_, H, I, by rw [key.2]; rfl, q⟩
  | true => exact wpAny_isNot_plain key.1 ⟨_, H, I, by rw [key.2]; rfl, q⟩
theorem intsOf_ok : ∀ {xs : List PV} {is : List Int} {us : List V}, intsOf xs = some is → RpL K cl H m xs us → us = is.map V.int
  | [], _, us, h, r => by cases h; cases r; rfl
  | .int i :: xs, is, us, h, r => by
    obtain ⟨y, zs, rfl, r1, r2⟩ := r
    cases r1
    unfold intsOf at h
    cases e : intsOf xs with
    | none => rw [e] at h; cases h
    | some js => rw [e] at h; cases h; rw [intsOf_ok e r2]; rfl
  | .non :: xs, is, us, h, r => by cases h
  | .bl _ :: xs, is, us, h, r => by cases h
  | .str _ :: xs, is, us, h, r => by cases h
  | .ty _ :: xs, is, us, h, r => by cases h
  | .tup _ :: xs, is, us, h, r => by cases h
  | .lst _ :: xs, is, us, h, r => by cases h
  | .scr _ :: xs, is, us, h, r => by cases h
  | .ins _ _ :: xs, is, us, h, r => by cases h
  | .ref _ :: xs, is, us, h, r => by cases h
theorem blsOf_ok : ∀ {xs : List PV} {is : List Bool} {us : List V}, blsOf xs = some is → RpL K cl H m xs us → us = is.map V.bl
  | [], _, us, h, r => by cases h; cases r; rfl
  | .bl i :: xs, is, us, h, r => by
    obtain ⟨y, zs, rfl, r1, r2⟩ := r
    cases r1
    unfold blsOf at h
    cases e : blsOf xs with
    | none => rw [e] at h; cases h
    | some js => rw [e] at h; cases h; rw [blsOf_ok e r2]; rfl
  | .non :: xs, is, us, h, r => by cases h
  | .int _ :: xs, is, us, h, r => by cases h
  | .str _ :: xs, is, us, h, r => by cases h
  | .ty _ :: xs, is, us, h, r => by cases h
  | .tup _ :: xs, is, us, h, r => by cases h
  | .lst _ :: xs, is, us, h, r => by cases h
  | .scr _ :: xs, is, us, h, r => by cases h
  | .ins _ _ :: xs, is, us, h, r => by cases h
  | .ref _ :: xs, is, us, h, r => by cases h
theorem mem_ok {neg : Bool} {a b : PV} {c : Bool} {x y : V} {v u : Value} {pins : List (Addr × Obj)} {s : Shared} {Q : VK} (hK : X.K = K) (hu : X.A.units + 65 < cLine) (I : Inv X pins σ H s) (rx : RelV x v) (ry : RelV y u) (sr : SR K cl H m st) (ra : Rp K cl H m a x) (rb : Rp K cl H m b y) (h : mem2 st a b = some c) (q : Q (.bl (if neg then !c else c)) H) :
    wpAny (model X.prog X.w) X.A (compareOp (if neg then .NotIn else .In) v u) (EP X pins σ Q) X.xe s := by
  subst hK
  have viaL : memL st a b = some c → wpAny (model X.prog X.w) X.A (compareOp (if neg then .NotIn else .In) v u) (EP X pins σ Q) X.xe s := fun h => by
    unfold memL at h
    cases e1 : datOf st a with
    | none => rw [e1] at h; cases h
    | some d =>
      cases e2 : datOf st b with
      | none => rw [e1, e2] at h; cases h
      | some e =>
        rw [e1, e2] at h
        cases e with
        | list ds =>
          dsimp only at h
          split at h
          case isFalse => cases h
          rename_i hs
          cases h
          cases neg with
          | false => exact op_inD hu pins s σ H x y v u Q I rx ry ⟨d, ds, datOf_ok sr ra e1, datOf_ok sr rb e2, hs.1, hs.2, q⟩
          | true => exact op_notInD hu pins s σ H x y v u Q I rx ry ⟨d, ds, datOf_ok sr ra e1, datOf_ok sr rb e2, hs.1, hs.2, q⟩
        | _ => cases h
  cases b with
  | tup xs =>
    simp only [mem2] at h
    cases a with
    | int i =>
      cases e : intsOf xs with
      | none => rw [e] at h; cases h
      | some is =>
        rw [e] at h
        cases h
        cases ra
        obtain ⟨p, ys, rfl, hp, r⟩ := rb
        have ey := intsOf_ok e r
        subst ey
        have inv : inV (V.int i) (is.map V.int) = is.any fun j => decide (j = i) := by
          unfold inV
          rw [List.any_map]
          rfl
        have fl : (is.map V.int).all flatV = true := by
          rw [List.all_map]
          exact List.all_eq_true.mpr fun _ _ => rfl
        cases neg with
        | false => exact op_in_seq pins s σ H _ _ v u Q I rx ry ⟨p, _, rfl, .inr hp, rfl, fl, by rw [inv]; exact q⟩
        | true => exact op_notIn_seq pins s σ H _ _ v u Q I rx ry ⟨p, _, rfl, .inr hp, rfl, fl, by rw [inv]; exact q⟩
    | _ => cases h
  | _ => exact viaL h
theorem op_cmp (hK : X.K = K) (hu : X.A.units + 65 < cLine) (o : COp) : OpR X (compareOp o.op) (rC K cl o) := by
  intro pins s σ H x y v u Q I rx ry h
  obtain ⟨m, st, a, b, c, sr, ra, rb, f, q⟩ := h
  have hu64 : X.A.units + 64 < cLine := by omega
  cases o
  case mem => exact mem_ok (neg := false) hK hu I rx ry sr ra rb f q
  case notMem =>
    simp only [cmpR, Option.map_eq_some_iff] at f
    obtain ⟨c', f, rfl⟩ := f
    exact mem_ok (neg := true) hK hu I rx ry sr ra rb f q
  case isC => exact isV_ok (neg := false) I rx ry ra rb f q
  case notC =>
    simp only [cmpR, Option.map_eq_some_iff] at f
    obtain ⟨c', f, rfl⟩ := f
    exact isV_ok (neg := true) I rx ry ra rb f q
  case isN =>
    have hb : b = .non := by cases b <;> first | rfl | cases f
    subst hb
    exact isV_ok (neg := false) I rx ry ra rb (b := .non) f q
  case notN =>
    have hb : b = .non := by cases b <;> first | rfl | cases f
    subst hb
    refine isV_ok (neg := true) (c := !c) I rx ry ra rb (b := .non) ?_ (by simpa using q)
    cases a <;> (simp only [cmpR, cmp2, Option.some.injEq] at f; subst f; rfl)
  case eq =>
    subst hK
    simp only [cmpR, cmp2] at f
    cases e1 : datOf st a with
    | none => rw [e1] at f; cases f
    | some d =>
      cases e2 : datOf st b with
      | none => rw [e1, e2] at f; cases f
      | some e =>
        rw [e1, e2] at f
        dsimp only at f
        split at f
        case isFalse => cases f
        rename_i hs
        cases f
        exact op_eqD hu64 pins s σ H x y v u Q I rx ry ⟨d, e, datOf_ok sr ra e1, datOf_ok sr rb e2, hs.1, hs.2, q⟩
  case ne =>
    subst hK
    simp only [cmpR, cmp2] at f
    cases e1 : datOf st a with
    | none => rw [e1] at f; cases f
    | some d =>
      cases e2 : datOf st b with
      | none => rw [e1, e2] at f; cases f
      | some e =>
        rw [e1, e2] at f
        dsimp only at f
        split at f
        case isFalse => cases f
        rename_i hs
        cases f
        exact op_neD hu64 pins s σ H x y v u Q I rx ry ⟨d, e, datOf_ok sr ra e1, datOf_ok sr rb e2, hs.1, hs.2, q⟩
  all_goals
    cases a <;> cases b <;> first
      | (cases f; done)
      | skip
    rename_i i j
    cases f
    cases ra
    cases rb
  case lt.int.int => exact op_lt pins s σ H _ _ v u Q I rx ry ⟨i, j, rfl, rfl, q⟩
  case le.int.int => exact op_le pins s σ H _ _ v u Q I rx ry ⟨i, j, rfl, rfl, q⟩
  case gt.int.int => exact op_gt pins s σ H _ _ v u Q I rx ry ⟨i, j, rfl, rfl, q⟩
  case ge.int.int => exact op_ge pins s σ H _ _ v u Q I rx ry ⟨i, j, rfl, rfl, q⟩
end
end Pv

set_option Elab.async false
set_option linter.all false
set_option maxRecDepth 100000
set_option maxHeartbeats 1000000
/-! Built-in functions, subscripts, attributes by values. -/
namespace Pv
open PySem PySem.Spec PyProof.Rows L2
/-- what every class of one's own (no exception) has -/
structure IsF (K : W.Frag) (C : Addr) : Prop where
  ha : W.findIn K (.ref C) "__class__" = some (some (.builtin "object.__class__"))
  hn : W.specialIn K (.builtin "object.__class__") "__get__" = some (some (.builtin "getset_descriptor.__get__"))
  htk : W.takesIn K (.builtin "object.__class__") = some true
  hm : W.mroIn K C (.type "object") = some true
def csV (cl : Nat → Addr) : Cs → Value
  | .ty n => .type n
  | .cl c => .ref (cl c)
def csU (cl : Nat → Addr) : Cs → V
  | .ty n => .ty n
  | .cl c => .ref (cl c)
/-- the classes as they stand -/
structure ClsOk (K : W.Frag) (cl : Nat → Addr) (PR : Prog) : Prop where
  cls : ∀ c k, PR.kl[c]? = some k → Cls K (cl c)
  isf : ∀ c k, PR.kl[c]? = some k → IsF K (cl c)
  isl : ∀ a b r, (a, b, r) ∈ PR.isl → W.kitOne K (csV cl a) (csV cl b) = some r
def Bi.id : Bi → Value
  | .len => .builtin "len" | .tuple => .type "tuple" | .list _ => .type "list" | .abs => .builtin "abs" | .int => .type "int" | .gcd => .builtin "math.gcd"
  | .all => .builtin "all" | .any => .builtin "any" | .sum => .builtin "sum" | .min2 => .builtin "min" | .max2 => .builtin "max" | .str => .type "str"
  | .isi _ => .builtin "isinstance" | .isiT _ => .builtin "isinstance" | .repr => .builtin "repr"
section
variable {K : W.Frag} {cl : Nat → Addr} {m m' : List Addr} {H H' : Hp} {σ : L2.St} {env : En} {st st' : Store} {p a : Addr} {X : Cx} {PR : Prog}
def rF (K : W.Frag) (cl : Nat → Addr) (f : List PV → Store → Res PV) : List V → Hp → VK → Prop := fun xs H Q => ∃ m st as, SR K cl H m st ∧ RpL K cl H m as xs ∧ Fin K cl m H (f as st) Q
theorem RpL.one {x : PV} {us : List V} (h : RpL K cl H m [x] us) : ∃ u, us = [u] ∧ Rp K cl H m x u := by
  obtain ⟨y, zs, rfl, r, q⟩ := h
  cases q
  exact ⟨y, rfl, r⟩
theorem RpL.two {x y : PV} {us : List V} (h : RpL K cl H m [x, y] us) : ∃ u w, us = [u, w] ∧ Rp K cl H m x u ∧ Rp K cl H m y w := by
  obtain ⟨u, zs, rfl, r, q⟩ := h
  obtain ⟨w, rfl, rq⟩ := q.one
  exact ⟨u, w, rfl, r, rq⟩
theorem seqR {b : Bool} {p : Addr} {ys : List V} (h1 : b = true → SqT K H p ys) (h2 : b = false → H p = some (.lst ys)) : SqL K H p ys ∨ SqT K H p ys := by
  cases b with
  | true => exact .inr (h1 rfl)
  | false => exact .inl (.inl (.inl (h2 rfl)))
theorem seqP_ref {v : PV} {u : V} {w : Bool × List PV} (sr : SR K cl H m st) (r : Rp K cl H m v u) (h : seqOf st v = some w) : ∃ p, u = .ref p := by
  obtain ⟨b, xs⟩ := w
  obtain ⟨p, _, e, _⟩ := seq_ok sr r h
  exact ⟨p, e⟩
theorem cr_bi (hK : X.K = K) (hc : X.calm = true) (hgd : X.A.guards = some []) (hun : X.A.units + 65 < cLine) (l : List (Cs × Cs × Bool)) (nk : Nat) (b : Bi) (hb : isIsi b = false) : CallR X b.id (rF K cl (biF l nk b)) := by
  intro pins s σ H xs us Q I r h
  obtain ⟨m, st, as, sr, rp, f⟩ := h
  subst hK
  match as, rp, f with
  | [], rp, f => cases b <;> exact f.elim
  | x :: y :: z :: ws, rp, f => cases b <;> cases x <;> cases y <;> exact f.elim
  | [x, y], rp, f =>
    obtain ⟨u, w, rfl, r1, r2⟩ := rp.two
    cases b with
    | gcd =>
      cases x with
      | int i =>
        cases y with
        | int j => cases r1; cases r2; exact cr_gcd pins s σ H _ us Q I r ⟨i, j, rfl, Fin.int f sr⟩
        | _ => exact f.elim
      | _ => exact f.elim
    | min2 =>
      cases x with
      | int i =>
        cases y with
        | int j => cases r1; cases r2; exact call_min2 hc pins s σ H _ us Q I r ⟨i, j, rfl, Fin.int f sr⟩
        | _ => exact f.elim
      | _ => exact f.elim
    | max2 =>
      cases x with
      | int i =>
        cases y with
        | int j => cases r1; cases r2; exact call_max2 hc pins s σ H _ us Q I r ⟨i, j, rfl, Fin.int f sr⟩
        | _ => exact f.elim
      | _ => exact f.elim
    | _ => cases x <;> exact f.elim
  | [x], rp, f =>
    obtain ⟨u, rfl, r1⟩ := rp.one
    cases b with
    | isi _ => cases hb
    | isiT _ => cases hb
    | repr =>
      simp only [biF] at f
      cases e : seqOf st x with
      | none => rw [e] at f; exact f.elim
      | some w =>
        cases e2 : datOf st x with
        | none => rw [e, e2] at f; exact f.elim
        | some d =>
          rw [e, e2] at f
          dsimp only at f
          split at f
          case isFalse => exact f.elim
          rename_i hd
          obtain ⟨h1, h2, h3, h4⟩ := hd
          obtain ⟨p, rfl⟩ := seqP_ref sr r1 e
          obtain ⟨u, rfl, ru⟩ := vals1 r
          cases ru
          obtain ⟨as, rd⟩ := Dp.reads I d (.ref p) (.ref p) (datOf_ok sr r1 e2) rfl
          refine repr_of_reads' rd h1 (PyData.noDict_hsm h2) hgd (by omega) (fun _ _ e => e) (fun h' u tk hk => ?_) h4
          exact ⟨.str d.shown, H, I.kept (t' := tk) hk, ⟨u, rfl⟩, Fin.str f sr⟩
    | gcd => cases x <;> exact f.elim
    | min2 => cases x <;> exact f.elim
    | max2 => cases x <;> exact f.elim
    | abs =>
      cases x with
      | int i => cases r1; exact call_abs pins s σ H _ us Q I r ⟨i, rfl, Fin.int f sr⟩
      | _ => exact f.elim
    | int =>
      cases x with
      | int i => cases r1; exact call_int1 pins s σ H _ us Q I r (.inl ⟨i, rfl, Fin.int f sr⟩)
      | _ => exact f.elim
    | str =>
      cases x with
      | int i =>
        cases r1
        simp only [biF] at f
        split at f
        · rename_i hi
          exact call_str_int pins s σ H _ us Q I r ⟨i, rfl, hi, Fin.str f sr⟩
        · exact f.elim
      | _ => exact f.elim
    | len =>
      simp only [biF] at f
      cases e : seqOf st x with
      | none => rw [e] at f; exact f.elim
      | some w =>
        obtain ⟨b, ys⟩ := w
        rw [e] at f
        obtain ⟨p, zs, rfl, rl, h1, h2⟩ := seq_ok sr r1 e
        refine call_len_seq pins s σ H _ us Q I r ⟨p, zs, rfl, seqR h1 h2, ?_⟩
        rw [← rl.length]
        exact Fin.int f sr
    | tuple =>
      simp only [biF] at f
      cases e : seqOf st x with
      | none => rw [e] at f; exact f.elim
      | some w =>
        obtain ⟨b, ys⟩ := w
        rw [e] at f
        obtain ⟨p, zs, rfl, rl, h1, h2⟩ := seq_ok sr r1 e
        refine call_tuple_of pins s σ H _ us Q I r ⟨p, zs, rfl, ?_⟩
        cases b with
        | true => exact .inr ⟨h1 rfl, Fin.val (v := .tup ys) sr ⟨p, zs, rfl, h1 rfl, rl⟩ f⟩
        | false => exact .inl ⟨.inl (.inl (h2 rfl)), fun q hq => f.at_ (newT sr rl hq)⟩
    | list mu =>
      simp only [biF] at f
      cases e : seqOf st x with
      | none => rw [e] at f; exact f.elim
      | some w =>
        obtain ⟨b, ys⟩ := w
        rw [e] at f
        obtain ⟨p, zs, rfl, rl, h1, h2⟩ := seq_ok sr r1 e
        exact call_list_of pins s σ H _ us Q I r ⟨p, zs, rfl, seqR h1 h2, fun q hq => mkL_ok sr rl hq f⟩
    | all =>
      simp only [biF] at f
      cases e : seqOf st x with
      | none => rw [e] at f; exact f.elim
      | some w =>
        obtain ⟨b, ys⟩ := w
        rw [e] at f
        cases b with
        | true => exact f.elim
        | false =>
          dsimp only at f
          obtain ⟨p, zs, rfl, rl, h1, h2⟩ := seq_ok sr r1 e
          cases e2 : blsOf ys with
          | none => rw [e2] at f; exact f.elim
          | some bs =>
            rw [e2] at f
            have ez := blsOf_ok e2 rl
            subst ez
            exact cr_all hc pins s σ H _ us Q I r ⟨p, bs, rfl, .inl (.inl (h2 rfl)), Fin.bl f sr⟩
    | any =>
      simp only [biF] at f
      cases e : seqOf st x with
      | none => rw [e] at f; exact f.elim
      | some w =>
        obtain ⟨b, ys⟩ := w
        rw [e] at f
        cases b with
        | true => exact f.elim
        | false =>
          dsimp only at f
          obtain ⟨p, zs, rfl, rl, h1, h2⟩ := seq_ok sr r1 e
          cases e2 : blsOf ys with
          | none => rw [e2] at f; exact f.elim
          | some bs =>
            rw [e2] at f
            have ez := blsOf_ok e2 rl
            subst ez
            exact cr_any hc pins s σ H _ us Q I r ⟨p, bs, rfl, .inl (.inl (h2 rfl)), Fin.bl f sr⟩
    | sum =>
      simp only [biF] at f
      cases e : seqOf st x with
      | none => rw [e] at f; exact f.elim
      | some w =>
        obtain ⟨b, ys⟩ := w
        rw [e] at f
        cases b with
        | true => exact f.elim
        | false =>
          dsimp only at f
          obtain ⟨p, zs, rfl, rl, h1, h2⟩ := seq_ok sr r1 e
          cases e2 : intsOf ys with
          | none => rw [e2] at f; exact f.elim
          | some bs =>
            rw [e2] at f
            have ez := intsOf_ok e2 rl
            subst ez
            exact cr_sum hc pins s σ H _ us Q I r ⟨p, bs, rfl, .inl (.inl (h2 rfl)), Fin.int f sr⟩

/-! ### isinstance -/
theorem ins_ok (sr : SR K cl H m st) {v : PV} {u : V} {c : Nat} {fs : List (Str × PV)} (r : Rp K cl H m v u) (h : insOf st v = some (c, fs)) :
    ∃ p dx gs, u = .ref p ∧ H p = some (.ins (cl c) dx gs) ∧ RpF K cl H m fs gs := by
  cases v with
  | ins d zs =>
    cases h
    obtain ⟨a, dx, gs, e, q, _, r⟩ := r
    exact ⟨a, dx, gs, e, q, r⟩
  | ref n =>
    obtain ⟨a, e, q⟩ := r
    simp only [insOf] at h
    cases hs : st[n]? with
    | none => rw [hs] at h; cases h
    | some o =>
      rw [hs] at h
      cases o with
      | lst zs => cases h
      | ins d zs =>
        cases h
        obtain ⟨w, hw, dx, gs, rfl, r⟩ := sr.at_ n a _ q hs
        exact ⟨a, dx, gs, e, hw, r⟩
  | _ => cases h
theorem ty_ok (C : ClsOk K cl PR) (sr : SR K cl H m st) {v : PV} {u : V} {t : Cs} (r : Rp K cl H m v u) (h : tyOf st v = some t) (hk : ∀ c, t = .cl c → ∃ k, PR.kl[c]? = some k) : TyX K H u (csV cl t) := by
  have own : ∀ {p dx : Addr} {c : Nat} {gs : List (Str × V)}, t = .cl c → H p = some (.ins (cl c) dx gs) → TyX K H (.ref p) (csV cl t) := fun {p dx c gs} e q => by
    subst e
    obtain ⟨k, hk⟩ := hk c rfl
    have i := C.isf c k hk
    exact .base (.ins q (C.cls c k hk) i.ha i.hn i.htk i.hm)
  cases v with
  | non => cases h; cases r; exact .base .non
  | bl b => cases h; cases r; exact .base (.bl b)
  | int b => cases h; cases r; exact .base (.int b)
  | str b => cases h; cases r; exact .base (.str b)
  | ty b => cases h
  | scr b => cases h
  | tup xs =>
    cases h
    obtain ⟨a, ys, rfl, q, _⟩ := r
    rcases q with (q | ⟨o, q⟩) | ⟨o, its, n, q, c, _⟩
    · exact .base (.tup q)
    · exact .fTuple q
    · exact .kTuple q c
  | lst xs =>
    cases h
    obtain ⟨a, ys, rfl, q, _⟩ := r
    exact .base (.lst q)
  | ins c fs =>
    obtain ⟨a, dx, gs, rfl, q, _⟩ := r
    exact own (Option.some.inj h).symm q
  | ref n =>
    obtain ⟨a, rfl, q⟩ := r
    simp only [tyOf] at h
    cases hs : st[n]? with
    | none => rw [hs] at h; cases h
    | some o =>
      rw [hs] at h
      obtain ⟨w, hw, ro⟩ := sr.at_ n a _ q hs
      cases o with
      | lst zs =>
        cases h
        obtain ⟨ys, rfl, _⟩ := ro
        exact .base (.lst hw)
      | ins d zs =>
        obtain ⟨dx, gs, rfl, _⟩ := ro
        exact own (Option.some.inj h).symm hw
theorem isaT_ok (C : ClsOk K cl PR) {a b : Cs} {r : Bool} (h : isaT PR.isl a b = some r) : W.kitOne K (csV cl a) (csV cl b) = some r := by
  have via : (PR.isl.find? fun q => decide (q.1 = a ∧ q.2.1 = b)).map (·.2.2) = some r → W.kitOne K (csV cl a) (csV cl b) = some r := fun h => by
    rw [Option.map_eq_some_iff] at h
    obtain ⟨⟨x, y, z⟩, h1, h2⟩ := h
    have h3 := List.find?_some h1
    obtain ⟨e1, e2⟩ := of_decide_eq_true h3
    simp only at e1 e2 h2
    subst e1 e2 h2
    exact C.isl _ _ _ (List.mem_of_find?_eq_some h1)
  cases a with
  | ty x =>
    cases b with
    | ty y => exact kit_ty h
    | cl y => exact via h
  | cl x => exact via h
theorem isaA_ok (C : ClsOk K cl PR) {a : Cs} : ∀ {bs : List Cs} {r : Bool}, isaA PR.isl a bs = some r → W.kitAny K (csV cl a) (bs.map (csV cl)) = some r
  | [], r, h => h
  | b :: bs, r, h => by
    unfold isaA at h
    cases e : isaT PR.isl a b with
    | none => rw [e] at h; cases h
    | some k =>
      rw [e] at h
      refine kitAny_cons (isaT_ok C e) (fun z => ?_) (fun z => ?_)
      · subst z
        exact isaA_ok C h
      · subst z
        exact (Option.some.inj h).symm

/-! ### subscripts, slices, fields -/
theorem ix_ok (hK : X.K = K) {x : PV} {i : Int} {b : Bool} {xs : List PV} {v : PV} {u : V} {Q : VK} (f : (∀ y, Rp K cl H m v y → Q y H)) (sr : SR K cl H m st) (rx : Rp K cl H m x u) (e : seqOf st x = some (b, xs)) (ha : atI xs i = some v) :
    rIx K u (.int i) H Q := by
  obtain ⟨p, zs, rfl, rl, h1, h2⟩ := seq_ok sr rx e
  have hl := rl.length
  obtain ⟨y, hy, ry⟩ : ∃ y, atI zs i = some y ∧ Rp K cl H m v y := by
    unfold atI at ha ⊢
    rw [← hl]
    cases q : ixN xs.length i with
    | none => rw [q] at ha; cases ha
    | some j =>
      rw [q] at ha
      exact RpL.get rl ha
  cases b with
  | true => exact .inr (.inl ⟨p, zs, i, y, rfl, rfl, h1 rfl, hy, f y ry⟩)
  | false => exact .inl ⟨p, zs, i, y, rfl, rfl, .inl (.inl (h2 rfl)), hy, f y ry⟩
theorem RpF.lookup : ∀ {fs : List (Str × PV)} {gs : List (Str × V)} {f : Str} {x : PV}, RpF K cl H m fs gs → fs.lookup f = some x → ∃ y, gs.lookup f = some y ∧ Rp K cl H m x y
  | [], _, _, _, _, h => by cases h
  | (g, z) :: fs, gs, f, x, r, h => by
    obtain ⟨y, zs, rfl, r1, r2⟩ := r
    rw [List.lookup_cons] at h ⊢
    cases e : f == g with
    | true => rw [e] at h; cases h; exact ⟨y, rfl, r1⟩
    | false => rw [e] at h; exact RpF.lookup r2 h
theorem RpF.lookupN : ∀ {fs : List (Str × PV)} {gs : List (Str × V)} {f : Str}, RpF K cl H m fs gs → fs.lookup f = none → gs.lookup f = none
  | [], _, _, h, _ => by cases h; rfl
  | (g, z) :: fs, gs, f, r, h => by
    obtain ⟨y, zs, rfl, r1, r2⟩ := r
    rw [List.lookup_cons] at h ⊢
    cases e : f == g with
    | true => rw [e] at h; cases h
    | false => rw [e] at h; exact RpF.lookupN r2 h
theorem RpF.length : ∀ {fs : List (Str × PV)} {gs : List (Str × V)}, RpF K cl H m fs gs → fs.length = gs.length
  | [], _, h => by cases h; rfl
  | (g, z) :: fs, gs, r => by
    obtain ⟨y, zs, rfl, r1, r2⟩ := r
    simp [RpF.length r2]
theorem RpF.put {f : Str} {x : PV} {y : V} (r : Rp K cl H m x y) : ∀ {fs : List (Str × PV)} {gs : List (Str × V)}, RpF K cl H m fs gs → RpF K cl H m (putP f x fs) (putF f y gs)
  | [], _, h => by cases h; exact ⟨y, [], rfl, r, rfl⟩
  | (g, z) :: fs, gs, h => by
    obtain ⟨w, zs, rfl, r1, r2⟩ := h
    unfold putP putF
    by_cases e : g = f
    · rw [if_pos e, if_pos e]
      exact ⟨y, zs, rfl, r, r2⟩
    · rw [if_neg e, if_neg e]
      exact ⟨w, _, rfl, r1, RpF.put r r2⟩
theorem cut_ok {xs : List PV} {ys : List V} (r : RpL K cl H m xs ys) (lo hi : Option Int) : RpL K cl H m (cutP xs lo hi) (cutV ys lo hi) := by
  unfold cutP cutV
  rw [← r.length]
  exact (r.drop _).take _
theorem truth_ok (sr : SR K cl H m st) {v : PV} {u : V} {k : Bool} (r : Rp K cl H m v u) (h : truth st v = some k) : TruV K u H k := by
  cases v with
  | non => cases h; cases r; rfl
  | bl b => cases h; cases r; rfl
  | int i =>
    cases h; cases r
    show decide (i ≠ 0) = (i != 0)
    by_cases e : i = 0
    · subst e; rfl
    · rw [decide_eq_true e]; exact (bne_iff_ne.mpr e).symm
  | str x =>
    simp only [truth] at h
    split at h
    case isFalse => cases h
    rename_i hs
    cases h; cases r
    refine ⟨hs, ?_⟩
    by_cases e : x.length = 0
    · rw [e]; rfl
    · rw [decide_eq_true e]; exact (bne_iff_ne.mpr (by omega)).symm
  | ty _ => cases h
  | scr _ => cases h
  | ins _ _ => cases h
  | tup xs =>
    cases h
    obtain ⟨a, ys, rfl, q, r⟩ := r
    refine .inr (.inl ⟨ys, q, ?_⟩)
    have := r.length
    cases xs <;> cases ys <;> first | rfl | (simp at this)
  | lst xs =>
    cases h
    obtain ⟨a, ys, rfl, q, _, r⟩ := r
    refine .inl ⟨ys, .inl (.inl q), ?_⟩
    have := r.length
    cases xs <;> cases ys <;> first | rfl | (simp at this)
  | ref n =>
    obtain ⟨a, rfl, q⟩ := r
    simp only [truth] at h
    cases e : st[n]? with
    | none => rw [e] at h; cases h
    | some o =>
      rw [e] at h
      obtain ⟨w, hw, ro⟩ := sr.at_ n a _ q e
      cases o with
      | ins d zs => cases h
      | lst xs =>
        cases h
        obtain ⟨ys, rfl, r⟩ := ro
        refine .inl ⟨ys, .inl (.inl hw), ?_⟩
        have := r.length
        cases xs <;> cases ys <;> first | rfl | (simp at this)
end
end Pv

set_option Elab.async false
set_option linter.all false
set_option maxRecDepth 100000
set_option maxHeartbeats 1000000
/-! The check: does a text say what the small language says? -/
namespace Pv
open PySem PySem.Spec PyProof.Rows L2

/-! ### forms -/
def notStar : Expr → Bool
  | .Starred _ _ => false
  | _ => true
theorem star_cons {e : Expr} {es : List Expr} {env : Env} (h : notStar e = true) : starEach (e :: es) env = (false, eval e env) :: starEach es env := by
  cases e <;> first | rfl | cases h
theorem star_any {env : Env} {pos : Pos} : ∀ {es : List Expr}, es.all notStar = true → (backTo pos (starEach es env)).any (·.1) = false
  | [], _ => rfl
  | e :: es, h => by
    rw [List.all_cons, Bool.and_eq_true] at h
    rw [star_cons h.1]
    have ih := star_any (env := env) (pos := pos) h.2
    unfold backTo at ih ⊢
    simpa using ih
theorem assign_len {env : Env} : ∀ {es : List Expr}, (assignEach es env).length = es.length
  | [] => rfl
  | e :: es => by
    have ih := @assign_len env es
    cases e <;> simp [assignEach, ih]
theorem assign_cons {e : Expr} {es : List Expr} {env : Env} (h : notStar e = true) : assignEach (e :: es) env = (false, assign e env) :: assignEach es env := by
  cases e <;> first | rfl | cases h
theorem assign_star {env : Env} : ∀ {es : List Expr}, es.all notStar = true → (assignEach es env).findIdx? (·.1) = none
  | [], _ => rfl
  | e :: es, h => by
    rw [List.all_cons, Bool.and_eq_true] at h
    rw [assign_cons h.1, List.findIdx?_cons]
    simp [assign_star h.2]
def plainIx : Expr → Bool
  | .Slice _ _ _ _ => false
  | _ => true
theorem plainIx_ok {b : Expr} (h : plainIx b = true) : PlainIx b := by
  intro o i
  cases b <;> first | rfl | cases h
def plainTrue : Expr → Bool
  | .UnaryOp .Not _ _ => false
  | .BoolOp _ _ _ => false
  | .IfExp _ _ _ _ => false
  | .Compare _ _ _ _ => false
  | _ => true
theorem plainTrue_ok {e : Expr} {env : Env} (h : plainTrue e = true) (whole : Sem Value) : isTrue e env whole = (do let v ← whole; standAt e.pos; holding [v] (truthy v)) := by
  cases e with
  | UnaryOp op a pos => cases op <;> first | rfl | (exact absurd h (by simp [plainTrue]))
  | BoolOp _ _ _ => exact absurd h (by simp [plainTrue])
  | IfExp _ _ _ _ => exact absurd h (by simp [plainTrue])
  | Compare _ _ _ _ => exact absurd h (by simp [plainTrue])
  | _ => rfl
def plainBase : Expr → Bool
  | .Call (.Name id _) [] [] _ => id != "super"
  | _ => true
theorem plainBase_ok {o : Expr} {f : Str} {env : Env} (h : plainBase o = true) (whole : Sem Value) : attributeBase o f env whole = whole := by
  unfold attributeBase
  split
  · rename_i id p pos
    have h : (id != "super") = true := h
    rw [h]
    simp
  · rfl
theorem meth_eq {o : Expr} {m : Str} {apos pos : Pos} {es : List Expr} {env : Env} (h1 : plainBase o = true) (h2 : es.all notStar = true) (h3 : es.length < 30) (h4 : (apos.endLine == pos.line) = true) :
    eval (.Call (.Attribute o m apos) es [] pos) env = (do
      let ov ← eval o env
      standAt apos.atName
      let (f, first) ← holding [ov] (getMethod ov m (do return (← importBound o env).getD true))
      callWith pos f first (backTo pos (starEach es env)) (backToKw pos (keywordEach [] env))) := by
  have hf : methodCallForm (es.length + 0) (backTo pos (starEach es env)) (backToKw pos (keywordEach [] env)) = true := by
    unfold methodCallForm
    have := star_any (env := env) (pos := pos) h2
    have e1 : (backTo pos (starEach es env)).all (!·.1) = true := by
      rw [List.all_eq_true]
      intro x hx
      rw [List.any_eq_false] at this
      have := this x hx
      simpa using this
    rw [e1]
    have e2 : (backToKw pos (keywordEach [] env)) = [] := rfl
    rw [e2]
    simp [h3]
  show (do
    let ov ← attributeBase o m env (eval o env)
    standAt apos.atName
    methodCall o m apos pos env ov (es.length + 0) (backTo pos (starEach es env)) (backToKw pos (keywordEach [] env))) = _
  rw [plainBase_ok h1]
  unfold methodCall
  rw [hf]
  unfold calleeOf methodCallPos
  simp [h4]
def notComp : Expr → Bool
  | .ListComp _ _ _ _ => false
  | .SetComp _ _ _ _ => false
  | .DictComp _ _ _ _ _ => false
  | _ => true
theorem notComp_ok {e : Expr} {t : Option Expr} {l : Nat} {env : Env} (h : notComp e = true) : swapsWith e t l env = pure false := by
  cases e <;> first | rfl | cases h
def notSet : Expr → Bool
  | .Set _ _ _ => false
  | _ => true
theorem notSet_ok {e : Expr} {env : Env} (h : notSet e = true) (x : Value) : foldedSetIterable e env x = pure x := by
  cases e <;> first | rfl | cases h

/-! ### the check -/
structure Tab where
  fns : List (Str × Nat)
  css : List (Str × Nat)
  gls : List (Str × Nat)
  bls : List Str
  gcd : Bool
def visB (sc : Scope) (x : Str) : Bool := match sc.names.lookup x with
  | some .local => true | some .cell => true | some .free => true | _ => false
/-- where a text stands: in a def, in a comprehension's block -/
abbrev Top := Option Scope
/-- the names whose cells are new there -/
def topB (top : Top) (x : Str) : Bool := match top with
  | none => true
  | some s => s.names.lookup x == some .cell
def locB (sc : Scope) (top : Top) (x : Str) : Bool := match sc.names.lookup x with
  | some .local => true | some .cell => topB top x | _ => false
def glB (sc : Scope) (x : Str) : Bool := decide (sc.names.lookup x = some .globalImplicit)
def plainN (x : Str) : Bool := !(x == ("__debug__" : Str)) && !(x == ("__classdict__" : Str)) && !(x == ("__name__" : Str))
theorem visB_ok {sc : Scope} {x : Str} (h : visB sc x = true) : Vis sc x := by
  unfold visB at h
  unfold Vis
  split at h <;> first | (exact .inl (by assumption)) | (exact .inr (.inl (by assumption))) | (exact .inr (.inr (by assumption))) | cases h
def opB : BOp → Operator → Bool
  | .add, .Add => true | .sub, .Sub => true | .mul, .Mult => true | .fdiv, .FloorDiv => true | .mod, .Mod => true | .pow, .Pow => true
  | _, _ => false
theorem opB_ok {o : BOp} {p : Operator} (h : opB o p = true) : p = o.op := by
  cases o <;> cases p <;> first | rfl | cases h
def copB (o : COp) (p : CmpOp) : Bool := decide (p = o.op)
def biN : Bi → Str
  | .len => "len" | .tuple => "tuple" | .list _ => "list" | .abs => "abs" | .int => "int" | .gcd => "gcd"
  | .all => "all" | .any => "any" | .sum => "sum" | .min2 => "min" | .max2 => "max" | .str => "str"
  | .isi _ => "isinstance" | .isiT _ => "isinstance" | .repr => "repr"
/-- a class by its name -/
def csB (T : Tab) (sc : Scope) (c : Cs) (e : Expr) : Bool := match c, e with
  | .ty n, .Name x _ => glB sc x && plainN x && T.bls.contains x && decide (bootBuiltins x = some (.type n))
  | .cl c, .Name x _ => glB sc x && plainN x && decide (T.css.lookup x = some c)
  | _, _ => false
def csBs (T : Tab) (sc : Scope) : List Cs → List Expr → Bool
  | [], [] => true
  | c :: cs, e :: es => csB T sc c e && csBs T sc cs es && notStar e
  | _, _ => false
mutual
def tgB (sc : Scope) (top : Top) (N : List Str) : Tg → Expr → Bool
  | .n i, .Name x _ => decide (N[i]? = some x) && locB sc top x
  | .t ts, .Tuple es _ _ => tgBs sc top N ts es && es.all notStar
  | _, _ => false
def tgBs (sc : Scope) (top : Top) (N : List Str) : List Tg → List Expr → Bool
  | [], [] => true
  | t :: ts, e :: es => tgB sc top N t e && tgBs sc top N ts es
  | _, _ => false
end
/-- the own names of a comprehension's block with their places -/
def ownN (N : List Str) (is : List Nat) : List (Str × Nat) := is.filterMap fun i => (N[i]?).map fun x => (x, i)
/-- so many arguments may be given -/
def arB (PR : Prog) (f n : Nat) : Bool := match PR.df[f]? with
  | some d => decide (n ≤ d.np ∧ d.np - n ≤ d.dv.length)
  | none => false
def chkLs (r : Ex → Expr → Bool) : List Ex → List Expr → Bool
  | [], [] => true
  | c :: cs, e :: es => r c e && notStar e && chkLs r cs es
  | _, _ => false
def chkOp (r : Ex → Expr → Bool) : Ex → Option Expr → Bool
  | .nil, none => true
  | _, none => false
  | c, some e => r c e
def isTup : Expr → Bool
  | .Tuple _ _ _ => true
  | _ => false
def chkIt (T : Tab) (sc : Scope) (r : Ex → Expr → Bool) (k : Ik) (cs : List Ex) (t e : Expr) : Bool := match k with
  | .seq => chkLs r cs [e]
  | .rng1 => match e with
    | .Call (.Name x _) [a] [] _ => decide (x = "range") && glB sc x && T.bls.contains x && chkLs r cs [a]
    | _ => false
  | .rng2 => match e with
    | .Call (.Name x _) [a, b] [] _ => decide (x = "range") && glB sc x && T.bls.contains x && chkLs r cs [a, b]
    | _ => false
  | .zip2 => match e with
    | .Call (.Name x _) [a, b] [] _ => decide (x = "zip") && glB sc x && T.bls.contains x && chkLs r cs [a, b] && isTup t
    | _ => false
  | .enum => match e with
    | .Call (.Name x _) [a] [] _ => decide (x = "enumerate") && glB sc x && T.bls.contains x && chkLs r cs [a] && isTup t
    | _ => false
def chkStep (T : Tab) (PR : Prog) (N : List Str) (rc : Scope → Top → Ex → Expr → Bool) (sc : Scope) (top : Top) (c : Ex) (e : Expr) : Bool := match c with
  | .v i => match e with
    | .Name x _ => decide (N[i]? = some x) && visB sc x && plainN x
    | _ => false
  | .c v => match e with
    | .Constant k _ _ => match v, k with
      | .non, .none => true
      | .bl b, .bool d => b == d
      | .int i, .int j => decide (i = j)
      | .str x, .str y => decide (x = y)
      | _, _ => false
    | _ => false
  | .g i => match e with
    | .Name x _ => decide (T.gls.lookup x = some i) && glB sc x && plainN x
    | _ => false
  | .bin o a b => match e with
    | .BinOp x p y _ => opB o p && rc sc top a x && rc sc top b y
    | _ => false
  | .cat _ a b => match e with
    | .BinOp x .Add y _ => rc sc top a x && rc sc top b y
    | _ => false
  | .neg a => match e with
    | .UnaryOp .USub x _ => rc sc top a x
    | _ => false
  | .not a => match e with
    | .UnaryOp .Not x _ => rc sc top a x
    | _ => false
  | .cmp o a b => match e with
    | .Compare x [p] [y] _ => copB o p && !behindInMarks p y && rc sc top a x && rc sc top b y
    | _ => false
  | .chain o q a b c => match e with
    | .Compare x [p, p'] [y, z] _ => copB o p && copB q p' && !lastMarks [p, p'] [y, z] && rc sc top a x && rc sc top b y && rc sc top c z
    | _ => false
  | .and a b => match e with
    | .BoolOp .And [x, y] _ => rc sc top a x && rc sc top b y
    | .BoolOp .And (x :: y :: z :: r) pos => rc sc top a x && rc sc top b (.BoolOp .And (y :: z :: r) pos)
    | _ => false
  | .or a b => match e with
    | .BoolOp .Or [x, y] _ => rc sc top a x && rc sc top b y
    | .BoolOp .Or (x :: y :: z :: r) pos => rc sc top a x && rc sc top b (.BoolOp .Or (y :: z :: r) pos)
    | _ => false
  | .ite c a b => match e with
    | .IfExp t x y _ => rc sc top c t && rc sc top a x && rc sc top b y
    | _ => false
  | .tup cs => match e with
    | .Tuple es _ _ => chkLs (rc sc top) cs es
    | _ => false
  | .lst _ cs => match e with
    | .List es _ => chkLs (rc sc top) cs es
    | _ => false
  | .idx a i => match e with
    | .Subscript x y _ => plainIx y && rc sc top a x && rc sc top i y
    | _ => false
  | .slc a lo hi => match e with
    | .Subscript x (.Slice l h none _) _ => rc sc top a x && chkOp (rc sc top) lo l && chkOp (rc sc top) hi h
    | _ => false
  | .nil => false
  | .attr a f => match e with
    | .Attribute x g _ => decide (f = g) && plainBase x && rc sc top a x
    | _ => false
  | .call f cs => match e with
    | .Call (.Name x _) es [] _ => decide (T.fns.lookup x = some f) && arB PR f cs.length && glB sc x && plainN x && chkLs (rc sc top) cs es && es.all notStar
    | _ => false
  | .new c _ cs => match e with
    | .Call (.Name x _) es [] _ => decide (T.css.lookup x = some c) && (match PR.kl[c]? with
        | some ⟨some f, _, _⟩ => arB PR f (cs.length + 1)
        | _ => false) && glB sc x && plainN x && chkLs (rc sc top) cs es && es.all notStar
    | _ => false
  | .meth a m cs => match e with
    | .Call (.Attribute x g apos) es [] pos => decide (m = g) && plainBase x && (apos.endLine == pos.line) && decide (es.length < 30) && rc sc top a x && chkLs (rc sc top) cs es && es.all notStar
    | _ => false
  | .bi b cs => match e with
    | .Call (.Name x _) es [] _ => decide (x = biN b) && glB sc x && plainN x && (match b with
        | .gcd => T.gcd && chkLs (rc sc top) cs es && es.all notStar && !es.isEmpty
        | .isi c => T.bls.contains x && (match es with
          | [y, t] => chkLs (rc sc top) cs [y] && notStar y && csB T sc c t && notStar t
          | _ => false)
        | .isiT c => decide (c.length ≤ 100) && T.bls.contains x && (match es with
          | [y, .Tuple ts _ _] => chkLs (rc sc top) cs [y] && notStar y && csBs T sc c ts
          | _ => false)
        | _ => T.bls.contains x && chkLs (rc sc top) cs es && es.all notStar && !es.isEmpty)
    | _ => false
  | .comp _ ce tg k its ts => match e with
    | .ListComp elt [⟨t, iter, ifs, 0⟩] scope _ => chkIt T sc (rc sc top) k its t iter && blkC N sc scope (ownN N (slots tg)) && decide ((ownN N (slots tg)).map (·.2) = slots tg) && tgB (relS scope sc) (some scope) N tg t
        && rc (relS scope sc) (some scope) ce elt && (match ts, ifs with
          | [], [] => true
          | [c], [i] => rc (relS scope sc) (some scope) c i
          | _, _ => false) && notSet iter
    | _ => false
  | .trn a => match e with
    | .Call (.Name x _) [.Call (.Name y _) [.Starred z _] [] _] [] _ => decide (x = "tuple") && decide (y = "zip") && glB sc x && glB sc y && T.bls.contains x && T.bls.contains y && rc sc top a z
    | _ => false
def chkR (T : Tab) (PR : Prog) (N : List Str) : Nat → Scope → Top → Ex → Expr → Bool
  | 0 => fun _ _ _ _ => false
  | n + 1 => chkStep T PR N (chkR T PR N n)
abbrev chkE (T : Tab) (PR : Prog) (sc : Scope) (top : Top) (N : List Str) (n : Nat) (c : Ex) (e : Expr) : Bool := chkR T PR N n sc top c e
abbrev chkL (T : Tab) (PR : Prog) (sc : Scope) (top : Top) (N : List Str) (n : Nat) (cs : List Ex) (es : List Expr) : Bool := chkLs (chkR T PR N n sc top) cs es
abbrev chkO (T : Tab) (PR : Prog) (sc : Scope) (top : Top) (N : List Str) (n : Nat) (c : Ex) (o : Option Expr) : Bool := chkOp (chkR T PR N n sc top) c o
abbrev chkI (T : Tab) (PR : Prog) (sc : Scope) (top : Top) (N : List Str) (n : Nat) (k : Ik) (cs : List Ex) (t e : Expr) : Bool := chkIt T sc (chkR T PR N n sc top) k cs t e
section
variable {T : Tab} {PR : Prog} {sc : Scope} {top : Top} {N : List Str} {n : Nat} {e : Expr}
theorem chkE_v (i : Nat) : chkE T PR sc top N (n + 1) (.v i) e = (match e with
  | .Name x _ => decide (N[i]? = some x) && visB sc x && plainN x
  | _ => false) := rfl
theorem chkE_c (v : PV) : chkE T PR sc top N (n + 1) (.c v) e = (match e with
  | .Constant k _ _ => match v, k with
    | .non, .none => true
    | .bl b, .bool d => b == d
    | .int i, .int j => decide (i = j)
    | .str x, .str y => decide (x = y)
    | _, _ => false
  | _ => false) := rfl
theorem chkE_g (i : Nat) : chkE T PR sc top N (n + 1) (.g i) e = (match e with
  | .Name x _ => decide (T.gls.lookup x = some i) && glB sc x && plainN x
  | _ => false) := rfl
theorem chkE_bin (o : BOp) (a b : Ex) : chkE T PR sc top N (n + 1) (.bin o a b) e = (match e with
  | .BinOp x p y _ => opB o p && chkE T PR sc top N n a x && chkE T PR sc top N n b y
  | _ => false) := rfl
theorem chkE_cat (mu : Bool) (a b : Ex) : chkE T PR sc top N (n + 1) (.cat mu a b) e = (match e with
  | .BinOp x .Add y _ => chkE T PR sc top N n a x && chkE T PR sc top N n b y
  | _ => false) := rfl
theorem chkE_neg (a : Ex) : chkE T PR sc top N (n + 1) (.neg a) e = (match e with
  | .UnaryOp .USub x _ => chkE T PR sc top N n a x
  | _ => false) := rfl
theorem chkE_not (a : Ex) : chkE T PR sc top N (n + 1) (.not a) e = (match e with
  | .UnaryOp .Not x _ => chkE T PR sc top N n a x
  | _ => false) := rfl
theorem chkE_cmp (o : COp) (a b : Ex) : chkE T PR sc top N (n + 1) (.cmp o a b) e = (match e with
  | .Compare x [p] [y] _ => copB o p && !behindInMarks p y && chkE T PR sc top N n a x && chkE T PR sc top N n b y
  | _ => false) := rfl
theorem chkE_chain (o q : COp) (a b c : Ex) : chkE T PR sc top N (n + 1) (.chain o q a b c) e = (match e with
  | .Compare x [p, p'] [y, z] _ => copB o p && copB q p' && !lastMarks [p, p'] [y, z] && chkE T PR sc top N n a x && chkE T PR sc top N n b y && chkE T PR sc top N n c z
  | _ => false) := rfl
theorem chkE_and (a b : Ex) : chkE T PR sc top N (n + 1) (.and a b) e = (match e with
  | .BoolOp .And [x, y] _ => chkE T PR sc top N n a x && chkE T PR sc top N n b y
  | .BoolOp .And (x :: y :: z :: r) pos => chkE T PR sc top N n a x && chkE T PR sc top N n b (.BoolOp .And (y :: z :: r) pos)
  | _ => false) := rfl
theorem chkE_or (a b : Ex) : chkE T PR sc top N (n + 1) (.or a b) e = (match e with
  | .BoolOp .Or [x, y] _ => chkE T PR sc top N n a x && chkE T PR sc top N n b y
  | .BoolOp .Or (x :: y :: z :: r) pos => chkE T PR sc top N n a x && chkE T PR sc top N n b (.BoolOp .Or (y :: z :: r) pos)
  | _ => false) := rfl
theorem chkE_ite (c a b : Ex) : chkE T PR sc top N (n + 1) (.ite c a b) e = (match e with
  | .IfExp t x y _ => chkE T PR sc top N n c t && chkE T PR sc top N n a x && chkE T PR sc top N n b y
  | _ => false) := rfl
theorem chkE_tup (cs : List Ex) : chkE T PR sc top N (n + 1) (.tup cs) e = (match e with
  | .Tuple es _ _ => chkL T PR sc top N n cs es
  | _ => false) := rfl
theorem chkE_lst (mu : Bool) (cs : List Ex) : chkE T PR sc top N (n + 1) (.lst mu cs) e = (match e with
  | .List es _ => chkL T PR sc top N n cs es
  | _ => false) := rfl
theorem chkE_idx (a i : Ex) : chkE T PR sc top N (n + 1) (.idx a i) e = (match e with
  | .Subscript x y _ => plainIx y && chkE T PR sc top N n a x && chkE T PR sc top N n i y
  | _ => false) := rfl
theorem chkE_slc (a lo hi : Ex) : chkE T PR sc top N (n + 1) (.slc a lo hi) e = (match e with
  | .Subscript x (.Slice l h none _) _ => chkE T PR sc top N n a x && chkO T PR sc top N n lo l && chkO T PR sc top N n hi h
  | _ => false) := rfl
theorem chkE_nil  : chkE T PR sc top N (n + 1) (.nil) e = (false) := rfl
theorem chkE_attr (a : Ex) (f : Str) : chkE T PR sc top N (n + 1) (.attr a f) e = (match e with
  | .Attribute x g _ => decide (f = g) && plainBase x && chkE T PR sc top N n a x
  | _ => false) := rfl
theorem chkE_call (f : Nat) (cs : List Ex) : chkE T PR sc top N (n + 1) (.call f cs) e = (match e with
  | .Call (.Name x _) es [] _ => decide (T.fns.lookup x = some f) && arB PR f cs.length && glB sc x && plainN x && chkL T PR sc top N n cs es && es.all notStar
  | _ => false) := rfl
theorem chkE_new (c : Nat) (mu : Bool) (cs : List Ex) : chkE T PR sc top N (n + 1) (.new c mu cs) e = (match e with
  | .Call (.Name x _) es [] _ => decide (T.css.lookup x = some c) && (match PR.kl[c]? with
      | some ⟨some f, _, _⟩ => arB PR f (cs.length + 1)
      | _ => false) && glB sc x && plainN x && chkL T PR sc top N n cs es && es.all notStar
  | _ => false) := rfl
theorem chkE_meth (a : Ex) (m : Str) (cs : List Ex) : chkE T PR sc top N (n + 1) (.meth a m cs) e = (match e with
  | .Call (.Attribute x g apos) es [] pos => decide (m = g) && plainBase x && (apos.endLine == pos.line) && decide (es.length < 30) && chkE T PR sc top N n a x && chkL T PR sc top N n cs es && es.all notStar
  | _ => false) := rfl
theorem chkE_bi (b : Bi) (cs : List Ex) : chkE T PR sc top N (n + 1) (.bi b cs) e = (match e with
  | .Call (.Name x _) es [] _ => decide (x = biN b) && glB sc x && plainN x && (match b with
      | .gcd => T.gcd && chkL T PR sc top N n cs es && es.all notStar && !es.isEmpty
      | .isi c => T.bls.contains x && (match es with
        | [y, t] => chkL T PR sc top N n cs [y] && notStar y && csB T sc c t && notStar t
        | _ => false)
      | .isiT c => decide (c.length ≤ 100) && T.bls.contains x && (match es with
        | [y, .Tuple ts _ _] => chkL T PR sc top N n cs [y] && notStar y && csBs T sc c ts
        | _ => false)
      | _ => T.bls.contains x && chkL T PR sc top N n cs es && es.all notStar && !es.isEmpty)
  | _ => false) := rfl
theorem chkE_comp (mu : Bool) (ce : Ex) (tg : Tg) (k : Ik) (its ts : List Ex) : chkE T PR sc top N (n + 1) (.comp mu ce tg k its ts) e = (match e with
  | .ListComp elt [⟨t, iter, ifs, 0⟩] scope _ => chkI T PR sc top N n k its t iter && blkC N sc scope (ownN N (slots tg)) && decide ((ownN N (slots tg)).map (·.2) = slots tg) && tgB (relS scope sc) (some scope) N tg t
      && chkE T PR (relS scope sc) (some scope) N n ce elt && (match ts, ifs with
        | [], [] => true
        | [c], [i] => chkE T PR (relS scope sc) (some scope) N n c i
        | _, _ => false) && notSet iter
  | _ => false) := rfl
theorem chkE_trn (a : Ex) : chkE T PR sc top N (n + 1) (.trn a) e = (match e with
  | .Call (.Name x _) [.Call (.Name y _) [.Starred z _] [] _] [] _ => decide (x = "tuple") && decide (y = "zip") && glB sc x && glB sc y && T.bls.contains x && T.bls.contains y && chkE T PR sc top N n a z
  | _ => false) := rfl
end
end Pv

set_option Elab.async false
set_option linter.all false
set_option maxRecDepth 100000
set_option maxHeartbeats 1000000
/-! Expressions: what is checked is so. -/
namespace Pv
open PySem PySem.Spec PyProof.Rows L2
/-- the text as it stands behind the top -/
structure Wf (T : Tab) (PR : Prog) (cl fa : Nat → Addr) (fd : Nat → FuncData) (ps : Nat → List Str) (K : W.Frag) (mg : Str → Option Value) : Prop where
  co : ClsOk K cl PR
  fn : ∀ x i, T.fns.lookup x = some i → mg x = some (.ref (fa i)) ∧ W.keepIn K (.ref (fa i)) = true
  cs : ∀ x c, T.css.lookup x = some c → mg x = some (.ref (cl c))
  mkc : ∀ c k f, PR.kl[c]? = some k → k.init = some f → Mk K (cl c) (fa f)
  ms : ∀ c k m f, PR.kl[c]? = some k → k.ms.lookup m = some f → Meth K (cl c) m (fa f)
  na : ∀ c k f, PR.kl[c]? = some k → f ∈ k.ats → NoAttr K (cl c) f
  gl : ∀ x i v, T.gls.lookup x = some i → PR.gl[i]? = some v → ∃ u w, mg x = some u ∧ RelV w u ∧ ∀ H m, Rp K cl H m v w
  bl : ∀ x, T.bls.contains x = true → mg x = none
  gc : T.gcd = true → mg "gcd" = some (.builtin "math.gcd")
  pl : ∀ f d, PR.df[f]? = some d → (ps f).length = d.np
  bd : ∀ f d n, PR.df[f]? = some d → n ≤ d.np → d.np - n ≤ d.dv.length → ∃ ds dvs, Binds K (fd f) (ps f) ds ∧ Vals dvs ds ∧ ∀ H m, RpL K cl H m (d.dv.drop (d.dv.length - (d.np - n))) dvs
/-- what a def promises -/
def spF (K : W.Frag) (cl : Nat → Addr) (r : Ev) (n f : Nat) : Sp := fun vs H Q _ => ∃ m st as, SR K cl H m st ∧ RpL K cl H m as vs ∧ as.length = n ∧ Fin K cl m H (r.call f as st) Q
section
variable (CX : CXT) (T : Tab) (PR : Prog) (cl fa : Nat → Addr) (fd : Nat → FuncData) (ps : Nat → List Str)
structure Good (j : Nat) (sc : Scope) (top : Top) (N : List Str) (X : Cx) : Prop where
  wf : Wf T PR cl fa fd ps X.K X.mg
  fo : ∀ i, i < j → ∀ f d, PR.df[f]? = some d → FnG X.prog X.w X.K X.mg X.base CX i (fa f) (fd f) (ps f) (spF X.K cl (ev PR i) d.np f)
  hN : X.N = N
  nd : N.Nodup
  kd : sc.kind = .function
  sc : X.env.scope = sc
  calm : X.calm = true
  room : Room j X.A
  pass : ∀ outer H s e s', CX outer H s E0 e s' → False
  never : X.xe = fun _ _ => False
  fn : ∀ x, topB top x = true → X.fn x = true
  gds : X.A.guards = some []
end
section
variable {CX : CXT} {T : Tab} {PR : Prog} {cl fa : Nat → Addr} {fd : Nat → FuncData} {ps : Nat → List Str}
theorem Good.down {j i : Nat} {sc : Scope} {top : Top} {N : List Str} {X : Cx} (g : Good CX T PR cl fa fd ps j sc top N X) (h : i ≤ j) : Good CX T PR cl fa fd ps i sc top N X :=
  ⟨g.wf, fun k hk => g.fo k (by omega), g.hN, g.nd, g.kd, g.sc, g.calm, g.room.mono h, g.pass, g.never, g.fn, g.gds⟩
theorem Good.passes {j : Nat} {sc : Scope} {top : Top} {N : List Str} {X : Cx} (g : Good CX T PR cl fa fd ps j sc top N X) : Passes CX X E0 := fun _ _ _ _ _ _ _ h => (g.pass _ _ _ _ _ h).elim
theorem Good.units {j : Nat} {sc : Scope} {top : Top} {N : List Str} {X : Cx} (g : Good CX T PR cl fa fd ps j sc top N X) : X.A.units + 65 < cLine := by have := g.room.un; omega
theorem peImp {X : Cx} {e : Expr} {t t' : TE} (h : PE X e t) (k : ∀ σ H Q, t' σ H Q → t σ H Q) : PE X e t' := ⟨fun pins s σ H Q I q => h.run pins s σ H Q I (k σ H Q q)⟩
theorem ptImp {X : Cx} {e : Expr} {t t' : TT} (h : PT X e t) (k : ∀ σ H Q, t' σ H Q → t σ H Q) : PT X e t' := ⟨fun pins s σ H Q I q => h.run pins s σ H Q I (k σ H Q q)⟩
theorem pwImp {X : Cx} {e : Expr} {t t' : TT} (h : PW X e t) (k : ∀ σ H Q, t' σ H Q → t σ H Q) : PW X e t' := ⟨fun wh pins s σ H Q I q => h.run wh pins s σ H Q I (k σ H Q q)⟩
theorem peF {X : Cx} {e : Expr} {t : TE} (k : ∀ σ H Q, ¬ t σ H Q) : PE X e t := ⟨fun pins s σ H Q I q => (k σ H Q q).elim⟩
def isBo : Expr → Bool
  | .BoolOp _ _ _ => true
  | _ => false
variable (CX T PR cl fa fd ps)
def SEn (j : Nat) : Prop := ∀ sc top N n c e X, Good CX T PR cl fa fd ps j sc top N X → chkE T PR sc top N n c e = true → PE X e (rdE X.K cl (ev PR j) c)
def STn (j : Nat) : Prop := ∀ sc top N n c e X, Good CX T PR cl fa fd ps j sc top N X → chkE T PR sc top N n c e = true → PT X e (rdT X.K cl (ev PR j) c) ∧ (isBo e = true → PW X e (rdT X.K cl (ev PR j) c))
variable {CX T PR cl fa fd ps}
section
variable {m m' : List Addr} {H H' : Hp} {σ : L2.St} {env : En} {st st' : Store} {r : Ev} {K : W.Frag}
theorem evL_len : ∀ {cs : List Ex} {env : En} {st : Store} {vs : List PV} {st' : Store}, evL r cs env st = .ok vs st' → vs.length = cs.length
  | [], _, _, _, _, h => by cases h; rfl
  | c :: cs, env, st, vs, st', h => by
    unfold evL at h
    cases e : r.E c env st with
    | ok v s1 =>
      rw [e] at h
      simp only [Res.bind] at h
      cases e2 : evL r cs env s1 with
      | ok ws s2 =>
        rw [e2] at h
        cases h
        simp [evL_len e2]
      | exc x s => rw [e2] at h; cases h
      | bad => rw [e2] at h; cases h
    | exc x s => rw [e] at h; cases h
    | bad => rw [e] at h; cases h
/-- .. with the number of the values -/
theorem rdL_bind' {β : Type} {F : List Addr → Hp → Res β → Prop} {c : List Ex} {f : List PV → Store → Res β} {R : List V → Hp → Prop} (C : Cn F) (sr : SR K cl H m st) (er : ER K cl H m env σ) (h : F m H ((evL r c env st).bind f))
    (k : ∀ v st' u H' m', v.length = c.length → Ext m H m' H' → SR K cl H' m' st' → ER K cl H' m' env σ → RpL K cl H' m' v u → F m' H' (f v st') → R u H') : rdL K cl r c σ H R := by
  refine ⟨m, env, st, sr, er, ?_⟩
  cases e : evL r c env st with
  | ok v st' =>
    rw [e] at h
    show FinL K cl m H (evL r c env st) R
    rw [e]
    exact fun u H' m' x s rp => k v st' u H' m' (evL_len e) x s (er.mono x) rp (C.mono x h)
  | exc x s =>
    rw [e] at h
    exact absurd h C.nx
  | bad =>
    rw [e] at h
    exact absurd h C.nb
end
/-- lists of expressions -/
theorem sl_of {j : Nat} (hE : SEn CX T PR cl fa fd ps j) {n : Nat} {X : Cx} {sc : Scope} {top : Top} {N : List Str} (g : Good CX T PR cl fa fd ps j sc top N X) : ∀ {cs : List Ex} {es : List Expr}, chkL T PR sc top N n cs es = true →
    PA X es (rdL X.K cl (ev PR j) cs)
  | [], [], h => by
    refine ⟨fun pos pins s σ H Q I q => ?_⟩
    obtain ⟨m, env, st, sr, er, f⟩ := q
    exact pa_nil.run pos pins s σ H Q I (f [] H m (Ext.refl _ _) sr rfl)
  | c :: cs, e :: es, h => by
    simp only [chkL, chkLs, Bool.and_eq_true] at h
    obtain ⟨⟨h1, h2⟩, h3⟩ := h
    have p1 := hE sc top N n c e X g h1
    have p2 := sl_of hE g h3
    refine ⟨fun pos pins s σ H Q I q => (pa_cons p1 p2 (star_cons h2)).run pos pins s σ H Q I ?_⟩
    obtain ⟨m, env, st, sr, er, f⟩ := q
    refine rdE_bind (cnL Q) sr er f fun v1 st1 u1 H1 m1 x1 sr1 er1 r1 f1 => ?_
    exact rdL_bind (cnL Q) sr1 er1 f1 fun v2 st2 u2 H2 m2 x2 sr2 er2 r2 f2 => f2 _ H2 m2 (Ext.refl _ _) sr2 ⟨u1, u2, rfl, r1.mono x2, r2⟩
  | [], _ :: _, h => by cases h
  | _ :: _, [], h => by cases h
theorem chkL_len {n : Nat} {sc : Scope} {top : Top} {N : List Str} : ∀ {cs : List Ex} {es : List Expr}, chkL T PR sc top N n cs es = true → cs.length = es.length
  | [], [], h => rfl
  | c :: cs, e :: es, h => by
    simp only [chkL, chkLs, Bool.and_eq_true] at h
    simp [chkL_len h.2]
  | [], _ :: _, h => by cases h
  | _ :: _, [], h => by cases h
end
end Pv

set_option Elab.async false
set_option linter.all false
set_option maxRecDepth 100000
set_option maxHeartbeats 1000000
/-! Expressions, one step. -/
namespace Pv
open PySem PySem.Spec PyProof.Rows L2
section
variable {CX : CXT} {T : Tab} {PR : Prog} {cl fa : Nat → Addr} {fd : Nat → FuncData} {ps : Nat → List Str}
theorem evalArgs_any {M : Model} {A : Around} {E : Value → Shared → Prop} {s : Shared} {f : Value} {args : List (Bool × Sem Value)} {Q : Args → Shared → Prop} (hs : args.any (·.1) = false)
    (h : wpAny M A (spliced args) (fun vs s' => Q ⟨vs, []⟩ s') E s) : wpAny M A (evalArgs f true args []) Q E s := by
  unfold evalArgs
  cases args with
  | nil =>
    show wpAny M A (spliced [] >>= _) Q E s
    refine wpAny_bind (wpAny_mono h (fun vs s' h' => ?_) fun _ _ x => x)
    refine wpAny_holding ?_
    exact wpAny_bind (wpAny_pure (wpAny_bind (wpAny_pure (wpAny_pure h'))))
  | cons a r =>
    obtain ⟨b, x⟩ := a
    cases b with
    | true => simp at hs
    | false =>
      show wpAny M A (spliced ((false, x) :: r) >>= _) Q E s
      refine wpAny_bind (wpAny_mono h (fun vs s' h' => ?_) fun _ _ x => x)
      refine wpAny_holding ?_
      exact wpAny_bind (wpAny_pure (wpAny_bind (wpAny_pure (wpAny_pure h'))))
theorem callWith_KA {M : Model} {A : Around} {E : Value → Shared → Prop} {s : Shared} {K : W.Frag} {f : Value} {first : List Value} {Q : Value → Shared → Prop} {es : List Expr} {env : Env} {pos : Pos} (hk : W.keepIn K f = true) (hs : es.all notStar = true)
    (h : wpAny M A (spliced (backTo pos (starEach es env))) (fun vs s₁ => K.In s₁.heap ∧ wpAny M A (call f (first ++ vs)) Q E s₁) E s) : wpAny M A (callWith pos f first (backTo pos (starEach es env)) []) Q E s :=
  W.callWith_of (by rw [star_any hs]; rfl) (W.keeps_K hk) (evalArgs_any (star_any hs) h)
/-- o.m(..): the class is known when it runs -/
def tMethD (X : Cx) (CX : CXT) (m : Str) (ta : TE) (t : TA) : TE := fun σ H Q => ta σ H fun x H1 => ∃ a C f k fd ps sp ds dvs dx fs, x = .ref a ∧ H1 a = some (.ins C dx fs) ∧ Cls X.K C ∧ Meth X.K C m f ∧
  FnG X.prog X.w X.K X.mg X.base CX k f fd ps sp ∧ X.A.guards = some [] ∧ Room k X.A ∧ Binds X.K fd ps ds ∧ Vals dvs ds ∧ fs.lookup m = none ∧ t σ H1 fun vs H2 => sp (x :: (vs ++ dvs)) H2 Q E0
theorem pe_methD {X : Cx} {o : Expr} {m : Str} {apos pos : Pos} {ta : TE} {t : TA} {es : List Expr} (he : PE X o ta) (hx : Passes CX X E0) (ha : PA X es t) (h1 : plainBase o = true) (h2 : es.all notStar = true) (h3 : es.length < 30) (h4 : (apos.endLine == pos.line) = true) :
    PE X (.Call (.Attribute o m apos) es [] pos) (tMethD X CX m ta t) := by
  refine ⟨fun pins s σ H Q I h => ?_⟩
  refine PySem.W.methodCall_KW (pl := (do return (← importBound o X.env).getD true)) (thn (he.run pins s σ H _ I h) fun u s1 ⟨x, H1, I1, rx, q⟩ => ?_) (meth_eq h1 h2 h3 h4)
  obtain ⟨a, C, f, k, fd, ps, sp, ds, dvs, dx, fs, ex, ea, c, hm, F, gg, hr, hb, hd, l, q⟩ := q
  subst ex
  obtain rfl : u = Value.ref a := rx
  refine getmeth_ok I1 ea c hm l ?_
  refine callWith_KA hm.kp h2 (thn (ha.run pos pins s1 σ H1 _ I1 q) fun us s2 ⟨vs, H2, I2, r, q2⟩ => ⟨I2.kIn, ?_⟩)
  exact run_fnG (us := .ref a :: us) (vs := .ref a :: vs) F gg hr hb hd hx I2 (.cons rfl r) q2

theorem pe_callA {X : Cx} {k : Nat} {f : Addr} {fd : FuncData} {ps : List Str} {sp : Sp} {ds : List Value} {dvs : List V} {E : XK} {x : Str} {p pos : Pos} {es : List Expr} {t : TA} (F : FnG X.prog X.w X.K X.mg X.base CX k f fd ps sp) (gg : X.A.guards = some []) (hr : Room k X.A) (hg : Gl X x) (hm : X.mg x = some (.ref f))
    (hk : W.keepIn X.K (.ref f) = true) (hb : Binds X.K fd ps ds) (hd : Vals dvs ds) (hx : Passes CX X E) (ha : PA X es t) (hs : es.all notStar = true) (hdb : (x == ("__debug__" : Str)) = false) : PE X (.Call (.Name x p) es [] pos) (tCall sp dvs E t) := by
  refine ⟨fun pins s σ H Q I h => ?_⟩
  refine wpAny_Call_Name_kw (ld_glob I hg hm ?_ hdb)
  exact callWith_KA hk hs (thn (ha.run pos pins s σ H _ I h) fun us s1 ⟨vs, H1, I1, r, q⟩ => ⟨I1.kIn, run_fnG F gg hr hb hd hx I1 r q⟩)
theorem pe_makeA {X : Cx} {k : Nat} {f C : Addr} {fd : FuncData} {ps : List Str} {sp : Sp} {ds : List Value} {dvs : List V} {E : XK} {x : Str} {p pos : Pos} {es : List Expr} {t : TA} (M : Mk X.K C f) (F : FnG X.prog X.w X.K X.mg X.base CX k f fd ps sp) (gg : X.A.guards = some []) (hr : Room (k + 1) X.A) (hg : Gl X x) (hm : X.mg x = some (.ref C))
    (hb : Binds X.K fd ps ds) (hd : Vals dvs ds) (hx : Passes CX X E) (ha : PA X es t) (hs : es.all notStar = true) (hdb : (x == ("__debug__" : Str)) = false) : PE X (.Call (.Name x p) es [] pos) (tMake C sp dvs E t) := by
  refine ⟨fun pins s σ H Q I h => ?_⟩
  refine wpAny_Call_Name_kw (ld_glob I hg hm ?_ hdb)
  exact callWith_KA M.kp hs (thn (ha.run pos pins s σ H _ I h) fun us s1 ⟨vs, H1, I1, r, q⟩ => ⟨I1.kIn, run_makeG M F gg hr hb hd hx I1 r q⟩)
theorem plainN_ok {x : Str} (h : plainN x = true) : (x == ("__debug__" : Str)) = false ∧ (x == ("__classdict__" : Str)) = false ∧ x ≠ "__name__" := by
  unfold plainN at h
  simp only [Bool.and_eq_true, Bool.not_eq_true'] at h
  exact ⟨h.1.1, h.1.2, fun e => by rw [e] at h; have := h.2; simp at this⟩
theorem glB_ok {sc : Scope} {x : Str} {X : Cx} (h : glB sc x = true) (e : X.env.scope = sc) : Gl X x := by
  have := of_decide_eq_true h
  subst e
  exact this
/-- the built-in functions' names -/
theorem boot_bi (b : Bi) (h : isIsi b = false) (hg : isGcd b = false) : bootBuiltins (biN b) = some b.id := by
  cases b with
  | list mu => exact (by decide +kernel : bootBuiltins ("list" : Str) = some (.type "list"))
  | gcd => cases hg
  | isi _ => cases h
  | isiT _ => cases h
  | _ => decide +kernel
section
variable {X : Cx} {x : Str} {p pos : Pos} {es : List Expr} {t : TA} {r : List V → Hp → VK → Prop}
/-- f(..), f a built-in function or type that stands as v -/
theorem pe_callV {v : Value} (hv : (∃ id, v = .builtin id) ∨ ∃ T, v = .type T) (hc : CallR X v r) (hl : ∀ {pins s σ H} {Q : Value → Shared → Prop}, Inv X pins σ H s → Q v s → wpAny (model X.prog X.w) X.A (eval (.Name x p) X.env) Q X.xe s)
    (ha : PA X es t) (hs : es.all notStar = true) (hn : es ≠ []) : PE X (.Call (.Name x p) es [] pos) (tCB r t) := by
  refine ⟨fun pins s σ H Q I h => ?_⟩
  refine wpAny_Call_Name_kw (hl I ?_)
  cases es with
  | nil => exact absurd rfl hn
  | cons e es =>
    rw [List.all_cons, Bool.and_eq_true] at hs
    rcases hv with ⟨id, rfl⟩ | ⟨T, rfl⟩
    · exact PyProof.Rows.callWith_builtin1 (thn (ha.run pos pins s σ H _ I h) fun us s1 ⟨vs, H1, I1, r1, q1⟩ => hc pins s1 σ H1 vs us Q I1 r1 q1) (star_cons hs.1) (star_any hs.2)
    · exact PyProof.Rows.callWith_type1 (thn (ha.run pos pins s σ H _ I h) fun us s1 ⟨vs, H1, I1, r1, q1⟩ => hc pins s1 σ H1 vs us Q I1 r1 q1) (star_cons hs.1) (star_any hs.2)
end
theorem bi_id (b : Bi) : (∃ id, b.id = .builtin id) ∨ ∃ T, b.id = .type T := by
  cases b <;> first | exact .inl ⟨_, rfl⟩ | exact .inr ⟨_, rfl⟩
/-- a class as a value -/
theorem csB_ok {j : Nat} {sc : Scope} {top : Top} {N : List Str} {X : Cx} {c : Cs} {e : Expr} (g : Good CX T PR cl fa fd ps j sc top N X) (h : csB T sc c e = true) : PE X e (tC (csU cl c)) := by
  cases c with
  | ty n =>
    cases e with
    | Name x pos =>
      simp only [csB, Bool.and_eq_true] at h
      obtain ⟨⟨⟨h1, h2⟩, h3⟩, h4⟩ := h
      obtain ⟨n1, n2, n3⟩ := plainN_ok h2
      exact pe_bltn (glB_ok h1 g.sc) (g.wf.bl x h3) (of_decide_eq_true h4) (show RelV (.ty n) (.type n) from rfl) n3 n1
    | _ => cases h
  | cl c =>
    cases e with
    | Name x pos =>
      simp only [csB, Bool.and_eq_true] at h
      obtain ⟨⟨h1, h2⟩, h3⟩ := h
      obtain ⟨n1, n2, n3⟩ := plainN_ok h2
      exact pe_glob (glB_ok h1 g.sc) (g.wf.cs x c (of_decide_eq_true h3)) (show RelV (.ref (cl c)) (.ref (cl c)) from rfl) n1
    | _ => cases h
def tCs (vs : List V) : TA := fun _ H Q => Q vs H
theorem csBs_ok {j : Nat} {sc : Scope} {top : Top} {N : List Str} {X : Cx} (g : Good CX T PR cl fa fd ps j sc top N X) : ∀ {cs : List Cs} {es : List Expr}, csBs T sc cs es = true → PA X es (tCs (cs.map (csU cl)))
  | [], [], h => ⟨fun pos pins s σ H Q I q => pa_nil.run pos pins s σ H Q I q⟩
  | c :: cs, e :: es, h => by
    simp only [csBs, Bool.and_eq_true] at h
    have p1 := csB_ok g h.1.1
    have p2 := csBs_ok g h.1.2
    exact ⟨fun pos pins s σ H Q I q => (pa_cons p1 p2 (star_cons h.2)).run pos pins s σ H Q I q⟩
  | [], _ :: _, h => by cases h
  | _ :: _, [], h => by cases h
theorem clsV_ok (c : Cs) : ClsV (csU cl c) (csV cl c) := by
  cases c with
  | ty n => exact .ty n
  | cl c => exact .own _
theorem clsV_all : ∀ cs : List Cs, Paired ClsV (cs.map (csU cl)) (cs.map (csV cl))
  | [] => .nil
  | c :: cs => .cons (clsV_ok c) (clsV_all cs)
end
section
variable {K : W.Frag} {cl : Nat → Addr} {m m' : List Addr} {H H' : Hp} {st : Store}
/-- rows of values beside rows of values without addresses -/
def RpLL (K : W.Frag) (cl : Nat → Addr) (H : Hp) (m : List Addr) : List (List PV) → List (List V) → Prop
  | [], ys => ys = []
  | x :: xs, ys => ∃ y zs, ys = y :: zs ∧ RpL K cl H m x y ∧ RpLL K cl H m xs zs
theorem RpLL.mono (e : Ext m H m' H') : ∀ {xs : List (List PV)} {ys : List (List V)}, RpLL K cl H m xs ys → RpLL K cl H' m' xs ys
  | [], _, h => h
  | x :: xs, _, ⟨y, zs, e1, r, q⟩ => ⟨y, zs, e1, RpL.mono e _ _ r, RpLL.mono e q⟩
theorem RpLL.length : ∀ {xs : List (List PV)} {ys : List (List V)}, RpLL K cl H m xs ys → xs.length = ys.length
  | [], _, h => by cases h; rfl
  | x :: xs, _, ⟨y, zs, e1, r, q⟩ => by subst e1; simp [RpLL.length q]
theorem RpLL.wd {n : Nat} : ∀ {xs : List (List PV)} {ys : List (List V)}, RpLL K cl H m xs ys → (∀ x ∈ xs, x.length = n) → ∀ y ∈ ys, y.length = n
  | [], _, h, _, y, hy => by cases h; cases hy
  | x :: xs, _, ⟨y, zs, e1, r, q⟩, w, z, hz => by
    subst e1
    rcases List.mem_cons.mp hz with e | hz
    · subst e
      rw [← r.length]
      exact w x (by simp)
    · exact RpLL.wd q (fun x hx => w x (by simp [hx])) z hz
theorem RpLL.col {i : Nat} : ∀ {xs : List (List PV)} {ys : List (List V)}, RpLL K cl H m xs ys → (∀ x ∈ xs, i < x.length) → RpL K cl H m (colP xs i) (colV ys i)
  | [], _, h, _ => by cases h; rfl
  | x :: xs, _, ⟨y, zs, e1, r, q⟩, w => by
    subst e1
    have hx := w x (by simp)
    obtain ⟨u, hu, ru⟩ := r.get (List.getElem?_eq_getElem hx)
    have e1 : colP (x :: xs) i = x[i] :: colP xs i := by
      unfold colP
      rw [List.filterMap_cons, List.getElem?_eq_getElem hx]
    have e2 : colV (y :: zs) i = u :: colV zs i := by
      unfold colV
      rw [List.filterMap_cons, hu]
    rw [e1, e2]
    exact ⟨u, _, rfl, ru, RpLL.col q fun x hx => w x (by simp [hx])⟩
/-- the rows as they stand -/
theorem seqs_ok (sr : SR K cl H m st) : ∀ {xs : List PV} {us : List V} {rows : List (List PV)}, RpL K cl H m xs us → seqsOf st xs = some rows →
    ∃ (src : List (Bool × Addr)) (vr : List (List V)), us = src.map (fun p => V.ref p.2) ∧ RpLL K cl H m rows vr ∧ vr.length = src.length ∧ ∀ (k : Nat) (b : Bool) (c : Addr) (r : List V), src[k]? = some (b, c) → vr[k]? = some r → SqB K H b c r
  | [], us, rows, r, h => by
    cases r
    cases h
    exact ⟨[], [], rfl, rfl, rfl, fun k b c r e => by simp at e⟩
  | x :: xs, us, rows, ⟨u, ws, e1, r1, r2⟩, h => by
    subst e1
    unfold seqsOf at h
    cases q : seqOf st x with
    | none => rw [q] at h; cases h
    | some w =>
      obtain ⟨b, ys⟩ := w
      cases q2 : seqsOf st xs with
      | none => rw [q, q2] at h; cases h
      | some rs =>
        rw [q, q2] at h
        cases h
        obtain ⟨src, vr, e2, rl, hl, hs⟩ := seqs_ok sr r2 q2
        obtain ⟨p, zs, rfl, rz, h1, h2⟩ := seq_ok sr r1 q
        refine ⟨(b, p) :: src, zs :: vr, by rw [List.map_cons, e2], ⟨zs, vr, rfl, rz, rl⟩, by simp [hl], fun k b' c' r' e3 e4 => ?_⟩
        cases k with
        | zero =>
          cases e3
          cases e4
          cases b with
          | true => exact h1 rfl
          | false => exact .inl (.inl (h2 rfl))
        | succ k => exact hs k b' c' r' (by simpa using e3) (by simpa using e4)
theorem cols_ok {Q : VK} : ∀ {cp : List (List PV)} {cv : List (List V)} {ts : List Addr} {dn : List PV} {H : Hp} {m : List Addr}, SR K cl H m st → RpLL K cl H m cp cv → RpL K cl H m dn (ts.map V.ref) → Fin K cl m H (.ok (.tup (dn ++ cp.map .tup)) st) Q →
    Cols (fun ts H' => ∀ p, H' p = none → Q (.ref p) (upd H' p (.tup (ts.map V.ref)))) cv ts H
  | [], cv, ts, dn, H, m, sr, r, rd, f => by
    cases r
    intro p hp
    rw [List.map_nil, List.append_nil] at f
    exact f.at_ (newT sr rd hp)
  | c :: cp, _, ts, dn, H, m, sr, ⟨y, zs, e1, r, q⟩, rd, f => by
    subst e1
    intro t ht
    obtain ⟨x1, sr1, r1⟩ := newT sr r ht
    refine cols_ok (dn := dn ++ [.tup c]) sr1 (q.mono x1) ?_ ?_
    · rw [List.map_append]
      exact (RpL.mono x1 _ _ rd).append ⟨_, [], rfl, r1, rfl⟩
    · have := Fin.mono x1 f
      simpa using this
end
end Pv

set_option Elab.async false
set_option linter.all false
set_option maxRecDepth 100000
set_option maxHeartbeats 2000000
/-! Expressions, one step. -/
namespace Pv
open PySem PySem.Spec PyProof.Rows L2
theorem Res.bind_assoc {α β γ : Type} (a : Res α) (f : α → Store → Res β) (g : β → Store → Res γ) : (a.bind f).bind g = a.bind fun x st => (f x st).bind g := by
  cases a <;> rfl
section
variable {CX : CXT} {T : Tab} {PR : Prog} {cl fa : Nat → Addr} {fd : Nat → FuncData} {ps : Nat → List Str}
variable {j : Nat} {sc : Scope} {top : Top} {N : List Str} {X : Cx} {n : Nat}
theorem chkL_one {cs : List Ex} {y : Expr} (h : chkL T PR sc top N n cs [y] = true) : ∃ n' c, cs = [c] ∧ chkE T PR sc top N n' c y = true := by
  match cs, h with
  | [c], h =>
    simp only [chkL, chkLs, Bool.and_eq_true] at h
    exact ⟨n, c, rfl, h.1.1⟩
  | [], h => cases h
  | _ :: _ :: _, h =>
    simp only [chkL, chkLs, Bool.and_false] at h
    cases h
theorem csOk_ok {t : Cs} (h : csOk PR.kl.length t = true) : ∀ c, t = .cl c → ∃ k, PR.kl[c]? = some k := fun c e => by
  subst e
  exact ⟨_, List.getElem?_eq_getElem (of_decide_eq_true h)⟩
theorem isE_ok (hE : SEn CX T PR cl fa fd ps j) (g : Good CX T PR cl fa fd ps (j + 1) sc top N X) {c : Cs} {cs : List Ex} {x : Str} {p pos : Pos} {es : List Expr}
    (hx : x = "isinstance") (h1 : glB sc x = true) (h3 : T.bls.contains x = true)
    (h : (match es with | [y, t] => chkL T PR sc top N n cs [y] && notStar y && csB T sc c t && notStar t | _ => false) = true) :
    PE X (.Call (.Name x p) es [] pos) (rdE X.K cl (ev PR (j + 1)) (.bi (.isi c) cs)) := by
  match es, h with
  | [y, t], h =>
    simp only [Bool.and_eq_true] at h
    obtain ⟨⟨⟨c1, c2⟩, c3⟩, c4⟩ := h
    have gd := g.down (Nat.le_succ j)
    obtain ⟨n', cy, rfl, c1e⟩ := chkL_one c1
    subst hx
    refine peImp (pe_callB call_isi (glB_ok h1 g.sc) (g.wf.bl _ h3) (by decide +kernel) (pa_cons (hE sc top N n' cy y X gd c1e) (pa_cons (csB_ok g c3) pa_nil (star_cons c4)) (star_cons c2)) (he := star_cons c2) (hpl := star_any (by simp [c4]))) fun σ H Q q => ?_
    obtain ⟨m, env, st, sr, er, f⟩ := q
    have f : Fin X.K cl m H ((evL (ev PR j) [cy] env st).bind fun vs st => biF PR.isl PR.kl.length (.isi c) vs st) Q := f
    simp only [evL, Res.bind_assoc] at f
    refine rdE_bind (cnE Q) sr er f fun v1 st1 u1 H1 m1 x1 sr1 er1 r1 f1 => ?_
    simp only [Res.bind, biF] at f1
    cases e : tyOf st1 v1 with
    | none => rw [e] at f1; exact f1.elim
    | some t =>
      rw [e] at f1
      simp only [Option.bind_some] at f1
      by_cases hk : csOk PR.kl.length t = true
      · rw [if_pos hk] at f1
        cases e2 : isaT PR.isl t c with
        | none => rw [e2] at f1; exact f1.elim
        | some r =>
          rw [e2] at f1
          exact ⟨u1, csU cl c, csV cl t, csV cl c, r, rfl, clsV_ok c, ty_ok g.wf.co sr1 r1 e (csOk_ok hk), isaT_ok g.wf.co e2, Fin.bl f1 sr1⟩
      · rw [if_neg hk] at f1
        exact f1.elim
theorem isT_ok (hE : SEn CX T PR cl fa fd ps j) (g : Good CX T PR cl fa fd ps (j + 1) sc top N X) {c : List Cs} (hl : c.length ≤ 100) {cs : List Ex} {x : Str} {p pos : Pos} {es : List Expr}
    (hx : x = "isinstance") (h1 : glB sc x = true) (h3 : T.bls.contains x = true)
    (h : (match es with | [y, .Tuple ts _ _] => chkL T PR sc top N n cs [y] && notStar y && csBs T sc c ts | _ => false) = true) :
    PE X (.Call (.Name x p) es [] pos) (rdE X.K cl (ev PR (j + 1)) (.bi (.isiT c) cs)) := by
  match es, h with
  | [y, .Tuple ts kk tpos], h =>
    simp only [Bool.and_eq_true] at h
    obtain ⟨⟨c1, c2⟩, c3⟩ := h
    have gd := g.down (Nat.le_succ j)
    obtain ⟨n', cy, rfl, c1e⟩ := chkL_one c1
    subst hx
    refine peImp (pe_callB call_isiT (glB_ok h1 g.sc) (g.wf.bl _ h3) (by decide +kernel) (pa_cons (hE sc top N n' cy y X gd c1e) (pa_cons (pe_tup (csBs_ok g c3)) pa_nil) (star_cons c2)) (he := star_cons c2)) fun σ H Q q => ?_
    obtain ⟨m, env, st, sr, er, f⟩ := q
    have f : Fin X.K cl m H ((evL (ev PR j) [cy] env st).bind fun vs st => biF PR.isl PR.kl.length (.isiT c) vs st) Q := f
    simp only [evL, Res.bind_assoc] at f
    refine rdE_bind (cnE Q) sr er f fun v1 st1 u1 H1 m1 x1 sr1 er1 r1 f1 => ?_
    simp only [Res.bind, biF] at f1
    cases e : tyOf st1 v1 with
    | none => rw [e] at f1; exact f1.elim
    | some t =>
      rw [e] at f1
      simp only [Option.bind_some] at f1
      by_cases hk : csOk PR.kl.length t = true
      · rw [if_pos hk] at f1
        cases e2 : isaA PR.isl t c with
        | none => rw [e2] at f1; exact f1.elim
        | some r =>
          rw [e2] at f1
          have hl : (c.map (csU cl)).length ≤ sizeLine := by rw [List.length_map]; exact Nat.le_of_lt (small1000 (by omega))
          refine ⟨hl, fun tp htp => ?_⟩
          have x2 := Ext.new (m := m1) (HO.tup (c.map (csU cl))) htp
          have sr2 := sr1.new (HO.tup (c.map (csU cl))) htp
          refine ⟨u1, tp, c.map (csU cl), csV cl t, c.map (csV cl), r, rfl, upd_same, clsV_all c, ty_ok g.wf.co sr2 (r1.mono x2) e (csOk_ok hk), isaA_ok g.wf.co e2, ?_⟩
          exact f1 (.bl r) _ m1 x2 sr2 rfl
      · rw [if_neg hk] at f1
        exact f1.elim
/-- what goes wrong at 0 -/
theorem se_zero : SEn CX T PR cl fa fd ps 0 := fun sc top N n c e X g h => peF fun σ H Q ⟨m, env, st, sr, er, f⟩ => f
theorem arB_ok {f k : Nat} (h : arB PR f k = true) : ∃ d, PR.df[f]? = some d ∧ k ≤ d.np ∧ d.np - k ≤ d.dv.length := by
  unfold arB at h
  cases e : PR.df[f]? with
  | none => rw [e] at h; cases h
  | some d =>
    rw [e] at h
    exact ⟨d, rfl, of_decide_eq_true h⟩
theorem pad_len {d : Df} {vs : List PV} {k : Nat} (h : vs.length = k) (h1 : k ≤ d.np) (h2 : d.np - k ≤ d.dv.length) : (pad d vs).length = d.np := by
  unfold pad
  rw [List.length_append, List.length_drop]
  omega
theorem call_len {j f : Nat} {d : Df} {as : List PV} {st : Store} (h : PR.df[f]? = some d) (hl : as.length ≠ d.np) : (ev PR j).call f as st = .bad := by
  cases j with
  | zero => rfl
  | succ j =>
    show stepC PR (ev PR j) f as st = .bad
    unfold stepC
    rw [h]
    exact if_neg fun z => hl z.1
variable (CX T PR cl fa fd ps j) in
/-- comprehensions, apart -/
def SCn : Prop := ∀ sc top N n mu ce tg k its ts e X, Good CX T PR cl fa fd ps (j + 1) sc top N X → chkE T PR sc top N (n + 1) (.comp mu ce tg k its ts) e = true → PE X e (rdE X.K cl (ev PR (j + 1)) (.comp mu ce tg k its ts))
theorem po_ok (hE : SEn CX T PR cl fa fd ps j) (g : Good CX T PR cl fa fd ps j sc top N X) {c : Ex} {o : Option Expr} (h : chkO T PR sc top N n c o = true) :
    PO X o (fun σ H Q => ∃ m env st x st', SR X.K cl H m st ∧ ER X.K cl H m env σ ∧ partOf (ev PR j) c env st = .ok x st' ∧ ∀ H' m', Ext m H m' H' → SR X.K cl H' m' st' → ER X.K cl H' m' env σ → Q x H') := by
  cases o with
  | none =>
    have hc : c = .nil := by
      cases c <;> first | rfl | cases h
    subst hc
    refine ⟨fun pins s σ H Q I q => ?_⟩
    obtain ⟨m, env, st, x, st', sr, er, e, k⟩ := q
    cases e
    exact po_none.run pins s σ H Q I (k H m (Ext.refl _ _) sr er)
  | some e =>
    have h : chkE T PR sc top N n c e = true := by
      cases c <;> exact h
    have p := hE sc top N n c e X g h
    have hc : c ≠ .nil := by
      rintro rfl
      cases n <;> cases h
    refine ⟨fun pins s σ H Q I q => (po_some p).run pins s σ H Q I ?_⟩
    obtain ⟨m, env, st, x, st', sr, er, e, k⟩ := q
    have e : (((ev PR j).E c env st).bind fun v st => match v with | .int i => Res.ok (some i) st | _ => .bad) = .ok x st' := by
      rw [← e]
      cases c <;> first | rfl | exact absurd rfl hc
    refine ⟨m, env, st, sr, er, ?_⟩
    cases q : (ev PR j).E c env st with
    | ok v st1 =>
      rw [q] at e
      show Fin X.K cl m H ((ev PR j).E c env st) _
      rw [q]
      intro u H' m' x1 sr1 r1
      cases v <;> first
        | (cases e; done)
        | skip
      rename_i i
      cases e
      cases r1
      exact ⟨i, rfl, k H' m' x1 sr1 (er.mono x1)⟩
    | exc _ _ => rw [q] at e; cases e
    | bad => rw [q] at e; cases e
theorem se_succ (hE : SEn CX T PR cl fa fd ps j) (hT : STn CX T PR cl fa fd ps j) (hC : SCn CX T PR cl fa fd ps j) : SEn CX T PR cl fa fd ps (j + 1) := by
  intro sc top N n c e X g h
  cases n with
  | zero => cases h
  | succ n =>
  have gd := g.down (Nat.le_succ j)
  cases c with
  | v i =>
    rw [chkE_v] at h
    cases e with
    | Name x pos =>
      simp only [Bool.and_eq_true] at h
      obtain ⟨⟨h1, h2⟩, h3⟩ := h
      obtain ⟨n1, n2, n3⟩ := plainN_ok h3
      refine peImp (pe_var (by rw [g.hN]; exact of_decide_eq_true h1) (by rw [g.sc]; exact visB_ok h2) n1 n2) fun σ H Q q => ?_
      obtain ⟨m, env, st, sr, er, f⟩ := q
      have f : Fin X.K cl m H (match env[i]? with | some (some x) => .ok x st | _ => .bad) Q := f
      cases e : env[i]? with
      | none => rw [e] at f; exact f.elim
      | some o =>
        rw [e] at f
        cases o with
        | none => exact f.elim
        | some v =>
          obtain ⟨u, hu, r⟩ := er.get e
          exact ⟨u, hu, Fin.val sr r f⟩
    | _ => cases h
  | c v =>
    rw [chkE_c] at h
    cases e with
    | Constant k z pos =>
      cases v with
      | non =>
        cases k with
        | none => exact peImp pe_non fun σ H Q ⟨m, env, st, sr, er, f⟩ => Fin.val (v := .non) sr rfl f
        | _ => cases h
      | bl b =>
        cases k with
        | bool d =>
          have hd : b = d := eq_of_beq h
          subst hd
          exact peImp pe_bl fun σ H Q ⟨m, env, st, sr, er, f⟩ => Fin.val (v := .bl b) sr rfl f
        | _ => cases h
      | int b =>
        cases k with
        | int d =>
          have hd : b = d := of_decide_eq_true h
          subst hd
          exact peImp pe_int fun σ H Q ⟨m, env, st, sr, er, f⟩ => Fin.val (v := .int b) sr rfl f
        | _ => cases h
      | str b =>
        cases k with
        | str d =>
          have hd : b = d := of_decide_eq_true h
          subst hd
          exact peImp pe_str fun σ H Q ⟨m, env, st, sr, er, f⟩ => Fin.val (v := .str b) sr rfl f
        | _ => cases h
      | _ => cases h
    | _ => cases h
  | g i =>
    rw [chkE_g] at h
    cases e with
    | Name x pos =>
      simp only [Bool.and_eq_true] at h
      obtain ⟨⟨h1, h2⟩, h3⟩ := h
      obtain ⟨n1, n2, n3⟩ := plainN_ok h3
      cases e : PR.gl[i]? with
      | none =>
        refine peF fun σ H Q ⟨m, env, st, sr, er, f⟩ => ?_
        have f : Fin X.K cl m H (tl PR.gl[i]? st) Q := f
        rw [e] at f
        exact f
      | some v =>
        obtain ⟨u, w, hm, r, rp⟩ := g.wf.gl x i v (of_decide_eq_true h1) e
        refine peImp (pe_glob (glB_ok h2 g.sc) hm r n1) fun σ H Q ⟨m, env, st, sr, er, f⟩ => ?_
        have f : Fin X.K cl m H (tl PR.gl[i]? st) Q := f
        rw [e] at f
        exact Fin.val (v := v) sr (rp H m) f
    | _ => cases h
  | bin o a b =>
    rw [chkE_bin] at h
    cases e with
    | BinOp x p y pos =>
      simp only [Bool.and_eq_true] at h
      obtain ⟨⟨h1, h2⟩, h3⟩ := h
      have hp := opB_ok h1
      subst hp
      refine peImp (pe_op (op_bin (cl := cl) rfl o) (hE _ _ _ _ _ _ X gd h2) (hE _ _ _ _ _ _ X gd h3)) fun σ H Q ⟨m, env, st, sr, er, f⟩ => ?_
      refine rdE_bind (cnE Q) sr er f fun v1 st1 u1 H1 m1 x1 sr1 er1 r1 f1 => ?_
      exact rdE_bind (cnE Q) sr1 er1 f1 fun v2 st2 u2 H2 m2 x2 sr2 er2 r2 f2 => ⟨m2, st2, v1, v2, sr2, r1.mono x2, r2, f2⟩
    | _ => cases h
  | cat mu a b =>
    rw [chkE_cat] at h
    cases e with
    | BinOp x p y pos =>
      cases p with
      | Add =>
        simp only [Bool.and_eq_true] at h
        obtain ⟨h2, h3⟩ := h
        refine peImp (pe_op (op_addL (cl := cl) rfl mu) (hE _ _ _ _ _ _ X gd h2) (hE _ _ _ _ _ _ X gd h3)) fun σ H Q ⟨m, env, st, sr, er, f⟩ => ?_
        refine rdE_bind (cnE Q) sr er f fun v1 st1 u1 H1 m1 x1 sr1 er1 r1 f1 => ?_
        exact rdE_bind (cnE Q) sr1 er1 f1 fun v2 st2 u2 H2 m2 x2 sr2 er2 r2 f2 => ⟨m2, st2, v1, v2, sr2, r1.mono x2, r2, f2⟩
      | _ => cases h
    | _ => cases h
  | neg a =>
    rw [chkE_neg] at h
    cases e with
    | UnaryOp op x pos =>
      cases op with
      | USub =>
        refine peImp (pe_un un_neg (hE _ _ _ _ _ _ X gd h)) fun σ H Q ⟨m, env, st, sr, er, f⟩ => ?_
        refine rdE_bind (cnE Q) sr er f fun v1 st1 u1 H1 m1 x1 sr1 er1 r1 f1 => ?_
        cases v1 with
        | int i => cases r1; exact ⟨i, rfl, Fin.int f1 sr1⟩
        | _ => exact f1.elim
      | _ => cases h
    | _ => cases h
  | not a =>
    rw [chkE_not] at h
    cases e with
    | UnaryOp op x pos =>
      cases op with
      | Not =>
        refine peImp (pe_notT (hE _ _ _ _ _ _ X gd h)) fun σ H Q ⟨m, env, st, sr, er, f⟩ => ?_
        refine rdE_bind (cnE Q) sr er f fun v1 st1 u1 H1 m1 x1 sr1 er1 r1 f1 => ?_
        obtain ⟨k, hk, f2⟩ := tl_bind (cnE Q) f1
        exact ⟨k, truth_ok sr1 r1 hk, Fin.bl f2 sr1⟩
      | _ => cases h
    | _ => cases h
  | cmp o a b =>
    rw [chkE_cmp] at h
    match e, h with
    | .Compare x [p] [y] pos, h =>
      simp only [Bool.and_eq_true, Bool.not_eq_true'] at h
      obtain ⟨⟨⟨h1, h4⟩, h2⟩, h3⟩ := h
      have hp : p = o.op := of_decide_eq_true h1
      subst hp
      refine peImp (pe_cmpR (op_cmp (cl := cl) rfl g.units o) (hE _ _ _ _ _ _ X gd h2) (hE _ _ _ _ _ _ X gd h3) h4) fun σ H Q ⟨m, env, st, sr, er, f⟩ => ?_
      refine rdE_bind (cnE Q) sr er f fun v1 st1 u1 H1 m1 x1 sr1 er1 r1 f1 => ?_
      refine rdE_bind (cnE Q) sr1 er1 f1 fun v2 st2 u2 H2 m2 x2 sr2 er2 r2 f2 => ?_
      obtain ⟨k, hk, f3⟩ := tl_bind (cnE Q) f2
      exact ⟨m2, st2, v1, v2, k, sr2, r1.mono x2, r2, hk, Fin.bl f3 sr2⟩
  | chain o q a b c =>
    rw [chkE_chain] at h
    match e, h with
    | .Compare x [p, p'] [y, z] pos, h =>
      simp only [Bool.and_eq_true, Bool.not_eq_true'] at h
      obtain ⟨⟨⟨⟨⟨h1, h1'⟩, h4⟩, h2⟩, h3⟩, h5⟩ := h
      have hp : p = o.op := of_decide_eq_true h1
      have hp' : p' = q.op := of_decide_eq_true h1'
      subst hp hp'
      refine peImp (pe_chain (op_cmp (cl := cl) rfl g.units o) (op_cmp (cl := cl) rfl g.units q) (hE _ _ _ _ _ _ X gd h2) (hE _ _ _ _ _ _ X gd h3) (hE _ _ _ _ _ _ X gd h5) h4) fun σ H Q ⟨m, env, st, sr, er, f⟩ => ?_
      refine rdE_bind (cnE Q) sr er f fun v1 st1 u1 H1 m1 x1 sr1 er1 r1 f1 => ?_
      refine rdE_bind (cnE Q) sr1 er1 f1 fun v2 st2 u2 H2 m2 x2 sr2 er2 r2 f2 => ?_
      obtain ⟨k, hk, f3⟩ := tl_bind (cnE Q) f2
      refine ⟨m2, st2, v1, v2, k, sr2, r1.mono x2, r2, hk, k, rfl, ?_⟩
      cases k with
      | false => exact Fin.bl f3 sr2
      | true =>
        refine rdE_bind (cnE Q) sr2 er2 f3 fun v3 st3 u3 H3 m3 x3 sr3 er3 r3 f4 => ?_
        obtain ⟨k, hk, f5⟩ := tl_bind (cnE Q) f4
        exact ⟨m3, st3, v2, v3, k, sr3, r2.mono x3, r3, hk, Fin.bl f5 sr3⟩
  | and a b =>
    have key : ∀ {x e2 : Expr} {pos : Pos} {r : List Expr} {y : Expr}, chkE T PR sc top N n a x = true → PE X (.BoolOp .And (y :: r) pos) (rdE X.K cl (ev PR j) b) → PE X (.BoolOp .And (x :: y :: r) pos) (rdE X.K cl (ev PR (j + 1)) (.and a b)) := fun {x e2 pos r y} h1 p2 => by
      refine peImp (pe_and (hE _ _ _ _ _ _ X gd h1) p2) fun σ H Q ⟨m, env, st, sr, er, f⟩ => ?_
      refine rdE_bind (cnE Q) sr er f fun v1 st1 u1 H1 m1 x1 sr1 er1 r1 f1 => ?_
      cases v1 with
      | bl k =>
        cases r1
        refine ⟨k, rfl, ?_⟩
        cases k with
        | true => exact ⟨m1, env, st1, sr1, er1, f1⟩
        | false => exact Fin.bl f1 sr1
      | _ => exact f1.elim
    rw [chkE_and] at h
    match e, h with
    | .BoolOp .And [x, y] pos, h =>
      simp only [Bool.and_eq_true] at h
      exact key (e2 := x) h.1 (pe_one (hE _ _ _ _ _ _ X gd h.2))
    | .BoolOp .And (x :: y :: z :: r) pos, h =>
      simp only [Bool.and_eq_true] at h
      exact key (e2 := x) h.1 (hE _ _ _ _ _ _ X gd h.2)
  | or a b =>
    have key : ∀ {x e2 : Expr} {pos : Pos} {r : List Expr} {y : Expr}, chkE T PR sc top N n a x = true → PE X (.BoolOp .Or (y :: r) pos) (rdE X.K cl (ev PR j) b) → PE X (.BoolOp .Or (x :: y :: r) pos) (rdE X.K cl (ev PR (j + 1)) (.or a b)) := fun {x e2 pos r y} h1 p2 => by
      refine peImp (pe_or (hE _ _ _ _ _ _ X gd h1) p2) fun σ H Q ⟨m, env, st, sr, er, f⟩ => ?_
      refine rdE_bind (cnE Q) sr er f fun v1 st1 u1 H1 m1 x1 sr1 er1 r1 f1 => ?_
      cases v1 with
      | bl k =>
        cases r1
        refine ⟨k, rfl, ?_⟩
        cases k with
        | true => exact Fin.bl f1 sr1
        | false => exact ⟨m1, env, st1, sr1, er1, f1⟩
      | _ => exact f1.elim
    rw [chkE_or] at h
    match e, h with
    | .BoolOp .Or [x, y] pos, h =>
      simp only [Bool.and_eq_true] at h
      exact key (e2 := x) h.1 (pe_one (hE _ _ _ _ _ _ X gd h.2))
    | .BoolOp .Or (x :: y :: z :: r) pos, h =>
      simp only [Bool.and_eq_true] at h
      exact key (e2 := x) h.1 (hE _ _ _ _ _ _ X gd h.2)
  | ite c a b =>
    rw [chkE_ite] at h
    cases e with
    | IfExp t x y pos =>
      simp only [Bool.and_eq_true] at h
      obtain ⟨⟨h1, h2⟩, h3⟩ := h
      refine peImp (pe_ifExp (hT _ _ _ _ _ _ X gd h1).1 (hE _ _ _ _ _ _ X gd h2) (hE _ _ _ _ _ _ X gd h3)) fun σ H Q ⟨m, env, st, sr, er, f⟩ => ?_
      refine rdT_bind (cnE Q) sr er f fun k st1 H1 m1 x1 sr1 er1 f1 => ?_
      cases k with
      | true => exact ⟨m1, env, st1, sr1, er1, f1⟩
      | false => exact ⟨m1, env, st1, sr1, er1, f1⟩
    | _ => cases h
  | tup cs =>
    rw [chkE_tup] at h
    cases e with
    | Tuple es k pos =>
      refine peImp (pe_tup (sl_of hE gd h)) fun σ H Q ⟨m, env, st, sr, er, f⟩ => ?_
      refine rdL_bind (cnE Q) sr er f fun v1 st1 u1 H1 m1 x1 sr1 er1 r1 f1 => ?_
      split at f1
      · rename_i hl
        exact ⟨by rw [← r1.length]; exact hl, fun p hp => f1.at_ (newT sr1 r1 hp)⟩
      · exact f1.elim
    | _ => cases h
  | lst mu cs =>
    rw [chkE_lst] at h
    cases e with
    | List es pos =>
      refine peImp (pe_lst (sl_of hE gd h)) fun σ H Q ⟨m, env, st, sr, er, f⟩ => ?_
      refine rdL_bind (cnE Q) sr er f fun v1 st1 u1 H1 m1 x1 sr1 er1 r1 f1 => ?_
      split at f1
      · rename_i hl
        exact ⟨by rw [← r1.length]; exact hl, fun p hp => mkL_ok sr1 r1 hp f1⟩
      · exact f1.elim
    | _ => cases h
  | nil => cases h
  | comp mu ce tg k its ts => exact hC _ _ _ _ _ _ _ _ _ _ _ X g h
  | idx a i =>
    rw [chkE_idx] at h
    cases e with
    | Subscript x y pos =>
      simp only [Bool.and_eq_true] at h
      obtain ⟨⟨h1, h2⟩, h3⟩ := h
      refine peImp (pe_ix ix_seq (hE _ _ _ _ _ _ X gd h2) (hE _ _ _ _ _ _ X gd h3) (plainIx_ok h1)) fun σ H Q ⟨m, env, st, sr, er, f⟩ => ?_
      refine rdE_bind (cnE Q) sr er f fun v1 st1 u1 H1 m1 x1 sr1 er1 r1 f1 => ?_
      refine rdE_bind (cnE Q) sr1 er1 f1 fun v2 st2 u2 H2 m2 x2 sr2 er2 r2 f2 => ?_
      cases v2 with
      | int k =>
        cases r2
        dsimp only at f2
        cases e : seqOf st2 v1 with
        | none => rw [e] at f2; exact f2.elim
        | some w =>
          obtain ⟨b, xs⟩ := w
          rw [e] at f2
          dsimp only at f2
          cases e2 : atI xs k with
          | none => rw [e2] at f2; exact f2.elim
          | some v =>
            rw [e2] at f2
            exact ix_ok (X := X) rfl (fun y ry => Fin.val (v := v) sr2 ry f2) sr2 (r1.mono x2) e e2
      | _ => exact f2.elim
    | _ => cases h
  | trn a =>
    rw [chkE_trn] at h
    match e, h with
    | .Call (.Name x p1) [.Call (.Name y p2) [.Starred z p3] [] pos2] [] pos1, h =>
      simp only [Bool.and_eq_true] at h
      obtain ⟨⟨⟨⟨⟨⟨h1, h2⟩, h3⟩, h4⟩, h5⟩, h6⟩, h7⟩ := h
      have hx : x = "tuple" := of_decide_eq_true h1
      have hy : y = "zip" := of_decide_eq_true h2
      subst hx hy
      refine peImp (pe_trn g.calm (glB_ok h3 g.sc) (g.wf.bl _ h5) (glB_ok h4 g.sc) (g.wf.bl _ h6) (hE _ _ _ _ _ _ X gd h7)) fun σ H Q ⟨m, env, st, sr, er, f⟩ => ?_
      refine rdE_bind (cnE Q) sr er f fun v1 st1 u1 H1 m1 x1 sr1 er1 r1 f1 => ?_
      cases e1 : seqOf st1 v1 with
      | none => rw [e1] at f1; exact f1.elim
      | some w =>
        obtain ⟨b, xs⟩ := w
        rw [e1] at f1
        dsimp only at f1
        cases e2 : seqsOf st1 xs with
        | none => rw [e2] at f1; exact f1.elim
        | some rows =>
          rw [e2] at f1
          dsimp only at f1
          obtain ⟨p, ys, rfl, rl, k1, k2⟩ := seq_ok sr1 r1 e1
          obtain ⟨src, vr, e3, rv, hl, hs⟩ := seqs_ok sr1 rl e2
          subst e3
          cases rows with
          | nil => exact f1.elim
          | cons r rs =>
            unfold trnR at f1
            dsimp only at f1
            split at f1
            case isFalse => exact f1.elim
            rename_i hc
            obtain ⟨c1, c2, c3, c4⟩ := hc
            have wd : ∀ x ∈ r :: rs, x.length = r.length := fun x hx => (List.mem_cons.mp hx).elim (fun z => by rw [z]) (c4 x)
            have n1 : src.length = rs.length + 1 := by
              rw [← hl, ← rv.length]
              rfl
            have bq : SqB X.K H1 b p (src.map fun p => V.ref p.2) := by
              cases b with
              | true => exact k1 rfl
              | false => exact .inl (.inl (k2 rfl))
            refine ⟨p, b, src, vr, r.length, rfl, bq, hl, fun z => by rw [z] at n1; simp at n1, by omega, hs, rv.wd wd, c2, c3, cols_ok (cp := (List.range' 0 r.length).map (colP (r :: rs))) (dn := []) sr1 ?_ rfl ?_⟩
            · have gen : ∀ is : List Nat, (∀ i ∈ is, i < r.length) → RpLL X.K cl H1 m1 (is.map (colP (r :: rs))) (is.map (colV vr)) := by
                intro is
                induction is with
                | nil => intro _; rfl
                | cons i is ih =>
                  intro h
                  exact ⟨_, _, rfl, rv.col fun x hx => by rw [wd x hx]; exact h i (by simp), ih fun i hi => h i (by simp [hi])⟩
              exact gen _ fun i hi => by
                rw [List.mem_range'] at hi
                omega
            · rw [List.nil_append, List.map_map]
              exact f1
  | slc a lo hi =>
    rw [chkE_slc] at h
    match e, h with
    | .Subscript x (.Slice l hh none p2) pos, h =>
      simp only [Bool.and_eq_true] at h
      obtain ⟨⟨h1, h2⟩, h3⟩ := h
      refine peImp (pe_slice (sl_list.or sl_tup) (hE _ _ _ _ _ _ X gd h1) (po_ok hE gd h2) (po_ok hE gd h3)) fun σ H Q ⟨m, env, st, sr, er, f⟩ => ?_
      refine rdE_bind (cnE Q) sr er f fun v1 st1 u1 H1 m1 x1 sr1 er1 r1 f1 => ?_
      cases e1 : partOf (ev PR j) lo env st1 with
      | exc _ _ => rw [e1] at f1; exact f1.elim
      | bad => rw [e1] at f1; exact f1.elim
      | ok a st2 =>
        rw [e1] at f1
        refine ⟨m1, env, st1, a, st2, sr1, er1, e1, fun H2 m2 x2 sr2 er2 => ?_⟩
        have f2 := Fin.mono x2 f1
        simp only [Res.bind] at f2
        cases e2 : partOf (ev PR j) hi env st2 with
        | exc _ _ => rw [e2] at f2; exact f2.elim
        | bad => rw [e2] at f2; exact f2.elim
        | ok b st3 =>
          rw [e2] at f2
          refine ⟨m2, env, st2, b, st3, sr2, er2, e2, fun H3 m3 x3 sr3 er3 => ?_⟩
          have f3 := Fin.mono x3 f2
          have r3 := r1.mono (x2.trans x3)
          simp only [Res.bind] at f3
          have lst : ∀ xs, seqOf st3 v1 = some (false, xs) → Fin X.K cl m3 H3 (.ok (.lst (cutP xs a b)) st3) Q → rSlL X.K u1 a b H3 Q := fun xs q f => by
            obtain ⟨p, zs, rfl, rl, h1, h2⟩ := seq_ok sr3 r3 q
            exact ⟨p, zs, rfl, .inl (.inl (h2 rfl)), fun l hl => f.at_ (newF sr3 (cut_ok rl a b) hl)⟩
          cases v1 with
          | tup xs =>
            obtain ⟨p, zs, rfl, hp, rl⟩ := r3
            dsimp only at f3
            split at f3
            · exact f3.elim
            · rename_i hw
              refine .inr ⟨p, zs, rfl, hp, by rw [← rl.length]; exact hw, fun l hl => f3.at_ (newT sr3 (cut_ok rl a b) hl)⟩
          | scr ns =>
            obtain ⟨p, rfl, hp⟩ := r3
            have hp : SqL X.K H3 p (ns.map V.int) := hp.imp (fun z => z.1) id
            have rl : ∀ (H : Hp) (m : List Addr) (is : List Int), RpL X.K cl H m (is.map PV.int) (is.map V.int) := fun H m is => by
              induction is with
              | nil => rfl
              | cons i is ih => exact ⟨_, _, rfl, rfl, ih⟩
            exact .inl ⟨p, ns.map V.int, rfl, hp, fun l hl => f3.at_ (newF sr3 (cut_ok (rl _ _ ns) a b) hl)⟩
          | lst xs => exact .inl (lst xs rfl f3)
          | ref k =>
            dsimp only at f3
            cases q : seqOf st3 (PV.ref k) with
            | none => rw [q] at f3; exact f3.elim
            | some w =>
              obtain ⟨z, xs⟩ := w
              rw [q] at f3
              cases z with
              | true => exact f3.elim
              | false => exact .inl (lst xs q f3)
          | _ => exact f3.elim
  | attr a f =>
    rw [chkE_attr] at h
    cases e with
    | Attribute x gg pos =>
      simp only [Bool.and_eq_true] at h
      obtain ⟨⟨h1, h2⟩, h3⟩ := h
      have hf : f = gg := of_decide_eq_true h1
      subst hf
      refine peImp (pe_fld (hE _ _ _ _ _ _ X gd h3) (plainBase_ok h2 _)) fun σ H Q ⟨m, env, st, sr, er, f'⟩ => ?_
      refine rdE_bind (cnE Q) sr er f' fun v1 st1 u1 H1 m1 x1 sr1 er1 r1 f1 => ?_
      cases e : insOf st1 v1 with
      | none => rw [e] at f1; exact f1.elim
      | some w =>
        obtain ⟨c, fs⟩ := w
        rw [e] at f1
        dsimp only at f1
        cases ek : PR.kl[c]? with
        | none => rw [ek] at f1; exact f1.elim
        | some k =>
          rw [ek] at f1
          dsimp only at f1
          split at f1
          · rename_i hin
            cases e2 : fs.lookup f with
            | none => rw [e2] at f1; exact f1.elim
            | some y =>
              rw [e2] at f1
              obtain ⟨p, dx, gs, rfl, hp, rf⟩ := ins_ok sr1 r1 e
              obtain ⟨z, hz, rz⟩ := rf.lookup e2
              exact ⟨p, cl c, dx, gs, z, rfl, hp, g.wf.co.cls c k ek, g.wf.na c k f ek hin, hz, Fin.val (v := y) sr1 rz f1⟩
          · exact f1.elim
    | _ => cases h
  | call f cs =>
    rw [chkE_call] at h
    match e, h with
    | .Call (.Name x p) es [] pos, h =>
      simp only [Bool.and_eq_true] at h
      obtain ⟨⟨⟨⟨⟨h1, h2⟩, h3⟩, h4⟩, h5⟩, h6⟩ := h
      obtain ⟨n1, n2, n3⟩ := plainN_ok h4
      obtain ⟨d, hd, a1, a2⟩ := arB_ok h2
      obtain ⟨m1, m2⟩ := g.wf.fn x f (of_decide_eq_true h1)
      obtain ⟨ds, dvs, hb, hv, hr⟩ := g.wf.bd f d cs.length hd a1 a2
      refine peImp (pe_callA (g.fo j (Nat.lt_succ_self j) f d hd) g.gds (g.room.mono (Nat.le_succ j)) (glB_ok h3 g.sc) m1 m2 hb hv g.passes (sl_of hE gd h5) h6 n1) fun σ H Q ⟨m, env, st, sr, er, f'⟩ => ?_
      refine rdL_bind' (cnE Q) sr er f' fun v1 st1 u1 H1 m1 hl x1 sr1 er1 r1 f1 => ?_
      rw [hd] at f1
      refine ⟨m1, st1, pad d v1, sr1, r1.append ?_, pad_len hl a1 a2, f1⟩
      rw [hl]
      exact hr H1 m1
  | new c mu cs =>
    rw [chkE_new] at h
    match e, h with
    | .Call (.Name x p) es [] pos, h =>
      simp only [Bool.and_eq_true] at h
      obtain ⟨⟨⟨⟨⟨h1, h2⟩, h3⟩, h4⟩, h5⟩, h6⟩ := h
      obtain ⟨n1, n2, n3⟩ := plainN_ok h4
      cases ek : PR.kl[c]? with
      | none => rw [ek] at h2; cases h2
      | some k =>
        obtain ⟨ki, km, ka⟩ := k
        cases ki with
        | none => rw [ek] at h2; cases h2
        | some f =>
          rw [ek] at h2
          obtain ⟨d, hd, a1, a2⟩ := arB_ok h2
          obtain ⟨ds, dvs, hb, hv, hr⟩ := g.wf.bd f d (cs.length + 1) hd a1 a2
          refine peImp (pe_makeA (g.wf.mkc c _ f ek rfl) (g.fo j (Nat.lt_succ_self j) f d hd) g.gds g.room (glB_ok h3 g.sc) (g.wf.cs x c (of_decide_eq_true h1)) hb hv g.passes (sl_of hE gd h5) h6 n1) fun σ H Q ⟨m, env, st, sr, er, f'⟩ => ?_
          refine rdL_bind' (cnE Q) sr er f' fun v1 st1 u1 H1 m1 hl x1 sr1 er1 r1 f1 => ?_
          intro o dx no ndx ne
          rw [ek] at f1
          dsimp only at f1
          rw [hd] at f1
          dsimp only at f1
          unfold newI at f1
          have x0 := Ext.new (m := m1) (HO.own o) ndx
          have sr0 := sr1.new (HO.own o) ndx
          have no0 : upd H1 dx (.own o) o = none := by rw [upd_ne (Ne.symm ne)]; exact no
          obtain ⟨x2, sr2, rr2⟩ := newO (x := .ins c []) (o := .ins (cl c) dx []) sr0 ⟨dx, [], rfl, rfl⟩ no0
          have ex2 := x0.trans x2
          have hpd : pad { d with np := d.np - 1 } v1 = v1 ++ d.dv.drop (d.dv.length - (d.np - (cs.length + 1))) := by
            unfold pad
            rw [hl]
            show v1 ++ d.dv.drop (d.dv.length - (d.np - 1 - cs.length)) = _
            rw [show d.np - 1 - cs.length = d.np - (cs.length + 1) from by omega]
          rw [hpd] at f1
          refine ⟨m1 ++ [o], st1 ++ [.ins c []], .ref st1.length :: (v1 ++ d.dv.drop (d.dv.length - (d.np - (cs.length + 1)))), sr2, ⟨_, _, rfl, rr2, (RpL.mono ex2 _ _ r1).append (hr _ _)⟩, ?_, ?_⟩
          · simp only [List.length_cons, List.length_append, List.length_drop, hl]
            omega
          · show Fin X.K cl (m1 ++ [o]) _ ((ev PR j).call f _ (st1 ++ [.ins c []])) _
            cases q : (ev PR j).call f (.ref st1.length :: (v1 ++ d.dv.drop (d.dv.length - (d.np - (cs.length + 1))))) (st1 ++ [.ins c []]) with
            | exc _ _ => rw [q] at f1; exact f1.elim
            | bad => rw [q] at f1; exact f1.elim
            | ok v st' =>
              rw [q] at f1
              simp only [Res.bind] at f1
              intro u H' m' x3 sr3 r3
              cases v <;> first
                | exact f1.elim
                | skip
              cases r3
              refine ⟨rfl, ?_⟩
              have rr3 := rr2.mono x3
              dsimp only at f1
              split at f1
              · exact f1 _ H' m' (ex2.trans x3) sr3 rr3
              · cases q2 : done st1 false (.ref st1.length) st' with
                | exc _ _ => rw [q2] at f1; exact f1.elim
                | bad => rw [q2] at f1; exact f1.elim
                | ok w st2 =>
                  rw [q2] at f1
                  obtain ⟨m2, y1, y2, y3⟩ := done_ok sr1 (ex2.trans x3) sr3 rr3 q2
                  exact f1 _ H' m2 y1 y2 y3
  | meth a m cs =>
    rw [chkE_meth] at h
    match e, h with
    | .Call (.Attribute x gg apos) es [] pos, h =>
      simp only [Bool.and_eq_true] at h
      obtain ⟨⟨⟨⟨⟨⟨h1, h2⟩, h3⟩, h4⟩, h5⟩, h6⟩, h7⟩ := h
      have hm : m = gg := of_decide_eq_true h1
      subst hm
      refine peImp (pe_methD (hE _ _ _ _ _ _ X gd h5) g.passes (sl_of hE gd h6) h2 h7 (of_decide_eq_true h4) h3) fun σ H Q ⟨m', env, st, sr, er, f'⟩ => ?_
      refine rdE_bind (cnE Q) sr er f' fun v1 st1 u1 H1 m1 x1 sr1 er1 r1 f1 => ?_
      cases e1 : insOf st1 v1 with
      | none => rw [e1] at f1; exact f1.elim
      | some w =>
        obtain ⟨c, fs⟩ := w
        rw [e1] at f1
        dsimp only at f1
        cases ek : PR.kl[c]? with
        | none => rw [ek] at f1; exact f1.elim
        | some k =>
          cases el : fs.lookup m with
          | some _ => rw [ek, el] at f1; exact f1.elim
          | none =>
            rw [ek, el] at f1
            dsimp only at f1
            cases em : k.ms.lookup m with
            | none => rw [em] at f1; exact f1.elim
            | some f =>
              rw [em] at f1
              dsimp only at f1
              cases hd : PR.df[f]? with
              | none => rw [hd] at f1; exact f1.elim
              | some d =>
                rw [hd] at f1
                dsimp only at f1
                obtain ⟨p, dx, gs, rfl, hp, rf⟩ := ins_ok sr1 r1 e1
                have hpd : ∀ v1 : List PV, v1.length = cs.length → pad { d with np := d.np - 1 } v1 = v1 ++ d.dv.drop (d.dv.length - (d.np - (cs.length + 1))) := fun v1 hl => by
                  unfold pad
                  rw [hl]
                  show v1 ++ d.dv.drop (d.dv.length - (d.np - 1 - cs.length)) = _
                  rw [show d.np - 1 - cs.length = d.np - (cs.length + 1) from by omega]
                by_cases ar : cs.length + 1 ≤ d.np ∧ d.np - (cs.length + 1) ≤ d.dv.length
                · obtain ⟨ds, dvs, hb, hv, hr⟩ := g.wf.bd f d (cs.length + 1) hd ar.1 ar.2
                  refine ⟨p, cl c, fa f, j, fd f, ps f, _, ds, dvs, dx, gs, rfl, hp, g.wf.co.cls c k ek, g.wf.ms c k m f ek em, g.fo j (Nat.lt_succ_self j) f d hd, g.gds, g.room.mono (Nat.le_succ j), hb, hv, rf.lookupN el, ?_⟩
                  refine rdL_bind' (cnE Q) sr1 er1 f1 fun v2 st2 u2 H2 m2 hl x2 sr2 er2 r2 f2 => ?_
                  rw [hpd v2 hl] at f2
                  refine ⟨m2, st2, v1 :: (v2 ++ d.dv.drop (d.dv.length - (d.np - (cs.length + 1)))), sr2, ⟨_, _, rfl, r1.mono x2, r2.append (hr H2 m2)⟩, ?_, f2⟩
                  simp only [List.length_cons, List.length_append, List.length_drop, hl]
                  omega
                · exfalso
                  cases q : evL (ev PR j) cs env st1 with
                  | exc _ _ => rw [q] at f1; exact f1.elim
                  | bad => rw [q] at f1; exact f1.elim
                  | ok v2 st2 =>
                    rw [q] at f1
                    simp only [Res.bind] at f1
                    have hl := evL_len q
                    rw [hpd v2 hl, call_len hd (by simp only [List.length_cons, List.length_append, List.length_drop, hl]; omega)] at f1
                    exact f1.elim
  | bi b cs =>
    rw [chkE_bi] at h
    match e, h with
    | .Call (.Name x p) es [] pos, h =>
      simp only [Bool.and_eq_true] at h
      obtain ⟨⟨⟨h1, h2⟩, h3⟩, h4⟩ := h
      obtain ⟨n1, n2, n3⟩ := plainN_ok h3
      have hx : x = biN b := of_decide_eq_true h1
      have plain : isIsi b = false → chkL T PR sc top N n cs es = true → es.all notStar = true → (!es.isEmpty) = true →
          (∀ {pins s σ H} {Q : Value → Shared → Prop}, Inv X pins σ H s → Q b.id s → wpAny (model X.prog X.w) X.A (eval (.Name x p) X.env) Q X.xe s) → PE X (.Call (.Name x p) es [] pos) (rdE X.K cl (ev PR (j + 1)) (.bi b cs)) := fun hb c1 c2 c3 hl => by
        have hne : es ≠ [] := by
          rintro rfl
          cases c3
        refine peImp (pe_callV (bi_id b) (cr_bi (cl := cl) rfl g.calm g.gds g.units PR.isl PR.kl.length b hb) hl (sl_of hE gd c1) c2 hne) fun σ H Q ⟨m, env, st, sr, er, f⟩ => ?_
        exact rdL_bind (cnE Q) sr er f fun v1 st1 u1 H1 m1 x1 sr1 er1 r1 f1 => ⟨m1, st1, v1, sr1, r1, f1⟩
      have blt : isIsi b = false → isGcd b = false → T.bls.contains x = true → ∀ {pins s σ H} {Q : Value → Shared → Prop}, Inv X pins σ H s → Q b.id s → wpAny (model X.prog X.w) X.A (eval (.Name x p) X.env) Q X.xe s :=
        fun i1 i2 i3 {pins s σ H Q} I q => ld_blt I (glB_ok h2 g.sc) (g.wf.bl x i3) (by rw [hx]; exact boot_bi b i1 i2) q n3 n1
      cases b with
      | isi c =>
        simp only [Bool.and_eq_true] at h4
        exact isE_ok hE g hx h2 h4.1 h4.2
      | isiT c =>
        simp only [Bool.and_eq_true] at h4
        exact isT_ok hE g (of_decide_eq_true h4.1.1) hx h2 h4.1.2 h4.2
      | gcd =>
        simp only [Bool.and_eq_true] at h4
        obtain ⟨⟨⟨c0, c1⟩, c2⟩, c3⟩ := h4
        refine plain rfl c1 c2 c3 fun {pins s σ H Q} I q => ld_glob I (glB_ok h2 g.sc) (by rw [hx]; exact g.wf.gc c0) q n1
      | _ =>
        simp only [Bool.and_eq_true] at h4
        obtain ⟨⟨⟨c0, c1⟩, c2⟩, c3⟩ := h4
        exact plain rfl c1 c2 c3 (blt rfl rfl c0)
end
end Pv

set_option Elab.async false
set_option linter.all false
set_option maxRecDepth 100000
set_option maxHeartbeats 2000000
/-! Tests, one step. -/
namespace Pv
open PySem PySem.Spec PyProof.Rows L2
section
variable {CX : CXT} {T : Tab} {PR : Prog} {cl fa : Nat → Addr} {fd : Nat → FuncData} {ps : Nat → List Str}
variable {j : Nat} {sc : Scope} {top : Top} {N : List Str} {X : Cx} {n : Nat}
theorem st_zero : STn CX T PR cl fa fd ps 0 := fun sc top N n c e X g h => ⟨⟨fun pins s σ H Q I ⟨m, env, st, sr, er, f⟩ => (show False from f).elim⟩, fun _ => ⟨fun wh pins s σ H Q I ⟨m, env, st, sr, er, f⟩ => (show False from f).elim⟩⟩
theorem FinB.val {m : List Addr} {H : Hp} {st : Store} {K : W.Frag} {k : Bool} {Q : Bool → Hp → Prop} (f : FinB K cl m H (.ok k st) Q) (sr : SR K cl H m st) : Q k H := f H m (Ext.refl _ _) sr
theorem st_succ (hE : SEn CX T PR cl fa fd ps j) (hT : STn CX T PR cl fa fd ps j) : STn CX T PR cl fa fd ps (j + 1) := by
  intro sc top N n c e X g h
  cases n with
  | zero => cases h
  | succ n =>
  have gd := g.down (Nat.le_succ j)
  -- any other
  have other : plainTrue e = true → (∀ env st, (ev PR (j + 1)).T c env st = ((ev PR j).E c env st).bind fun v st => tl (truth st v) st) → PT X e (rdT X.K cl (ev PR (j + 1)) c) ∧ (isBo e = true → PW X e (rdT X.K cl (ev PR (j + 1)) c)) := fun hp ht => by
    refine ⟨ptImp (pt_truth (hE sc top N (n + 1) c e X gd h) fun wh => plainTrue_ok hp wh) fun σ H Q ⟨m, env, st, sr, er, f⟩ => ?_, fun hb => ?_⟩
    · have f : FinB X.K cl m H ((ev PR (j + 1)).T c env st) Q := f
      rw [ht] at f
      refine rdE_bind (cnB Q) sr er f fun v1 st1 u1 H1 m1 x1 sr1 er1 r1 f1 => ?_
      obtain ⟨k, hk, f2⟩ : ∃ a, truth st1 v1 = some a ∧ FinB X.K cl m1 H1 (.ok a st1) Q := by
        cases q : truth st1 v1 with
        | none => rw [q] at f1; exact f1.elim
        | some a => rw [q] at f1; exact ⟨a, rfl, f1⟩
      exact ⟨k, truth_ok sr1 r1 hk, f2.val sr1⟩
    · cases e <;> first
        | (cases hb; done)
        | (cases hp; done)
  cases c with
  | and a b =>
    rw [chkE_and] at h
    have key : ∀ {x : Expr} {pos : Pos} {r : List Expr} {y : Expr}, chkE T PR sc top N n a x = true → PW X (.BoolOp .And (y :: r) pos) (rdT X.K cl (ev PR j) b) → PW X (.BoolOp .And (x :: y :: r) pos) (rdT X.K cl (ev PR (j + 1)) (.and a b)) := fun {x pos r y} h1 p2 => by
      refine pwImp (pw_and (hT _ _ _ _ _ _ X gd h1).1 p2) fun σ H Q ⟨m, env, st, sr, er, f⟩ => ?_
      refine rdT_bind (cnB Q) sr er f fun k st1 H1 m1 x1 sr1 er1 f1 => ?_
      cases k with
      | true => exact ⟨m1, env, st1, sr1, er1, f1⟩
      | false => exact FinB.val f1 sr1
    have both : ∀ {e : Expr}, PW X e (rdT X.K cl (ev PR (j + 1)) (.and a b)) → PT X e (rdT X.K cl (ev PR (j + 1)) (.and a b)) ∧ (isBo e = true → PW X e (rdT X.K cl (ev PR (j + 1)) (.and a b))) := fun p => ⟨p.pt, fun _ => p⟩
    match e, h with
    | .BoolOp .And [x, y] pos, h =>
      simp only [Bool.and_eq_true] at h
      exact both (key h.1 (pw_and1 (hT _ _ _ _ _ _ X gd h.2).1))
    | .BoolOp .And (x :: y :: z :: r) pos, h =>
      simp only [Bool.and_eq_true] at h
      exact both (key h.1 ((hT _ _ _ _ _ _ X gd h.2).2 rfl))
  | or a b =>
    rw [chkE_or] at h
    have key : ∀ {x : Expr} {pos : Pos} {r : List Expr} {y : Expr}, chkE T PR sc top N n a x = true → PW X (.BoolOp .Or (y :: r) pos) (rdT X.K cl (ev PR j) b) → PW X (.BoolOp .Or (x :: y :: r) pos) (rdT X.K cl (ev PR (j + 1)) (.or a b)) := fun {x pos r y} h1 p2 => by
      refine pwImp (pw_or (hT _ _ _ _ _ _ X gd h1).1 p2) fun σ H Q ⟨m, env, st, sr, er, f⟩ => ?_
      refine rdT_bind (cnB Q) sr er f fun k st1 H1 m1 x1 sr1 er1 f1 => ?_
      cases k with
      | true => exact FinB.val f1 sr1
      | false => exact ⟨m1, env, st1, sr1, er1, f1⟩
    have both : ∀ {e : Expr}, PW X e (rdT X.K cl (ev PR (j + 1)) (.or a b)) → PT X e (rdT X.K cl (ev PR (j + 1)) (.or a b)) ∧ (isBo e = true → PW X e (rdT X.K cl (ev PR (j + 1)) (.or a b))) := fun p => ⟨p.pt, fun _ => p⟩
    match e, h with
    | .BoolOp .Or [x, y] pos, h =>
      simp only [Bool.and_eq_true] at h
      exact both (key h.1 (pw_or1 (hT _ _ _ _ _ _ X gd h.2).1))
    | .BoolOp .Or (x :: y :: z :: r) pos, h =>
      simp only [Bool.and_eq_true] at h
      exact both (key h.1 ((hT _ _ _ _ _ _ X gd h.2).2 rfl))
  | not a =>
    rw [chkE_not] at h
    match e, h with
    | .UnaryOp .Not x pos, h =>
      refine ⟨ptImp (pt_not (hT _ _ _ _ _ _ X gd h).1) fun σ H Q ⟨m, env, st, sr, er, f⟩ => ?_, fun z => by cases z⟩
      exact rdT_bind (cnB Q) sr er f fun k st1 H1 m1 x1 sr1 er1 f1 => FinB.val f1 sr1
  | ite c a b =>
    rw [chkE_ite] at h
    match e, h with
    | .IfExp t x y pos, h =>
      simp only [Bool.and_eq_true] at h
      obtain ⟨⟨h1, h2⟩, h3⟩ := h
      have p1 := (hT _ _ _ _ _ _ X gd h1).1
      have p2 := (hT _ _ _ _ _ _ X gd h2).1
      have p3 := (hT _ _ _ _ _ _ X gd h3).1
      refine ⟨⟨fun pins s σ H Q I ⟨m, env, st, sr, er, f⟩ => ?_⟩, fun z => by cases z⟩
      have q : rdT X.K cl (ev PR j) c σ H fun k H1 => if k = true then rdT X.K cl (ev PR j) a σ H1 Q else rdT X.K cl (ev PR j) b σ H1 Q := by
        refine rdT_bind (cnB Q) sr er f fun k st1 H1 m1 x1 sr1 er1 f1 => ?_
        cases k with
        | true => exact ⟨m1, env, st1, sr1, er1, f1⟩
        | false => exact ⟨m1, env, st1, sr1, er1, f1⟩
      show wpAny _ _ (do if ← isTrue t X.env (eval t X.env) then isTrue x X.env (eval x X.env) else isTrue y X.env (eval y X.env)) _ _ s
      refine wpAny_bind (thn (p1.run pins s σ H _ I q) fun k s1 ⟨H1, I1, q1⟩ => ?_)
      cases k with
      | true => exact p2.run pins s1 σ H1 Q I1 q1
      | false => exact p3.run pins s1 σ H1 Q I1 q1
  | cmp o a b =>
    rw [chkE_cmp] at h
    match e, h with
    | .Compare x [p] [y] pos, h =>
      simp only [Bool.and_eq_true, Bool.not_eq_true'] at h
      obtain ⟨⟨⟨h1, h4⟩, h2⟩, h3⟩ := h
      have hp : p = o.op := of_decide_eq_true h1
      subst hp
      refine ⟨ptImp (pt_cmpR (op_cmp (cl := cl) rfl g.units o) (hE _ _ _ _ _ _ X gd h2) (hE _ _ _ _ _ _ X gd h3) h4) fun σ H Q ⟨m, env, st, sr, er, f⟩ => ?_, fun z => by cases z⟩
      refine rdE_bind (cnB Q) sr er f fun v1 st1 u1 H1 m1 x1 sr1 er1 r1 f1 => ?_
      refine rdE_bind (cnB Q) sr1 er1 f1 fun v2 st2 u2 H2 m2 x2 sr2 er2 r2 f2 => ?_
      cases q : cmpR o v1 v2 st2 with
      | none => rw [q] at f2; exact f2.elim
      | some k =>
        rw [q] at f2
        exact ⟨m2, st2, v1, v2, k, sr2, r1.mono x2, r2, q, k, rfl, FinB.val f2 sr2⟩
  | chain o q a b c =>
    rw [chkE_chain] at h
    match e, h with
    | .Compare x [p, p'] [y, z] pos, h =>
      simp only [Bool.and_eq_true, Bool.not_eq_true'] at h
      obtain ⟨⟨⟨⟨⟨h1, h1'⟩, h4⟩, h2⟩, h3⟩, h5⟩ := h
      have hp : p = o.op := of_decide_eq_true h1
      have hp' : p' = q.op := of_decide_eq_true h1'
      subst hp hp'
      refine ⟨ptImp (pt_chain (op_cmp (cl := cl) rfl g.units o) (op_cmp (cl := cl) rfl g.units q) (hE _ _ _ _ _ _ X gd h2) (hE _ _ _ _ _ _ X gd h3) (hE _ _ _ _ _ _ X gd h5) h4) fun σ H Q ⟨m, env, st, sr, er, f⟩ => ?_, fun z => by cases z⟩
      refine rdE_bind (cnB Q) sr er f fun v1 st1 u1 H1 m1 x1 sr1 er1 r1 f1 => ?_
      refine rdE_bind (cnB Q) sr1 er1 f1 fun v2 st2 u2 H2 m2 x2 sr2 er2 r2 f2 => ?_
      obtain ⟨k, hk, f3⟩ := tl_bind (cnB Q) f2
      refine ⟨m2, st2, v1, v2, k, sr2, r1.mono x2, r2, hk, k, rfl, ?_⟩
      cases k with
      | false => exact ⟨false, rfl, FinB.val f3 sr2⟩
      | true =>
        refine rdE_bind (cnB Q) sr2 er2 f3 fun v3 st3 u3 H3 m3 x3 sr3 er3 r3 f4 => ?_
        cases qq : cmpR q v2 v3 st3 with
        | none => rw [qq] at f4; exact f4.elim
        | some k =>
          rw [qq] at f4
          exact ⟨m3, st3, v2, v3, k, sr3, r2.mono x3, r3, qq, k, rfl, FinB.val f4 sr3⟩
  | v i =>
    refine other ?_ fun _ _ => rfl
    rw [chkE_v] at h
    cases e <;> first | rfl | cases h
  | c v =>
    refine other ?_ fun _ _ => rfl
    rw [chkE_c] at h
    cases e <;> first | rfl | cases h
  | g i =>
    refine other ?_ fun _ _ => rfl
    rw [chkE_g] at h
    cases e <;> first | rfl | cases h
  | bin o a b =>
    refine other ?_ fun _ _ => rfl
    rw [chkE_bin] at h
    cases e <;> first | rfl | cases h
  | cat mu a b =>
    refine other ?_ fun _ _ => rfl
    rw [chkE_cat] at h
    cases e <;> first | rfl | cases h
  | neg a =>
    refine other ?_ fun _ _ => rfl
    rw [chkE_neg] at h
    match e, h with
    | .UnaryOp .USub x pos, h => rfl
  | tup cs =>
    refine other ?_ fun _ _ => rfl
    rw [chkE_tup] at h
    cases e <;> first | rfl | cases h
  | lst mu cs =>
    refine other ?_ fun _ _ => rfl
    rw [chkE_lst] at h
    cases e <;> first | rfl | cases h
  | idx a i =>
    refine other ?_ fun _ _ => rfl
    rw [chkE_idx] at h
    cases e <;> first | rfl | cases h
  | trn a =>
    refine other ?_ fun _ _ => rfl
    rw [chkE_trn] at h
    cases e <;> first | rfl | cases h
  | slc a lo hi =>
    refine other ?_ fun _ _ => rfl
    rw [chkE_slc] at h
    cases e <;> first | rfl | cases h
  | nil => cases h
  | attr a f =>
    refine other ?_ fun _ _ => rfl
    rw [chkE_attr] at h
    cases e <;> first | rfl | cases h
  | call f cs =>
    refine other ?_ fun _ _ => rfl
    rw [chkE_call] at h
    cases e <;> first | rfl | cases h
  | new c mu cs =>
    refine other ?_ fun _ _ => rfl
    rw [chkE_new] at h
    cases e <;> first | rfl | cases h
  | meth a m cs =>
    refine other ?_ fun _ _ => rfl
    rw [chkE_meth] at h
    cases e <;> first | rfl | cases h
  | bi b cs =>
    refine other ?_ fun _ _ => rfl
    rw [chkE_bi] at h
    cases e <;> first | rfl | cases h
  | comp mu ce tg k its ts =>
    refine other ?_ fun _ _ => rfl
    rw [chkE_comp] at h
    cases e <;> first | rfl | cases h
end
end Pv

set_option Elab.async false
set_option linter.all false
set_option maxRecDepth 100000
set_option maxHeartbeats 2000000
/-! Targets; what a loop walks. -/
namespace Pv
open PySem PySem.Spec PyProof.Rows L2
/-- only these slots differ -/
def OnlyAt (is : List Nat) (σ σ' : L2.St) : Prop := σ'.length = σ.length ∧ ∀ i, i ∉ is → σ'[i]? = σ[i]?
theorem OnlyAt.refl (σ : L2.St) : OnlyAt [] σ σ := ⟨rfl, fun _ _ => rfl⟩
theorem OnlyAt.trans {is js : List Nat} {σ σ1 σ2 : L2.St} (a : OnlyAt is σ σ1) (b : OnlyAt js σ1 σ2) : OnlyAt (is ++ js) σ σ2 :=
  ⟨b.1.trans a.1, fun i hi => by
    rw [List.mem_append, not_or] at hi
    rw [b.2 i hi.2, a.2 i hi.1]⟩
theorem OnlyAt.set (σ : L2.St) (i : Nat) (x : Option V) : OnlyAt [i] σ (σ.set i x) :=
  ⟨by simp, fun k hk => by rw [List.mem_singleton] at hk; rw [List.getElem?_set_ne (Ne.symm hk)]⟩
theorem wipe_get {σ : L2.St} {i : Nat} : ∀ {vs : List Nat}, (wipe σ vs)[i]? = if i ∈ vs ∧ i < σ.length then some none else σ[i]?
  | [] => by simp [wipe]
  | v :: vs => by
    unfold wipe
    by_cases hi : v = i
    · subst hi
      by_cases hl : v < σ.length
      · rw [List.getElem?_set_self (by rw [wipe_length]; exact hl), if_pos ⟨by simp, hl⟩]
      · rw [if_neg (fun z => hl z.2), List.getElem?_eq_none (by simp [wipe_length]; omega), List.getElem?_eq_none (by omega)]
    · rw [List.getElem?_set_ne hi, wipe_get (vs := vs)]
      have : (i ∈ v :: vs) ↔ i ∈ vs := by simp [Ne.symm hi]
      simp only [this]
theorem OnlyAt.wipe {is : List Nat} {σ σ' : L2.St} (h : OnlyAt is σ σ') : wipe σ' is = L2.wipe σ is := by
  apply List.ext_getElem?
  intro i
  rw [wipe_get, wipe_get, h.1]
  by_cases hi : i ∈ is ∧ i < σ.length
  · rw [if_pos hi, if_pos hi]
  · rw [if_neg hi, if_neg hi]
    by_cases hm : i ∈ is
    · have : ¬ i < σ.length := fun z => hi ⟨hm, z⟩
      rw [List.getElem?_eq_none (by rw [h.1]; omega), List.getElem?_eq_none (by omega)]
    · exact h.2 i hm
section
variable (K : W.Frag) (cl : Nat → Addr)
def rdG (tg : Tg) : TG := fun v σ H Q => ∃ m env st x env', SR K cl H m st ∧ ER K cl H m env σ ∧ Rp K cl H m x v ∧ asg tg x env = some env' ∧ ∀ σ', ER K cl H m env' σ' → OnlyAt (slots tg) σ σ' → Q σ' H
def rdGs (tg : List Tg) : TGs := fun vs σ H Q => ∃ m env st xs env', SR K cl H m st ∧ ER K cl H m env σ ∧ RpL K cl H m xs vs ∧ asgs tg xs env = some env' ∧ ∀ σ', ER K cl H m env' σ' → OnlyAt (slotss tg) σ σ' → Q σ' H
end
section
variable {CX : CXT} {T : Tab} {PR : Prog} {cl fa : Nat → Addr} {fd : Nat → FuncData} {ps : Nat → List Str}
variable {j : Nat} {sc : Scope} {top : Top} {N : List Str} {X : Cx}
theorem pgImp {e : Expr} {t t' : TG} (h : PG X e t) (k : ∀ v σ H Q, t' v σ H Q → t v σ H Q) : PG X e t' := ⟨fun pins s σ H v u Q I r q => h.run pins s σ H v u Q I r (k v σ H Q q)⟩
theorem pgsImp {e : List Expr} {t t' : TGs} (h : PGs X e t) (k : ∀ v σ H Q, t' v σ H Q → t v σ H Q) : PGs X e t' := ⟨fun pins s σ H v u Q I r q => h.run pins s σ H v u Q I r (k v σ H Q q)⟩
theorem locB_ok {x : Str} (g : Good CX T PR cl fa fd ps j sc top N X) (h : locB sc top x = true) : L2.Loc X.env.scope x ∧ (X.fn x = true ∨ X.env.scope.names.lookup x = some .local) := by
  unfold locB at h
  rw [g.sc]
  unfold L2.Loc
  split at h
  · rename_i e; exact ⟨.inl e, .inr e⟩
  · rename_i e; exact ⟨.inr e, .inl (g.fn x h)⟩
  · cases h
mutual
theorem tg_ok (g : Good CX T PR cl fa fd ps j sc top N X) : ∀ (tg : Tg) (e : Expr), tgB sc top N tg e = true → PG X e (rdG X.K cl tg)
  | .n i, e, h => by
    match e, h with
    | .Name x pos, h =>
      simp only [tgB, Bool.and_eq_true] at h
      obtain ⟨l1, l2⟩ := locB_ok g h.2
      refine pgImp (pg_name (by rw [g.hN]; exact g.nd) (by rw [g.hN]; exact of_decide_eq_true h.1) l1 l2) fun v σ H Q ⟨m, env, st, x, env', sr, er, r, ha, k⟩ => ?_
      unfold asg at ha
      split at ha
      · cases ha
        exact k _ (er.set r) (OnlyAt.set σ i _)
      · cases ha
  | .t ts, e, h => by
    match e, h with
    | .Tuple es kk pos, h =>
      simp only [tgB, Bool.and_eq_true] at h
      refine pgImp (pg_tup g.calm (tgs_ok g ts es h.1) assign_len (assign_star h.2)) fun v σ H Q ⟨m, env, st, x, env', sr, er, r, ha, k⟩ => ?_
      cases x with
      | tup xs =>
        obtain ⟨a, ys, rfl, hq, rl⟩ := r
        unfold asg at ha
        exact ⟨a, ys, rfl, hq, by rw [← rl.length]; exact asgs_len ha h.1, m, env, st, xs, env', sr, er, rl, ha, k⟩
      | _ => unfold asg at ha; cases ha
theorem asgs_len {ts : List Tg} {xs : List PV} {env env' : En} {es : List Expr} (h : asgs ts xs env = some env') (hb : tgBs sc top N ts es = true) : xs.length = es.length := by
  match ts, xs, es, h, hb with
  | [], [], [], _, _ => rfl
  | t :: ts, x :: xs, e :: es, h, hb =>
    unfold asgs at h
    simp only [tgBs, Bool.and_eq_true] at hb
    cases q : asg t x env with
    | none => rw [q] at h; cases h
    | some e1 =>
      rw [q] at h
      simp [asgs_len h hb.2]
  | [], _ :: _, _, h, _ => unfold asgs at h; cases h
  | _ :: _, [], _, h, _ => unfold asgs at h; cases h
  | [], _, _ :: _, _, hb => cases hb
  | _ :: _, _, [], _, hb => cases hb
theorem tgs_ok (g : Good CX T PR cl fa fd ps j sc top N X) : ∀ (ts : List Tg) (es : List Expr), tgBs sc top N ts es = true → PGs X es (rdGs X.K cl ts)
  | [], [], h => by
    refine pgsImp pgs_nil fun vs σ H Q ⟨m, env, st, xs, env', sr, er, r, ha, k⟩ => ?_
    cases xs with
    | nil =>
      cases r
      cases ha
      exact ⟨rfl, k σ er (OnlyAt.refl σ)⟩
    | cons _ _ => unfold asgs at ha; cases ha
  | t :: ts, e :: es, h => by
    simp only [tgBs, Bool.and_eq_true] at h
    have ne : notStar e = true := by
      cases e <;> first
        | rfl
        | (cases t <;> (unfold tgB at h; have := h.1; cases this))
    refine pgsImp (pgs_cons (tg_ok g t e h.1) (tgs_ok g ts es h.2) (by rw [assign_cons ne]; rfl)) fun vs σ H Q ⟨m, env, st, xs, env', sr, er, r, ha, k⟩ => ?_
    cases xs with
    | nil => unfold asgs at ha; cases ha
    | cons x xs =>
      obtain ⟨y, zs, rfl, r1, r2⟩ := r
      unfold asgs at ha
      cases q : asg t x env with
      | none => rw [q] at ha; cases ha
      | some e1 =>
        rw [q] at ha
        exact ⟨y, zs, rfl, m, env, st, x, e1, sr, er, r1, q, fun σ1 er1 o1 => ⟨m, e1, st, xs, env', sr, er1, r2, ha, fun σ2 er2 o2 => k σ2 er2 (o1.trans o2)⟩⟩
  | [], _ :: _, h => by cases h
  | _ :: _, [], h => by cases h
end

/-! ### what a loop walks -/
/-- the walker J hands out these items, while g holds -/
structure WkOk (K : W.Frag) (cl : Nat → Addr) (m₀ : List Addr) (H₀ : Hp) (J : It) (xs : List PV) (g : Store → Prop) : Prop where
  go : ∀ {m H st i}, Ext m₀ H₀ m H → SR K cl H m st → g st → i < xs.length → J.go i H
  stop : ∀ {m H st i}, Ext m₀ H₀ m H → SR K cl H m st → g st → xs.length ≤ i → J.stop i H
  yld : ∀ {m H st i x H' v}, Ext m₀ H₀ m H → SR K cl H m st → g st → xs[i]? = some v → J.yld i H x H' → Ext m H m H' ∧ SR K cl H' m st ∧ Rp K cl H' m v x
theorem WkOk.imp {K : W.Frag} {m₀ m₁ : List Addr} {H₀ H₁ : Hp} {J : It} {xs : List PV} {g : Store → Prop} (w : WkOk K cl m₀ H₀ J xs g) (e : Ext m₀ H₀ m₁ H₁) : WkOk K cl m₁ H₁ J xs g :=
  ⟨fun x => w.go (e.trans x), fun x => w.stop (e.trans x), fun x => w.yld (e.trans x)⟩
def FinI (K : W.Frag) (cl : Nat → Addr) (m : List Addr) (H : Hp) (env : En) (σ : L2.St) (k : Ik) (res : Res (List PV)) (R : It → Hp → Prop) : Prop := match res with
  | .ok vs st' => match walk k vs st' with
    | some (xs, g) => ∀ J H' m', Ext m H m' H' → SR K cl H' m' st' → ER K cl H' m' env σ → WkOk K cl m' H' J xs g → R J H'
    | none => False
  | _ => False
def rdI (K : W.Frag) (cl : Nat → Addr) (r : Ev) (k : Ik) (cs : List Ex) : TI := fun σ H R => At K cl σ H fun m env st => FinI K cl m H env σ k (evL r cs env st) R
def iSeq (K : W.Frag) (tl : TE) : TI := fun σ H R => tl σ H fun x H1 => ∃ a, x = .ref a ∧ (((∃ xs, SqL K H1 a xs) ∧ R (Itl K a) H1) ∨ ((∃ xs, SqT K H1 a xs) ∧ R (Itt K a) H1))
theorem pi_seq {tg l : Expr} {tl : TE} (hl : PE X l tl) : PI X tg l (iSeq X.K tl) := by
  refine ⟨fun pins s σ H R I h => ?_⟩
  refine thn (hl.run pins s σ H _ I h) fun v s1 ⟨x, H1, I1, r1, q1⟩ => ?_
  obtain ⟨a, e, q⟩ := q1
  subst e
  cases r1
  rcases q with ⟨⟨xs, hq⟩, q⟩ | ⟨⟨xs, hq⟩, q⟩
  · obtain ⟨its, rv, p, hz⟩ := I1.list hq
    refine wpAny_pyIter_list p.isList ?_
    refine ⟨s1.heap.objs.size, [s1.heap.objs.size], _, _, H1, rfl, I1.kept (t' := s1.toks) fun b o e => Heap.get?_push_of_some _ e, turn_list a _, ⟨_, Heap.get?_push_size _ rfl, rfl, rfl⟩, fun b hb => ?_, q⟩
    have e : b = s1.heap.objs.size := by simpa using hb
    subst e
    exact I1.fpOk (Nat.le_refl _) (I1.hok.fresh (Nat.le_refl _))
  · obtain ⟨its, rv, p, hz⟩ := I1.tuple hq
    refine wpAny_pyIter_tuple (show s1.heap.IsTuple a its.toArray from p) ?_
    refine ⟨s1.heap.objs.size, [s1.heap.objs.size], _, _, H1, rfl, I1.kept (t' := s1.toks) fun b o e => Heap.get?_push_of_some _ e, turn_tuple a _, ⟨_, Heap.get?_push_size _ rfl, rfl, rfl⟩, fun b hb => ?_, q⟩
    have e : b = s1.heap.objs.size := by simpa using hb
    subst e
    exact I1.fpOk (Nat.le_refl _) (I1.hok.fresh (Nat.le_refl _))
theorem piImp {tg e : Expr} {t t' : TI} (h : PI X tg e t) (k : ∀ σ H R, t' σ H R → t σ H R) : PI X tg e t' := ⟨fun pins s σ H R I q => h.run pins s σ H R I (k σ H R q)⟩
theorem wk_seqL {K : W.Frag} {m : List Addr} {H : Hp} {a : Addr} {v : PV} {b : Bool} {xs : List PV} (r : Rp K cl H m v (.ref a)) (hb : b = false) : WkOk K cl m H (Itl K a) xs (fun st' => seqOf st' v = some (b, xs)) := by
  subst hb
  have look : ∀ {m1 H1 st}, Ext m H m1 H1 → SR K cl H1 m1 st → seqOf st v = some (false, xs) → ∃ ys, SqL K H1 a ys ∧ RpL K cl H1 m1 xs ys := fun {m1 H1 st} e sr g => by
    obtain ⟨p, ys, e1, rl, _, h2⟩ := seq_ok sr (r.mono e) g
    cases e1
    exact ⟨ys, .inl (.inl (h2 rfl)), rl⟩
  refine ⟨fun {m1 H1 st i} e sr g hi => ?_, fun {m1 H1 st i} e sr g hi => ?_, fun {m1 H1 st i x H' v'} e sr g hv hy => ?_⟩
  · obtain ⟨ys, hs, rl⟩ := look e sr g
    obtain ⟨y, hy, _⟩ := rl.get (List.getElem?_eq_getElem hi)
    exact ⟨ys, y, hs, hy⟩
  · obtain ⟨ys, hs, rl⟩ := look e sr g
    exact ⟨ys, hs, by rw [← rl.length]; exact hi⟩
  · obtain ⟨ys, hs, rl⟩ := look e sr g
    obtain ⟨y, hy', ry⟩ := rl.get hv
    obtain ⟨rfl, f⟩ := hy
    have : y = x := Option.some.inj (hy'.symm.trans (f ys hs))
    subst this
    exact ⟨Ext.refl _ _, sr, ry⟩
theorem wk_seqT {K : W.Frag} {m : List Addr} {H : Hp} {a : Addr} {v : PV} {b : Bool} {xs : List PV} (r : Rp K cl H m v (.ref a)) (hb : b = true) : WkOk K cl m H (Itt K a) xs (fun st' => seqOf st' v = some (b, xs)) := by
  subst hb
  have look : ∀ {m1 H1 st}, Ext m H m1 H1 → SR K cl H1 m1 st → seqOf st v = some (true, xs) → ∃ ys, SqT K H1 a ys ∧ RpL K cl H1 m1 xs ys := fun {m1 H1 st} e sr g => by
    obtain ⟨p, ys, e1, rl, h1, _⟩ := seq_ok sr (r.mono e) g
    cases e1
    exact ⟨ys, h1 rfl, rl⟩
  refine ⟨fun {m1 H1 st i} e sr g hi => ?_, fun {m1 H1 st i} e sr g hi => ?_, fun {m1 H1 st i x H' v'} e sr g hv hy => ?_⟩
  · obtain ⟨ys, hs, rl⟩ := look e sr g
    obtain ⟨y, hy, _⟩ := rl.get (List.getElem?_eq_getElem hi)
    exact ⟨ys, y, hs, hy⟩
  · obtain ⟨ys, hs, rl⟩ := look e sr g
    exact ⟨ys, hs, by rw [← rl.length]; exact hi⟩
  · obtain ⟨ys, hs, rl⟩ := look e sr g
    obtain ⟨y, hy', ry⟩ := rl.get hv
    obtain ⟨rfl, f⟩ := hy
    have : y = x := Option.some.inj (hy'.symm.trans (f ys hs))
    subst this
    exact ⟨Ext.refl _ _, sr, ry⟩
theorem wk_rng {K : W.Frag} {m : List Addr} {H : Hp} {lo : Int} {n : Nat} {f : Nat → Int} (hf : ∀ i, f i = lo + i) : WkOk K cl m H (Itr lo n) ((List.range n).map fun i => PV.int (f i)) (fun _ => True) := by
  refine ⟨fun {m1 H1 st i} e sr g hi => ?_, fun {m1 H1 st i} e sr g hi => ?_, fun {m1 H1 st i x H' v'} e sr g hv hy => ?_⟩
  · rw [List.length_map, List.length_range] at hi
    exact hi
  · rw [List.length_map, List.length_range] at hi
    exact hi
  · obtain ⟨rfl, rfl⟩ := hy
    rw [List.getElem?_map] at hv
    by_cases hi : i < n
    · rw [List.getElem?_range hi] at hv
      cases hv
      refine ⟨Ext.refl _ _, sr, ?_⟩
      show V.int (lo + i) = V.int (f i)
      rw [hf]
    · rw [List.getElem?_eq_none (by simpa using hi)] at hv
      cases hv
theorem sqB_of {K : W.Frag} {H : Hp} {b : Bool} {p : Addr} {ys : List V} (h1 : b = true → SqT K H p ys) (h2 : b = false → H p = some (.lst ys)) : SqB K H b p ys := by
  cases b with
  | true => exact h1 rfl
  | false => exact .inl (.inl (h2 rfl))
theorem wk_zz {K : W.Frag} {m : List Addr} {H : Hp} {a c : Addr} {v w : PV} {b1 b2 : Bool} {xs zs : List PV} (r1 : Rp K cl H m v (.ref a)) (r2 : Rp K cl H m w (.ref c)) :
    WkOk K cl m H (Izz K b1 b2 a c) ((xs.zip zs).map fun p => PV.tup [p.1, p.2]) (fun st' => seqOf st' v = some (b1, xs) ∧ seqOf st' w = some (b2, zs)) := by
  have look : ∀ {m1 H1 st}, Ext m H m1 H1 → SR K cl H1 m1 st → (seqOf st v = some (b1, xs) ∧ seqOf st w = some (b2, zs)) → ∃ ys us, SqB K H1 b1 a ys ∧ RpL K cl H1 m1 xs ys ∧ SqB K H1 b2 c us ∧ RpL K cl H1 m1 zs us := fun {m1 H1 st} e sr g => by
    obtain ⟨p, ys, e1, rl, h1, h2⟩ := seq_ok sr (r1.mono e) g.1
    obtain ⟨q, us, e2, rl2, h3, h4⟩ := seq_ok sr (r2.mono e) g.2
    cases e1
    cases e2
    exact ⟨ys, us, sqB_of h1 h2, rl, sqB_of h3 h4, rl2⟩
  refine ⟨fun {m1 H1 st i} e sr g hi => ?_, fun {m1 H1 st i} e sr g hi => ?_, fun {m1 H1 st i x H' v'} e sr g hv hy => ?_⟩
  · obtain ⟨ys, us, hs, rl, hs2, rl2⟩ := look e sr g
    rw [List.length_map, List.length_zip] at hi
    obtain ⟨y, hy, _⟩ := rl.get (List.getElem?_eq_getElem (Nat.lt_of_lt_of_le hi (Nat.min_le_left _ _)))
    obtain ⟨u, hu, _⟩ := rl2.get (List.getElem?_eq_getElem (Nat.lt_of_lt_of_le hi (Nat.min_le_right _ _)))
    exact ⟨ys, us, y, u, hs, hs2, hy, hu⟩
  · obtain ⟨ys, us, hs, rl, hs2, rl2⟩ := look e sr g
    rw [List.length_map, List.length_zip] at hi
    refine ⟨ys, us, hs, hs2, ?_⟩
    rw [← rl.length, ← rl2.length]
    omega
  · obtain ⟨ys, us, hs, rl, hs2, rl2⟩ := look e sr g
    obtain ⟨t, p, q, rfl, hn, rfl, f1, f2⟩ := hy
    rw [List.getElem?_map] at hv
    cases hz : (xs.zip zs)[i]? with
    | none => rw [hz] at hv; cases hv
    | some pq =>
      rw [hz] at hv
      cases hv
      rw [List.getElem?_zip_eq_some] at hz
      obtain ⟨y, hy', ry⟩ := rl.get hz.1
      obtain ⟨u, hu', ru⟩ := rl2.get hz.2
      have e1 : y = p := Option.some.inj (hy'.symm.trans (f1 ys hs))
      have e2 : u = q := Option.some.inj (hu'.symm.trans (f2 us hs2))
      subst e1
      subst e2
      exact newT sr ⟨y, [u], rfl, ry, u, [], rfl, ru, rfl⟩ hn
theorem wk_en {K : W.Frag} {m : List Addr} {H : Hp} {a : Addr} {v : PV} {b : Bool} {xs : List PV} (r1 : Rp K cl H m v (.ref a)) :
    WkOk K cl m H (Ien K b a) (xs.zipIdx.map fun p => PV.tup [.int p.2, p.1]) (fun st' => seqOf st' v = some (b, xs)) := by
  have look : ∀ {m1 H1 st}, Ext m H m1 H1 → SR K cl H1 m1 st → seqOf st v = some (b, xs) → ∃ ys, SqB K H1 b a ys ∧ RpL K cl H1 m1 xs ys := fun {m1 H1 st} e sr g => by
    obtain ⟨p, ys, e1, rl, h1, h2⟩ := seq_ok sr (r1.mono e) g
    cases e1
    exact ⟨ys, sqB_of h1 h2, rl⟩
  refine ⟨fun {m1 H1 st i} e sr g hi => ?_, fun {m1 H1 st i} e sr g hi => ?_, fun {m1 H1 st i x H' v'} e sr g hv hy => ?_⟩
  · obtain ⟨ys, hs, rl⟩ := look e sr g
    rw [List.length_map, List.length_zipIdx] at hi
    obtain ⟨y, hy, _⟩ := rl.get (List.getElem?_eq_getElem hi)
    exact ⟨ys, y, hs, hy⟩
  · obtain ⟨ys, hs, rl⟩ := look e sr g
    rw [List.length_map, List.length_zipIdx] at hi
    exact ⟨ys, hs, by rw [← rl.length]; exact hi⟩
  · obtain ⟨ys, hs, rl⟩ := look e sr g
    obtain ⟨t, p, rfl, hn, rfl, f1⟩ := hy
    rw [List.getElem?_map, List.getElem?_zipIdx] at hv
    cases hz : xs[i]? with
    | none => rw [hz] at hv; cases hv
    | some z =>
      rw [hz] at hv
      cases hv
      obtain ⟨y, hy', ry⟩ := rl.get hz
      have e1 : y = p := Option.some.inj (hy'.symm.trans (f1 ys hs))
      subst e1
      exact newT sr ⟨.int (i : Nat), [y], rfl, by simp [Rp], y, [], rfl, ry, rfl⟩ hn
theorem rdI_bind {K : W.Frag} {m : List Addr} {H : Hp} {σ : L2.St} {env : En} {st : Store} {β : Type} {F : List Addr → Hp → Res β → Prop} {r : Ev} {k : Ik} {cs : List Ex} {f : List PV → (Store → Prop) → Store → Res β} {R : It → Hp → Prop} (C : Cn F) (sr : SR K cl H m st) (er : ER K cl H m env σ)
    (h : F m H ((evL r cs env st).bind fun vs st => match walk k vs st with | some (xs, g) => f xs g st | none => .bad))
    (kk : ∀ xs g st' J H' m', Ext m H m' H' → SR K cl H' m' st' → ER K cl H' m' env σ → WkOk K cl m' H' J xs g → F m' H' (f xs g st') → R J H') : rdI K cl r k cs σ H R := by
  refine ⟨m, env, st, sr, er, ?_⟩
  cases e : evL r cs env st with
  | exc x s => rw [e] at h; exact absurd h C.nx
  | bad => rw [e] at h; exact absurd h C.nb
  | ok vs st' =>
    rw [e] at h
    dsimp only [Res.bind] at h
    show FinI K cl m H env σ k (evL r cs env st) R
    rw [e]
    unfold FinI
    dsimp only
    cases w : walk k vs st' with
    | none => rw [w] at h; exact absurd h C.nb
    | some p =>
      obtain ⟨xs, g⟩ := p
      rw [w] at h
      exact fun J H' m' x s er' wk => kk xs g st' J H' m' x s er' wk (C.mono x h)
theorem si_of (hE : SEn CX T PR cl fa fd ps j) {n : Nat} (g : Good CX T PR cl fa fd ps j sc top N X) {k : Ik} {cs : List Ex} {tg e : Expr} (h : chkI T PR sc top N n k cs tg e = true) : PI X tg e (rdI X.K cl (ev PR j) k cs) := by
  cases k with
  | seq =>
    have h : chkL T PR sc top N n cs [e] = true := h
    obtain ⟨n', c, rfl, hc⟩ := chkL_one h
    refine piImp (pi_seq (hE sc top N n' c e X g hc)) fun σ H R ⟨m, env, st, sr, er, f⟩ => ?_
    refine ⟨m, env, st, sr, er, ?_⟩
    have f : FinI X.K cl m H env σ .seq (((ev PR j).E c env st).bind fun v st => .ok [v] st) R := f
    show Fin X.K cl m H ((ev PR j).E c env st) _
    cases q : (ev PR j).E c env st with
    | exc x s => rw [q] at f; exact f.elim
    | bad => rw [q] at f; exact f.elim
    | ok v st' =>
      rw [q] at f
      simp only [Res.bind, FinI, walk] at f
      intro u H' m' x sr' r
      cases e1 : seqOf st' v with
      | none => rw [e1] at f; exact f.elim
      | some w =>
        obtain ⟨b, xs⟩ := w
        rw [e1] at f
        obtain ⟨p, ys, rfl, rl, h1, h2⟩ := seq_ok sr' r e1
        refine ⟨p, rfl, ?_⟩
        cases b with
        | false => exact .inl ⟨⟨ys, .inl (.inl (h2 rfl))⟩, f _ H' m' x sr' (er.mono x) (wk_seqL r rfl)⟩
        | true => exact .inr ⟨⟨ys, h1 rfl⟩, f _ H' m' x sr' (er.mono x) (wk_seqT r rfl)⟩
  | rng1 =>
    match e, h with
    | .Call (.Name x p) [a] [] pos, h =>
      simp only [chkI, chkIt, Bool.and_eq_true] at h
      obtain ⟨⟨⟨h1, h2⟩, h3⟩, h4⟩ := h
      have hx : x = "range" := of_decide_eq_true h1
      subst hx
      have ns : notStar a = true := by
        cases cs with
        | nil => cases h4
        | cons c cs => simp only [chkLs, Bool.and_eq_true] at h4; exact h4.1.2
      refine piImp (pi_range1 (glB_ok h2 g.sc) (g.wf.bl _ h3) (sl_of hE g h4) (star_cons ns)) fun σ H R ⟨m, env, st, sr, er, f⟩ => ?_
      refine ⟨m, env, st, sr, er, ?_⟩
      have f : FinI X.K cl m H env σ .rng1 (evL (ev PR j) cs env st) R := f
      show FinL X.K cl m H (evL (ev PR j) cs env st) _
      cases q : evL (ev PR j) cs env st with
      | exc x s => rw [q] at f; exact f.elim
      | bad => rw [q] at f; exact f.elim
      | ok vs st' =>
        rw [q] at f
        simp only [FinI] at f
        intro us H' m' x sr' r
        have hl := (evL_len q).trans (chkL_len h4)
        match vs, hl, f, r with
        | [v], _, f, r =>
          obtain ⟨u, rfl, ru⟩ := r.one
          cases v with
          | int k =>
            cases ru
            by_cases hk : -(2 ^ 62) ≤ k ∧ k < 2 ^ 62
            · simp only [walk, if_pos hk] at f
              exact ⟨k, rfl, hk.1, hk.2, f _ H' m' x sr' (er.mono x) (wk_rng fun i => by omega)⟩
            · simp only [walk, if_neg hk] at f
          | _ => exact f.elim
  | rng2 =>
    match e, h with
    | .Call (.Name x p) [a, b] [] pos, h =>
      simp only [chkI, chkIt, Bool.and_eq_true] at h
      obtain ⟨⟨⟨h1, h2⟩, h3⟩, h4⟩ := h
      have hx : x = "range" := of_decide_eq_true h1
      subst hx
      obtain ⟨ns, ns2⟩ : notStar a = true ∧ notStar b = true := by
        match cs, h4 with
        | [c, d], h4 =>
          simp only [chkLs, Bool.and_eq_true] at h4
          exact ⟨h4.1.2, h4.2.1.2⟩
        | [], h4 => cases h4
        | [_], h4 => simp only [chkLs, Bool.and_false] at h4; cases h4
        | _ :: _ :: _ :: _, h4 => simp only [chkLs, Bool.and_false] at h4; cases h4
      refine piImp (pi_range2 (glB_ok h2 g.sc) (g.wf.bl _ h3) (sl_of hE g h4) (by rw [star_cons ns, star_cons ns2]; rfl) (star_cons ns2)) fun σ H R ⟨m, env, st, sr, er, f⟩ => ?_
      refine ⟨m, env, st, sr, er, ?_⟩
      have f : FinI X.K cl m H env σ .rng2 (evL (ev PR j) cs env st) R := f
      show FinL X.K cl m H (evL (ev PR j) cs env st) _
      cases q : evL (ev PR j) cs env st with
      | exc x s => rw [q] at f; exact f.elim
      | bad => rw [q] at f; exact f.elim
      | ok vs st' =>
        rw [q] at f
        simp only [FinI] at f
        intro us H' m' x sr' r
        have hl := (evL_len q).trans (chkL_len h4)
        match vs, hl, f, r with
        | [v, w], _, f, r =>
          obtain ⟨u, u2, rfl, ru, ru2⟩ := r.two
          cases v with
          | int k =>
            cases w with
            | int l =>
              cases ru
              cases ru2
              by_cases hk : -(2 ^ 62) ≤ k ∧ k < 2 ^ 62 ∧ -(2 ^ 62) ≤ l ∧ l < 2 ^ 62
              · simp only [walk, if_pos hk] at f
                exact ⟨k, l, rfl, hk, f _ H' m' x sr' (er.mono x) (wk_rng fun i => rfl)⟩
              · simp only [walk, if_neg hk] at f
            | _ => exact f.elim
          | _ => exact f.elim
  | zip2 =>
    match e, h with
    | .Call (.Name x p) [a, b] [] pos, h =>
      simp only [chkI, chkIt, Bool.and_eq_true] at h
      obtain ⟨⟨⟨⟨h1, h2⟩, h3⟩, h4⟩, h5⟩ := h
      have hx : x = "zip" := of_decide_eq_true h1
      subst hx
      obtain ⟨elts, kk, tpos, rfl⟩ : ∃ elts kk tpos, tg = .Tuple elts kk tpos := by
        cases tg <;> first | exact ⟨_, _, _, rfl⟩ | cases h5
      obtain ⟨ns, ns2⟩ : notStar a = true ∧ notStar b = true := by
        match cs, h4 with
        | [c, d], h4 =>
          simp only [chkLs, Bool.and_eq_true] at h4
          exact ⟨h4.1.2, h4.2.1.2⟩
        | [], h4 => cases h4
        | [_], h4 => simp only [chkLs, Bool.and_false] at h4; cases h4
        | _ :: _ :: _ :: _, h4 => simp only [chkLs, Bool.and_false] at h4; cases h4
      refine piImp (pi_zz (glB_ok h2 g.sc) (g.wf.bl _ h3) (sl_of hE g h4) (star_cons ns) (star_any (by simp [ns2]))) fun σ H R ⟨m, env, st, sr, er, f⟩ => ?_
      refine ⟨m, env, st, sr, er, ?_⟩
      have f : FinI X.K cl m H env σ .zip2 (evL (ev PR j) cs env st) R := f
      show FinL X.K cl m H (evL (ev PR j) cs env st) _
      cases q : evL (ev PR j) cs env st with
      | exc x s => rw [q] at f; exact f.elim
      | bad => rw [q] at f; exact f.elim
      | ok vs st' =>
        rw [q] at f
        simp only [FinI] at f
        intro us H' m' x sr' r
        have hl := (evL_len q).trans (chkL_len h4)
        match vs, hl, f, r with
        | [v, w], _, f, r =>
          obtain ⟨u, u2, rfl, ru, ru2⟩ := r.two
          simp only [walk] at f
          cases e1 : seqOf st' v with
          | none => rw [e1] at f; exact f.elim
          | some bx =>
            cases e2 : seqOf st' w with
            | none => rw [e1, e2] at f; exact f.elim
            | some by_ =>
              obtain ⟨b1, xs⟩ := bx
              obtain ⟨b2, zs⟩ := by_
              rw [e1, e2] at f
              obtain ⟨a1, ys, rfl, rl, k1, k2⟩ := seq_ok sr' ru e1
              obtain ⟨a2, us, rfl, rl2, k3, k4⟩ := seq_ok sr' ru2 e2
              exact ⟨b1, b2, a1, a2, ys, us, rfl, sqB_of k1 k2, sqB_of k3 k4, f _ H' m' x sr' (er.mono x) (wk_zz ru ru2)⟩
  | enum =>
    match e, h with
    | .Call (.Name x p) [a] [] pos, h =>
      simp only [chkI, chkIt, Bool.and_eq_true] at h
      obtain ⟨⟨⟨⟨h1, h2⟩, h3⟩, h4⟩, h5⟩ := h
      have hx : x = "enumerate" := of_decide_eq_true h1
      subst hx
      obtain ⟨elts, kk, tpos, rfl⟩ : ∃ elts kk tpos, tg = .Tuple elts kk tpos := by
        cases tg <;> first | exact ⟨_, _, _, rfl⟩ | cases h5
      have ns : notStar a = true := by
        cases cs with
        | nil => cases h4
        | cons c cs => simp only [chkLs, Bool.and_eq_true] at h4; exact h4.1.2
      refine piImp (pi_en (glB_ok h2 g.sc) (g.wf.bl _ h3) (sl_of hE g h4) (star_cons ns)) fun σ H R ⟨m, env, st, sr, er, f⟩ => ?_
      refine ⟨m, env, st, sr, er, ?_⟩
      have f : FinI X.K cl m H env σ .enum (evL (ev PR j) cs env st) R := f
      show FinL X.K cl m H (evL (ev PR j) cs env st) _
      cases q : evL (ev PR j) cs env st with
      | exc x s => rw [q] at f; exact f.elim
      | bad => rw [q] at f; exact f.elim
      | ok vs st' =>
        rw [q] at f
        simp only [FinI] at f
        intro us H' m' x sr' r
        have hl := (evL_len q).trans (chkL_len h4)
        match vs, hl, f, r with
        | [v], _, f, r =>
          obtain ⟨u, rfl, ru⟩ := r.one
          simp only [walk] at f
          cases e1 : seqOf st' v with
          | none => rw [e1] at f; exact f.elim
          | some bx =>
            obtain ⟨b1, xs⟩ := bx
            rw [e1] at f
            obtain ⟨a1, ys, rfl, rl, k1, k2⟩ := seq_ok sr' ru e1
            exact ⟨b1, a1, ys, rfl, sqB_of k1 k2, f _ H' m' x sr' (er.mono x) (wk_en ru)⟩
end
end Pv

set_option Elab.async false
set_option linter.all false
set_option maxRecDepth 100000
set_option maxHeartbeats 2000000
/-! Comprehensions. -/
namespace Pv
open PySem PySem.Spec PyProof.Rows L2
theorem wipe_idem (σ : L2.St) (vs : List Nat) : wipe (wipe σ vs) vs = wipe σ vs := by
  apply List.ext_getElem?
  intro i
  rw [wipe_get, wipe_get, wipe_length]
  by_cases hi : i ∈ vs ∧ i < σ.length
  · simp only [if_pos hi]
  · simp only [if_neg hi]
section
variable {K : W.Frag} {cl : Nat → Addr} {m m' : List Addr} {H H' : Hp} {σ : L2.St} {env : En} {st st' : Store} {p a : Addr}
theorem wipeE_length (env : En) : ∀ vs : List Nat, (wipeE env vs).length = env.length
  | [] => rfl
  | v :: vs => by unfold wipeE; rw [List.length_set, wipeE_length env vs]
theorem wipeE_some {i : Nat} {x : PV} : ∀ {vs : List Nat}, (wipeE env vs)[i]? = some (some x) → env[i]? = some (some x) ∧ i ∉ vs
  | [], h => ⟨h, by simp⟩
  | v :: vs, h => by
    unfold wipeE at h
    by_cases hi : v = i
    · subst hi
      by_cases hv : v < (wipeE env vs).length
      · rw [List.getElem?_set_self hv] at h; cases h
      · rw [List.getElem?_eq_none (by simpa using hv)] at h; cases h
    · rw [List.getElem?_set_ne hi] at h
      obtain ⟨h1, h2⟩ := wipeE_some h
      exact ⟨h1, by simp only [List.mem_cons, not_or]; exact ⟨fun e => hi e.symm, h2⟩⟩
theorem ER.wipe (er : ER K cl H m env σ) (vs : List Nat) : ER K cl H m (wipeE env vs) (L2.wipe σ vs) := by
  refine ⟨by rw [wipeE_length, wipe_length, er.1], fun i x e => ?_⟩
  obtain ⟨h1, h2⟩ := wipeE_some e
  obtain ⟨v, hv, r⟩ := er.2 i x h1
  exact ⟨v, by rw [wipe_get, if_neg (fun z => h2 z.1)]; exact hv, r⟩
def FinU (K : W.Frag) (cl : Nat → Addr) (m : List Addr) (H : Hp) (res : Res Unit) (Q : Hp → Prop) : Prop := match res with
  | .ok _ st' => ∀ H' m', Ext m H m' H' → SR K cl H' m' st' → Q H'
  | _ => False
theorem cnU (Q : Hp → Prop) : Cn (fun m H res => FinU K cl m H res Q) := ⟨fun {m m' H H' res} e h => by
  cases res with
  | ok v st => exact fun H2 m2 e2 => h H2 m2 (e.trans e2)
  | exc _ _ => exact h
  | bad => exact h, fun h => h, fun h => h⟩
theorem push_ok {d : Nat} {y : PV} {v : V} {D : Addr} (sr : SR K cl H m st) (hD : m[d]? = some D) (r : Rp K cl H m y v) (h : push d y st = some st') :
    ∃ acc, H D = some (.lst acc) ∧ acc.length < sizeLine ∧ Ext m H m (upd H D (.lst (acc ++ [v]))) ∧ SR K cl (upd H D (.lst (acc ++ [v]))) m st' := by
  unfold push at h
  cases e : st[d]? with
  | none => rw [e] at h; cases h
  | some o =>
    rw [e] at h
    cases o with
    | ins c fs => cases h
    | lst xs =>
      dsimp only at h
      split at h
      case isFalse => cases h
      rename_i hl
      cases h
      obtain ⟨u, hu, acc, rfl, rl⟩ := sr.at_ d D _ hD e
      refine ⟨acc, hu, by rw [← rl.length]; exact hl, ?_⟩
      exact setO (x := .lst (xs ++ [y])) (o := .lst (acc ++ [v])) sr hD (List.getElem?_eq_some_iff.mp e).1 (by rw [hu]; exact trivial) ⟨_, rfl, rl.append ⟨v, [], rfl, r, rfl⟩⟩
end
section
variable {CX : CXT} {T : Tab} {PR : Prog} {cl fa : Nat → Addr} {fd : Nat → FuncData} {ps : Nat → List Str}
variable {j : Nat} {sc : Scope} {top : Top} {N : List Str} {X : Cx} {n : Nat}
theorem Good.blk (g : Good CX T PR cl fa fd ps j sc top N X) (s : Shared) (H : Hp) (scope : Scope) (cls : List (Str × Addr)) (C : Addr) (fp : List Addr) (hk : scope.kind = .function) : Good CX T PR cl fa fd ps j (relS scope sc) (some scope) N (X.blk s H scope (compEnvC scope cls C X.env) fp) :=
  ⟨g.wf, g.fo, g.hN, g.nd, hk, by rw [← g.sc]; rfl, g.calm, g.room, g.pass, rfl, fun _ z => z, g.gds⟩
def rdTs (K : W.Frag) (cl : Nat → Addr) (r : Ev) : List Ex → TT
  | [] => tYes
  | [c] => rdT K cl r c
  | _ => fun _ _ _ => False
/-- a comprehension's reading -/
theorem lc_read {r : Ev} {mu : Bool} {ce : Ex} {tg : Tg} {k : Ik} {its ts : List Ex} {K : W.Frag} {m : List Addr} {H : Hp} {σ : L2.St} {env : En} {st : Store} {Q : VK} (sr : SR K cl H m st) (er : ER K cl H m env σ) (f : Fin K cl m H (comp r mu ce tg k its ts env st) Q) :
    tLc (rdI K cl r k its) (rdG K cl tg) (rdTs K cl r ts) (rdE K cl r ce) (slots tg) σ H Q := by
  unfold comp at f
  refine rdI_bind (cnE Q) sr er f fun xs g st1 J H1 m1 x1 sr1 er1 wk f1 => ?_
  intro D hD
  obtain ⟨xD, srD, rD⟩ := newO (x := .lst []) (o := .lst []) sr1 ⟨[], rfl, rfl⟩ hD
  have atD : (m1 ++ [D])[st1.length]? = some D := by
    obtain ⟨a, e, q⟩ := rD
    cases e
    exact q
  have fu : FinU K cl (m1 ++ [D]) (upd H1 D (.lst [])) (compL r ce tg ts g st1.length (wipeE env (slots tg)) xs (st1 ++ [.lst []])) (fun H' => Q (.ref D) H') := by
    cases e : compL r ce tg ts g st1.length (wipeE env (slots tg)) xs (st1 ++ [.lst []]) with
    | exc _ _ => rw [e] at f1; exact f1.elim
    | bad => rw [e] at f1; exact f1.elim
    | ok z st' =>
      rw [e] at f1
      simp only [Res.bind] at f1
      intro H' m' x' sr'
      have rp : Rp K cl H' m' (.ref st1.length) (.ref D) := rD.mono x'
      cases mu with
      | true => exact f1 _ H' m' (xD.trans x') sr' rp
      | false =>
        simp only [Bool.false_eq_true, if_false] at f1
        cases q : done st1 false (.ref st1.length) st' with
        | exc _ _ => rw [q] at f1; exact f1.elim
        | bad => rw [q] at f1; exact f1.elim
        | ok w st2 =>
          rw [q] at f1
          obtain ⟨m2, y1, y2, y3⟩ := done_ok sr1 (xD.trans x') sr' rp q
          exact f1 _ H' m2 y1 y2 y3
  let S : Nat → Hp → Prop := fun i H' => ∃ m' st', Ext (m1 ++ [D]) (upd H1 D (.lst [])) m' H' ∧ SR K cl H' m' st' ∧ FinU K cl m' H' (compL r ce tg ts g st1.length (wipeE env (slots tg)) (xs.drop i) st') (fun H' => Q (.ref D) H')
  refine ⟨fun i mm H' => mm = xs.length - i ∧ i ≤ xs.length ∧ S i H', ⟨_, rfl, Nat.zero_le _, m1 ++ [D], _, Ext.refl _ _, srD, fu⟩, ?_⟩
  rintro i mm H' ⟨rfl, hi, m', st', x', sr', fi⟩
  have xx := xD.trans x'
  by_cases hlt : i < xs.length
  · rw [List.drop_eq_getElem_cons hlt] at fi
    unfold compL at fi
    by_cases hg : g st'
    case neg => rw [if_neg hg] at fi; exact fi.elim
    rw [if_pos hg] at fi
    refine .inr ⟨wk.go xx sr' hg hlt, S (i + 1), fun H'' s => ⟨_, by omega, rfl, hlt, s⟩, fun x H2 hy => ?_⟩
    obtain ⟨y1, y2, y3⟩ := wk.yld xx sr' hg (List.getElem?_eq_getElem hlt) hy
    cases ea : asg tg xs[i] (wipeE env (slots tg)) with
    | none => rw [ea] at fi; exact fi.elim
    | some env' =>
      rw [ea] at fi
      refine ⟨m', _, st', xs[i], env', y2, (er1.mono (xx.trans y1)).wipe _, y3, ea, fun σ2 er2 o2 => ⟨by rw [o2.wipe, wipe_idem], ?_⟩⟩
      have fi := (cnU _).mono y1 fi
      have rest : ∀ {m3 H3 st3 b}, Ext m' H2 m3 H3 → SR K cl H3 m3 st3 → ER K cl H3 m3 env' σ2 → FinU K cl m3 H3 (if b = true then (r.E ce env' st3).bind fun y st => match push st1.length y st with
          | some st => compL r ce tg ts g st1.length (wipeE env (slots tg)) (xs.drop (i + 1)) st
          | none => .bad
        else compL r ce tg ts g st1.length (wipeE env (slots tg)) (xs.drop (i + 1)) st3) (fun H' => Q (.ref D) H') →
          if b = true then rdE K cl r ce σ2 H3 fun y H4 => ∃ acc, H4 D = some (.lst acc) ∧ acc.length < sizeLine ∧ S (i + 1) (upd H4 D (.lst (acc ++ [y]))) else S (i + 1) H3 := fun {m3 H3 st3 b} x3 sr3 er3 f3 => by
        cases b with
        | false => exact ⟨m3, st3, x'.trans (y1.trans x3), sr3, f3⟩
        | true =>
          simp only [if_true] at f3 ⊢
          refine rdE_bind (cnU _) sr3 er3 f3 fun v4 st4 u4 H4 m4 x4 sr4 er4 r4 f4 => ?_
          have hD4 : m4[st1.length]? = some D := (x'.trans (y1.trans (x3.trans x4))).at_ atD
          cases q : push st1.length v4 st4 with
          | none => rw [q] at f4; exact f4.elim
          | some st5 =>
            rw [q] at f4
            obtain ⟨acc, h1, h2, h3, h4⟩ := push_ok sr4 hD4 r4 q
            exact ⟨acc, h1, h2, m4, st5, (x'.trans (y1.trans (x3.trans x4))).trans h3, h4, (cnU _).mono h3 f4⟩
      match ts, fi with
      | [], fi => exact rest (b := true) (Ext.refl _ _) y2 er2 fi
      | [t], fi => exact rdT_bind (cnU _) y2 er2 fi fun b st3 H3 m3 x3 sr3 er3 f3 => rest x3 sr3 er3 f3
      | _ :: _ :: _, fi => exact fi.elim
  · have e : i = xs.length := by omega
    subst e
    rw [List.drop_length] at fi
    unfold compL at fi
    by_cases hg : g st'
    case neg => rw [if_neg hg] at fi; exact fi.elim
    rw [if_pos hg] at fi
    exact .inl ⟨wk.stop xx sr' hg (Nat.le_refl _), fi H' m' (Ext.refl _ _) sr'⟩
/-- the parts of a comprehension -/
theorem lc_parts (hE : SEn CX T PR cl fa fd ps j) (hT : STn CX T PR cl fa fd ps j) (g : Good CX T PR cl fa fd ps (j + 1) sc top N X) {mu : Bool} {ce : Ex} {tg : Tg} {k : Ik} {its ts : List Ex} {e : Expr} (h : chkE T PR sc top N (n + 1) (.comp mu ce tg k its ts) e = true) :
    ∃ elt t iter ifs scope pos, e = .ListComp elt [⟨t, iter, ifs, 0⟩] scope pos ∧ PI X t iter (rdI X.K cl (ev PR j) k its) ∧ BlkOk X.N X.env.scope scope (ownN N (slots tg)) ∧ (ownN N (slots tg)).map (·.2) = slots tg ∧
      (∀ (s : Shared) (H : Hp) (C : Addr) (cls : List (Str × Addr)) (fp : List Addr), PG (X.blk s H scope (compEnvC scope cls C X.env) fp) t (rdG X.K cl tg)) ∧
      (∀ (s : Shared) (H : Hp) (C : Addr) (cls : List (Str × Addr)) (fp : List Addr), PTs (X.blk s H scope (compEnvC scope cls C X.env) fp) ifs (rdTs X.K cl (ev PR j) ts)) ∧
      (∀ (s : Shared) (H : Hp) (C : Addr) (cls : List (Str × Addr)) (fp : List Addr), PE (X.blk s H scope (compEnvC scope cls C X.env) fp) elt (rdE X.K cl (ev PR j) ce)) ∧ ∀ x, foldedSetIterable iter X.env x = pure x := by
  rw [chkE_comp] at h
  match e, h with
  | .ListComp elt [⟨t, iter, ifs, 0⟩] scope pos, h =>
    simp only [Bool.and_eq_true] at h
    obtain ⟨⟨⟨⟨⟨⟨h1, h2⟩, h3⟩, h4⟩, h5⟩, h6⟩, h7⟩ := h
    have gd := g.down (Nat.le_succ j)
    have hk := (blkOk_by h2).kind
    refine ⟨elt, t, iter, ifs, scope, pos, rfl, si_of hE gd h1, by rw [g.hN, g.sc]; exact blkOk_by h2, of_decide_eq_true h3, fun s H C cls fp => tg_ok (gd.blk s H scope cls C fp hk) tg t h4, fun s H C cls fp => ?_, fun s H C cls fp => hE _ _ _ _ _ _ _ (gd.blk s H scope cls C fp hk) h5, fun x => notSet_ok h7 x⟩
    match ts, ifs, h6 with
    | [], [], _ => exact pts_nil
    | [c], [i], h6 => exact pts_one (hT _ _ _ _ _ _ _ (gd.blk s H scope cls C fp hk) h6).1
theorem sc_ok (hE : SEn CX T PR cl fa fd ps j) (hT : STn CX T PR cl fa fd ps j) : SCn CX T PR cl fa fd ps j := by
  intro sc top N n mu ce tg k its ts e X g h
  obtain ⟨elt, t, iter, ifs, scope, pos, rfl, p1, p2, p3, p4, p5, p6, p7⟩ := lc_parts hE hT g h
  refine peImp (pe_lc g.calm (by rw [g.hN]; exact g.nd) p1 p2 p4 p5 p6 p7) fun σ H Q ⟨m, env, st, sr, er, f⟩ => ?_
  rw [p3]
  exact lc_read sr er f
end
end Pv

set_option Elab.async false
set_option linter.all false
set_option maxRecDepth 100000
set_option maxHeartbeats 2000000
/-! Statements. -/
namespace Pv
open PySem PySem.Spec PyProof.Rows L2
def notTup : Expr → Bool
  | .Tuple _ _ _ => false
  | _ => true
theorem notTup_ok {ts : List Expr} {e : Expr} {env : Env} (h : notTup e = true) : swappedStores ts e env = pure none := by
  unfold swappedStores
  split
  · rename_i x ts vs he
    split at he
    · cases h
    · cases h
    · cases he
  · rfl
theorem sub_stores {o i : Expr} {p : Pos} {e : Expr} {env : Env} : swappedStores [.Subscript o i p] e env = pure none := by
  unfold swappedStores
  rfl
/-- whether a comprehension's store comes within -/
def swB (sc : Scope) (e : Expr) (y : Str) (p : Pos) : Bool := match e with
  | .ListComp _ _ s pos => decide (sc.names.lookup y = some .local) && (p.line == pos.line) && !(s.names.any fun (n, k) => n == y && (k == .local || k == .cell))
  | _ => false
theorem swB_ok {sc : Scope} {e : Expr} {y : Str} {p : Pos} {l : Nat} {env : Env} (hs : env.scope = sc) (hk : sc.kind = .function) (hc : (match e with | .SetComp _ _ _ _ => false | .DictComp _ _ _ _ _ => false | _ => true) = true) :
    swapsWith e (some (.Name y p)) l env = pure (swB sc e y p) := by
  have hb : env.blockKind = .function := by unfold Env.blockKind; rw [hs, hk]; rfl
  cases e with
  | ListComp elt gs s pos =>
    unfold swapsWith swB
    simp only [hb]
    have : (env.kindOf y == some NameKind.local) = decide (sc.names.lookup y = some .local) := by
      unfold Env.kindOf
      rw [hs]
      by_cases q : sc.names.lookup y = some .local
      · rw [q]; simp
      · rw [decide_eq_false q]; exact beq_eq_false_iff_ne.mpr q
    rw [this]
    rfl
  | SetComp _ _ _ _ => cases hc
  | DictComp _ _ _ _ _ => cases hc
  | _ => rfl
def parB (sc : Scope) (x y : Str) (px py : Pos) (a b : Expr) : Bool := decide (sc.names.lookup x = some .local) && decide (sc.names.lookup y = some .local) && (py.line == px.line) && decide (x ≠ y) && notStar a && notStar b && !(foldedForSure 8 a && foldedForSure 8 b) && !(constantsAlone 8 a && constantsAlone 8 b)
theorem parB_ok {sc : Scope} {x y : Str} {px py pt pt2 : Pos} {kt k2 : Nat} {a b : Expr} {env : Env} (hs : env.scope = sc) (hk : sc.kind = .function) (h : parB sc x y px py a b = true) :
    swappedStores [.Tuple [.Name x px, .Name y py] kt pt] (.Tuple [a, b] k2 pt2) env = pure (some [x, y]) := by
  simp only [parB, Bool.and_eq_true, Bool.not_eq_true'] at h
  obtain ⟨⟨⟨⟨⟨⟨⟨h1, h2⟩, h3⟩, h4⟩, h5⟩, h6⟩, h7⟩, h8⟩ := h
  have hb : env.blockKind = .function := by unfold Env.blockKind; rw [hs, hk]; rfl
  have kx : env.kindOf x = some .local := by unfold Env.kindOf; rw [hs]; exact of_decide_eq_true h1
  have ky : env.kindOf y = some .local := by unfold Env.kindOf; rw [hs]; exact of_decide_eq_true h2
  have hxy : x ≠ y := of_decide_eq_true h4
  have hl : (py.line == px.line) = true := h3
  have ed : ([x, y] : List Str).eraseDups = [x, y] := by
    have : (y == x) = false := beq_eq_false_iff_ne.mpr (Ne.symm hxy)
    simp [List.eraseDups_cons, this, Ne.symm hxy]
  unfold swappedStores
  simp only [hb, kx, ky, List.any_cons, List.any_nil, List.all_cons, List.all_nil, Bool.and_true, Bool.or_false, h7, h8, List.filterMap_cons, List.filterMap_nil, List.head?_cons, Option.map_some, Option.getD_some, Expr.pos, hl, beq_self_eq_true, if_true, List.length_cons, List.length_nil]
  rw [if_neg (by decide), if_neg, if_neg]
  · rfl
  · rw [ed]
    simp
  · intro z
    rw [Bool.or_eq_true] at z
    rcases z with z | z
    · cases a <;> first
        | (cases h5; done)
        | cases z
    · cases b <;> first
        | (cases h6; done)
        | cases z
def isComp : Ex → Bool
  | .comp _ _ _ _ _ _ => true
  | _ => false
def notSD : Expr → Bool
  | .SetComp _ _ _ _ => false
  | .DictComp _ _ _ _ _ => false
  | _ => true
def chkSs (r : Sm → Stmt → Bool) : List Sm → List Stmt → Bool
  | [], [] => true
  | c :: cs, s :: ss => r c s && chkSs r cs ss
  | _, _ => false
/-- n: how deep expressions are looked at -/
def chkSt (T : Tab) (PR : Prog) (sc : Scope) (N : List Str) (n : Nat) (rc : Sm → Stmt → Bool) (c : Sm) (s : Stmt) : Bool := match c with
  | .set t c => match s with
    | .Assign [.Name x p] e _ => tgB sc none N t (.Name x p) && chkE T PR sc none N n c e && notSD e && (!swB sc e x p || isComp c)
    | .Assign [.Tuple ts k p] e _ => tgB sc none N t (.Tuple ts k p) && chkE T PR sc none N n c e && notComp e && notTup e
    | _ => false
  | .par i j a b => match s with
    | .Assign [.Tuple [.Name x px, .Name y py] _ _] (.Tuple [ea, eb] _ _) _ => decide (N[i]? = some x) && decide (N[j]? = some y) && decide (i ≠ j) && parB sc x y px py ea eb && chkL T PR sc none N n [a, b] [ea, eb]
    | _ => false
  | .aug _ _ _ => false
  | .setIx a i c => match s with
    | .Assign [.Subscript o ix _] e _ => plainIx ix && chkE T PR sc none N n a o && chkE T PR sc none N n i ix && chkE T PR sc none N n c e && notComp e
    | _ => false
  | .swap _ _ _ _ _ _ => false
  | .setAt a f c => match s with
    | .Assign [.Attribute o g _] e _ => decide (f = g) && chkE T PR sc none N n a o && chkE T PR sc none N n c e && notComp e
    | _ => false
  | .ex c => match s with
    | .Expr e _ => chkE T PR sc none N n c e && notComp e
    | _ => false
  | .app a c => match s with
    | .Expr (.Call (.Attribute o m apos) [e] [] pos) _ => decide (m = "append") && plainBase o && (apos.endLine == pos.line) && notStar e && chkE T PR sc none N n a o && chkE T PR sc none N n c e
    | _ => false
  | .ext a c => match s with
    | .Expr (.Call (.Attribute o m apos) [e] [] pos) _ => decide (m = "extend") && plainBase o && (apos.endLine == pos.line) && notStar e && chkE T PR sc none N n a o && chkE T PR sc none N n c e
    | _ => false
  | .ite c a b => match s with
    | .If t x y _ => chkE T PR sc none N n c t && chkSs rc a x && chkSs rc b y
    | _ => false
  | .whl c b => match s with
    | .While t x [] _ => chkE T PR sc none N n c t && chkSs rc b x
    | _ => false
  | .for_ tg k its b => match s with
    | .For t iter x [] _ => tgB sc none N tg t && chkI T PR sc none N n k its t iter && chkSs rc b x && notSet iter
    | _ => false
  | .ret c => match s with
    | .Return (some e) _ => chkE T PR sc none N n c e
    | _ => false
  | .retN => match s with
    | .Return none _ => true
    | _ => false
  | .brk => match s with | .Break _ => true | _ => false
  | .cnt => match s with | .Continue _ => true | _ => false
  | .pass => match s with | .Pass _ => true | _ => false
  | .bad => true
section
variable {T : Tab} {PR : Prog} {sc : Scope} {N : List Str} {n : Nat} {rc : Sm → Stmt → Bool} {s : Stmt}
theorem chkSt_set (t : Tg) (c : Ex) : chkSt T PR sc N n rc (.set t c) s = (match s with
  | .Assign [.Name x p] e _ => tgB sc none N t (.Name x p) && chkE T PR sc none N n c e && notSD e && (!swB sc e x p || isComp c)
  | .Assign [.Tuple ts k p] e _ => tgB sc none N t (.Tuple ts k p) && chkE T PR sc none N n c e && notComp e && notTup e
  | _ => false) := rfl
theorem chkSt_par (i j : Nat) (a b : Ex) : chkSt T PR sc N n rc (.par i j a b) s = (match s with
  | .Assign [.Tuple [.Name x px, .Name y py] _ _] (.Tuple [ea, eb] _ _) _ => decide (N[i]? = some x) && decide (N[j]? = some y) && decide (i ≠ j) && parB sc x y px py ea eb && chkL T PR sc none N n [a, b] [ea, eb]
  | _ => false) := rfl
theorem chkSt_setIx (a i c : Ex) : chkSt T PR sc N n rc (.setIx a i c) s = (match s with
  | .Assign [.Subscript o ix _] e _ => plainIx ix && chkE T PR sc none N n a o && chkE T PR sc none N n i ix && chkE T PR sc none N n c e && notComp e
  | _ => false) := rfl
theorem chkSt_setAt (a : Ex) (f : Str) (c : Ex) : chkSt T PR sc N n rc (.setAt a f c) s = (match s with
  | .Assign [.Attribute o g _] e _ => decide (f = g) && chkE T PR sc none N n a o && chkE T PR sc none N n c e && notComp e
  | _ => false) := rfl
theorem chkSt_ex (c : Ex) : chkSt T PR sc N n rc (.ex c) s = (match s with
  | .Expr e _ => chkE T PR sc none N n c e && notComp e
  | _ => false) := rfl
theorem chkSt_app (a c : Ex) : chkSt T PR sc N n rc (.app a c) s = (match s with
  | .Expr (.Call (.Attribute o m apos) [e] [] pos) _ => decide (m = "append") && plainBase o && (apos.endLine == pos.line) && notStar e && chkE T PR sc none N n a o && chkE T PR sc none N n c e
  | _ => false) := rfl
theorem chkSt_ext (a c : Ex) : chkSt T PR sc N n rc (.ext a c) s = (match s with
  | .Expr (.Call (.Attribute o m apos) [e] [] pos) _ => decide (m = "extend") && plainBase o && (apos.endLine == pos.line) && notStar e && chkE T PR sc none N n a o && chkE T PR sc none N n c e
  | _ => false) := rfl
theorem chkSt_ite (c : Ex) (a b : List Sm) : chkSt T PR sc N n rc (.ite c a b) s = (match s with
  | .If t x y _ => chkE T PR sc none N n c t && chkSs rc a x && chkSs rc b y
  | _ => false) := rfl
theorem chkSt_whl (c : Ex) (b : List Sm) : chkSt T PR sc N n rc (.whl c b) s = (match s with
  | .While t x [] _ => chkE T PR sc none N n c t && chkSs rc b x
  | _ => false) := rfl
theorem chkSt_for_ (tg : Tg) (k : Ik) (its : List Ex) (b : List Sm) : chkSt T PR sc N n rc (.for_ tg k its b) s = (match s with
  | .For t iter x [] _ => tgB sc none N tg t && chkI T PR sc none N n k its t iter && chkSs rc b x && notSet iter
  | _ => false) := rfl
theorem chkSt_ret (c : Ex) : chkSt T PR sc N n rc (.ret c) s = (match s with
  | .Return (some e) _ => chkE T PR sc none N n c e
  | _ => false) := rfl
theorem chkSt_retN  : chkSt T PR sc N n rc (.retN) s = (match s with
  | .Return none _ => true
  | _ => false) := rfl
theorem chkSt_brk  : chkSt T PR sc N n rc (.brk) s = (match s with | .Break _ => true | _ => false) := rfl
theorem chkSt_cnt  : chkSt T PR sc N n rc (.cnt) s = (match s with | .Continue _ => true | _ => false) := rfl
theorem chkSt_pass  : chkSt T PR sc N n rc (.pass) s = (match s with | .Pass _ => true | _ => false) := rfl
end
def chkS (T : Tab) (PR : Prog) (sc : Scope) (N : List Str) (n : Nat) : Nat → Sm → Stmt → Bool
  | 0 => fun _ _ => false
  | k + 1 => chkSt T PR sc N n (chkS T PR sc N n k)
section
variable {CX : CXT} {T : Tab} {PR : Prog} {cl fa : Nat → Addr} {fd : Nat → FuncData} {ps : Nat → List Str}
theorem psImp {X : Cx} {s : Stmt} {t t' : TS} (h : PS X s t) (k : ∀ D σ H, t' D σ H → t D σ H) : PS X s t' := ⟨fun pins s σ H D I q => h.run pins s σ H D I (k D σ H q)⟩
theorem pssImp {X : Cx} {s : List Stmt} {t t' : TS} (h : PSs X s t) (k : ∀ D σ H, t' D σ H → t D σ H) : PSs X s t' := ⟨fun pins s σ H D I q => h.run pins s σ H D I (k D σ H q)⟩
theorem psF {X : Cx} {s : Stmt} {t : TS} (k : ∀ D σ H, ¬ t D σ H) : PS X s t := ⟨fun pins s σ H D I q => (k D σ H q).elim⟩
variable (CX T PR cl fa fd ps)
def SSn (j : Nat) : Prop := ∀ sc N n k c s X, Good CX T PR cl fa fd ps j sc none N X → chkS T PR sc N n k c s = true → PS X s (rdS X.K cl (ev PR j) c)
variable {CX T PR cl fa fd ps}
/-- a block -/
theorem sb_of {j : Nat} (hS : SSn CX T PR cl fa fd ps j) {n k : Nat} {X : Cx} {sc : Scope} {N : List Str} (g : Good CX T PR cl fa fd ps j sc none N X) : ∀ {cs : List Sm} {ss : List Stmt}, chkSs (chkS T PR sc N n k) cs ss = true → PSs X ss (rdB X.K cl (ev PR j) cs)
  | [], [], h => by
    refine pssImp pss_nil fun D σ H ⟨m, env, st, sr, er, f⟩ => ?_
    exact f σ H m (Ext.refl _ _) sr er
  | c :: cs, s :: ss, h => by
    simp only [chkSs, Bool.and_eq_true] at h
    refine pssImp (pss_cons (hS sc N n k c s X g h.1) (sb_of hS g h.2)) fun D σ H ⟨m, env, st, sr, er, f⟩ => ?_
    refine ⟨m, env, st, sr, er, ?_⟩
    have f : FinS X.K cl m H (((ev PR j).S c env st).bind fun a st => match a with
      | (.nx, env) => blk (ev PR j) cs env st
      | (f, env) => .ok (f, env) st) D := f
    show FinS X.K cl m H ((ev PR j).S c env st) _
    cases e : (ev PR j).S c env st with
    | exc _ _ => rw [e] at f; exact f.elim
    | bad => rw [e] at f; exact f.elim
    | ok a st' =>
      rw [e] at f
      obtain ⟨fl, env'⟩ := a
      cases fl with
      | nx => exact fun σ' H' m' x sr' er' => ⟨m', env', st', sr', er', FinS.mono x f⟩
      | ret v => exact f
      | bk => exact f
      | ct => exact f
  | [], _ :: _, h => by cases h
  | _ :: _, [], h => by cases h
theorem ss_zero : SSn CX T PR cl fa fd ps 0 := fun sc N n k c s X g h => psF fun D σ H ⟨m, env, st, sr, er, f⟩ => f
end
end Pv

set_option Elab.async false
set_option linter.all false
set_option maxRecDepth 100000
set_option maxHeartbeats 1000000
/-! Statements, one step. -/
namespace Pv
open PySem PySem.Spec PyProof.Rows L2
section
variable {T : Tab} {PR : Prog} {sc : Scope} {N : List Str} {n : Nat} {rc : Sm → Stmt → Bool} {s : Stmt}
theorem inv_ite {c : Ex} {a b : List Sm} (h : chkSt T PR sc N n rc (.ite c a b) s = true) : ∃ t x y pos, s = .If t x y pos ∧ chkE T PR sc none N n c t = true ∧ chkSs rc a x = true ∧ chkSs rc b y = true := by
  rw [chkSt_ite] at h
  cases s with
  | If t x y pos =>
    simp only [Bool.and_eq_true] at h
    exact ⟨t, x, y, pos, rfl, h.1.1, h.1.2, h.2⟩
  | _ => cases h
theorem inv_set {t : Tg} {c : Ex} (h : chkSt T PR sc N n rc (.set t c) s = true) : (∃ x p e pos, s = .Assign [.Name x p] e pos ∧ tgB sc none N t (.Name x p) = true ∧ chkE T PR sc none N n c e = true ∧ notSD e = true ∧ (!swB sc e x p || isComp c) = true) ∨
    ∃ ts k p e pos, s = .Assign [.Tuple ts k p] e pos ∧ tgB sc none N t (.Tuple ts k p) = true ∧ chkE T PR sc none N n c e = true ∧ notComp e = true ∧ notTup e = true := by
  rw [chkSt_set] at h
  cases s with
  | Assign tgs e pos =>
    cases tgs with
    | nil => cases h
    | cons tg r =>
      cases r with
      | cons _ _ => cases tg <;> cases h
      | nil =>
        cases tg with
        | Name x p =>
          simp only [Bool.and_eq_true] at h
          exact .inl ⟨x, p, e, pos, rfl, h.1.1.1, h.1.1.2, h.1.2, h.2⟩
        | Tuple ts k p =>
          simp only [Bool.and_eq_true] at h
          exact .inr ⟨ts, k, p, e, pos, rfl, h.1.1.1, h.1.1.2, h.1.2, h.2⟩
        | _ => cases h
  | _ => cases h
theorem inv_par {i j : Nat} {a b : Ex} (h : chkSt T PR sc N n rc (.par i j a b) s = true) : ∃ x px y py kt pt ea eb k2 pt2 pos, s = .Assign [.Tuple [.Name x px, .Name y py] kt pt] (.Tuple [ea, eb] k2 pt2) pos ∧ decide (N[i]? = some x) = true ∧ decide (N[j]? = some y) = true ∧ decide (i ≠ j) = true ∧
    parB sc x y px py ea eb = true ∧ chkL T PR sc none N n [a, b] [ea, eb] = true := by
  rw [chkSt_par] at h
  split at h
  · simp only [Bool.and_eq_true] at h
    exact ⟨_, _, _, _, _, _, _, _, _, _, _, rfl, h.1.1.1.1, h.1.1.1.2, h.1.1.2, h.1.2, h.2⟩
  · cases h
theorem inv_setIx {a i c : Ex} (h : chkSt T PR sc N n rc (.setIx a i c) s = true) : ∃ o ix p e pos, s = .Assign [.Subscript o ix p] e pos ∧ plainIx ix = true ∧ chkE T PR sc none N n a o = true ∧ chkE T PR sc none N n i ix = true ∧ chkE T PR sc none N n c e = true ∧ notComp e = true := by
  rw [chkSt_setIx] at h
  split at h
  · simp only [Bool.and_eq_true] at h
    exact ⟨_, _, _, _, _, rfl, h.1.1.1.1, h.1.1.1.2, h.1.1.2, h.1.2, h.2⟩
  · cases h
theorem inv_setAt {a c : Ex} {f : Str} (h : chkSt T PR sc N n rc (.setAt a f c) s = true) : ∃ o p e pos, s = .Assign [.Attribute o f p] e pos ∧ chkE T PR sc none N n a o = true ∧ chkE T PR sc none N n c e = true ∧ notComp e = true := by
  rw [chkSt_setAt] at h
  split at h
  · simp only [Bool.and_eq_true] at h
    have e := of_decide_eq_true h.1.1.1
    subst e
    exact ⟨_, _, _, _, rfl, h.1.1.2, h.1.2, h.2⟩
  · cases h
theorem inv_app {a c : Ex} (h : chkSt T PR sc N n rc (.app a c) s = true) : ∃ o apos e pos pos2, s = .Expr (.Call (.Attribute o "append" apos) [e] [] pos) pos2 ∧ plainBase o = true ∧ (apos.endLine == pos.line) = true ∧ notStar e = true ∧ chkE T PR sc none N n a o = true ∧ chkE T PR sc none N n c e = true := by
  rw [chkSt_app] at h
  split at h
  · simp only [Bool.and_eq_true] at h
    have e := of_decide_eq_true h.1.1.1.1.1
    subst e
    exact ⟨_, _, _, _, _, rfl, h.1.1.1.1.2, h.1.1.1.2, h.1.1.2, h.1.2, h.2⟩
  · cases h
theorem inv_ext {a c : Ex} (h : chkSt T PR sc N n rc (.ext a c) s = true) : ∃ o apos e pos pos2, s = .Expr (.Call (.Attribute o "extend" apos) [e] [] pos) pos2 ∧ plainBase o = true ∧ (apos.endLine == pos.line) = true ∧ notStar e = true ∧ chkE T PR sc none N n a o = true ∧ chkE T PR sc none N n c e = true := by
  rw [chkSt_ext] at h
  split at h
  · simp only [Bool.and_eq_true] at h
    have e := of_decide_eq_true h.1.1.1.1.1
    subst e
    exact ⟨_, _, _, _, _, rfl, h.1.1.1.1.2, h.1.1.1.2, h.1.1.2, h.1.2, h.2⟩
  · cases h
theorem inv_whl {c : Ex} {b : List Sm} (h : chkSt T PR sc N n rc (.whl c b) s = true) : ∃ t x pos, s = .While t x [] pos ∧ chkE T PR sc none N n c t = true ∧ chkSs rc b x = true := by
  rw [chkSt_whl] at h
  split at h
  · simp only [Bool.and_eq_true] at h
    exact ⟨_, _, _, rfl, h.1, h.2⟩
  · cases h
theorem inv_for {tg : Tg} {k : Ik} {its : List Ex} {b : List Sm} (h : chkSt T PR sc N n rc (.for_ tg k its b) s = true) : ∃ t iter x pos, s = .For t iter x [] pos ∧ tgB sc none N tg t = true ∧ chkI T PR sc none N n k its t iter = true ∧ chkSs rc b x = true ∧ notSet iter = true := by
  rw [chkSt_for_] at h
  split at h
  · simp only [Bool.and_eq_true] at h
    exact ⟨_, _, _, _, rfl, h.1.1.1, h.1.1.2, h.1.2, h.2⟩
  · cases h
theorem inv_ret {c : Ex} (h : chkSt T PR sc N n rc (.ret c) s = true) : ∃ e pos, s = .Return (some e) pos ∧ chkE T PR sc none N n c e = true := by
  rw [chkSt_ret] at h
  split at h
  · exact ⟨_, _, rfl, h⟩
  · cases h
theorem inv_retN (h : chkSt T PR sc N n rc .retN s = true) : ∃ pos, s = .Return none pos := by
  rw [chkSt_retN] at h
  split at h
  · exact ⟨_, rfl⟩
  · cases h
theorem inv_ex {c : Ex} (h : chkSt T PR sc N n rc (.ex c) s = true) : ∃ e pos, s = .Expr e pos ∧ chkE T PR sc none N n c e = true ∧ notComp e = true := by
  rw [chkSt_ex] at h
  split at h
  · simp only [Bool.and_eq_true] at h
    exact ⟨_, _, rfl, h.1, h.2⟩
  · cases h
theorem inv_brk (h : chkSt T PR sc N n rc .brk s = true) : ∃ pos, s = .Break pos := by
  rw [chkSt_brk] at h
  split at h
  · exact ⟨_, rfl⟩
  · cases h
theorem inv_cnt (h : chkSt T PR sc N n rc .cnt s = true) : ∃ pos, s = .Continue pos := by
  rw [chkSt_cnt] at h
  split at h
  · exact ⟨_, rfl⟩
  · cases h
theorem inv_pass (h : chkSt T PR sc N n rc .pass s = true) : ∃ pos, s = .Pass pos := by
  rw [chkSt_pass] at h
  split at h
  · exact ⟨_, rfl⟩
  · cases h
end
end Pv

set_option Elab.async false
set_option linter.all false
set_option maxRecDepth 100000
set_option maxHeartbeats 1000000
/-! Statements, one step. -/
namespace Pv
open PySem PySem.Spec PyProof.Rows L2
section
variable {CX : CXT} {T : Tab} {PR : Prog} {cl fa : Nat → Addr} {fd : Nat → FuncData} {ps : Nat → List Str}
variable {j : Nat} {sc : Scope} {N : List Str} {X : Cx} {n k : Nat} {s : Stmt}
theorem FinS.nx {m : List Addr} {H : Hp} {st : Store} {env : En} {σ : L2.St} {K : W.Frag} {D : Ends} (f : FinS K cl m H (.ok (.nx, env) st) D) (sr : SR K cl H m st) (er : ER K cl H m env σ) : D.nx σ H := f σ H m (Ext.refl _ _) sr er
theorem st_par (hE : SEn CX T PR cl fa fd ps j) (g : Good CX T PR cl fa fd ps (j + 1) sc none N X) {i jj : Nat} {a b : Ex} {rc : Sm → Stmt → Bool} (h : chkSt T PR sc N n rc (.par i jj a b) s = true) : PS X s (rdS X.K cl (ev PR (j + 1)) (.par i jj a b)) := by
  obtain ⟨x, px, y, py, kt, pt, ea, eb, k2, pt2, pos, rfl, h1, h2, h3, h4, h5⟩ := inv_par h
  have gd := g.down (Nat.le_succ j)
  have pl := parB_ok (kt := kt) (k2 := k2) (pt := pt) (pt2 := pt2) g.sc g.kd h4
  have h4' := h4
  simp only [parB, Bool.and_eq_true] at h4'
  obtain ⟨⟨⟨⟨⟨⟨⟨q1, q2⟩, _⟩, _⟩, _⟩, _⟩, _⟩, _⟩ := h4'
  refine psImp (ps_par g.calm (by rw [g.hN]; exact g.nd) (by rw [g.hN]; exact of_decide_eq_true h1) (by rw [g.hN]; exact of_decide_eq_true h2) (of_decide_eq_true h3) (by rw [g.sc]; exact of_decide_eq_true q1) (by rw [g.sc]; exact of_decide_eq_true q2) (sl_of hE gd h5) pl) fun D σ H ⟨m, env, st, sr, er, f⟩ => ?_
  have f : FinS X.K cl m H ((evL (ev PR j) [a, b] env st).bind fun vs st => match vs with
    | [x, y] => .ok (.nx, (env.set i (some x)).set jj (some y)) st
    | _ => .bad) D := by
    simp only [evL, Res.bind_assoc]
    exact f
  refine rdL_bind (cnS D) sr er f fun v1 st1 u1 H1 m1 x1 sr1 er1 r1 f1 => ?_
  match v1, r1, f1 with
  | [x, y], r1, f1 =>
    obtain ⟨u, w, rfl, ru, rw'⟩ := r1.two
    exact ⟨u, w, rfl, FinS.nx f1 sr1 ((er1.set ru).set rw')⟩
  | [], _, f1 => exact f1.elim
  | [_], _, f1 => exact f1.elim
  | _ :: _ :: _ :: _, _, f1 => exact f1.elim
theorem st_setAt (hE : SEn CX T PR cl fa fd ps j) (g : Good CX T PR cl fa fd ps (j + 1) sc none N X) {a c : Ex} {f : Str} {rc : Sm → Stmt → Bool} (h : chkSt T PR sc N n rc (.setAt a f c) s = true) : PS X s (rdS X.K cl (ev PR (j + 1)) (.setAt a f c)) := by
  obtain ⟨o, p, e, pos, rfl, h2, h3, h4⟩ := inv_setAt h
  have gd := g.down (Nat.le_succ j)
  refine psImp (ps_fld (hE _ _ _ _ _ _ X gd h2) (hE _ _ _ _ _ _ X gd h3) (notComp_ok h4)) fun D σ H ⟨m, env, st, sr, er, f'⟩ => ?_
  refine rdE_bind (cnS D) sr er f' fun v1 st1 u1 H1 m1 x1 sr1 er1 r1 f1 => ?_
  refine rdE_bind (cnS D) sr1 er1 f1 fun v2 st2 u2 H2 m2 x2 sr2 er2 r2 f2 => ?_
  cases v2 with
  | ref r =>
    dsimp only at f2
    cases e1 : st2[r]? with
    | none => rw [e1] at f2; exact f2.elim
    | some so =>
      rw [e1] at f2
      cases so with
      | lst _ => exact f2.elim
      | ins c fs =>
        dsimp only at f2
        cases ek : PR.kl[c]? with
        | none => rw [ek] at f2; exact f2.elim
        | some kc =>
          rw [ek] at f2
          dsimp only at f2
          split at f2
          · rename_i hin
            obtain ⟨ad, rfl, had⟩ := r2
            obtain ⟨w, hw, dx, gs, rfl, rl⟩ := sr2.at_ r ad _ had e1
            have st' := setO (x := .ins c (putP f v1 fs)) (o := .ins (cl c) dx (putF f u1 gs)) sr2 had (List.getElem?_eq_some_iff.mp e1).1 (by rw [hw]; exact trivial) ⟨_, _, rfl, RpF.put (r1.mono x2) rl⟩
            exact ⟨ad, cl c, dx, gs, rfl, hw, g.wf.co.cls c kc ek, g.wf.na c kc f ek hin.1, by rw [← rl.length]; exact hin.2, f2 _ _ m2 st'.1 st'.2 (er2.mono st'.1)⟩
          · exact f2.elim
  | _ => exact f2.elim
theorem sole_ok {t e : Expr} {l : Nat} {env : Env} (h : notComp e = true) : swapsWithSole [t] e l env = pure false := by
  show swapsWith e (some t) l env = pure false
  exact notComp_ok h
theorem few1 {env : Env} {e : Expr} {pos : Pos} (h : notStar e = true) : ((backTo pos (starEach [e] env)).all (fun x => !x.1) && (backToKw pos (keywordEach [] env)).all (fun x => x.1.isSome)
      && decide ([e].length + ([] : List Keyword).length + (if ([] : List Keyword).isEmpty then 0 else 1) < 30)) = true := by
  rw [star_cons h]
  rfl
theorem pg_subP {X : Cx} {o i : Expr} {to ti : TE} {t : TSet} {pos : Pos} (hp : plainIx i = true) (ho : PE X o to) (hi : PE X i ti) (hs : PSet X t) : PG X (.Subscript o i pos) (gSub to ti t) :=
  pg_sub ho hi hs (by intro v; cases i <;> first | rfl | cases hp)
theorem st_setIx (hE : SEn CX T PR cl fa fd ps j) (g : Good CX T PR cl fa fd ps (j + 1) sc none N X) {a i c : Ex} {rc : Sm → Stmt → Bool} (h : chkSt T PR sc N n rc (.setIx a i c) s = true) : PS X s (rdS X.K cl (ev PR (j + 1)) (.setIx a i c)) := by
  obtain ⟨o, ix, p, e, pos, rfl, h1, h2, h3, h4, h5⟩ := inv_setIx h
  have gd := g.down (Nat.le_succ j)
  refine psImp (ps_asg (hE _ _ _ _ _ _ X gd h4) (pg_subP h1 (hE _ _ _ _ _ _ X gd h2) (hE _ _ _ _ _ _ X gd h3) set_list) (sole_ok h5) sub_stores) fun D σ H ⟨m, env, st, sr, er, f⟩ => ?_
  refine rdE_bind (cnS D) sr er f fun v1 st1 u1 H1 m1 x1 sr1 er1 r1 f1 => ?_
  refine rdE_bind (cnS D) sr1 er1 f1 fun v2 st2 u2 H2 m2 x2 sr2 er2 r2 f2 => ?_
  refine rdE_bind (cnS D) sr2 er2 f2 fun v3 st3 u3 H3 m3 x3 sr3 er3 r3 f3 => ?_
  cases v2 with
  | ref r =>
    cases v3 with
    | int q =>
      cases r3
      dsimp only at f3
      cases e1 : st3[r]? with
      | none => rw [e1] at f3; exact f3.elim
      | some so =>
        rw [e1] at f3
        cases so with
        | ins _ _ => exact f3.elim
        | lst xs =>
          dsimp only at f3
          obtain ⟨jx, e2, f4⟩ := tl_bind (cnS D) f3
          obtain ⟨ad, rfl, had⟩ := r2.mono x3
          obtain ⟨w, hw, ys, rfl, rl⟩ := sr3.at_ r ad _ had e1
          have st' := setO (x := .lst (xs.set jx v1)) (o := .lst (ys.set jx u1)) sr3 had (List.getElem?_eq_some_iff.mp e1).1 (by rw [hw]; exact trivial) ⟨_, rfl, rl.set jx (r1.mono (x2.trans x3))⟩
          exact ⟨ad, ys, q, jx, rfl, rfl, hw, by rw [← rl.length]; exact e2, f4 _ _ m3 st'.1 st'.2 (er3.mono st'.1)⟩
    | _ => exact f3.elim
  | _ => exact f3.elim
theorem st_app (hE : SEn CX T PR cl fa fd ps j) (g : Good CX T PR cl fa fd ps (j + 1) sc none N X) {a c : Ex} {rc : Sm → Stmt → Bool} (h : chkSt T PR sc N n rc (.app a c) s = true) : PS X s (rdS X.K cl (ev PR (j + 1)) (.app a c)) := by
  obtain ⟨o, apos, e, pos, pos2, rfl, h1, h2, h3, h4, h5⟩ := inv_app h
  have gd := g.down (Nat.le_succ j)
  refine psImp (ps_expr (pe_bm PySem.F.plainAttrs_list PySem.F.slot_list_append PySem.F.type_list_append mt_append (hE _ _ _ _ _ _ X gd h4) (pa_cons (hE _ _ _ _ _ _ X gd h5) pa_nil (star_cons h3)) (plainBase_ok h1 _) (few1 h3) h2 (star_cons h3))) fun D σ H ⟨m, env, st, sr, er, f⟩ => ?_
  refine rdE_bind (cnS D) sr er f fun v1 st1 u1 H1 m1 x1 sr1 er1 r1 f1 => ?_
  cases v1 with
  | ref r =>
    dsimp only at f1
    cases e1 : st1[r]? with
    | none => rw [e1] at f1; exact f1.elim
    | some so =>
      rw [e1] at f1
      cases so with
      | ins _ _ => exact f1.elim
      | lst xs =>
        dsimp only at f1
        obtain ⟨l, rfl, had⟩ := r1
        obtain ⟨w, hw, ys, rfl, rl⟩ := sr1.at_ r l _ had e1
        refine ⟨.inl ⟨rfl, ys, .inl (.inl hw)⟩, ?_⟩
        refine rdE_bind (cnS D) sr1 er1 f1 fun v2 st2 u2 H2 m2 x2 sr2 er2 r2 f2 => ?_
        obtain ⟨st3, e3, f3⟩ := tl_bind (cnS D) f2
        obtain ⟨acc, q1, q2, q3, q4⟩ := push_ok sr2 (x2.at_ had) r2 e3
        exact ⟨l, acc, u2, rfl, rfl, q1, q2, f3 _ _ m2 q3 q4 (er2.mono q3)⟩
  | _ => exact f1.elim
theorem st_ext (hE : SEn CX T PR cl fa fd ps j) (g : Good CX T PR cl fa fd ps (j + 1) sc none N X) {a c : Ex} {rc : Sm → Stmt → Bool} (h : chkSt T PR sc N n rc (.ext a c) s = true) : PS X s (rdS X.K cl (ev PR (j + 1)) (.ext a c)) := by
  obtain ⟨o, apos, e, pos, pos2, rfl, h1, h2, h3, h4, h5⟩ := inv_ext h
  have gd := g.down (Nat.le_succ j)
  refine psImp (ps_expr (pe_bm PySem.F.plainAttrs_list PySem.F.slot_list_extend PySem.F.type_list_extend mt_extend (hE _ _ _ _ _ _ X gd h4) (pa_cons (hE _ _ _ _ _ _ X gd h5) pa_nil (star_cons h3)) (plainBase_ok h1 _) (few1 h3) h2 (star_cons h3))) fun D σ H ⟨m, env, st, sr, er, f⟩ => ?_
  refine rdE_bind (cnS D) sr er f fun v1 st1 u1 H1 m1 x1 sr1 er1 r1 f1 => ?_
  cases v1 with
  | ref r =>
    dsimp only at f1
    cases e1 : st1[r]? with
    | none => rw [e1] at f1; exact f1.elim
    | some so =>
      rw [e1] at f1
      cases so with
      | ins _ _ => exact f1.elim
      | lst xs0 =>
        dsimp only at f1
        obtain ⟨l, rfl, had⟩ := r1
        obtain ⟨w, hw, ys0, rfl, rl0⟩ := sr1.at_ r l _ had e1
        refine ⟨.inl ⟨rfl, ys0, .inl (.inl hw)⟩, ?_⟩
        refine rdE_bind (cnS D) sr1 er1 f1 fun v2 st2 u2 H2 m2 x2 sr2 er2 r2 f2 => ?_
        cases e2 : seqOf st2 v2 with
        | none => rw [e2] at f2; exact f2.elim
        | some w =>
          obtain ⟨b, ys⟩ := w
          rw [e2] at f2
          cases b with
          | true => exact f2.elim
          | false =>
            cases e3 : st2[r]? with
            | none => rw [e3] at f2; exact f2.elim
            | some so =>
              rw [e3] at f2
              cases so with
              | ins _ _ => exact f2.elim
              | lst xs =>
                dsimp only at f2
                split at f2
                · rename_i hl
                  obtain ⟨p2, zs, rfl, rz, _, hz⟩ := seq_ok sr2 r2 e2
                  have had2 := x2.at_ had
                  obtain ⟨w, hw, ws, rfl, rw'⟩ := sr2.at_ r l _ had2 e3
                  have st' := setO (x := .lst (xs ++ ys)) (o := .lst (ws ++ zs)) sr2 had2 (List.getElem?_eq_some_iff.mp e3).1 (by rw [hw]; exact trivial) ⟨_, rfl, rw'.append rz⟩
                  exact ⟨l, p2, ws, zs, rfl, rfl, hw, hz rfl, by rw [← rw'.length, ← rz.length]; exact hl, f2 _ _ m2 st'.1 st'.2 (er2.mono st'.1)⟩
                · exact f2.elim
  | _ => exact f1.elim
end
end Pv

set_option Elab.async false
set_option linter.all false
set_option maxRecDepth 100000
set_option maxHeartbeats 1000000
/-! Statements: loops, stores; one step in all. -/
namespace Pv
open PySem PySem.Spec PyProof.Rows L2
section
variable {CX : CXT} {T : Tab} {PR : Prog} {cl fa : Nat → Addr} {fd : Nat → FuncData} {ps : Nat → List Str}
variable {j : Nat} {sc : Scope} {N : List Str} {X : Cx} {n k : Nat} {s : Stmt}
theorem own_pass {i : Nat} {top : Top} (g : Good CX T PR cl fa fd ps i sc top N X) : PassesOwn (model X.prog X.w) X.A X.env X.xe := by
  rw [g.never]
  exact PassesOwn.never
/-- behind a body: what a loop does with how it ended -/
theorem body_end {K : W.Frag} {r : Ev} {b : List Sm} {env : En} {st : Store} {m : List Addr} {H : Hp} {σ : L2.St} {D : Ends} {nx : En → Store → Res (Fl × En)} {W : L2.St → Hp → Prop} (sr : SR K cl H m st) (er : ER K cl H m env σ)
    (f : FinS K cl m H ((blk r b env st).bind fun a st => match a with
      | (.nx, env) => nx env st
      | (.ct, env) => nx env st
      | (.bk, env) => .ok (.nx, env) st
      | (.ret v, env) => .ok (.ret v, env) st) D)
    (hW : ∀ σ' H' m' env' st', Ext m H m' H' → SR K cl H' m' st' → ER K cl H' m' env' σ' → FinS K cl m' H' (nx env' st') D → W σ' H') : rdB K cl r b { D with nx := W, ct := W, bk := D.nx } σ H := by
  refine ⟨m, env, st, sr, er, ?_⟩
  show FinS K cl m H (blk r b env st) _
  cases e : blk r b env st with
  | exc _ _ => rw [e] at f; exact f.elim
  | bad => rw [e] at f; exact f.elim
  | ok a st' =>
    rw [e] at f
    obtain ⟨fl, env'⟩ := a
    cases fl with
    | nx => exact fun σ' H' m' x sr' er' => hW σ' H' m' env' st' x sr' er' (FinS.mono x f)
    | ct => exact fun σ' H' m' x sr' er' => hW σ' H' m' env' st' x sr' er' (FinS.mono x f)
    | bk => exact fun σ' H' m' x sr' er' => f σ' H' m' x sr' er'
    | ret v => exact fun u H' m' x sr' rp => f u H' m' x sr' rp
theorem st_whl (hT : STn CX T PR cl fa fd ps j) (hS : SSn CX T PR cl fa fd ps j) (g : Good CX T PR cl fa fd ps (j + 1) sc none N X) {c : Ex} {b : List Sm} (h : chkSt T PR sc N n (chkS T PR sc N n k) (.whl c b) s = true) : PS X s (rdS X.K cl (ev PR (j + 1)) (.whl c b)) := by
  obtain ⟨t, x, pos, rfl, h1, h2⟩ := inv_whl h
  have gd := g.down (Nat.le_succ j)
  refine psImp (ps_while (own_pass gd) (hT _ _ _ _ _ _ X gd h1).1 (sb_of hS gd h2)) fun D σ H q => ?_
  obtain ⟨m, env, st, sr, er, f⟩ := q
  refine ⟨fun i σ H => At X.K cl σ H fun m env st => FinS X.K cl m H (whileN (ev PR j) c b i env st) D, ⟨PR.wf, m, env, st, sr, er, f⟩, ?_⟩
  rintro i σ1 H1 ⟨m1, env1, st1, sr1, er1, f1⟩
  cases i with
  | zero => exact f1.elim
  | succ i =>
    unfold whileN at f1
    refine rdT_bind (cnS D) sr1 er1 f1 fun bb st2 H2 m2 x2 sr2 er2 f2 => ?_
    cases bb with
    | false => exact FinS.nx f2 sr2 er2
    | true =>
      simp only [if_true] at f2 ⊢
      refine ⟨fun σ' H' => At X.K cl σ' H' fun m env st => FinS X.K cl m H' (whileN (ev PR j) c b i env st) D, fun σ' H' q => ⟨i, Nat.lt_succ_self i, q⟩, ?_⟩
      exact body_end sr2 er2 f2 fun σ' H' m' env' st' x sr' er' f' => ⟨m', env', st', sr', er', f'⟩
theorem st_for (hE : SEn CX T PR cl fa fd ps j) (hS : SSn CX T PR cl fa fd ps j) (g : Good CX T PR cl fa fd ps (j + 1) sc none N X) {tg : Tg} {kk : Ik} {its : List Ex} {b : List Sm} (h : chkSt T PR sc N n (chkS T PR sc N n k) (.for_ tg kk its b) s = true) : PS X s (rdS X.K cl (ev PR (j + 1)) (.for_ tg kk its b)) := by
  obtain ⟨t, iter, x, pos, rfl, h1, h2, h3, h4⟩ := inv_for h
  have gd := g.down (Nat.le_succ j)
  refine psImp (ps_for (own_pass gd) g.calm (si_of hE gd h2) (tg_ok gd tg t h1) (sb_of hS gd h3) (fun x => notSet_ok h4 x)) fun D σ H q => ?_
  obtain ⟨m, env, st, sr, er, f⟩ := q
  refine rdI_bind (cnS D) sr er f fun xs gg st1 J H1 m1 x1 sr1 er1 wk f1 => ?_
  let S : Nat → L2.St → Hp → Prop := fun i σ' H' => ∃ m' env' st', Ext m1 H1 m' H' ∧ SR X.K cl H' m' st' ∧ ER X.K cl H' m' env' σ' ∧ FinS X.K cl m' H' (forL (ev PR j) tg b gg (xs.drop i) env' st') D
  refine ⟨fun i mm σ' H' => mm = xs.length - i ∧ i ≤ xs.length ∧ S i σ' H', ⟨_, rfl, Nat.zero_le _, m1, env, st1, Ext.refl _ _, sr1, er1, f1⟩, ?_⟩
  rintro i mm σ' H' ⟨rfl, hi, m', env', st', x', sr', er', fi⟩
  by_cases hlt : i < xs.length
  · rw [List.drop_eq_getElem_cons hlt] at fi
    unfold forL at fi
    by_cases hg : gg st'
    case neg => rw [if_neg hg] at fi; exact fi.elim
    rw [if_pos hg] at fi
    refine .inr ⟨wk.go x' sr' hg hlt, S (i + 1), fun σ2 H2 q => ⟨_, by omega, rfl, hlt, q⟩, fun y H2 hy => ?_⟩
    obtain ⟨y1, y2, y3⟩ := wk.yld x' sr' hg (List.getElem?_eq_getElem hlt) hy
    cases ea : asg tg xs[i] env' with
    | none => rw [ea] at fi; exact fi.elim
    | some env2 =>
      rw [ea] at fi
      refine ⟨m', env', st', xs[i], env2, y2, er'.mono y1, y3, ea, fun σ3 er3 o3 => ?_⟩
      exact body_end y2 er3 (FinS.mono y1 fi) fun σ4 H4 m4 env4 st4 x4 sr4 er4 f4 => ⟨m4, env4, st4, (x'.trans y1).trans x4, sr4, er4, f4⟩
  · have e : i = xs.length := by omega
    subst e
    rw [List.drop_length] at fi
    unfold forL at fi
    by_cases hg : gg st'
    case neg => rw [if_neg hg] at fi; exact fi.elim
    rw [if_pos hg] at fi
    exact .inl ⟨wk.stop x' sr' hg (Nat.le_refl _), FinS.nx fi sr' er'⟩
theorem st_set (hE : SEn CX T PR cl fa fd ps j) (hE' : ∀ i, i < j → SEn CX T PR cl fa fd ps i ∧ STn CX T PR cl fa fd ps i) (g : Good CX T PR cl fa fd ps (j + 1) sc none N X) {t : Tg} {c : Ex} {rc : Sm → Stmt → Bool} (h : chkSt T PR sc N n rc (.set t c) s = true) : PS X s (rdS X.K cl (ev PR (j + 1)) (.set t c)) := by
  have gd := g.down (Nat.le_succ j)
  rcases inv_set h with ⟨x, p, e, pos, rfl, h1, h2, h3, h4⟩ | ⟨ts, kk, p, e, pos, rfl, h1, h2, h3, h4⟩
  · cases t with
    | t ts => cases h1
    | n i =>
      simp only [tgB, Bool.and_eq_true] at h1
      obtain ⟨l1, l2⟩ := locB_ok gd h1.2
      have hi : X.N[i]? = some x := by rw [g.hN]; exact of_decide_eq_true h1.1
      have nd : X.N.Nodup := by rw [g.hN]; exact g.nd
      have fin : ∀ {v : PV} {u : V} {σ : L2.St} {env : En} {st : Store} {m : List Addr} {H : Hp} {D : Ends}, SR X.K cl H m st → ER X.K cl H m env σ → Rp X.K cl H m v u → FinS X.K cl m H ((tl (asg (.n i) v env) st).bind fun env st => .ok (.nx, env) st) D → D.nx (σ.set i (some u)) H := fun {v u σ env st m H D} sr er r f => by
        obtain ⟨env', e1, f1⟩ := tl_bind (cnS D) f
        unfold asg at e1
        split at e1
        · cases e1
          exact FinS.nx f1 sr (er.set r)
        · cases e1
      by_cases sw : swB sc e x p = true
      · have hc : isComp c = true := by
          rw [sw] at h4
          exact h4
        cases c with
        | comp mu ce tg kk its ts =>
          cases n with
          | zero => cases h2
          | succ n =>
          cases j with
          | zero => exact psF fun D σ H ⟨m, env, st, sr, er, f⟩ => f
          | succ j =>
            obtain ⟨hEj, hTj⟩ := hE' j (Nat.lt_succ_self j)
            obtain ⟨elt, tt, iter, ifs, scope, lpos, rfl, p1, p2, p3, p4, p5, p6, p7⟩ := lc_parts hEj hTj gd h2
            simp only [swB, Bool.and_eq_true, Bool.not_eq_true'] at sw
            obtain ⟨⟨w1, w2⟩, w3⟩ := sw
            have w1 : X.env.scope.names.lookup x = some .local := by rw [g.sc]; exact of_decide_eq_true w1
            refine psImp (ps_setLc g.calm nd hi w1 (sw_true (by rw [g.sc]; exact g.kd) w1 w2 w3) p1 p2 p4 p5 p6 p7) fun D σ H ⟨m, env, st, sr, er, f⟩ => ?_
            have f : FinS X.K cl m H ((comp (ev PR j) mu ce tg kk its ts env st).bind fun v st => (tl (asg (.n i) v env) st).bind fun env st => .ok (.nx, env) st) D := f
            show tLc _ _ _ _ _ σ H fun v H1 => D.nx (σ.set i (some v)) H1
            rw [p3]
            refine lc_read (mu := mu) sr er ?_
            cases q : comp (ev PR j) mu ce tg kk its ts env st with
            | exc _ _ => rw [q] at f; exact f.elim
            | bad => rw [q] at f; exact f.elim
            | ok v st' =>
              rw [q] at f
              exact fun u H' m' x sr' rp => fin sr' (er.mono x) rp (FinS.mono x f)
        | _ => cases hc
      · have sw : swB sc e x p = false := by simpa using sw
        refine psImp (ps_set nd hi l1 (hE _ _ _ _ _ _ X gd h2) (by rw [swB_ok g.sc g.kd (by cases e <;> first | rfl | cases h3), sw]) l2) fun D σ H ⟨m, env, st, sr, er, f⟩ => ?_
        exact rdE_bind (cnS D) sr er f fun v1 st1 u1 H1 m1 x1 sr1 er1 r1 f1 => fin sr1 er1 r1 f1
  · refine psImp (ps_asg (hE _ _ _ _ _ _ X gd h2) (tg_ok gd t _ h1) (sole_ok h3) (notTup_ok h4)) fun D σ H ⟨m, env, st, sr, er, f⟩ => ?_
    refine rdE_bind (cnS D) sr er f fun v1 st1 u1 H1 m1 x1 sr1 er1 r1 f1 => ?_
    obtain ⟨env', e1, f2⟩ := tl_bind (cnS D) f1
    exact ⟨m1, env, st1, v1, env', sr1, er1, r1, e1, fun σ' er' _ => FinS.nx f2 sr1 er'⟩
theorem ss_succ (hE : SEn CX T PR cl fa fd ps j) (hT : STn CX T PR cl fa fd ps j) (hE' : ∀ i, i < j → SEn CX T PR cl fa fd ps i ∧ STn CX T PR cl fa fd ps i) (hS : SSn CX T PR cl fa fd ps j) : SSn CX T PR cl fa fd ps (j + 1) := by
  intro sc N n k c s X g h
  cases k with
  | zero => cases h
  | succ k =>
  have gd := g.down (Nat.le_succ j)
  have h : chkSt T PR sc N n (chkS T PR sc N n k) c s = true := h
  cases c with
  | bad => exact psF fun D σ H ⟨m, env, st, sr, er, f⟩ => f
  | aug i o e => cases h
  | swap a i b j x y => cases h
  | pass =>
    obtain ⟨pos, rfl⟩ := inv_pass h
    exact psImp ps_pass fun D σ H ⟨m, env, st, sr, er, f⟩ => FinS.nx f sr er
  | brk =>
    obtain ⟨pos, rfl⟩ := inv_brk h
    exact psImp ps_break fun D σ H ⟨m, env, st, sr, er, f⟩ => f σ H m (Ext.refl _ _) sr er
  | cnt =>
    obtain ⟨pos, rfl⟩ := inv_cnt h
    exact psImp ps_continue fun D σ H ⟨m, env, st, sr, er, f⟩ => f σ H m (Ext.refl _ _) sr er
  | retN =>
    obtain ⟨pos, rfl⟩ := inv_retN h
    exact psImp ps_retN fun D σ H ⟨m, env, st, sr, er, f⟩ => f .non H m (Ext.refl _ _) sr rfl
  | ret c =>
    obtain ⟨e, pos, rfl, h1⟩ := inv_ret h
    refine psImp (ps_ret (hE _ _ _ _ _ _ X gd h1)) fun D σ H ⟨m, env, st, sr, er, f⟩ => ?_
    exact rdE_bind (cnS D) sr er f fun v1 st1 u1 H1 m1 x1 sr1 er1 r1 f1 => f1 u1 H1 m1 (Ext.refl _ _) sr1 r1
  | ex c =>
    obtain ⟨e, pos, rfl, h1, h2⟩ := inv_ex h
    refine psImp (ps_expr (hE _ _ _ _ _ _ X gd h1) (notComp_ok h2)) fun D σ H ⟨m, env, st, sr, er, f⟩ => ?_
    exact rdE_bind (cnS D) sr er f fun v1 st1 u1 H1 m1 x1 sr1 er1 r1 f1 => FinS.nx f1 sr1 er1
  | ite c a b =>
    obtain ⟨t, x, y, pos, rfl, h1, h2, h3⟩ := inv_ite h
    refine psImp (ps_if (hT _ _ _ _ _ _ X gd h1).1 (sb_of hS gd h2) (sb_of hS gd h3)) fun D σ H ⟨m, env, st, sr, er, f⟩ => ?_
    refine rdT_bind (cnS D) sr er f fun b st1 H1 m1 x1 sr1 er1 f1 => ?_
    cases b with
    | true => exact ⟨m1, env, st1, sr1, er1, f1⟩
    | false => exact ⟨m1, env, st1, sr1, er1, f1⟩
  | set t c => exact st_set hE hE' g h
  | par i jj a b => exact st_par hE g h
  | setIx a i c => exact st_setIx hE g h
  | setAt a f c => exact st_setAt hE g h
  | app a c => exact st_app hE g h
  | ext a c => exact st_ext hE g h
  | whl c b => exact st_whl hT hS g h
  | for_ tg kk its b => exact st_for hE hS g h
end
end Pv

set_option Elab.async false
set_option linter.all false
set_option maxRecDepth 100000
set_option maxHeartbeats 1000000
/-! All levels; defs. -/
namespace Pv
open PySem PySem.Spec PyProof.Rows L2
section
variable {CX : CXT} {T : Tab} {PR : Prog} {cl fa : Nat → Addr} {fd : Nat → FuncData} {ps : Nat → List Str}
theorem all_upto : ∀ j i : Nat, i ≤ j → SEn CX T PR cl fa fd ps i ∧ STn CX T PR cl fa fd ps i ∧ SSn CX T PR cl fa fd ps i
  | 0, i, h => by
    obtain rfl : i = 0 := by omega
    exact ⟨se_zero, st_zero, ss_zero⟩
  | j + 1, i, h => by
    by_cases e : i = j + 1
    · subst e
      obtain ⟨h1, h2, h3⟩ := all_upto j j (Nat.le_refl j)
      exact ⟨se_succ h1 h2 (sc_ok h1 h2), st_succ h1 h2, ss_succ h1 h2 (fun i hi => ⟨(all_upto j i (by omega)).1, (all_upto j i (by omega)).2.1⟩) h3⟩
    · exact all_upto j i (by omega)
theorem ss_all (j : Nat) : SSn CX T PR cl fa fd ps j := (all_upto j j (Nat.le_refl j)).2.2
end
/-- a def of the text beside its mirror -/
structure Ent (T : Tab) (PR : Prog) (K : W.Frag) (f : Addr) (fd : FuncData) (ps : List Str) (d : Df) : Prop where
  ex : ∃ (x qual : Str) (params : Arguments) (body : List Stmt) (scope : Scope) (dvs : List V) (kws : List (Str × V)) (N : List Str) (n k : Nat),
    FunD K x qual params body scope dvs kws f fd ∧ FnScope N ps scope ∧ N.length = d.nn ∧ chkSs (chkS T PR scope N n k) d.body body = true
section
variable {P : Program} {w : World} {K : W.Frag} {mg : Str → Option Value} {base : Heap} {T : Tab} {PR : Prog} {cl fa : Nat → Addr} {fd : Nat → FuncData} {ps : Nat → List Str}
theorem RpL.start {m : List Addr} {H : Hp} {N : List Str} {as : List PV} {vs : List V} (r : RpL K cl H m as vs) : ER K cl H m (as.map some ++ List.replicate (N.length - as.length) none) (start N vs) := by
  unfold L2.start
  refine ⟨by simp [r.length], fun i x e => ?_⟩
  rw [List.getElem?_append] at e
  rw [List.getElem?_append]
  simp only [List.length_map] at e ⊢
  by_cases hi : i < as.length
  · rw [if_pos hi] at e
    rw [if_pos (by rw [← r.length]; exact hi)]
    rw [List.getElem?_map] at e
    cases q : as[i]? with
    | none => rw [q] at e; cases e
    | some y =>
      rw [q] at e
      cases e
      obtain ⟨v, hv, rv⟩ := r.get q
      exact ⟨v, by rw [List.getElem?_map, hv]; rfl, rv⟩
  · rw [if_neg hi, List.getElem?_replicate] at e
    split at e <;> cases e
theorem spF_len {r : Ev} {n f : Nat} {vs : List V} {H : Hp} {Q : VK} {E : XK} (h : spF K cl r n f vs H Q E) : vs.length = n := by
  obtain ⟨m, st, as, sr, rl, e, _⟩ := h
  rw [← rl.length]; exact e
/-- a def keeps what its mirror says -/
theorem fn_ok (wf : Wf T PR cl fa fd ps K mg) (ent : ∀ f d, PR.df[f]? = some d → Ent T PR K (fa f) (fd f) (ps f) d) : ∀ j f d, PR.df[f]? = some d → FnG P w K mg base CX0 j (fa f) (fd f) (ps f) (spF K cl (ev PR j) d.np f) := by
  intro j
  induction j using Nat.strongRecOn with
  | ind j ih =>
    intro f d hd
    have len : ∀ {r : Ev} (vs : List V) (H : Hp) (Q : VK) (E : XK), spF K cl r d.np f vs H Q E → vs.length = (ps f).length := fun vs H Q E h => by rw [spF_len h, wf.pl f d hd]
    cases j with
    | zero =>
      refine ⟨fun vs H Q E h => len vs H Q E h, fun {A outer s H args us vs Q E} _ hr e0 hb hv h => ?_⟩
      obtain ⟨m, st, as, sr, rl, e, f⟩ := h
      exact f.elim
    | succ j =>
      obtain ⟨x, qual, params, body, scope, dvs, kws, N, n, k, F, S, hN, hc⟩ := (ent f d hd).ex
      refine fnG_of F S (fun vs H Q E h => len vs H Q E h) (fun cdv A outer s H vs Q E gg hr h => ⟨rdB K cl (ev PR j) d.body, PSs.nox ?_, ?_⟩)
      · have g : Good CX0 T PR cl fa fd ps j scope none N (cxOf CX0 P w K mg base N qual scope (fa f) cdv A outer s H E).nox :=
          ⟨wf, fun i hi f d hd => ih i (by omega) f d hd, rfl, S.nd, S.kind, rfl, rfl, hr, fun _ _ _ _ _ z => z, rfl, fun _ _ => rfl, gg⟩
        exact sb_of (ss_all j) g hc
      · obtain ⟨m, st, as, sr, rl, e, fin⟩ := h
        have fin : Fin K cl m H (stepC PR (ev PR j) f as st) Q := fin
        unfold stepC at fin
        rw [hd] at fin
        dsimp only at fin
        split at fin
        case isFalse => exact fin.elim
        rename_i hl
        have er := rl.start (N := N)
        rw [hN, hl.1] at er
        refine ⟨m, _, st, sr, er, ?_⟩
        show FinS K cl m H (blk (ev PR j) d.body _ st) _
        cases q : blk (ev PR j) d.body (as.map some ++ List.replicate (d.nn - d.np) none) st with
        | exc _ _ => rw [q] at fin; exact fin.elim
        | bad => rw [q] at fin; exact fin.elim
        | ok a st' =>
          rw [q] at fin
          obtain ⟨fl, env'⟩ := a
          have go : ∀ {v : PV}, Fin K cl m H (done st d.mu v st') Q → ∀ u H' m', Ext m H m' H' → SR K cl H' m' st' → Rp K cl H' m' v u → Q u H' := fun {v} fin u H' m' x sr' rp => by
            cases q2 : done st d.mu v st' with
            | exc _ _ => rw [q2] at fin; exact fin.elim
            | bad => rw [q2] at fin; exact fin.elim
            | ok z st2 =>
              rw [q2] at fin
              obtain ⟨m2, y1, y2, y3⟩ := done_ok sr x sr' rp q2
              exact fin u H' m2 y1 y2 y3
          cases fl with
          | nx => exact fun σ' H' m' x sr' er' => go fin .non H' m' x sr' rfl
          | ret v => exact fun u H' m' x sr' rp => go fin u H' m' x sr' rp
          | bk => exact fin.elim
          | ct => exact fin.elim
end
end Pv

set_option Elab.async false
set_option linter.all false
set_option maxRecDepth 100000
set_option maxHeartbeats 1000000
/-! The text as it stands behind the top: facts by a Bool. -/
namespace Pv
open PySem PySem.Spec PyProof.Rows L2
mutual
/-- a value of the top -/
def gvB (K : W.Frag) : PV → Value → Bool
  | .non, .none => true
  | .bl b, .bool c => b == c
  | .int i, .int j _ => decide (i = j)
  | .str x, .str y _ => decide (x = y)
  | .tup xs, .ref a => match K.lookup a with
    | some ⟨.type c, _, .seq its _, _⟩ => decide (c = "tuple") && (decide (its.size ≤ sizeLine) && gvBs K xs its.toList)
    | _ => false
  | _, _ => false
def gvBs (K : W.Frag) : List PV → List Value → Bool
  | [], [] => true
  | v :: vs, u :: us => gvB K v u && gvBs K vs us
  | _, _ => false
end
section
variable {K : W.Frag}
mutual
theorem gvB_ok : ∀ (v : PV) (u : Value), gvB K v u = true → ∃ w, RelV w u ∧ ∀ cl H m, Rp K cl H m v w
  | .non, u, h => by
    cases u with
    | none => exact ⟨.non, rfl, fun _ _ _ => rfl⟩
    | _ => cases h
  | .bl b, u, h => by
    cases u with
    | bool c =>
      have e : b = c := eq_of_beq (show (b == c) = true from h)
      subst e
      exact ⟨.bl b, rfl, fun _ _ _ => rfl⟩
    | _ => cases h
  | .int i, u, h => by
    cases u with
    | int j t =>
      have e : i = j := of_decide_eq_true h
      subst e
      exact ⟨.int i, ⟨t, rfl⟩, fun _ _ _ => rfl⟩
    | _ => cases h
  | .str i, u, h => by
    cases u with
    | str j t =>
      have e : i = j := of_decide_eq_true h
      subst e
      exact ⟨.str i, ⟨t, rfl⟩, fun _ _ _ => rfl⟩
    | _ => cases h
  | .tup xs, u, h => by
    cases u with
    | ref a =>
      unfold gvB at h
      cases q : K.lookup a with
      | none => rw [q] at h; cases h
      | some o =>
        obtain ⟨oc, od, dt, osl⟩ := o
        rw [q] at h
        cases oc with
        | type c =>
          cases dt with
          | seq its n =>
            simp only [Bool.and_eq_true] at h
            obtain ⟨h1, h2, h3⟩ := h
            obtain ⟨ws, r1, r2⟩ := gvBs_ok xs its.toList h3
            exact ⟨.ref a, rfl, fun cl H m => ⟨a, ws, rfl, .inr ⟨_, its, n, q, congrArg Value.type (of_decide_eq_true h1), rfl, of_decide_eq_true h2, r1⟩, r2 cl H m⟩⟩
          | _ => cases h
        | _ => cases h
    | _ => cases h
  | .ty _, u, h => by unfold gvB at h; cases h
  | .lst _, u, h => by unfold gvB at h; cases h
  | .scr _, u, h => by unfold gvB at h; cases h
  | .ins _ _, u, h => by unfold gvB at h; cases h
  | .ref _, u, h => by unfold gvB at h; cases h
theorem gvBs_ok : ∀ (vs : List PV) (us : List Value), gvBs K vs us = true → ∃ ws, Vals ws us ∧ ∀ cl H m, RpL K cl H m vs ws
  | [], [], h => ⟨[], .nil, fun _ _ _ => rfl⟩
  | v :: vs, u :: us, h => by
    unfold gvBs at h
    rw [Bool.and_eq_true] at h
    obtain ⟨w, r1, r2⟩ := gvB_ok v u h.1
    obtain ⟨ws, q1, q2⟩ := gvBs_ok vs us h.2
    exact ⟨w :: ws, .cons r1 q1, fun cl H m => ⟨w, ws, rfl, r2 cl H m, q2 cl H m⟩⟩
  | [], _ :: _, h => by unfold gvBs at h; cases h
  | _ :: _, [], h => by unfold gvBs at h; cases h
end
end
/-- where the defs and the classes stand -/
def faOf (dm : List He.DefD) (K : W.Frag) (f : Nat) : Addr := match dm[f]? with
  | some d => He.fAd K d.at_
  | none => 0
def clOf (cn : List Str) (K : W.Frag) (c : Nat) : Addr := match cn[c]? with
  | some x => He.ga K x
  | none => 0
def atOf (dm : List He.DefD) (f : Nat) : Option (Str × Option Str) := (dm[f]?).map (·.at_)
def isFB (K : W.Frag) (C : Addr) : Bool := He.eqO (W.findIn K (.ref C) "__class__") (some (some (.builtin "object.__class__"))) && (He.eqO (W.specialIn K (.builtin "object.__class__") "__get__") (some (some (.builtin "getset_descriptor.__get__")))
  && (decide (W.takesIn K (.builtin "object.__class__") = some true) && decide (W.mroIn K C (.type "object") = some true)))
theorem isFB_ok {K : W.Frag} {C : Addr} (h : isFB K C = true) : IsF K C := by
  unfold isFB at h
  simp only [Bool.and_eq_true] at h
  exact ⟨He.eqO_ok h.1, He.eqO_ok h.2.1, of_decide_eq_true h.2.2.1, of_decide_eq_true h.2.2.2⟩
def klB (dm : List He.DefD) (K : W.Frag) (x : Str) (k : Kl) : Bool := (He.Fa.cls x).ok K && (isFB K (He.ga K x) && ((match k.init with
  | none => true
  | some f => (He.Fa.mkr x).ok K && decide (atOf dm f = some (x, some ("__init__" : Str)))) && ((k.ms.all fun q => (He.Fa.meth x q.1).ok K && decide (atOf dm q.2 = some (x, some q.1))) && k.ats.all fun f => (He.Fa.noat x f).ok K)))
def klsB (dm : List He.DefD) (K : W.Frag) : List Str → List Kl → Bool
  | [], [] => true
  | x :: xs, k :: ks => klB dm K x k && klsB dm K xs ks
  | _, _ => false
theorem klsB_ok {dm : List He.DefD} {K : W.Frag} : ∀ {xs : List Str} {ks : List Kl}, klsB dm K xs ks = true → ∀ (c : Nat) (k : Kl), ks[c]? = some k → ∃ x, xs[c]? = some x ∧ klB dm K x k = true
  | [], [], _, _, _, h => by simp at h
  | x :: xs, k :: ks, h, c, k', e => by
    unfold klsB at h
    rw [Bool.and_eq_true] at h
    cases c with
    | zero =>
      obtain rfl : k = k' := Option.some.inj e
      exact ⟨x, rfl, h.1⟩
    | succ c => exact klsB_ok h.2 c k' e
  | [], _ :: _, h, _, _, _ => by cases h
  | _ :: _, [], h, _, _, _ => by cases h
/-- the facts, by a look at what the top has written -/
def okB (dm : List He.DefD) (cn : List Str) (T : Tab) (kl : List Kl) (gl : List PV) (isl : List (Cs × Cs × Bool)) (K : W.Frag) : Bool :=
  (T.fns.all fun q => decide (atOf dm q.2 = some (q.1, none)) && He.eqO (W.nsIn K mainGlobals q.1) (some (some (.ref (He.fAd K (q.1, none))))))
  && ((T.css.all fun q => decide (cn[q.2]? = some q.1) && He.eqO (W.nsIn K mainGlobals q.1) (some (some (.ref (He.ga K q.1)))))
  && (klsB dm K cn kl
  && ((isl.all fun q => decide (W.kitOne K (csV (clOf cn K) q.1) (csV (clOf cn K) q.2.1) = some q.2.2))
  && ((T.gls.all fun q => match gl[q.2]?, W.nsIn K mainGlobals q.1 with
    | some v, some (some u) => gvB K v u
    | _, _ => false)
  && ((T.bls.all fun x => He.eqO (W.nsIn K mainGlobals x) (some none))
  && (!T.gcd || He.eqO (W.nsIn K mainGlobals "gcd") (some (some (.builtin "math.gcd")))))))))
theorem all_lookup {α β : Type} [BEq α] [LawfulBEq α] {p : α × β → Bool} : ∀ {l : List (α × β)}, l.all p = true → ∀ x i, l.lookup x = some i → p (x, i) = true
  | [], _, _, _, h => by cases h
  | (y, j) :: l, ha, x, i, h => by
    rw [List.all_cons, Bool.and_eq_true] at ha
    rw [List.lookup_cons] at h
    cases e : x == y with
    | true =>
      rw [e] at h
      cases h
      rw [eq_of_beq e]
      exact ha.1
    | false =>
      rw [e] at h
      exact all_lookup ha.2 x i h
section
variable {dm : List He.DefD} {cn : List Str} {T : Tab} {PR : Prog} {K : W.Frag} {h : Heap} {mg : Str → Option Value} {fd : Nat → FuncData} {ps : Nat → List Str}
theorem fa_at {f : Nat} {p : Str × Option Str} (e : atOf dm f = some p) : faOf dm K f = He.fAd K p := by
  unfold atOf at e
  unfold faOf
  cases q : dm[f]? with
  | none => rw [q] at e; cases e
  | some d =>
    rw [q] at e
    cases e
    rfl
theorem wf_of (X : K.In h) (G : h.Ns mainGlobals mg) (ok : okB dm cn T PR.kl PR.gl PR.isl K = true)
    (kp : ∀ (f : Nat) (d : He.DefD), dm[f]? = some d → W.keepIn K (.ref (He.fAd K d.at_)) = true)
    (pl : ∀ f d, PR.df[f]? = some d → (ps f).length = d.np)
    (bd : ∀ f d n, PR.df[f]? = some d → n ≤ d.np → d.np - n ≤ d.dv.length → ∃ ds dvs, Binds K (fd f) (ps f) ds ∧ Vals dvs ds ∧ ∀ H m, RpL K (clOf cn K) H m (d.dv.drop (d.dv.length - (d.np - n))) dvs) :
    Wf T PR (clOf cn K) (faOf dm K) fd ps K mg := by
  unfold okB at ok
  simp only [Bool.and_eq_true] at ok
  obtain ⟨o1, o2, o3, o4, o5, o6, o7⟩ := ok
  have kl : ∀ (c : Nat) (k : Kl), PR.kl[c]? = some k → ∃ x, clOf cn K c = He.ga K x ∧ klB dm K x k = true := fun c k e => by
    obtain ⟨x, e1, e2⟩ := klsB_ok o3 c k e
    exact ⟨x, by unfold clOf; rw [e1], e2⟩
  refine ⟨⟨fun c k e => ?_, fun c k e => ?_, fun a b r e => ?_⟩, fun x i e => ?_, fun x c e => ?_, fun c k f e e1 => ?_, fun c k m f e e1 => ?_, fun c k f e e1 => ?_, fun x i v e e1 => ?_, fun x e => ?_, fun e => ?_, pl, bd⟩
  · obtain ⟨x, e1, e2⟩ := kl c k e
    unfold klB at e2
    simp only [Bool.and_eq_true] at e2
    rw [e1]
    exact He.cls_ok e2.1
  · obtain ⟨x, e1, e2⟩ := kl c k e
    unfold klB at e2
    simp only [Bool.and_eq_true] at e2
    rw [e1]
    exact isFB_ok e2.2.1
  · exact of_decide_eq_true (List.all_eq_true.mp o4 _ e)
  · have z := all_lookup o1 x i e
    simp only [Bool.and_eq_true] at z
    have e1 := of_decide_eq_true z.1
    rw [fa_at e1]
    refine ⟨W.mg_of X G (He.eqO_ok z.2), ?_⟩
    unfold atOf at e1
    cases q : dm[i]? with
    | none => rw [q] at e1; cases e1
    | some d =>
      rw [q] at e1
      have e2 : d.at_ = (x, none) := Option.some.inj e1
      rw [← e2]
      exact kp i d q
  · have z := all_lookup o2 x c e
    simp only [Bool.and_eq_true] at z
    unfold clOf
    rw [of_decide_eq_true z.1]
    exact W.mg_of X G (He.eqO_ok z.2)
  · obtain ⟨x, e2, e3⟩ := kl c k e
    unfold klB at e3
    simp only [Bool.and_eq_true] at e3
    have z := e3.2.2.1
    rw [e1] at z
    simp only [Bool.and_eq_true] at z
    rw [e2, fa_at (of_decide_eq_true z.2)]
    exact He.mkr_ok z.1
  · obtain ⟨x, e2, e3⟩ := kl c k e
    unfold klB at e3
    simp only [Bool.and_eq_true] at e3
    have z := all_lookup e3.2.2.2.1 m f e1
    simp only [Bool.and_eq_true] at z
    rw [e2, fa_at (of_decide_eq_true z.2)]
    exact He.meth_ok z.1
  · obtain ⟨x, e2, e3⟩ := kl c k e
    unfold klB at e3
    simp only [Bool.and_eq_true] at e3
    rw [e2]
    exact He.noat_ok (List.all_eq_true.mp e3.2.2.2.2 f e1)
  · have z := all_lookup o5 x i e
    dsimp only at z
    rw [e1] at z
    cases q : W.nsIn K mainGlobals x with
    | none => rw [q] at z; cases z
    | some r =>
      rw [q] at z
      cases r with
      | none => cases z
      | some u =>
        obtain ⟨w, r1, r2⟩ := gvB_ok v u z
        exact ⟨u, w, W.mg_of X G q, r1, fun H m => r2 _ H m⟩
  · exact W.mg_none_of X G (He.eqO_ok (List.all_eq_true.mp o6 x (by simpa using e)))
  · rw [e] at o7
    exact W.mg_of X G (He.eqO_ok (by simpa using o7))
end
/-! ### the hook -/
abbrev AlP : Type := He.AlD × Bool
def obsP (fn : List He.DefD) (ex : W.Frag → Bool) (K : W.Frag) : AlP := (He.obsD [] fn K, ex K)
def valP (fn : List He.DefD) : AlP := (He.valD fn, true)
def obsPG (n : Nat) (fn : List He.DefD) (ex : W.Frag → Bool) (g : Addr → Option Obj) : AlP := obsP fn ex (He.frG g (He.asD g n))
def hookP (n : Nat) (fn : List He.DefD) (ex : W.Frag → Bool) : W.Hook where
  α := AlP
  obs := fun s => obsPG n fn ex s.heap.get?
  val := fun _ => valP fn
  says := fun _ h => ∃ K : W.Frag, K.In h ∧ obsP fn ex K = valP fn
  of := fun _ _ e => ⟨_, He.frG_in, e⟩
  keeps := fun _ _ _ ⟨K, hK, c⟩ k => ⟨K, W.Frag.In.keeps hK k, c⟩
theorem obsPG_eq {n : Nat} {fn : List He.DefD} {ex : W.Frag → Bool} {g : Addr → Option Obj} {s : Shared} (h : ∀ a, g a = s.heap.get? a) : obsPG n fn ex g = (hookP n fn ex).obs s := by
  have e : g = s.heap.get? := funext h
  rw [e] <;> rfl
theorem says_p {fn : List He.DefD} {ex : W.Frag → Bool} {K : W.Frag} (c : obsP fn ex K = valP fn) : He.SaysD [] fn K ∧ ex K = true := ⟨congrArg (fun z : AlP => z.1) c, congrArg (fun z : AlP => z.2) c⟩
end Pv

set_option Elab.async false
set_option linter.all false
set_option maxRecDepth 100000
set_option maxHeartbeats 1000000
/-! The end: from the mirror's run to the row. -/
namespace Pv
open PySem PySem.Spec PyProof.Rows L2
/-- a law over a head by facts, with the script's bits -/
theorem walk_P {l : W.OpenLaw} {n k : Nat} {q : Program} {loose : List Str} {XP : (Str → Option Value) → Heap → Prop} {YP : World → Heap → Prop} {d : DefRec} {CX : CXT} {x : Str}
    (hn : l.most = some n) (hn2 : n ≤ sizeLine) (hdf : d.params.defaults = []) (hr : Room k callerA)
    (F : ∀ (w : World) (mg : Str → Option Value) (fa : Addr) (h : Heap), YP w h → h.Ns mainGlobals mg → mg d.name = some (.ref fa) →
      ∃ (K : W.Frag) (fd : FuncData) (sp : Sp), K.In h ∧ (∀ (s : Shared) (u : Value), BindsTo s fd ⟨[u], []⟩ [(x, u)]) ∧
        (∀ (H : Hp) (a : Addr) (ns : List Int), ns.length ≤ n → (∀ z ∈ ns, Builtin.Int.intBits z ≤ 1048576) → Only H → SqL K H a (ns.map V.int) → sp [.ref a] H (fun v _ => v = .bl true) fun _ _ _ => False) ∧
        ∀ base : Heap, K.In base → base.Ns mainGlobals mg → FnG l.prog w K mg base CX k fa fd [x] sp)
    (hCX : ∀ (H : Hp) (s : Shared) (e : Value) (s' : Shared), CX [] H s (fun _ _ _ => False) e s' → False) :
    W.WalkO q loose XP YP l.row.toRowW d [] (fun f vs => PySem.call f vs) := by
  refine Att.attach_callB hn hdf fun w s₀ s₁ mg mb fa o pm cd doc a vs ns G Y ho hd hcd hmg hobj hints hlen hbits hg => ?_
  obtain ⟨K, fd, sp, KX, hb, hsp, hF⟩ := F w mg fa _ Y G.T.g hmg
  exact law_callG KX G.T.g G.T.b G.T.builtins G.T.nolimit hg hobj hints (Nat.le_trans hlen hn2) hr hF hb (fun H hO hS => hsp H a ns hlen hbits hO hS) fun H e s' => hCX H s₁ e s'
/-- what the mirror says of the law: for some number of turns it is True -/
def LawSays (PR : Nat → Prog) (f k : Nat) (ns : List Int) : Prop := ∃ W st', (ev (PR W) k).call f [.scr ns] [] = .ok (.bl true) st'
def spLaw (PR : Nat → Prog) (f k : Nat) (cl : Nat → Addr) (K : W.Frag) : Sp := fun vs H Q E => ∃ W, spF K cl (ev (PR W) k) 1 f vs H Q E
theorem spLaw_ok {P : Program} {w : World} {K : W.Frag} {mg : Str → Option Value} {base : Heap} {PR : Nat → Prog} {f k : Nat} {a : Addr} {fd : FuncData} {x : Str} {cl : Nat → Addr} {D : Nat → Df} (hD : ∀ W, (D W).np = 1) (h : ∀ W, FnG P w K mg base CX0 k a fd [x] (spF K cl (ev (PR W) k) (D W).np f)) : FnG P w K mg base CX0 k a fd [x] (spLaw PR f k cl K) := by
  refine ⟨fun vs H Q E ⟨W, q⟩ => ?_, fun {A outer s H args us vs Q E} gg hr e0 hb hv ⟨W, q⟩ => ?_⟩
  · exact (h W).cnt vs H Q E (by rw [hD]; exact q)
  · exact (h W).go gg hr e0 hb hv (by rw [hD]; exact q)
theorem spLaw_in {K : W.Frag} {PR : Nat → Prog} {f k : Nat} {cl : Nat → Addr} {H : Hp} {a : Addr} {ns : List Int} (hl : LawSays PR f k ns) (hS : SqL K H a (ns.map V.int)) : spLaw PR f k cl K [.ref a] H (fun v _ => v = .bl true) fun _ _ _ => False := by
  obtain ⟨W, st', e⟩ := hl
  refine ⟨W, [], [], [.scr ns], ⟨rfl, List.nodup_nil, fun n a o h => by simp at h⟩, ⟨.ref a, [], rfl, ⟨a, rfl, ?_⟩, rfl⟩, rfl, ?_⟩
  · rcases hS with h | h
    · exact .inl ⟨h, by simp⟩
    · exact .inr h
  · rw [e]
    exact fun u H' m' _ _ r => r
end Pv

set_option Elab.async false
set_option linter.all false
set_option maxRecDepth 100000
set_option maxHeartbeats 1000000
/-! Rules by which the mirror is run. -/
namespace Pv
open PySem PySem.Spec PyProof.Rows L2
def ab (i : Int) : Int := if i < 0 then -i else i
theorem ab_nonneg (i : Int) : 0 ≤ ab i := by unfold ab; split <;> omega
theorem ab_natAbs (i : Int) : (ab i).natAbs = i.natAbs := by unfold ab; split <;> omega
section
variable {P : Prog} {k : Nat} {env : En} {st : Store}
@[simp] theorem Res.ok_bind {α β : Type} (a : α) (st : Store) (f : α → Store → Res β) : (Res.ok a st).bind f = f a st := rfl
@[simp] theorem Res.bad_bind {α β : Type} (f : α → Store → Res β) : (Res.bad : Res α).bind f = .bad := rfl
@[simp] theorem tl_some {α : Type} (a : α) (st : Store) : tl (some a) st = .ok a st := rfl
@[simp] theorem evL_nil (r : Ev) : evL r [] env st = .ok [] st := rfl
@[simp] theorem evL_cons (r : Ev) (e : Ex) (es : List Ex) : evL r (e :: es) env st = (r.E e env st).bind fun v st => (evL r es env st).bind fun vs st => .ok (v :: vs) st := rfl
@[simp] theorem blk_nil (r : Ev) : blk r [] env st = .ok (.nx, env) st := rfl
@[simp] theorem blk_cons (r : Ev) (s : Sm) (ss : List Sm) : blk r (s :: ss) env st = (r.S s env st).bind fun a st => match a with
    | (.nx, env) => blk r ss env st
    | (f, env) => .ok (f, env) st := rfl
/-! expressions -/
@[simp] theorem E_v (i : Nat) : (ev P (k + 1)).E (.v i) env st = match env[i]? with
    | some (some x) => .ok x st
    | _ => .bad := rfl
@[simp] theorem E_c (x : PV) : (ev P (k + 1)).E (.c x) env st = .ok x st := rfl
@[simp] theorem E_g (i : Nat) : (ev P (k + 1)).E (.g i) env st = tl P.gl[i]? st := rfl
@[simp] theorem E_bin (o : BOp) (a b : Ex) : (ev P (k + 1)).E (.bin o a b) env st = ((ev P k).E a env st).bind fun x st => ((ev P k).E b env st).bind fun y st => bin2 o x y st := rfl
@[simp] theorem E_cat (mu : Bool) (a b : Ex) : (ev P (k + 1)).E (.cat mu a b) env st = ((ev P k).E a env st).bind fun x st => ((ev P k).E b env st).bind fun y st => addL mu x y st := rfl
@[simp] theorem E_neg (a : Ex) : (ev P (k + 1)).E (.neg a) env st = ((ev P k).E a env st).bind fun x st => match x with
    | .int i => .ok (.int (-i)) st
    | _ => .bad := rfl
@[simp] theorem E_not (a : Ex) : (ev P (k + 1)).E (.not a) env st = ((ev P k).E a env st).bind fun x st => (tl (truth st x) st).bind fun b st => .ok (.bl (!b)) st := rfl
@[simp] theorem E_cmp (o : COp) (a b : Ex) : (ev P (k + 1)).E (.cmp o a b) env st = ((ev P k).E a env st).bind fun x st => ((ev P k).E b env st).bind fun y st => (tl (cmpR o x y st) st).bind fun b st => .ok (.bl b) st := rfl
@[simp] theorem E_chain (o p : COp) (a b c : Ex) : (ev P (k + 1)).E (.chain o p a b c) env st = ((ev P k).E a env st).bind fun x st => ((ev P k).E b env st).bind fun y st => (tl (cmpR o x y st) st).bind fun q st =>
      if q then ((ev P k).E c env st).bind fun z st => (tl (cmpR p y z st) st).bind fun k st => .ok (.bl k) st else .ok (.bl false) st := rfl
@[simp] theorem E_and (a b : Ex) : (ev P (k + 1)).E (.and a b) env st = ((ev P k).E a env st).bind fun x st => match x with
    | .bl true => (ev P k).E b env st
    | .bl false => .ok (.bl false) st
    | _ => .bad := rfl
@[simp] theorem E_or (a b : Ex) : (ev P (k + 1)).E (.or a b) env st = ((ev P k).E a env st).bind fun x st => match x with
    | .bl false => (ev P k).E b env st
    | .bl true => .ok (.bl true) st
    | _ => .bad := rfl
@[simp] theorem E_ite (c a b : Ex) : (ev P (k + 1)).E (.ite c a b) env st = ((ev P k).T c env st).bind fun q st => if q then (ev P k).E a env st else (ev P k).E b env st := rfl
@[simp] theorem E_tup (es : List Ex) : (ev P (k + 1)).E (.tup es) env st = (evL (ev P k) es env st).bind fun vs st => if vs.length ≤ sizeLine then .ok (.tup vs) st else .bad := rfl
@[simp] theorem E_lst (mu : Bool) (es : List Ex) : (ev P (k + 1)).E (.lst mu es) env st = (evL (ev P k) es env st).bind fun vs st => if vs.length ≤ sizeLine then mkL mu vs st else .bad := rfl
@[simp] theorem E_idx (a i : Ex) : (ev P (k + 1)).E (.idx a i) env st = ((ev P k).E a env st).bind fun x st => ((ev P k).E i env st).bind fun y st => match y with
    | .int i => match seqOf st x with
      | some (_, xs) => tl (atI xs i) st
      | none => .bad
    | _ => .bad := rfl
@[simp] theorem E_slc (a lo hi : Ex) : (ev P (k + 1)).E (.slc a lo hi) env st = ((ev P k).E a env st).bind fun x st => (partOf (ev P k) lo env st).bind fun l st => (partOf (ev P k) hi env st).bind fun h st => match x with
    | .tup xs => if HT.sIx xs.length 0 l = 0 ∧ HT.sIx xs.length xs.length h = xs.length then .bad else .ok (.tup (cutP xs l h)) st
    | .scr ns => .ok (.lst (cutP (ns.map .int) l h)) st
    | x => match seqOf st x with
      | some (false, xs) => .ok (.lst (cutP xs l h)) st
      | _ => .bad := rfl
@[simp] theorem E_attr (a : Ex) (f : Str) : (ev P (k + 1)).E (.attr a f) env st = ((ev P k).E a env st).bind fun x st => match insOf st x with
    | some (c, fs) => match P.kl[c]? with
      | some k => if f ∈ k.ats then tl (fs.lookup f) st else .bad
      | none => .bad
    | none => .bad := rfl
@[simp] theorem E_call (f : Nat) (es : List Ex) : (ev P (k + 1)).E (.call f es) env st = (evL (ev P k) es env st).bind fun vs st => match P.df[f]? with
    | some d => (ev P k).call f (pad d vs) st
    | none => .bad := rfl
@[simp] theorem E_new (c : Nat) (mu : Bool) (es : List Ex) : (ev P (k + 1)).E (.new c mu es) env st = (evL (ev P k) es env st).bind fun vs st => match P.kl[c]? with
    | some ⟨some f, _, _⟩ => match P.df[f]? with
      | some d => newI (ev P k) c f mu (pad { d with np := d.np - 1 } vs) st
      | none => .bad
    | _ => .bad := rfl
@[simp] theorem E_meth (a : Ex) (m : Str) (es : List Ex) : (ev P (k + 1)).E (.meth a m es) env st = ((ev P k).E a env st).bind fun x st => match insOf st x with
    | some (c, fs) => match P.kl[c]?, fs.lookup m with
      | some k', none => match k'.ms.lookup m with
        | some f => match P.df[f]? with
          | some d => (evL (ev P k) es env st).bind fun vs st => (ev P k).call f (x :: pad { d with np := d.np - 1 } vs) st
          | none => .bad
        | none => .bad
      | _, _ => .bad
    | none => .bad := rfl
@[simp] theorem E_bi (b : Bi) (es : List Ex) : (ev P (k + 1)).E (.bi b es) env st = (evL (ev P k) es env st).bind fun vs st => biF P.isl P.kl.length b vs st := rfl
theorem E_comp (mu : Bool) (e : Ex) (tg : Tg) (q : Ik) (its ts : List Ex) : (ev P (k + 1)).E (.comp mu e tg q its ts) env st = comp (ev P k) mu e tg q its ts env st := rfl
/-! tests -/
@[simp] theorem T_and (a b : Ex) : (ev P (k + 1)).T (.and a b) env st = ((ev P k).T a env st).bind fun q st => if q then (ev P k).T b env st else .ok false st := rfl
@[simp] theorem T_or (a b : Ex) : (ev P (k + 1)).T (.or a b) env st = ((ev P k).T a env st).bind fun q st => if q then .ok true st else (ev P k).T b env st := rfl
@[simp] theorem T_not (a : Ex) : (ev P (k + 1)).T (.not a) env st = ((ev P k).T a env st).bind fun q st => .ok (!q) st := rfl
@[simp] theorem T_ite (c a b : Ex) : (ev P (k + 1)).T (.ite c a b) env st = ((ev P k).T c env st).bind fun q st => if q then (ev P k).T a env st else (ev P k).T b env st := rfl
@[simp] theorem T_cmp (o : COp) (a b : Ex) : (ev P (k + 1)).T (.cmp o a b) env st = ((ev P k).E a env st).bind fun x st => ((ev P k).E b env st).bind fun y st => tl (cmpR o x y st) st := rfl
@[simp] theorem T_chain (o p : COp) (a b c : Ex) : (ev P (k + 1)).T (.chain o p a b c) env st = ((ev P k).E a env st).bind fun x st => ((ev P k).E b env st).bind fun y st => (tl (cmpR o x y st) st).bind fun q st =>
      if q then ((ev P k).E c env st).bind fun z st => tl (cmpR p y z st) st else .ok false st := rfl
@[simp] theorem T_call (f : Nat) (es : List Ex) : (ev P (k + 1)).T (.call f es) env st = ((ev P k).E (.call f es) env st).bind fun v st => tl (truth st v) st := rfl
@[simp] theorem T_meth (a : Ex) (m : Str) (es : List Ex) : (ev P (k + 1)).T (.meth a m es) env st = ((ev P k).E (.meth a m es) env st).bind fun v st => tl (truth st v) st := rfl
@[simp] theorem T_bi (b : Bi) (es : List Ex) : (ev P (k + 1)).T (.bi b es) env st = ((ev P k).E (.bi b es) env st).bind fun v st => tl (truth st v) st := rfl
@[simp] theorem T_comp (mu : Bool) (e : Ex) (tg : Tg) (q : Ik) (its ts : List Ex) : (ev P (k + 1)).T (.comp mu e tg q its ts) env st = ((ev P k).E (.comp mu e tg q its ts) env st).bind fun v st => tl (truth st v) st := rfl
@[simp] theorem T_v (i : Nat) : (ev P (k + 1)).T (.v i) env st = ((ev P k).E (.v i) env st).bind fun v st => tl (truth st v) st := rfl
/-! statements -/
@[simp] theorem S_set (t : Tg) (e : Ex) : (ev P (k + 1)).S (.set t e) env st = ((ev P k).E e env st).bind fun v st => (tl (asg t v env) st).bind fun env st => .ok (.nx, env) st := rfl
@[simp] theorem S_par (i j : Nat) (a b : Ex) : (ev P (k + 1)).S (.par i j a b) env st = ((ev P k).E a env st).bind fun x st => ((ev P k).E b env st).bind fun y st => .ok (.nx, (env.set i (some x)).set j (some y)) st := rfl
@[simp] theorem S_setIx (a i e : Ex) : (ev P (k + 1)).S (.setIx a i e) env st = ((ev P k).E e env st).bind fun v st => ((ev P k).E a env st).bind fun x st => ((ev P k).E i env st).bind fun y st => match x, y with
    | .ref n, .int q => match st[n]? with
      | some (.lst xs) => (tl (ixN xs.length q) st).bind fun j st => .ok (.nx, env) (st.set n (.lst (xs.set j v)))
      | _ => .bad
    | _, _ => .bad := rfl
@[simp] theorem S_setAt (a : Ex) (f : Str) (e : Ex) : (ev P (k + 1)).S (.setAt a f e) env st = ((ev P k).E e env st).bind fun v st => ((ev P k).E a env st).bind fun x st => match x with
    | .ref n => match st[n]? with
      | some (.ins c fs) => match P.kl[c]? with
        | some k => if f ∈ k.ats ∧ fs.length < 1000 then .ok (.nx, env) (st.set n (.ins c (putP f v fs))) else .bad
        | none => .bad
      | _ => .bad
    | _ => .bad := rfl
@[simp] theorem S_ex (e : Ex) : (ev P (k + 1)).S (.ex e) env st = ((ev P k).E e env st).bind fun _ st => .ok (.nx, env) st := rfl
@[simp] theorem S_app (a e : Ex) : (ev P (k + 1)).S (.app a e) env st = ((ev P k).E a env st).bind fun x st => match x with
    | .ref n => match st[n]? with
      | some (.lst _) => ((ev P k).E e env st).bind fun y st => (tl (push n y st) st).bind fun st' _ => .ok (.nx, env) st'
      | _ => .bad
    | _ => .bad := rfl
@[simp] theorem S_ext (a e : Ex) : (ev P (k + 1)).S (.ext a e) env st = ((ev P k).E a env st).bind fun x st => match x with
    | .ref n => match st[n]? with
      | some (.lst _) => ((ev P k).E e env st).bind fun y st => match seqOf st y, st[n]? with
        | some (false, ys), some (.lst xs) => if xs.length + ys.length ≤ sizeLine then .ok (.nx, env) (st.set n (.lst (xs ++ ys))) else .bad
        | _, _ => .bad
      | _ => .bad
    | _ => .bad := rfl
@[simp] theorem S_ite (c : Ex) (a b : List Sm) : (ev P (k + 1)).S (.ite c a b) env st = ((ev P k).T c env st).bind fun q st => if q then blk (ev P k) a env st else blk (ev P k) b env st := rfl
theorem S_whl (c : Ex) (b : List Sm) : (ev P (k + 1)).S (.whl c b) env st = whileN (ev P k) c b P.wf env st := rfl
theorem S_for (tg : Tg) (q : Ik) (its : List Ex) (b : List Sm) : (ev P (k + 1)).S (.for_ tg q its b) env st = (evL (ev P k) its env st).bind fun vs st => match walk q vs st with
    | some (xs, g) => forL (ev P k) tg b g xs env st
    | none => .bad := rfl
@[simp] theorem S_ret (e : Ex) : (ev P (k + 1)).S (.ret e) env st = ((ev P k).E e env st).bind fun v st => .ok (.ret v, env) st := rfl
@[simp] theorem S_retN : (ev P (k + 1)).S .retN env st = .ok (.ret .non, env) st := rfl
@[simp] theorem S_brk : (ev P (k + 1)).S .brk env st = .ok (.bk, env) st := rfl
@[simp] theorem S_cnt : (ev P (k + 1)).S .cnt env st = .ok (.ct, env) st := rfl
@[simp] theorem S_pass : (ev P (k + 1)).S .pass env st = .ok (.nx, env) st := rfl
@[simp] theorem S_bad : (ev P (k + 1)).S .bad env st = .bad := rfl
/-! calls -/
theorem C_call (f : Nat) (vs : List PV) : (ev P (k + 1)).call f vs st = stepC P (ev P k) f vs st := rfl
/-- a call by its body -/
theorem call_by {f : Nat} {d : Df} {vs : List PV} {v : PV} {fl : Fl} {env' : En} {st' : Store} {res : Res PV} (hd : P.df[f]? = some d) (hl : vs.length = d.np) (hn : d.np ≤ d.nn)
    (hb : blk (ev P k) d.body (vs.map some ++ List.replicate (d.nn - d.np) none) st = .ok (fl, env') st') (hf : (fl = .nx ∧ v = .non) ∨ fl = .ret v) (hr : done st d.mu v st' = res) : (ev P (k + 1)).call f vs st = res := by
  rw [C_call]
  unfold stepC
  rw [hd]
  dsimp only
  rw [if_pos ⟨hl, hn⟩, hb]
  rcases hf with ⟨rfl, rfl⟩ | rfl
  · exact hr
  · exact hr
@[simp] theorem done_same (mu : Bool) (v : PV) : done st mu v st = .ok v st := by
  unfold done
  rw [if_pos rfl]
theorem done_len {mu : Bool} {v : PV} {st' : Store} (h : st'.length = st.length) : done st mu v st' = .ok v st' := by
  unfold done
  rw [if_pos h]
/-! values -/
@[simp] theorem truth_bl (b : Bool) : truth st (.bl b) = some b := rfl
@[simp] theorem truth_int (i : Int) : truth st (.int i) = some (decide (i ≠ 0)) := rfl
@[simp] theorem truth_lst (xs : List PV) : truth st (.lst xs) = some (!xs.isEmpty) := rfl
@[simp] theorem seqOf_tup (xs : List PV) : seqOf st (.tup xs) = some (true, xs) := rfl
@[simp] theorem seqOf_lst (xs : List PV) : seqOf st (.lst xs) = some (false, xs) := rfl
theorem seqOf_ref {n : Nat} {xs : List PV} (h : st[n]? = some (.lst xs)) : seqOf st (.ref n) = some (false, xs) := by
  unfold seqOf
  dsimp only
  rw [h]
@[simp] theorem insOf_ins (c : Nat) (fs : List (Str × PV)) : insOf st (.ins c fs) = some (c, fs) := rfl
theorem insOf_ref {n c : Nat} {fs : List (Str × PV)} (h : st[n]? = some (.ins c fs)) : insOf st (.ref n) = some (c, fs) := by
  unfold insOf
  dsimp only
  rw [h]
@[simp] theorem mkL_f (xs : List PV) : mkL false xs st = .ok (.lst xs) st := rfl
@[simp] theorem mkL_t (xs : List PV) : mkL true xs st = .ok (.ref st.length) (st ++ [.lst xs]) := rfl
@[simp] theorem bin_add (i j : Int) : bin2 .add (.int i) (.int j) st = .ok (.int (i + j)) st := rfl
@[simp] theorem bin_sub (i j : Int) : bin2 .sub (.int i) (.int j) st = .ok (.int (i - j)) st := rfl
theorem bin_mul {i j : Int} (h : MulOk i j) : bin2 .mul (.int i) (.int j) st = .ok (.int (i * j)) st := by
  unfold bin2
  exact if_pos h
theorem bin_fdiv {i j : Int} (h : DivOk i j) : bin2 .fdiv (.int i) (.int j) st = .ok (.int (i.fdiv j)) st := by
  unfold bin2
  exact if_pos h
theorem bin_mod {i j : Int} (h : j ≠ 0) : bin2 .mod (.int i) (.int j) st = .ok (.int (i.fmod j)) st := by
  unfold bin2
  exact if_pos h
theorem bin_pow {i j : Int} (h : PowOk i j) : bin2 .pow (.int i) (.int j) st = .ok (.int (i ^ j.toNat)) st := by
  unfold bin2
  exact if_pos h
@[simp] theorem bin_tup (xs ys : List PV) : bin2 .add (.tup xs) (.tup ys) st = if xs.length + ys.length ≤ sizeLine then .ok (.tup (xs ++ ys)) st else .bad := rfl
@[simp] theorem cmp_lt (i j : Int) : cmpR .lt (.int i) (.int j) st = some (decide (i < j)) := rfl
@[simp] theorem cmp_le (i j : Int) : cmpR .le (.int i) (.int j) st = some (decide (i ≤ j)) := rfl
@[simp] theorem cmp_gt (i j : Int) : cmpR .gt (.int i) (.int j) st = some (decide (j < i)) := rfl
@[simp] theorem cmp_ge (i j : Int) : cmpR .ge (.int i) (.int j) st = some (decide (j ≤ i)) := rfl
@[simp] theorem cmp_isN (v : PV) : cmpR .isN v .non st = some (match v with | .non => true | _ => false) := rfl
@[simp] theorem cmp_notN (v : PV) : cmpR .notN v .non st = some (match v with | .non => false | _ => true) := rfl
@[simp] theorem cmp_eqI (i j : Int) : cmpR .eq (.int i) (.int j) st = some (decide (i = j)) := by
  show some (PyData.eqv (.int i) (.int j)) = _
  rw [PyData.eqv]
  rfl
@[simp] theorem cmp_neI (i j : Int) : cmpR .ne (.int i) (.int j) st = some (decide (i ≠ j)) := by
  show some (!PyData.eqv (.int i) (.int j)) = _
  rw [PyData.eqv]
  by_cases h : i = j <;> simp [h]
@[simp] theorem cmp_isC (a : PV) (b : Bool) : cmpR .isC a (.bl b) st = some (match a with | .bl d => decide (d = b) | _ => false) := rfl
@[simp] theorem cmp_notC (a : PV) (b : Bool) : cmpR .notC a (.bl b) st = some (!(match a with | .bl d => decide (d = b) | _ => false)) := rfl
/-- two things that read as the same data -/
theorem cmp_eq_same {a b : PV} {d : PyData} (ha : datOf st a = some d) (hb : datOf st b = some d) (hs : SeqAt.shaped d = true) : cmpR .eq a b st = some true := by
  show cmp2 .eq a b st = _
  unfold cmp2
  rw [ha, hb]
  dsimp only
  rw [if_pos ⟨hs, hs⟩, SeqAt.eqv_refl d (SeqAt.canLay_of_shaped hs)]
theorem cmp_ne_same {a b : PV} {d : PyData} (ha : datOf st a = some d) (hb : datOf st b = some d) (hs : SeqAt.shaped d = true) : cmpR .ne a b st = some false := by
  show cmp2 .ne a b st = _
  unfold cmp2
  rw [ha, hb]
  dsimp only
  rw [if_pos ⟨hs, hs⟩, SeqAt.eqv_refl d (SeqAt.canLay_of_shaped hs)]
  rfl
@[simp] theorem bi_len (l : List (Cs × Cs × Bool)) (n : Nat) (v : PV) : biF l n .len [v] st = match seqOf st v with
    | some (_, xs) => .ok (.int xs.length) st
    | none => .bad := rfl
@[simp] theorem bi_tuple (l : List (Cs × Cs × Bool)) (n : Nat) (v : PV) : biF l n .tuple [v] st = match seqOf st v with
    | some (_, xs) => .ok (.tup xs) st
    | none => .bad := rfl
@[simp] theorem bi_list (l : List (Cs × Cs × Bool)) (n : Nat) (mu : Bool) (v : PV) : biF l n (.list mu) [v] st = match seqOf st v with
    | some (_, xs) => mkL mu xs st
    | none => .bad := rfl
@[simp] theorem bi_abs (l : List (Cs × Cs × Bool)) (n : Nat) (i : Int) : biF l n .abs [.int i] st = .ok (.int (ab i)) st := rfl
@[simp] theorem bi_int (l : List (Cs × Cs × Bool)) (n : Nat) (i : Int) : biF l n .int [.int i] st = .ok (.int i) st := rfl
@[simp] theorem bi_gcd (l : List (Cs × Cs × Bool)) (n : Nat) (i j : Int) : biF l n .gcd [.int i, .int j] st = .ok (.int ((Nat.gcd i.natAbs j.natAbs : Nat) : Int)) st := rfl
@[simp] theorem bi_isi (l : List (Cs × Cs × Bool)) (n : Nat) (c : Cs) (v : PV) : biF l n (.isi c) [v] st = match (tyOf st v).bind fun t => if csOk n t then isaT l t c else none with
    | some r => .ok (.bl r) st
    | none => .bad := rfl
@[simp] theorem ty_int (i : Int) : tyOf st (.int i) = some (.ty "int") := rfl
@[simp] theorem ty_bl (i : Bool) : tyOf st (.bl i) = some (.ty "bool") := rfl
@[simp] theorem ty_tup (xs : List PV) : tyOf st (.tup xs) = some (.ty "tuple") := rfl
@[simp] theorem ty_lst (xs : List PV) : tyOf st (.lst xs) = some (.ty "list") := rfl
@[simp] theorem ty_non : tyOf st .non = some (.ty "NoneType") := rfl
@[simp] theorem csOk_ty (n : Nat) (x : String) : csOk n (.ty x) = true := rfl
@[simp] theorem isa_ty (l : List (Cs × Cs × Bool)) (x y : String) : isaT l (.ty x) (.ty y) = kitB x y := rfl
end
end Pv

set_option Elab.async false
set_option linter.all false
set_option maxRecDepth 100000
set_option maxHeartbeats 1000000
/-! Loops of the mirror. -/
namespace Pv
open PySem PySem.Spec PyProof.Rows L2
section
variable {P : Prog} {k : Nat} {env : En} {st : Store}
theorem forL_nil {r : Ev} {tg : Tg} {b : List Sm} {g : Store → Prop} (h : g st) : forL r tg b g [] env st = .ok (.nx, env) st := by
  unfold forL
  rw [if_pos h]
theorem forL_cons {r : Ev} {tg : Tg} {b : List Sm} {g : Store → Prop} {x : PV} {xs : List PV} {env' : En} (h : g st) (ha : asg tg x env = some env') : forL r tg b g (x :: xs) env st = (blk r b env' st).bind fun a st => match a with
    | (.nx, env) => forL r tg b g xs env st
    | (.ct, env) => forL r tg b g xs env st
    | (.bk, env) => .ok (.nx, env) st
    | (.ret v, env) => .ok (.ret v, env) st := by
  rw [forL, if_pos h, ha] <;> rfl
open Classical in
theorem forL_nilS {r : Ev} {tg : Tg} {b : List Sm} {g : Store → Prop} : forL r tg b g [] env st = if g st then .ok (.nx, env) st else .bad := by
  rw [forL]
open Classical in
theorem forL_consS {r : Ev} {tg : Tg} {b : List Sm} {g : Store → Prop} {x : PV} {xs : List PV} : forL r tg b g (x :: xs) env st = if g st then match asg tg x env with
      | some env => (blk r b env st).bind fun a st => match a with
        | (.nx, env) => forL r tg b g xs env st
        | (.ct, env) => forL r tg b g xs env st
        | (.bk, env) => .ok (.nx, env) st
        | (.ret v, env) => .ok (.ret v, env) st
      | none => .bad
    else .bad := by
  rw [forL] <;> rfl
@[simp] theorem walk_tup (xs : List PV) : walk .seq [.tup xs] st = some (xs, fun st' => seqOf st' (.tup xs) = some (true, xs)) := rfl
@[simp] theorem walk_lst (xs : List PV) : walk .seq [.lst xs] st = some (xs, fun st' => seqOf st' (.lst xs) = some (false, xs)) := rfl
theorem walk_ref {n : Nat} {xs : List PV} (h : st[n]? = some (.lst xs)) : walk .seq [.ref n] st = some (xs, fun st' => seqOf st' (.ref n) = some (false, xs)) := by
  unfold walk
  dsimp only
  rw [seqOf_ref h]
theorem walk_rng1 {j : Int} (h0 : 0 ≤ j) (h : j < 2 ^ 62) : walk .rng1 [.int j] st = some ((List.range j.toNat).map fun (i : Nat) => .int i, fun _ => True) := by
  unfold walk
  dsimp only
  rw [if_pos ⟨by omega, h⟩]
theorem walk_rng2 {i j : Int} (h0 : 0 ≤ i) (h0' : 0 ≤ j) (h : i < 2 ^ 62) (h' : j < 2 ^ 62) : walk .rng2 [.int i, .int j] st = some ((List.range (j - i).toNat).map fun (k : Nat) => .int (i + k), fun _ => True) := by
  unfold walk
  dsimp only
  rw [if_pos ⟨by omega, h, by omega, h'⟩]
/-- a loop by an invariant: J i env st holds ahead of the i-th turn; every turn goes on -/
theorem forL_inv {r : Ev} {tg : Tg} {b : List Sm} {g : Store → Prop} {xs : List PV} (J : Nat → En → Store → Prop)
    (hg : ∀ i env st, i ≤ xs.length → J i env st → g st)
    (hs : ∀ i x env st, xs[i]? = some x → J i env st → ∃ env1, asg tg x env = some env1 ∧ ∃ env2 st2, (blk r b env1 st = .ok (.nx, env2) st2 ∨ blk r b env1 st = .ok (.ct, env2) st2) ∧ J (i + 1) env2 st2) :
    ∀ (n i : Nat) (env : En) (st : Store), i + n = xs.length → J i env st → ∃ env' st', forL r tg b g (xs.drop i) env st = .ok (.nx, env') st' ∧ J xs.length env' st'
  | 0, i, env, st, hi, j => by
    obtain rfl : i = xs.length := by omega
    rw [List.drop_length]
    exact ⟨env, st, forL_nil (hg _ _ _ (Nat.le_refl _) j), j⟩
  | n + 1, i, env, st, hi, j => by
    have hlt : i < xs.length := by omega
    rw [List.drop_eq_getElem_cons hlt]
    obtain ⟨env1, ha, env2, st2, hb, j2⟩ := hs i xs[i] env st (List.getElem?_eq_getElem hlt) j
    rw [forL_cons (hg _ _ _ (by omega) j) ha]
    obtain ⟨env', st', e, j'⟩ := forL_inv J hg hs n (i + 1) env2 st2 (by omega) j2
    refine ⟨env', st', ?_, j'⟩
    rcases hb with hb | hb
    · rw [hb]
      exact e
    · rw [hb]
      exact e
theorem for_inv {r : Ev} {tg : Tg} {b : List Sm} {g : Store → Prop} {xs : List PV} (J : Nat → En → Store → Prop) (h0 : J 0 env st)
    (hg : ∀ i env st, i ≤ xs.length → J i env st → g st)
    (hs : ∀ i x env st, xs[i]? = some x → J i env st → ∃ env1, asg tg x env = some env1 ∧ ∃ env2 st2, (blk r b env1 st = .ok (.nx, env2) st2 ∨ blk r b env1 st = .ok (.ct, env2) st2) ∧ J (i + 1) env2 st2) :
    ∃ env' st', forL r tg b g xs env st = .ok (.nx, env') st' ∧ J xs.length env' st' := by
  have := forL_inv (r := r) (tg := tg) (b := b) (g := g) J hg hs xs.length 0 env st (by omega) h0
  simpa using this
/-- a comprehension by an invariant; the new list stands at d -/
theorem compL_nil {r : Ev} {e : Ex} {tg : Tg} {ts : List Ex} {g : Store → Prop} {d : Nat} (h : g st) : compL r e tg ts g d env [] st = .ok () st := by
  unfold compL
  rw [if_pos h]
theorem compL_cons {r : Ev} {e : Ex} {tg : Tg} {ts : List Ex} {g : Store → Prop} {d : Nat} {x : PV} {xs : List PV} {env' : En} (h : g st) (ha : asg tg x env = some env') : compL r e tg ts g d env (x :: xs) st = (tests r ts env' st).bind fun b st => if b then (r.E e env' st).bind fun y st => match push d y st with
          | some st => compL r e tg ts g d env xs st
          | none => .bad
        else compL r e tg ts g d env xs st := by
  rw [compL, if_pos h, ha] <;> rfl
theorem push_at {st0 : Store} {acc : List PV} {y : PV} {d : Nat} (hd : st0.length = d) (hl : acc.length < sizeLine) : push d y (st0 ++ [.lst acc]) = some (st0 ++ [.lst (acc ++ [y])]) := by
  subst hd
  unfold push
  rw [List.getElem?_append_right (Nat.le_refl _)]
  simp [hl]
/-- elements by a function, no tests, the store stays -/
theorem compL_map {r : Ev} {e : Ex} {tg : Tg} {g : Store → Prop} {d : Nat} {env : En} (f : PV → PV) {st0 : Store} (hd : st0.length = d) (hg : ∀ acc, g (st0 ++ [.lst acc])) :
    ∀ (xs acc : List PV), (∀ x ∈ xs, ∃ env1, asg tg x env = some env1 ∧ ∀ acc, r.E e env1 (st0 ++ [.lst acc]) = .ok (f x) (st0 ++ [.lst acc])) → acc.length + xs.length ≤ sizeLine → compL r e tg [] g d env xs (st0 ++ [.lst acc]) = .ok () (st0 ++ [.lst (acc ++ xs.map f)])
  | [], acc, h, hl => by simp [compL_nil (hg acc)]
  | x :: xs, acc, h, hl => by
    obtain ⟨env1, ha, he⟩ := h x (List.mem_cons_self ..)
    rw [List.length_cons] at hl
    rw [compL_cons (hg acc) ha]
    simp only [tests, Res.ok_bind, if_true]
    rw [he, Res.ok_bind, push_at hd (by omega)]
    dsimp only
    rw [compL_map f hd hg xs (acc ++ [f x]) (fun y hy => h y (List.mem_cons_of_mem _ hy)) (by simp; omega)]
    simp
/-- those that pass, the store stays -/
theorem compL_filter {r : Ev} {e c : Ex} {tg : Tg} {g : Store → Prop} {d : Nat} {env : En} (p : PV → Bool) (f : PV → PV) {st0 : Store} (hd : st0.length = d) (hg : ∀ acc, g (st0 ++ [.lst acc])) :
    ∀ (xs acc : List PV), (∀ x ∈ xs, ∃ env1, asg tg x env = some env1 ∧ (∀ acc, r.T c env1 (st0 ++ [.lst acc]) = .ok (p x) (st0 ++ [.lst acc])) ∧ (p x = true → ∀ acc, r.E e env1 (st0 ++ [.lst acc]) = .ok (f x) (st0 ++ [.lst acc]))) → acc.length + xs.length ≤ sizeLine → compL r e tg [c] g d env xs (st0 ++ [.lst acc]) = .ok () (st0 ++ [.lst (acc ++ (xs.filter p).map f)])
  | [], acc, h, hl => by simp [compL_nil (hg acc)]
  | x :: xs, acc, h, hl => by
    obtain ⟨env1, ha, ht, he⟩ := h x (List.mem_cons_self ..)
    rw [List.length_cons] at hl
    rw [compL_cons (hg acc) ha]
    simp only [tests]
    rw [ht, Res.ok_bind]
    cases hp : p x with
    | true =>
      simp only [if_true]
      rw [he hp, Res.ok_bind, push_at hd (by omega)]
      dsimp only
      rw [compL_filter p f hd hg xs (acc ++ [f x]) (fun y hy => h y (List.mem_cons_of_mem _ hy)) (by simp; omega)]
      simp [hp]
    | false =>
      simp only [Bool.false_eq_true, if_false]
      rw [compL_filter p f hd hg xs acc (fun y hy => h y (List.mem_cons_of_mem _ hy)) (by omega)]
      simp [hp]
/-- a list that is handed back frozen -/
theorem done_new {mu : Bool} {v w : PV} {st' : Store} (h : st'.length ≠ st.length) (ho : OldOk st st') (hm : mu = false ∨ ∀ n, v ≠ .ref n) (hf : frz (onRef st' st.length st'.length 3) v = some w) : done st mu v st' = .ok w (st'.take st.length) := by
  unfold done
  rw [if_neg h, if_pos ho]
  have key : (match frz (onRef st' st.length st'.length 3) v with
      | some v' => Res.ok v' (st'.take st.length)
      | none => .bad) = .ok w (st'.take st.length) := by rw [hf]
  rcases hm with rfl | hm
  · exact key
  · cases mu with
    | false => exact key
    | true =>
      cases v with
      | ref n => exact absurd rfl (hm n)
      | _ => exact key
theorem oldOk_app (l : Store) : OldOk st (st ++ l) := ⟨by simp, fun n hn => .inl (List.getElem?_append_left hn)⟩
/-- what a comprehension lays is let go: its list, frozen -/
theorem done_list {st : Store} {ys zs : List PV} (hz : ∀ f, frzL f ys = some zs) : done st false (.ref st.length) (st ++ [.lst ys]) = .ok (.lst zs) st := by
  have h : frz (onRef (st ++ [SO.lst ys]) st.length (st ++ [SO.lst ys]).length 3) (.ref st.length) = some (.lst zs) := by
    unfold frz
    show onRef _ _ _ 3 _ = _
    unfold onRef
    rw [if_neg (Nat.lt_irrefl _), if_neg (by simp), List.getElem?_append_right (Nat.le_refl _), Nat.sub_self]
    dsimp only [List.getElem?_cons_zero]
    rw [hz]
  rw [done_new (by simp) (oldOk_app _) (.inl rfl) h, List.take_left']
  rfl
theorem comp_map {r : Ev} {e : Ex} {tg : Tg} {kk : Ik} {its : List Ex} {vs xs : List PV} {g : Store → Prop} (f : PV → PV) (hi : evL r its env st = .ok vs st) (hw : walk kk vs st = some (xs, g)) (hg : ∀ acc, g (st ++ [.lst acc]))
    (he : ∀ x ∈ xs, ∃ env1, asg tg x (wipeE env (slots tg)) = some env1 ∧ ∀ acc, r.E e env1 (st ++ [.lst acc]) = .ok (f x) (st ++ [.lst acc])) (hl : xs.length ≤ sizeLine) (hz : ∀ ff, frzL ff (xs.map f) = some (xs.map f)) : comp r false e tg kk its [] env st = .ok (.lst (xs.map f)) st := by
  unfold comp
  rw [hi, Res.ok_bind, hw]
  dsimp only
  rw [compL_map f rfl hg xs [] he (by simpa using hl)]
  rw [Res.ok_bind, if_neg (by decide), List.nil_append]
  exact done_list hz
theorem comp_filter {r : Ev} {e c : Ex} {tg : Tg} {kk : Ik} {its : List Ex} {vs xs : List PV} {g : Store → Prop} (p : PV → Bool) (f : PV → PV) (hi : evL r its env st = .ok vs st) (hw : walk kk vs st = some (xs, g)) (hg : ∀ acc, g (st ++ [.lst acc]))
    (he : ∀ x ∈ xs, ∃ env1, asg tg x (wipeE env (slots tg)) = some env1 ∧ (∀ acc, r.T c env1 (st ++ [.lst acc]) = .ok (p x) (st ++ [.lst acc])) ∧ (p x = true → ∀ acc, r.E e env1 (st ++ [.lst acc]) = .ok (f x) (st ++ [.lst acc]))) (hl : xs.length ≤ sizeLine) (hz : ∀ ff, frzL ff ((xs.filter p).map f) = some ((xs.filter p).map f)) : comp r false e tg kk its [c] env st = .ok (.lst ((xs.filter p).map f)) st := by
  unfold comp
  rw [hi, Res.ok_bind, hw]
  dsimp only
  rw [compL_filter p f rfl hg xs [] he (by simpa using hl)]
  rw [Res.ok_bind, if_neg (by decide), List.nil_append]
  exact done_list hz
theorem blsOf_true {α : Type} : ∀ l : List α, blsOf (l.map fun _ => PV.bl true) = some (l.map fun _ => true)
  | [] => rfl
  | x :: l => by
    rw [List.map_cons, blsOf, blsOf_true l]
    rfl
theorem frzL_true {α : Type} (f : Nat → Option PV) : ∀ l : List α, frzL f (l.map fun _ => PV.bl true) = some (l.map fun _ => PV.bl true)
  | [] => rfl
  | x :: l => by
    rw [List.map_cons]
    unfold frzL
    rw [frzL_true f l]
    rfl
theorem app_get {a : Nat} {o : SO} {l : Store} (h : st[a]? = some o) : (st ++ l)[a]? = some o := by
  rw [List.getElem?_append_left (List.getElem?_eq_some_iff.mp h).1]
  exact h
end
end Pv

set_option Elab.async false
set_option linter.all false
set_option maxRecDepth 100000
set_option maxHeartbeats 1000000
namespace Lk
open PySem PySem.Spec PyProof.Rows L2 Pv
def top (i : Nat) : Stmt := PySem.Challenge.pw_untaughthelm_k06_rows_and_tables.main.body.getD i (.Pass ⟨0, 0, 0, 0⟩)
/-- is_whole -/
abbrev s0 : Stmt := top 9
def d0 : He.DefD := ⟨("is_whole", none), "is_whole", "is_whole", defArgs s0, defBody s0, defScope s0, [.non, .non], []⟩
def N0 : List Str := ["thing", "low", "high"]
def b0 : List Sm := [.ite (.or (.not (.bi (.isi (.ty "int")) [(.v 0)])) (.bi (.isi (.ty "bool")) [(.v 0)])) [.ret (.c (.bl false))] [], .ret (.and (.or (.cmp .isN (.v 1) (.c .non)) (.cmp .ge (.v 0) (.v 1))) (.or (.cmp .isN (.v 2) (.c .non)) (.cmp .le (.v 0) (.v 2))))]
def D0 : Df := ⟨3, [.non, .non], 3, false, b0⟩
/-- _in_lowest_terms -/
abbrev s1 : Stmt := top 11
def d1 : He.DefD := ⟨("_in_lowest_terms", none), "_in_lowest_terms", "_in_lowest_terms", defArgs s1, defBody s1, defScope s1, [], []⟩
def N1 : List Str := ["top", "bottom", "common"]
def b1 : List Sm := [.set (.n 2) (.bi .gcd [(.v 0), (.v 1)]), .ite (.cmp .lt (.v 1) (.c (.int 0))) [.set (.n 2) (.neg (.v 2))] [], .ret (.tup [(.bin .fdiv (.v 0) (.v 2)), (.bin .fdiv (.v 1) (.v 2))])]
def D1 : Df := ⟨2, [], 3, false, b1⟩
/-- ratio_plus -/
abbrev s2 : Stmt := top 12
def d2 : He.DefD := ⟨("ratio_plus", none), "ratio_plus", "ratio_plus", defArgs s2, defBody s2, defScope s2, [], []⟩
def N2 : List Str := ["one", "other"]
def b2 : List Sm := [.ret (.call 1 [(.bin .add (.bin .mul (.idx (.v 0) (.c (.int 0))) (.idx (.v 1) (.c (.int 1)))) (.bin .mul (.idx (.v 1) (.c (.int 0))) (.idx (.v 0) (.c (.int 1))))), (.bin .mul (.idx (.v 0) (.c (.int 1))) (.idx (.v 1) (.c (.int 1))))])]
def D2 : Df := ⟨2, [], 2, false, b2⟩
/-- ratio_minus -/
abbrev s3 : Stmt := top 13
def d3 : He.DefD := ⟨("ratio_minus", none), "ratio_minus", "ratio_minus", defArgs s3, defBody s3, defScope s3, [], []⟩
def N3 : List Str := ["one", "other"]
def b3 : List Sm := [.ret (.call 1 [(.bin .sub (.bin .mul (.idx (.v 0) (.c (.int 0))) (.idx (.v 1) (.c (.int 1)))) (.bin .mul (.idx (.v 1) (.c (.int 0))) (.idx (.v 0) (.c (.int 1))))), (.bin .mul (.idx (.v 0) (.c (.int 1))) (.idx (.v 1) (.c (.int 1))))])]
def D3 : Df := ⟨2, [], 2, false, b3⟩
/-- ratio_times -/
abbrev s4 : Stmt := top 14
def d4 : He.DefD := ⟨("ratio_times", none), "ratio_times", "ratio_times", defArgs s4, defBody s4, defScope s4, [], []⟩
def N4 : List Str := ["one", "other"]
def b4 : List Sm := [.ret (.call 1 [(.bin .mul (.idx (.v 0) (.c (.int 0))) (.idx (.v 1) (.c (.int 0)))), (.bin .mul (.idx (.v 0) (.c (.int 1))) (.idx (.v 1) (.c (.int 1))))])]
def D4 : Df := ⟨2, [], 2, false, b4⟩
/-- zero_row -/
abbrev s5 : Stmt := top 18
def d5 : He.DefD := ⟨("zero_row", none), "zero_row", "zero_row", defArgs s5, defBody s5, defScope s5, [], []⟩
def N5 : List Str := ["width"]
def b5 : List Sm := [.ret (.bin .mul (.tup [(.g 0)]) (.v 0))]
def D5 : Df := ⟨1, [], 1, false, b5⟩
/-- unit_row -/
abbrev s6 : Stmt := top 19
def d6 : He.DefD := ⟨("unit_row", none), "unit_row", "unit_row", defArgs s6, defBody s6, defScope s6, [], []⟩
def N6 : List Str := ["width", "place", "at"]
def b6 : List Sm := [.ret (.bi .tuple [(.comp false (.ite (.cmp .eq (.v 2) (.v 1)) (.g 1) (.g 0)) (.n 2) .rng1 [(.v 0)] [])])]
def D6 : Df := ⟨2, [], 3, false, b6⟩
/-- unit_table -/
abbrev s7 : Stmt := top 20
def d7 : He.DefD := ⟨("unit_table", none), "unit_table", "unit_table", defArgs s7, defBody s7, defScope s7, [], []⟩
def N7 : List Str := ["width", "place"]
def b7 : List Sm := [.ret (.bi .tuple [(.comp false (.call 6 [(.v 0), (.v 1)]) (.n 1) .rng1 [(.v 0)] [])])]
def D7 : Df := ⟨1, [], 2, false, b7⟩
/-- row_plus -/
abbrev s8 : Stmt := top 21
def d8 : He.DefD := ⟨("row_plus", none), "row_plus", "row_plus", defArgs s8, defBody s8, defScope s8, [], []⟩
def N8 : List Str := ["field", "one", "other", "left", "right"]
def b8 : List Sm := [.ret (.bi .tuple [(.comp false (.meth (.v 0) "plus" [(.v 3), (.v 4)]) (.t [(.n 3), (.n 4)]) .zip2 [(.v 1), (.v 2)] [])])]
def D8 : Df := ⟨3, [], 5, false, b8⟩
/-- row_minus -/
abbrev s9 : Stmt := top 22
def d9 : He.DefD := ⟨("row_minus", none), "row_minus", "row_minus", defArgs s9, defBody s9, defScope s9, [], []⟩
def N9 : List Str := ["field", "one", "other", "left", "right"]
def b9 : List Sm := [.ret (.bi .tuple [(.comp false (.meth (.v 0) "minus" [(.v 3), (.v 4)]) (.t [(.n 3), (.n 4)]) .zip2 [(.v 1), (.v 2)] [])])]
def D9 : Df := ⟨3, [], 5, false, b9⟩
/-- row_times -/
abbrev s10 : Stmt := top 23
def d10 : He.DefD := ⟨("row_times", none), "row_times", "row_times", defArgs s10, defBody s10, defScope s10, [], []⟩
def N10 : List Str := ["field", "number", "row", "part"]
def b10 : List Sm := [.ret (.bi .tuple [(.comp false (.meth (.v 0) "times" [(.v 1), (.v 3)]) (.n 3) .seq [(.v 2)] [])])]
def D10 : Df := ⟨3, [], 4, false, b10⟩
/-- dot -/
abbrev s11 : Stmt := top 24
def d11 : He.DefD := ⟨("dot", none), "dot", "dot", defArgs s11, defBody s11, defScope s11, [], []⟩
def N11 : List Str := ["field", "one", "other", "total", "left", "right"]
def b11 : List Sm := [.set (.n 3) (.g 0), .for_ (.t [(.n 4), (.n 5)]) .zip2 [(.v 1), (.v 2)] [.set (.n 3) (.meth (.v 0) "plus" [(.v 3), (.meth (.v 0) "times" [(.v 4), (.v 5)])])], .ret (.v 3)]
def D11 : Df := ⟨3, [], 6, false, b11⟩
/-- table_row -/
abbrev s12 : Stmt := top 25
def d12 : He.DefD := ⟨("table_row", none), "table_row", "table_row", defArgs s12, defBody s12, defScope s12, [], []⟩
def N12 : List Str := ["field", "table", "row", "line"]
def b12 : List Sm := [.ret (.bi .tuple [(.comp false (.call 11 [(.v 0), (.v 3), (.v 2)]) (.n 3) .seq [(.v 1)] [])])]
def D12 : Df := ⟨3, [], 4, false, b12⟩
/-- row_table -/
abbrev s13 : Stmt := top 26
def d13 : He.DefD := ⟨("row_table", none), "row_table", "row_table", defArgs s13, defBody s13, defScope s13, [.non], []⟩
def N13 : List Str := ["field", "row", "table", "width", "total", "number", "line"]
def b13 : List Sm := [.set (.n 4) (.call 5 [(.ite (.cmp .isN (.v 3) (.c .non)) (.bi .len [(.idx (.v 2) (.c (.int 0)))]) (.v 3))]), .for_ (.t [(.n 5), (.n 6)]) .zip2 [(.v 1), (.v 2)] [.set (.n 4) (.call 8 [(.v 0), (.v 4), (.call 10 [(.v 0), (.v 5), (.v 6)])])], .ret (.v 4)]
def D13 : Df := ⟨4, [.non], 7, false, b13⟩
/-- table_table -/
abbrev s14 : Stmt := top 27
def d14 : He.DefD := ⟨("table_table", none), "table_table", "table_table", defArgs s14, defBody s14, defScope s14, [], []⟩
def N14 : List Str := ["field", "one", "other", "row"]
def b14 : List Sm := [.ret (.bi .tuple [(.comp false (.call 13 [(.v 0), (.v 3), (.v 2)]) (.n 3) .seq [(.v 1)] [])])]
def D14 : Df := ⟨3, [], 4, false, b14⟩
/-- table_plus -/
abbrev s15 : Stmt := top 28
def d15 : He.DefD := ⟨("table_plus", none), "table_plus", "table_plus", defArgs s15, defBody s15, defScope s15, [], []⟩
def N15 : List Str := ["field", "one", "other", "left", "right"]
def b15 : List Sm := [.ret (.bi .tuple [(.comp false (.call 8 [(.v 0), (.v 3), (.v 4)]) (.t [(.n 3), (.n 4)]) .zip2 [(.v 1), (.v 2)] [])])]
def D15 : Df := ⟨3, [], 5, false, b15⟩
/-- turned -/
abbrev s16 : Stmt := top 29
def d16 : He.DefD := ⟨("turned", none), "turned", "turned", defArgs s16, defBody s16, defScope s16, [], []⟩
def N16 : List Str := ["table"]
def b16 : List Sm := [.ret (.trn (.v 0))]
def D16 : Df := ⟨1, [], 1, false, b16⟩
/-- Field.__init__ -/
abbrev s17 : Stmt := inClass (top 32) 0
def d17 : He.DefD := ⟨("Field", some "__init__"), "__init__", "Field.__init__", defArgs s17, defBody s17, defScope s17, [.non], []⟩
def N17 : List Str := ["self", "prime"]
def b17 : List Sm := [.ite (.and (.cmp .notN (.v 1) (.c .non)) (.not (.and (.call 0 [(.v 1)]) (.cmp .mem (.v 1) (.g 2))))) [.bad] [], .setAt (.v 0) "prime" (.v 1), .setAt (.v 0) "_inverses" (.ite (.cmp .isN (.v 1) (.c .non)) (.tup []) (.call 21 [(.v 1)]))]
def D17 : Df := ⟨2, [.non], 2, false, b17⟩
/-- Field.plus -/
abbrev s18 : Stmt := inClass (top 32) 5
def d18 : He.DefD := ⟨("Field", some "plus"), "plus", "Field.plus", defArgs s18, defBody s18, defScope s18, [], []⟩
def N18 : List Str := ["self", "one", "other"]
def b18 : List Sm := [.ite (.cmp .isN (.attr (.v 0) "prime") (.c .non)) [.ret (.call 2 [(.v 1), (.v 2)])] [], .ret (.tup [(.bin .mod (.bin .add (.idx (.v 1) (.c (.int 0))) (.idx (.v 2) (.c (.int 0)))) (.attr (.v 0) "prime")), (.c (.int 1))])]
def D18 : Df := ⟨3, [], 3, false, b18⟩
/-- Field.minus -/
abbrev s19 : Stmt := inClass (top 32) 6
def d19 : He.DefD := ⟨("Field", some "minus"), "minus", "Field.minus", defArgs s19, defBody s19, defScope s19, [], []⟩
def N19 : List Str := ["self", "one", "other"]
def b19 : List Sm := [.ite (.cmp .isN (.attr (.v 0) "prime") (.c .non)) [.ret (.call 3 [(.v 1), (.v 2)])] [], .ret (.tup [(.bin .mod (.bin .sub (.idx (.v 1) (.c (.int 0))) (.idx (.v 2) (.c (.int 0)))) (.attr (.v 0) "prime")), (.c (.int 1))])]
def D19 : Df := ⟨3, [], 3, false, b19⟩
/-- Field.times -/
abbrev s20 : Stmt := inClass (top 32) 7
def d20 : He.DefD := ⟨("Field", some "times"), "times", "Field.times", defArgs s20, defBody s20, defScope s20, [], []⟩
def N20 : List Str := ["self", "one", "other"]
def b20 : List Sm := [.ite (.cmp .isN (.attr (.v 0) "prime") (.c .non)) [.ret (.call 4 [(.v 1), (.v 2)])] [], .ret (.tup [(.bin .mod (.bin .mul (.idx (.v 1) (.c (.int 0))) (.idx (.v 2) (.c (.int 0)))) (.attr (.v 0) "prime")), (.c (.int 1))])]
def D20 : Df := ⟨3, [], 3, false, b20⟩
/-- _inverse_rests -/
abbrev s21 : Stmt := top 33
def d21 : He.DefD := ⟨("_inverse_rests", none), "_inverse_rests", "_inverse_rests", defArgs s21, defBody s21, defScope s21, [], []⟩
def N21 : List Str := ["prime", "inverses", "rest"]
def b21 : List Sm := [.set (.n 1) (.lst true [(.c (.int 0)), (.c (.int 1))]), .for_ (.n 2) .rng2 [(.c (.int 2)), (.v 0)] [.app (.v 1) (.bin .mod (.bin .mul (.neg (.bin .fdiv (.v 0) (.v 2))) (.idx (.v 1) (.bin .mod (.v 0) (.v 2)))) (.v 0))], .ret (.bi .tuple [(.v 1)])]
def D21 : Df := ⟨1, [], 3, false, b21⟩
/-- _law_bag -/
abbrev s22 : Stmt := top 35
def d22 : He.DefD := ⟨("_law_bag", none), "_law_bag", "_law_bag", defArgs s22, defBody s22, defScope s22, [], []⟩
def N22 : List Str := ["script", "cells", "cell"]
def b22 : List Sm := [.set (.n 1) (.comp false (.bi .abs [(.v 2)]) (.n 2) .seq [(.slc (.v 0) .nil (.c (.int 63)))] []), .ite (.cmp .eq (.bi .len [(.v 1)]) (.c (.int 0))) [.set (.n 1) (.lst false [(.c (.int 5))])] [], .ret (.lst true [(.v 1), (.c (.int 0)), (.c (.int 0))])]
def D22 : Df := ⟨1, [], 3, true, b22⟩
/-- _law_draw -/
abbrev s23 : Stmt := top 36
def d23 : He.DefD := ⟨("_law_draw", none), "_law_draw", "_law_draw", defArgs s23, defBody s23, defScope s23, [], []⟩
def N23 : List Str := ["bag", "limit", "digit", "turn", "cells", "cell", "mixed"]
def b23 : List Sm := [.ite (.cmp .gt (.idx (.v 0) (.c (.int 2))) (.c (.int 0))) [.set (.n 2) (.bin .mod (.bi .int [(.idx (.v 0) (.c (.int 2)))]) (.v 1)), .setIx (.v 0) (.c (.int 2)) (.bin .fdiv (.idx (.v 0) (.c (.int 2))) (.v 1)), .ret (.v 2)] [], .set (.n 3) (.idx (.v 0) (.c (.int 1))), .setIx (.v 0) (.c (.int 1)) (.bin .add (.v 3) (.c (.int 1))), .set (.n 4) (.idx (.v 0) (.c (.int 0))), .set (.n 5) (.idx (.v 4) (.bin .mod (.bi .int [(.v 3)]) (.bi .len [(.v 4)]))), .ite (.and (.cmp .lt (.v 3) (.bi .len [(.v 4)])) (.cmp .ge (.v 5) (.bin .pow (.c (.int 10)) (.c (.int 18))))) [.setIx (.v 0) (.c (.int 2)) (.bin .fdiv (.v 5) (.v 1)), .ret (.bin .mod (.bi .int [(.v 5)]) (.v 1))] [], .set (.n 6) (.bin .mod (.bi .int [(.bin .add (.bin .add (.bin .mul (.bin .add (.v 5) (.c (.int 17))) (.c (.int 48271))) (.bin .mul (.bin .mul (.v 3) (.v 3)) (.c (.int 7919)))) (.bin .mul (.v 3) (.c (.int 104729))))]) (.c (.int 2147483647))), .set (.n 6) (.bin .mod (.bi .int [(.bin .add (.bin .mul (.v 6) (.c (.int 69621))) (.bin .mul (.bin .add (.v 3) (.c (.int 3))) (.c (.int 40692))))]) (.c (.int 2147483399))), .ret (.bin .mod (.bi .int [(.bin .fdiv (.v 6) (.c (.int 8)))]) (.v 1))]
def D23 : Df := ⟨2, [], 7, false, b23⟩
/-- _law_prime -/
abbrev s24 : Stmt := top 37
def d24 : He.DefD := ⟨("_law_prime", none), "_law_prime", "_law_prime", defArgs s24, defBody s24, defScope s24, [], []⟩
def N24 : List Str := ["bag"]
def b24 : List Sm := [.ret (.idx (.lst false [(.c (.int 0)), (.c (.int 0)), (.c (.int 2)), (.c (.int 3)), (.c (.int 5)), (.c (.int 7))]) (.call 23 [(.v 0), (.c (.int 6))]))]
def D24 : Df := ⟨1, [], 1, false, b24⟩
/-- _law_gcd -/
abbrev s25 : Stmt := top 38
def d25 : He.DefD := ⟨("_law_gcd", none), "_law_gcd", "_law_gcd", defArgs s25, defBody s25, defScope s25, [], []⟩
def N25 : List Str := ["one", "other"]
def b25 : List Sm := [.whl (.cmp .ne (.v 1) (.c (.int 0))) [.par 0 1 (.v 1) (.bin .mod (.bi .int [(.v 0)]) (.v 1))], .ret (.v 0)]
def D25 : Df := ⟨2, [], 2, false, b25⟩
/-- _law_make -/
abbrev s26 : Stmt := top 39
def d26 : He.DefD := ⟨("_law_make", none), "_law_make", "_law_make", defArgs s26, defBody s26, defScope s26, [], []⟩
def N26 : List Str := ["p", "top", "bottom", "found", "k", "common"]
def b26 : List Sm := [.ite (.cmp .gt (.v 0) (.c (.int 0))) [.set (.n 3) (.c (.int 0)), .for_ (.n 4) .rng1 [(.v 0)] [.ite (.cmp .eq (.bin .mod (.bi .int [(.bin .mul (.v 2) (.v 4))]) (.v 0)) (.c (.int 1))) [.set (.n 3) (.v 4)] []], .ret (.tup [(.bin .mod (.bi .int [(.bin .mul (.v 1) (.v 3))]) (.v 0)), (.c (.int 1))])] [], .ite (.cmp .lt (.v 2) (.c (.int 0))) [.par 1 2 (.bin .sub (.c (.int 0)) (.v 1)) (.bin .sub (.c (.int 0)) (.v 2))] [], .set (.n 5) (.call 25 [(.bi .abs [(.v 1)]), (.v 2)]), .ret (.tup [(.bin .fdiv (.v 1) (.v 5)), (.bin .fdiv (.v 2) (.v 5))])]
def D26 : Df := ⟨3, [], 6, false, b26⟩
/-- _law_plus -/
abbrev s27 : Stmt := top 40
def d27 : He.DefD := ⟨("_law_plus", none), "_law_plus", "_law_plus", defArgs s27, defBody s27, defScope s27, [], []⟩
def N27 : List Str := ["p", "one", "other"]
def b27 : List Sm := [.ite (.cmp .gt (.v 0) (.c (.int 0))) [.ret (.tup [(.bin .mod (.bi .int [(.bin .add (.idx (.v 1) (.c (.int 0))) (.idx (.v 2) (.c (.int 0))))]) (.v 0)), (.c (.int 1))])] [], .ret (.call 26 [(.c (.int 0)), (.bin .add (.bin .mul (.idx (.v 1) (.c (.int 0))) (.idx (.v 2) (.c (.int 1)))) (.bin .mul (.idx (.v 2) (.c (.int 0))) (.idx (.v 1) (.c (.int 1))))), (.bin .mul (.idx (.v 1) (.c (.int 1))) (.idx (.v 2) (.c (.int 1))))])]
def D27 : Df := ⟨3, [], 3, false, b27⟩
/-- _law_times -/
abbrev s28 : Stmt := top 41
def d28 : He.DefD := ⟨("_law_times", none), "_law_times", "_law_times", defArgs s28, defBody s28, defScope s28, [], []⟩
def N28 : List Str := ["p", "one", "other"]
def b28 : List Sm := [.ite (.cmp .gt (.v 0) (.c (.int 0))) [.ret (.tup [(.bin .mod (.bi .int [(.bin .mul (.idx (.v 1) (.c (.int 0))) (.idx (.v 2) (.c (.int 0))))]) (.v 0)), (.c (.int 1))])] [], .ret (.call 26 [(.c (.int 0)), (.bin .mul (.idx (.v 1) (.c (.int 0))) (.idx (.v 2) (.c (.int 0)))), (.bin .mul (.idx (.v 1) (.c (.int 1))) (.idx (.v 2) (.c (.int 1))))])]
def D28 : Df := ⟨3, [], 3, false, b28⟩
/-- _law_minus -/
abbrev s29 : Stmt := top 42
def d29 : He.DefD := ⟨("_law_minus", none), "_law_minus", "_law_minus", defArgs s29, defBody s29, defScope s29, [], []⟩
def N29 : List Str := ["p", "one", "other"]
def b29 : List Sm := [.ret (.call 27 [(.v 0), (.v 1), (.call 28 [(.v 0), (.call 26 [(.v 0), (.bin .sub (.c (.int 0)) (.c (.int 1))), (.c (.int 1))]), (.v 2)])])]
def D29 : Df := ⟨3, [], 3, false, b29⟩
/-- _law_dot -/
abbrev s30 : Stmt := top 43
def d30 : He.DefD := ⟨("_law_dot", none), "_law_dot", "_law_dot", defArgs s30, defBody s30, defScope s30, [], []⟩
def N30 : List Str := ["p", "one", "other", "total", "k"]
def b30 : List Sm := [.set (.n 3) (.tup [(.c (.int 0)), (.c (.int 1))]), .for_ (.n 4) .rng1 [(.bi .len [(.v 1)])] [.ite (.and (.cmp .ne (.idx (.idx (.v 1) (.v 4)) (.c (.int 0))) (.c (.int 0))) (.cmp .ne (.idx (.idx (.v 2) (.v 4)) (.c (.int 0))) (.c (.int 0)))) [.set (.n 3) (.call 27 [(.v 0), (.v 3), (.call 28 [(.v 0), (.idx (.v 1) (.v 4)), (.idx (.v 2) (.v 4))])])] []], .ret (.v 3)]
def D30 : Df := ⟨3, [], 5, false, b30⟩
/-- _law_unit -/
abbrev s31 : Stmt := top 44
def d31 : He.DefD := ⟨("_law_unit", none), "_law_unit", "_law_unit", defArgs s31, defBody s31, defScope s31, [], []⟩
def N31 : List Str := ["width", "place", "k"]
def b31 : List Sm := [.ret (.bi .tuple [(.comp false (.ite (.cmp .eq (.v 2) (.v 1)) (.tup [(.c (.int 1)), (.c (.int 1))]) (.tup [(.c (.int 0)), (.c (.int 1))])) (.n 2) .rng1 [(.v 0)] [])])]
def D31 : Df := ⟨2, [], 3, false, b31⟩
/-- _law_zero -/
abbrev s32 : Stmt := top 45
def d32 : He.DefD := ⟨("_law_zero", none), "_law_zero", "_law_zero", defArgs s32, defBody s32, defScope s32, [], []⟩
def N32 : List Str := ["width", "k"]
def b32 : List Sm := [.ret (.bi .tuple [(.comp false (.tup [(.c (.int 0)), (.c (.int 1))]) (.n 1) .rng1 [(.v 0)] [])])]
def D32 : Df := ⟨1, [], 2, false, b32⟩
/-- _law_number -/
abbrev s33 : Stmt := top 46
def d33 : He.DefD := ⟨("_law_number", none), "_law_number", "_law_number", defArgs s33, defBody s33, defScope s33, [], []⟩
def N33 : List Str := ["bag", "p"]
def b33 : List Sm := [.ite (.cmp .gt (.v 1) (.c (.int 0))) [.ret (.tup [(.call 23 [(.v 0), (.v 1)]), (.c (.int 1))])] [], .ret (.call 26 [(.c (.int 0)), (.bin .sub (.call 23 [(.v 0), (.c (.int 7))]) (.c (.int 3))), (.idx (.lst false [(.c (.int 1)), (.c (.int 1)), (.c (.int 1)), (.c (.int 2)), (.c (.int 3))]) (.call 23 [(.v 0), (.c (.int 5))]))])]
def D33 : Df := ⟨2, [], 2, false, b33⟩
/-- _law_row -/
abbrev s34 : Stmt := top 47
def d34 : He.DefD := ⟨("_law_row", none), "_law_row", "_law_row", defArgs s34, defBody s34, defScope s34, [], []⟩
def N34 : List Str := ["bag", "p", "width", "k"]
def b34 : List Sm := [.ret (.bi .tuple [(.comp false (.call 33 [(.v 0), (.v 1)]) (.n 3) .rng1 [(.v 2)] [])])]
def D34 : Df := ⟨3, [], 4, false, b34⟩
/-- _law_list -/
abbrev s35 : Stmt := top 48
def d35 : He.DefD := ⟨("_law_list", none), "_law_list", "_law_list", defArgs s35, defBody s35, defScope s35, [], []⟩
def N35 : List Str := ["bag", "row"]
def b35 : List Sm := [.ite (.cmp .eq (.call 23 [(.v 0), (.c (.int 2))]) (.c (.int 1))) [.ret (.bi (.list false) [(.v 1)])] [], .ret (.bi .tuple [(.v 1)])]
def D35 : Df := ⟨2, [], 2, false, b35⟩
/-- _law_kinds -/
abbrev s36 : Stmt := top 49
def d36 : He.DefD := ⟨("_law_kinds", none), "_law_kinds", "_law_kinds", defArgs s36, defBody s36, defScope s36, [], []⟩
def N36 : List Str := ["thing", "deep", "part"]
def b36 : List Sm := [.ite (.bi (.isi (.ty "tuple")) [(.v 0)]) [.ret (.and (.cmp .gt (.v 1) (.c (.int 0))) (.bi .all [(.comp false (.call 36 [(.v 2), (.bin .sub (.v 1) (.c (.int 1)))]) (.n 2) .seq [(.v 0)] [])]))] [], .ret (.or (.cmp .isN (.v 0) (.c .non)) (.or (.bi (.isi (.ty "str")) [(.v 0)]) (.and (.bi (.isi (.ty "int")) [(.v 0)]) (.not (.bi (.isi (.ty "bool")) [(.v 0)])))))]
def D36 : Df := ⟨2, [], 3, false, b36⟩
/-- _law_tables_right -/
abbrev s37 : Stmt := top 50
def d37 : He.DefD := ⟨("_law_tables_right", none), "_law_tables_right", "_law_tables_right", defArgs s37, defBody s37, defScope s37, [], []⟩
def N37 : List Str := ["bag", "p", "field", "width", "height", "far", "one", "k", "two", "other", "number", "weights", "row", "passed", "line", "kept", "place", "columns", "mixed", "told", "due", "part", "added", "i", "thing"]
def b37 : List Sm := [.set (.n 3) (.bin .add (.c (.int 1)) (.call 23 [(.v 0), (.c (.int 5))])), .set (.n 4) (.bin .add (.c (.int 1)) (.call 23 [(.v 0), (.c (.int 4))])), .set (.n 5) (.bin .add (.c (.int 1)) (.call 23 [(.v 0), (.c (.int 4))])), .set (.n 6) (.comp false (.call 34 [(.v 0), (.v 1), (.v 3)]) (.n 7) .rng1 [(.v 4)] []), .set (.n 8) (.comp false (.call 34 [(.v 0), (.v 1), (.v 3)]) (.n 7) .rng1 [(.v 4)] []), .set (.n 9) (.comp false (.call 34 [(.v 0), (.v 1), (.v 5)]) (.n 7) .rng1 [(.v 3)] []), .set (.n 10) (.call 33 [(.v 0), (.v 1)]), .set (.n 11) (.call 34 [(.v 0), (.v 1), (.v 4)]), .set (.n 12) (.call 34 [(.v 0), (.v 1), (.v 3)]), .set (.n 13) (.comp false (.call 35 [(.v 0), (.v 14)]) (.n 14) .seq [(.v 6)] []), .set (.n 15) (.bi .repr [(.v 13)]), .set (.n 16) (.call 23 [(.v 0), (.v 3)]), .set (.n 17) (.comp false (.bi .tuple [(.comp false (.idx (.v 14) (.v 7)) (.n 14) .seq [(.v 9)] [])]) (.n 7) .rng1 [(.v 5)] []), .set (.n 18) (.bi .tuple [(.comp false (.call 30 [(.v 1), (.v 11), (.comp false (.idx (.v 14) (.v 7)) (.n 14) .seq [(.v 6)] [])]) (.n 7) .rng1 [(.v 3)] [])]), .set (.n 19) (.lst true [(.call 5 [(.v 3)]), (.call 6 [(.v 3), (.v 16)]), (.call 7 [(.v 3)]), (.call 11 [(.v 2), (.idx (.v 6) (.c (.int 0))), (.v 12)])]), .set (.n 20) (.lst true [(.call 32 [(.v 3)]), (.call 31 [(.v 3), (.v 16)]), (.bi .tuple [(.comp false (.call 31 [(.v 3), (.v 7)]) (.n 7) .rng1 [(.v 3)] [])]), (.call 30 [(.v 1), (.idx (.v 6) (.c (.int 0))), (.v 12)])]), .ext (.v 19) (.lst false [(.call 8 [(.v 2), (.idx (.v 13) (.c (.int 0))), (.v 12)]), (.call 9 [(.v 2), (.idx (.v 13) (.c (.int 0))), (.v 12)]), (.call 10 [(.v 2), (.v 10), (.idx (.v 13) (.c (.int 0)))])]), .app (.v 20) (.bi .tuple [(.comp false (.call 27 [(.v 1), (.idx (.idx (.v 6) (.c (.int 0))) (.v 7)), (.idx (.v 12) (.v 7))]) (.n 7) .rng1 [(.v 3)] [])]), .app (.v 20) (.bi .tuple [(.comp false (.call 29 [(.v 1), (.idx (.idx (.v 6) (.c (.int 0))) (.v 7)), (.idx (.v 12) (.v 7))]) (.n 7) .rng1 [(.v 3)] [])]), .app (.v 20) (.bi .tuple [(.comp false (.call 28 [(.v 1), (.v 10), (.v 21)]) (.n 21) .seq [(.idx (.v 6) (.c (.int 0)))] [])]), .ext (.v 19) (.lst false [(.call 12 [(.v 2), (.v 13), (.v 12)]), (.call 13 [(.v 2), (.v 11), (.v 13)]), (.call 13 [(.v 2), (.tup []), (.tup []), (.v 3)])]), .ext (.v 20) (.lst false [(.bi .tuple [(.comp false (.call 30 [(.v 1), (.v 14), (.v 12)]) (.n 14) .seq [(.v 6)] [])]), (.v 18), (.call 32 [(.v 3)])]), .ext (.v 19) (.lst false [(.call 13 [(.v 2), (.v 11), (.v 13), (.v 3)]), (.call 14 [(.v 2), (.v 13), (.v 9)]), (.call 16 [(.v 9)]), (.call 16 [(.v 13)])]), .ext (.v 20) (.lst false [(.v 18), (.bi .tuple [(.comp false (.bi .tuple [(.comp false (.call 30 [(.v 1), (.v 14), (.v 21)]) (.n 21) .seq [(.v 17)] [])]) (.n 14) .seq [(.v 6)] [])]), (.bi .tuple [(.v 17)])]), .app (.v 20) (.bi .tuple [(.comp false (.bi .tuple [(.comp false (.idx (.v 14) (.v 7)) (.n 14) .seq [(.v 6)] [])]) (.n 7) .rng1 [(.v 3)] [])]), .app (.v 19) (.call 15 [(.v 2), (.v 13), (.v 8)]), .set (.n 22) (.lst true []), .for_ (.n 7) .rng1 [(.v 4)] [.app (.v 22) (.bi .tuple [(.comp false (.call 27 [(.v 1), (.idx (.idx (.v 6) (.v 7)) (.v 23)), (.idx (.idx (.v 8) (.v 7)) (.v 23))]) (.n 23) .rng1 [(.v 3)] [])])], .app (.v 20) (.bi .tuple [(.v 22)]), .ret (.and (.bi .all [(.comp false (.call 36 [(.v 24), (.c (.int 3))]) (.n 24) .seq [(.v 19)] [])]) (.and (.cmp .eq (.v 19) (.v 20)) (.cmp .eq (.bi .repr [(.v 13)]) (.v 15))))]
def D37 : Df := ⟨3, [], 25, false, b37⟩
/-- law -/
abbrev s38 : Stmt := top 51
def d38 : He.DefD := ⟨("law", none), "law", "law", defArgs s38, defBody s38, defScope s38, [], []⟩
def N38 : List Str := ["script", "bag", "p", "field"]
def b38 : List Sm := [.set (.n 1) (.call 22 [(.v 0)]), .set (.n 2) (.call 24 [(.v 1)]), .set (.n 3) (.ite (.cmp .eq (.v 2) (.c (.int 0))) (.new 0 false []) (.new 0 false [(.v 2)])), .ret (.and (.call 37 [(.v 1), (.v 2), (.v 3)]) (.call 37 [(.v 1), (.v 2), (.v 3)]))]
def D38 : Df := ⟨1, [], 4, false, b38⟩
def dm : List He.DefD := [d0, d1, d2, d3, d4, d5, d6, d7, d8, d9, d10, d11, d12, d13, d14, d15, d16, d17, d18, d19, d20, d21, d22, d23, d24, d25, d26, d27, d28, d29, d30, d31, d32, d33, d34, d35, d36, d37, d38]
def df : List Df := [D0, D1, D2, D3, D4, D5, D6, D7, D8, D9, D10, D11, D12, D13, D14, D15, D16, D17, D18, D19, D20, D21, D22, D23, D24, D25, D26, D27, D28, D29, D30, D31, D32, D33, D34, D35, D36, D37, D38]
def Ns : List (List Str) := [N0, N1, N2, N3, N4, N5, N6, N7, N8, N9, N10, N11, N12, N13, N14, N15, N16, N17, N18, N19, N20, N21, N22, N23, N24, N25, N26, N27, N28, N29, N30, N31, N32, N33, N34, N35, N36, N37, N38]
def cn : List Str := ["Field"]
def kl : List Kl := [⟨some 17, [("plus", 18), ("minus", 19), ("times", 20)], ["prime", "_inverses"]⟩]
def gl : List PV := [(.tup [(.int 0), (.int 1)]), (.tup [(.int 1), (.int 1)]), (.tup [(.int 2), (.int 3), (.int 5), (.int 7), (.int 11), (.int 13), (.int 17), (.int 19), (.int 23), (.int 29), (.int 31), (.int 37), (.int 41), (.int 43), (.int 47), (.int 53), (.int 59), (.int 61), (.int 67), (.int 71), (.int 73), (.int 79), (.int 83), (.int 89), (.int 97)])]
def isl : List (Cs × Cs × Bool) := []
def PR (W : Nat) : Prog := ⟨df, kl, gl, isl, W⟩
def T : Tab := ⟨[(("is_whole" : Str), (0 : Nat)), (("_in_lowest_terms" : Str), (1 : Nat)), (("ratio_plus" : Str), (2 : Nat)), (("ratio_minus" : Str), (3 : Nat)), (("ratio_times" : Str), (4 : Nat)), (("zero_row" : Str), (5 : Nat)), (("unit_row" : Str), (6 : Nat)), (("unit_table" : Str), (7 : Nat)), (("row_plus" : Str), (8 : Nat)), (("row_minus" : Str), (9 : Nat)), (("row_times" : Str), (10 : Nat)), (("dot" : Str), (11 : Nat)), (("table_row" : Str), (12 : Nat)), (("row_table" : Str), (13 : Nat)), (("table_table" : Str), (14 : Nat)), (("table_plus" : Str), (15 : Nat)), (("turned" : Str), (16 : Nat)), (("_inverse_rests" : Str), (21 : Nat)), (("_law_bag" : Str), (22 : Nat)), (("_law_draw" : Str), (23 : Nat)), (("_law_prime" : Str), (24 : Nat)), (("_law_gcd" : Str), (25 : Nat)), (("_law_make" : Str), (26 : Nat)), (("_law_plus" : Str), (27 : Nat)), (("_law_times" : Str), (28 : Nat)), (("_law_minus" : Str), (29 : Nat)), (("_law_dot" : Str), (30 : Nat)), (("_law_unit" : Str), (31 : Nat)), (("_law_zero" : Str), (32 : Nat)), (("_law_number" : Str), (33 : Nat)), (("_law_row" : Str), (34 : Nat)), (("_law_list" : Str), (35 : Nat)), (("_law_kinds" : Str), (36 : Nat)), (("_law_tables_right" : Str), (37 : Nat)), (("law" : Str), (38 : Nat))], [(("Field" : Str), (0 : Nat))], [(("ZERO" : Str), (0 : Nat)), (("ONE" : Str), (1 : Nat)), (("_PRIMES" : Str), (2 : Nat))], [("abs" : Str), ("all" : Str), ("bool" : Str), ("int" : Str), ("isinstance" : Str), ("len" : Str), ("list" : Str), ("range" : Str), ("repr" : Str), ("str" : Str), ("tuple" : Str), ("zip" : Str)], true⟩
section
variable (W : Nat)
theorem c0 : chkSs (chkS T (PR W) (defScope s0) N0 40 12) D0.body (defBody s0) = true := by kernel_rfl
theorem sc0 : FnScope N0 (N0.take 3) (defScope s0) := ⟨rfl, rfl, rfl, by decide +kernel, rfl, by decide +kernel, by decide +kernel⟩
theorem c1 : chkSs (chkS T (PR W) (defScope s1) N1 40 12) D1.body (defBody s1) = true := by kernel_rfl
theorem sc1 : FnScope N1 (N1.take 2) (defScope s1) := ⟨rfl, rfl, rfl, by decide +kernel, rfl, by decide +kernel, by decide +kernel⟩
theorem c2 : chkSs (chkS T (PR W) (defScope s2) N2 40 12) D2.body (defBody s2) = true := by kernel_rfl
theorem sc2 : FnScope N2 (N2.take 2) (defScope s2) := ⟨rfl, rfl, rfl, by decide +kernel, rfl, by decide +kernel, by decide +kernel⟩
theorem c3 : chkSs (chkS T (PR W) (defScope s3) N3 40 12) D3.body (defBody s3) = true := by kernel_rfl
theorem sc3 : FnScope N3 (N3.take 2) (defScope s3) := ⟨rfl, rfl, rfl, by decide +kernel, rfl, by decide +kernel, by decide +kernel⟩
theorem c4 : chkSs (chkS T (PR W) (defScope s4) N4 40 12) D4.body (defBody s4) = true := by kernel_rfl
theorem sc4 : FnScope N4 (N4.take 2) (defScope s4) := ⟨rfl, rfl, rfl, by decide +kernel, rfl, by decide +kernel, by decide +kernel⟩
theorem c5 : chkSs (chkS T (PR W) (defScope s5) N5 40 12) D5.body (defBody s5) = true := by kernel_rfl
theorem sc5 : FnScope N5 (N5.take 1) (defScope s5) := ⟨rfl, rfl, rfl, by decide +kernel, rfl, by decide +kernel, by decide +kernel⟩
theorem c6 : chkSs (chkS T (PR W) (defScope s6) N6 40 12) D6.body (defBody s6) = true := by kernel_rfl
theorem sc6 : FnScope N6 (N6.take 2) (defScope s6) := ⟨rfl, rfl, rfl, by decide +kernel, rfl, by decide +kernel, by decide +kernel⟩
theorem c7 : chkSs (chkS T (PR W) (defScope s7) N7 40 12) D7.body (defBody s7) = true := by kernel_rfl
theorem sc7 : FnScope N7 (N7.take 1) (defScope s7) := ⟨rfl, rfl, rfl, by decide +kernel, rfl, by decide +kernel, by decide +kernel⟩
theorem c8 : chkSs (chkS T (PR W) (defScope s8) N8 40 12) D8.body (defBody s8) = true := by kernel_rfl
theorem sc8 : FnScope N8 (N8.take 3) (defScope s8) := ⟨rfl, rfl, rfl, by decide +kernel, rfl, by decide +kernel, by decide +kernel⟩
theorem c9 : chkSs (chkS T (PR W) (defScope s9) N9 40 12) D9.body (defBody s9) = true := by kernel_rfl
theorem sc9 : FnScope N9 (N9.take 3) (defScope s9) := ⟨rfl, rfl, rfl, by decide +kernel, rfl, by decide +kernel, by decide +kernel⟩
theorem c10 : chkSs (chkS T (PR W) (defScope s10) N10 40 12) D10.body (defBody s10) = true := by kernel_rfl
theorem sc10 : FnScope N10 (N10.take 3) (defScope s10) := ⟨rfl, rfl, rfl, by decide +kernel, rfl, by decide +kernel, by decide +kernel⟩
theorem c11 : chkSs (chkS T (PR W) (defScope s11) N11 40 12) D11.body (defBody s11) = true := by kernel_rfl
theorem sc11 : FnScope N11 (N11.take 3) (defScope s11) := ⟨rfl, rfl, rfl, by decide +kernel, rfl, by decide +kernel, by decide +kernel⟩
theorem c12 : chkSs (chkS T (PR W) (defScope s12) N12 40 12) D12.body (defBody s12) = true := by kernel_rfl
theorem sc12 : FnScope N12 (N12.take 3) (defScope s12) := ⟨rfl, rfl, rfl, by decide +kernel, rfl, by decide +kernel, by decide +kernel⟩
theorem c13 : chkSs (chkS T (PR W) (defScope s13) N13 40 12) D13.body (defBody s13) = true := by kernel_rfl
theorem sc13 : FnScope N13 (N13.take 4) (defScope s13) := ⟨rfl, rfl, rfl, by decide +kernel, rfl, by decide +kernel, by decide +kernel⟩
theorem c14 : chkSs (chkS T (PR W) (defScope s14) N14 40 12) D14.body (defBody s14) = true := by kernel_rfl
theorem sc14 : FnScope N14 (N14.take 3) (defScope s14) := ⟨rfl, rfl, rfl, by decide +kernel, rfl, by decide +kernel, by decide +kernel⟩
theorem c15 : chkSs (chkS T (PR W) (defScope s15) N15 40 12) D15.body (defBody s15) = true := by kernel_rfl
theorem sc15 : FnScope N15 (N15.take 3) (defScope s15) := ⟨rfl, rfl, rfl, by decide +kernel, rfl, by decide +kernel, by decide +kernel⟩
theorem c16 : chkSs (chkS T (PR W) (defScope s16) N16 40 12) D16.body (defBody s16) = true := by kernel_rfl
theorem sc16 : FnScope N16 (N16.take 1) (defScope s16) := ⟨rfl, rfl, rfl, by decide +kernel, rfl, by decide +kernel, by decide +kernel⟩
theorem c17 : chkSs (chkS T (PR W) (defScope s17) N17 40 12) D17.body (defBody s17) = true := by kernel_rfl
theorem sc17 : FnScope N17 (N17.take 2) (defScope s17) := ⟨rfl, rfl, rfl, by decide +kernel, rfl, by decide +kernel, by decide +kernel⟩
theorem c18 : chkSs (chkS T (PR W) (defScope s18) N18 40 12) D18.body (defBody s18) = true := by kernel_rfl
theorem sc18 : FnScope N18 (N18.take 3) (defScope s18) := ⟨rfl, rfl, rfl, by decide +kernel, rfl, by decide +kernel, by decide +kernel⟩
theorem c19 : chkSs (chkS T (PR W) (defScope s19) N19 40 12) D19.body (defBody s19) = true := by kernel_rfl
theorem sc19 : FnScope N19 (N19.take 3) (defScope s19) := ⟨rfl, rfl, rfl, by decide +kernel, rfl, by decide +kernel, by decide +kernel⟩
theorem c20 : chkSs (chkS T (PR W) (defScope s20) N20 40 12) D20.body (defBody s20) = true := by kernel_rfl
theorem sc20 : FnScope N20 (N20.take 3) (defScope s20) := ⟨rfl, rfl, rfl, by decide +kernel, rfl, by decide +kernel, by decide +kernel⟩
theorem c21 : chkSs (chkS T (PR W) (defScope s21) N21 40 12) D21.body (defBody s21) = true := by kernel_rfl
theorem sc21 : FnScope N21 (N21.take 1) (defScope s21) := ⟨rfl, rfl, rfl, by decide +kernel, rfl, by decide +kernel, by decide +kernel⟩
theorem c22 : chkSs (chkS T (PR W) (defScope s22) N22 40 12) D22.body (defBody s22) = true := by kernel_rfl
theorem sc22 : FnScope N22 (N22.take 1) (defScope s22) := ⟨rfl, rfl, rfl, by decide +kernel, rfl, by decide +kernel, by decide +kernel⟩
theorem c23 : chkSs (chkS T (PR W) (defScope s23) N23 40 12) D23.body (defBody s23) = true := by kernel_rfl
theorem sc23 : FnScope N23 (N23.take 2) (defScope s23) := ⟨rfl, rfl, rfl, by decide +kernel, rfl, by decide +kernel, by decide +kernel⟩
theorem c24 : chkSs (chkS T (PR W) (defScope s24) N24 40 12) D24.body (defBody s24) = true := by kernel_rfl
theorem sc24 : FnScope N24 (N24.take 1) (defScope s24) := ⟨rfl, rfl, rfl, by decide +kernel, rfl, by decide +kernel, by decide +kernel⟩
theorem c25 : chkSs (chkS T (PR W) (defScope s25) N25 40 12) D25.body (defBody s25) = true := by kernel_rfl
theorem sc25 : FnScope N25 (N25.take 2) (defScope s25) := ⟨rfl, rfl, rfl, by decide +kernel, rfl, by decide +kernel, by decide +kernel⟩
theorem c26 : chkSs (chkS T (PR W) (defScope s26) N26 40 12) D26.body (defBody s26) = true := by kernel_rfl
theorem sc26 : FnScope N26 (N26.take 3) (defScope s26) := ⟨rfl, rfl, rfl, by decide +kernel, rfl, by decide +kernel, by decide +kernel⟩
theorem c27 : chkSs (chkS T (PR W) (defScope s27) N27 40 12) D27.body (defBody s27) = true := by kernel_rfl
theorem sc27 : FnScope N27 (N27.take 3) (defScope s27) := ⟨rfl, rfl, rfl, by decide +kernel, rfl, by decide +kernel, by decide +kernel⟩
theorem c28 : chkSs (chkS T (PR W) (defScope s28) N28 40 12) D28.body (defBody s28) = true := by kernel_rfl
theorem sc28 : FnScope N28 (N28.take 3) (defScope s28) := ⟨rfl, rfl, rfl, by decide +kernel, rfl, by decide +kernel, by decide +kernel⟩
theorem c29 : chkSs (chkS T (PR W) (defScope s29) N29 40 12) D29.body (defBody s29) = true := by kernel_rfl
theorem sc29 : FnScope N29 (N29.take 3) (defScope s29) := ⟨rfl, rfl, rfl, by decide +kernel, rfl, by decide +kernel, by decide +kernel⟩
theorem c30 : chkSs (chkS T (PR W) (defScope s30) N30 40 12) D30.body (defBody s30) = true := by kernel_rfl
theorem sc30 : FnScope N30 (N30.take 3) (defScope s30) := ⟨rfl, rfl, rfl, by decide +kernel, rfl, by decide +kernel, by decide +kernel⟩
theorem c31 : chkSs (chkS T (PR W) (defScope s31) N31 40 12) D31.body (defBody s31) = true := by kernel_rfl
theorem sc31 : FnScope N31 (N31.take 2) (defScope s31) := ⟨rfl, rfl, rfl, by decide +kernel, rfl, by decide +kernel, by decide +kernel⟩
theorem c32 : chkSs (chkS T (PR W) (defScope s32) N32 40 12) D32.body (defBody s32) = true := by kernel_rfl
theorem sc32 : FnScope N32 (N32.take 1) (defScope s32) := ⟨rfl, rfl, rfl, by decide +kernel, rfl, by decide +kernel, by decide +kernel⟩
theorem c33 : chkSs (chkS T (PR W) (defScope s33) N33 40 12) D33.body (defBody s33) = true := by kernel_rfl
theorem sc33 : FnScope N33 (N33.take 2) (defScope s33) := ⟨rfl, rfl, rfl, by decide +kernel, rfl, by decide +kernel, by decide +kernel⟩
theorem c34 : chkSs (chkS T (PR W) (defScope s34) N34 40 12) D34.body (defBody s34) = true := by kernel_rfl
theorem sc34 : FnScope N34 (N34.take 3) (defScope s34) := ⟨rfl, rfl, rfl, by decide +kernel, rfl, by decide +kernel, by decide +kernel⟩
theorem c35 : chkSs (chkS T (PR W) (defScope s35) N35 40 12) D35.body (defBody s35) = true := by kernel_rfl
theorem sc35 : FnScope N35 (N35.take 2) (defScope s35) := ⟨rfl, rfl, rfl, by decide +kernel, rfl, by decide +kernel, by decide +kernel⟩
theorem c36 : chkSs (chkS T (PR W) (defScope s36) N36 40 12) D36.body (defBody s36) = true := by kernel_rfl
theorem sc36 : FnScope N36 (N36.take 2) (defScope s36) := ⟨rfl, rfl, rfl, by decide +kernel, rfl, by decide +kernel, by decide +kernel⟩
theorem c37 : chkSs (chkS T (PR W) (defScope s37) N37 40 12) D37.body (defBody s37) = true := by kernel_rfl
theorem sc37 : FnScope N37 (N37.take 3) (defScope s37) := ⟨rfl, rfl, rfl, by decide +kernel, rfl, by decide +kernel, by decide +kernel⟩
theorem c38 : chkSs (chkS T (PR W) (defScope s38) N38 40 12) D38.body (defBody s38) = true := by kernel_rfl
theorem sc38 : FnScope N38 (N38.take 1) (defScope s38) := ⟨rfl, rfl, rfl, by decide +kernel, rfl, by decide +kernel, by decide +kernel⟩
end
theorem bd0 {K : W.Frag} {f : Addr} {fd : FuncData} (F : FunD K d0.name d0.qual d0.params d0.body d0.scope (d0.dvs K) (d0.kws K) f fd) (cl : Nat → Addr) : ∀ n, n ≤ 3 → 3 - n ≤ 2 → ∃ ds dvs, Binds K fd (N0.take 3) ds ∧ Vals dvs ds ∧ ∀ H m, RpL K cl H m (D0.dv.drop (2 - (3 - n))) dvs := by
  intro n h1 h2
  by_cases e1 : n = 1
  · subst e1
    obtain ⟨ds, r, b⟩ := FunD.binds1 (ps := N0.take 3) F 1 0 (List.cons_ne_nil _ _) rfl (fun _ _ _ _ _ _ _ us its h1 h2 => match us, its, h1, h2 with | [_], [_, _], _, _ => ⟨_, rfl, rfl⟩)
    exact ⟨ds, _, b, r, fun H m => ⟨_, _, rfl, rfl, ⟨_, _, rfl, rfl, rfl⟩⟩⟩
  by_cases e2 : n = 2
  · subst e2
    obtain ⟨ds, r, b⟩ := FunD.binds1 (ps := N0.take 3) F 2 1 (List.cons_ne_nil _ _) rfl (fun _ _ _ _ _ _ _ us its h1 h2 => match us, its, h1, h2 with | [_, _], [_, _], _, _ => ⟨_, rfl, rfl⟩)
    exact ⟨ds, _, b, r, fun H m => ⟨_, _, rfl, rfl, rfl⟩⟩
  · obtain rfl : n = 3 := by omega
    obtain ⟨ds, r, b⟩ := FunD.binds1 (ps := N0.take 3) F 3 2 (List.cons_ne_nil _ _) rfl (fun _ _ _ _ _ _ _ us its h1 h2 => match us, its, h1, h2 with | [_, _, _], [_, _], _, _ => ⟨_, rfl, rfl⟩)
    exact ⟨ds, _, b, r, fun H m => rfl⟩
theorem bd1 {K : W.Frag} {f : Addr} {fd : FuncData} (F : FunD K d1.name d1.qual d1.params d1.body d1.scope (d1.dvs K) (d1.kws K) f fd) (cl : Nat → Addr) : ∀ n, n ≤ 2 → 2 - n ≤ 0 → ∃ ds dvs, Binds K fd (N1.take 2) ds ∧ Vals dvs ds ∧ ∀ H m, RpL K cl H m (D1.dv.drop (0 - (2 - n))) dvs := by
  intro n h1 h2
  obtain rfl : n = 2 := by omega
  exact ⟨[], [], FunD.bindsN (ps := N1.take 2) F (fun _ _ _ _ _ _ us hl => match us, hl with | [_, _], _ => rfl), .nil, fun H m => rfl⟩
theorem bd2 {K : W.Frag} {f : Addr} {fd : FuncData} (F : FunD K d2.name d2.qual d2.params d2.body d2.scope (d2.dvs K) (d2.kws K) f fd) (cl : Nat → Addr) : ∀ n, n ≤ 2 → 2 - n ≤ 0 → ∃ ds dvs, Binds K fd (N2.take 2) ds ∧ Vals dvs ds ∧ ∀ H m, RpL K cl H m (D2.dv.drop (0 - (2 - n))) dvs := by
  intro n h1 h2
  obtain rfl : n = 2 := by omega
  exact ⟨[], [], FunD.bindsN (ps := N2.take 2) F (fun _ _ _ _ _ _ us hl => match us, hl with | [_, _], _ => rfl), .nil, fun H m => rfl⟩
theorem bd3 {K : W.Frag} {f : Addr} {fd : FuncData} (F : FunD K d3.name d3.qual d3.params d3.body d3.scope (d3.dvs K) (d3.kws K) f fd) (cl : Nat → Addr) : ∀ n, n ≤ 2 → 2 - n ≤ 0 → ∃ ds dvs, Binds K fd (N3.take 2) ds ∧ Vals dvs ds ∧ ∀ H m, RpL K cl H m (D3.dv.drop (0 - (2 - n))) dvs := by
  intro n h1 h2
  obtain rfl : n = 2 := by omega
  exact ⟨[], [], FunD.bindsN (ps := N3.take 2) F (fun _ _ _ _ _ _ us hl => match us, hl with | [_, _], _ => rfl), .nil, fun H m => rfl⟩
theorem bd4 {K : W.Frag} {f : Addr} {fd : FuncData} (F : FunD K d4.name d4.qual d4.params d4.body d4.scope (d4.dvs K) (d4.kws K) f fd) (cl : Nat → Addr) : ∀ n, n ≤ 2 → 2 - n ≤ 0 → ∃ ds dvs, Binds K fd (N4.take 2) ds ∧ Vals dvs ds ∧ ∀ H m, RpL K cl H m (D4.dv.drop (0 - (2 - n))) dvs := by
  intro n h1 h2
  obtain rfl : n = 2 := by omega
  exact ⟨[], [], FunD.bindsN (ps := N4.take 2) F (fun _ _ _ _ _ _ us hl => match us, hl with | [_, _], _ => rfl), .nil, fun H m => rfl⟩
theorem bd5 {K : W.Frag} {f : Addr} {fd : FuncData} (F : FunD K d5.name d5.qual d5.params d5.body d5.scope (d5.dvs K) (d5.kws K) f fd) (cl : Nat → Addr) : ∀ n, n ≤ 1 → 1 - n ≤ 0 → ∃ ds dvs, Binds K fd (N5.take 1) ds ∧ Vals dvs ds ∧ ∀ H m, RpL K cl H m (D5.dv.drop (0 - (1 - n))) dvs := by
  intro n h1 h2
  obtain rfl : n = 1 := by omega
  exact ⟨[], [], FunD.bindsN (ps := N5.take 1) F (fun _ _ _ _ _ _ us hl => match us, hl with | [_], _ => rfl), .nil, fun H m => rfl⟩
theorem bd6 {K : W.Frag} {f : Addr} {fd : FuncData} (F : FunD K d6.name d6.qual d6.params d6.body d6.scope (d6.dvs K) (d6.kws K) f fd) (cl : Nat → Addr) : ∀ n, n ≤ 2 → 2 - n ≤ 0 → ∃ ds dvs, Binds K fd (N6.take 2) ds ∧ Vals dvs ds ∧ ∀ H m, RpL K cl H m (D6.dv.drop (0 - (2 - n))) dvs := by
  intro n h1 h2
  obtain rfl : n = 2 := by omega
  exact ⟨[], [], FunD.bindsN (ps := N6.take 2) F (fun _ _ _ _ _ _ us hl => match us, hl with | [_, _], _ => rfl), .nil, fun H m => rfl⟩
theorem bd7 {K : W.Frag} {f : Addr} {fd : FuncData} (F : FunD K d7.name d7.qual d7.params d7.body d7.scope (d7.dvs K) (d7.kws K) f fd) (cl : Nat → Addr) : ∀ n, n ≤ 1 → 1 - n ≤ 0 → ∃ ds dvs, Binds K fd (N7.take 1) ds ∧ Vals dvs ds ∧ ∀ H m, RpL K cl H m (D7.dv.drop (0 - (1 - n))) dvs := by
  intro n h1 h2
  obtain rfl : n = 1 := by omega
  exact ⟨[], [], FunD.bindsN (ps := N7.take 1) F (fun _ _ _ _ _ _ us hl => match us, hl with | [_], _ => rfl), .nil, fun H m => rfl⟩
theorem bd8 {K : W.Frag} {f : Addr} {fd : FuncData} (F : FunD K d8.name d8.qual d8.params d8.body d8.scope (d8.dvs K) (d8.kws K) f fd) (cl : Nat → Addr) : ∀ n, n ≤ 3 → 3 - n ≤ 0 → ∃ ds dvs, Binds K fd (N8.take 3) ds ∧ Vals dvs ds ∧ ∀ H m, RpL K cl H m (D8.dv.drop (0 - (3 - n))) dvs := by
  intro n h1 h2
  obtain rfl : n = 3 := by omega
  exact ⟨[], [], FunD.bindsN (ps := N8.take 3) F (fun _ _ _ _ _ _ us hl => match us, hl with | [_, _, _], _ => rfl), .nil, fun H m => rfl⟩
theorem bd9 {K : W.Frag} {f : Addr} {fd : FuncData} (F : FunD K d9.name d9.qual d9.params d9.body d9.scope (d9.dvs K) (d9.kws K) f fd) (cl : Nat → Addr) : ∀ n, n ≤ 3 → 3 - n ≤ 0 → ∃ ds dvs, Binds K fd (N9.take 3) ds ∧ Vals dvs ds ∧ ∀ H m, RpL K cl H m (D9.dv.drop (0 - (3 - n))) dvs := by
  intro n h1 h2
  obtain rfl : n = 3 := by omega
  exact ⟨[], [], FunD.bindsN (ps := N9.take 3) F (fun _ _ _ _ _ _ us hl => match us, hl with | [_, _, _], _ => rfl), .nil, fun H m => rfl⟩
theorem bd10 {K : W.Frag} {f : Addr} {fd : FuncData} (F : FunD K d10.name d10.qual d10.params d10.body d10.scope (d10.dvs K) (d10.kws K) f fd) (cl : Nat → Addr) : ∀ n, n ≤ 3 → 3 - n ≤ 0 → ∃ ds dvs, Binds K fd (N10.take 3) ds ∧ Vals dvs ds ∧ ∀ H m, RpL K cl H m (D10.dv.drop (0 - (3 - n))) dvs := by
  intro n h1 h2
  obtain rfl : n = 3 := by omega
  exact ⟨[], [], FunD.bindsN (ps := N10.take 3) F (fun _ _ _ _ _ _ us hl => match us, hl with | [_, _, _], _ => rfl), .nil, fun H m => rfl⟩
theorem bd11 {K : W.Frag} {f : Addr} {fd : FuncData} (F : FunD K d11.name d11.qual d11.params d11.body d11.scope (d11.dvs K) (d11.kws K) f fd) (cl : Nat → Addr) : ∀ n, n ≤ 3 → 3 - n ≤ 0 → ∃ ds dvs, Binds K fd (N11.take 3) ds ∧ Vals dvs ds ∧ ∀ H m, RpL K cl H m (D11.dv.drop (0 - (3 - n))) dvs := by
  intro n h1 h2
  obtain rfl : n = 3 := by omega
  exact ⟨[], [], FunD.bindsN (ps := N11.take 3) F (fun _ _ _ _ _ _ us hl => match us, hl with | [_, _, _], _ => rfl), .nil, fun H m => rfl⟩
theorem bd12 {K : W.Frag} {f : Addr} {fd : FuncData} (F : FunD K d12.name d12.qual d12.params d12.body d12.scope (d12.dvs K) (d12.kws K) f fd) (cl : Nat → Addr) : ∀ n, n ≤ 3 → 3 - n ≤ 0 → ∃ ds dvs, Binds K fd (N12.take 3) ds ∧ Vals dvs ds ∧ ∀ H m, RpL K cl H m (D12.dv.drop (0 - (3 - n))) dvs := by
  intro n h1 h2
  obtain rfl : n = 3 := by omega
  exact ⟨[], [], FunD.bindsN (ps := N12.take 3) F (fun _ _ _ _ _ _ us hl => match us, hl with | [_, _, _], _ => rfl), .nil, fun H m => rfl⟩
theorem bd13 {K : W.Frag} {f : Addr} {fd : FuncData} (F : FunD K d13.name d13.qual d13.params d13.body d13.scope (d13.dvs K) (d13.kws K) f fd) (cl : Nat → Addr) : ∀ n, n ≤ 4 → 4 - n ≤ 1 → ∃ ds dvs, Binds K fd (N13.take 4) ds ∧ Vals dvs ds ∧ ∀ H m, RpL K cl H m (D13.dv.drop (1 - (4 - n))) dvs := by
  intro n h1 h2
  by_cases e3 : n = 3
  · subst e3
    obtain ⟨ds, r, b⟩ := FunD.binds1 (ps := N13.take 4) F 3 0 (List.cons_ne_nil _ _) rfl (fun _ _ _ _ _ _ _ us its h1 h2 => match us, its, h1, h2 with | [_, _, _], [_], _, _ => ⟨_, rfl, rfl⟩)
    exact ⟨ds, _, b, r, fun H m => ⟨_, _, rfl, rfl, rfl⟩⟩
  · obtain rfl : n = 4 := by omega
    obtain ⟨ds, r, b⟩ := FunD.binds1 (ps := N13.take 4) F 4 1 (List.cons_ne_nil _ _) rfl (fun _ _ _ _ _ _ _ us its h1 h2 => match us, its, h1, h2 with | [_, _, _, _], [_], _, _ => ⟨_, rfl, rfl⟩)
    exact ⟨ds, _, b, r, fun H m => rfl⟩
theorem bd14 {K : W.Frag} {f : Addr} {fd : FuncData} (F : FunD K d14.name d14.qual d14.params d14.body d14.scope (d14.dvs K) (d14.kws K) f fd) (cl : Nat → Addr) : ∀ n, n ≤ 3 → 3 - n ≤ 0 → ∃ ds dvs, Binds K fd (N14.take 3) ds ∧ Vals dvs ds ∧ ∀ H m, RpL K cl H m (D14.dv.drop (0 - (3 - n))) dvs := by
  intro n h1 h2
  obtain rfl : n = 3 := by omega
  exact ⟨[], [], FunD.bindsN (ps := N14.take 3) F (fun _ _ _ _ _ _ us hl => match us, hl with | [_, _, _], _ => rfl), .nil, fun H m => rfl⟩
theorem bd15 {K : W.Frag} {f : Addr} {fd : FuncData} (F : FunD K d15.name d15.qual d15.params d15.body d15.scope (d15.dvs K) (d15.kws K) f fd) (cl : Nat → Addr) : ∀ n, n ≤ 3 → 3 - n ≤ 0 → ∃ ds dvs, Binds K fd (N15.take 3) ds ∧ Vals dvs ds ∧ ∀ H m, RpL K cl H m (D15.dv.drop (0 - (3 - n))) dvs := by
  intro n h1 h2
  obtain rfl : n = 3 := by omega
  exact ⟨[], [], FunD.bindsN (ps := N15.take 3) F (fun _ _ _ _ _ _ us hl => match us, hl with | [_, _, _], _ => rfl), .nil, fun H m => rfl⟩
theorem bd16 {K : W.Frag} {f : Addr} {fd : FuncData} (F : FunD K d16.name d16.qual d16.params d16.body d16.scope (d16.dvs K) (d16.kws K) f fd) (cl : Nat → Addr) : ∀ n, n ≤ 1 → 1 - n ≤ 0 → ∃ ds dvs, Binds K fd (N16.take 1) ds ∧ Vals dvs ds ∧ ∀ H m, RpL K cl H m (D16.dv.drop (0 - (1 - n))) dvs := by
  intro n h1 h2
  obtain rfl : n = 1 := by omega
  exact ⟨[], [], FunD.bindsN (ps := N16.take 1) F (fun _ _ _ _ _ _ us hl => match us, hl with | [_], _ => rfl), .nil, fun H m => rfl⟩
theorem bd17 {K : W.Frag} {f : Addr} {fd : FuncData} (F : FunD K d17.name d17.qual d17.params d17.body d17.scope (d17.dvs K) (d17.kws K) f fd) (cl : Nat → Addr) : ∀ n, n ≤ 2 → 2 - n ≤ 1 → ∃ ds dvs, Binds K fd (N17.take 2) ds ∧ Vals dvs ds ∧ ∀ H m, RpL K cl H m (D17.dv.drop (1 - (2 - n))) dvs := by
  intro n h1 h2
  by_cases e1 : n = 1
  · subst e1
    obtain ⟨ds, r, b⟩ := FunD.binds1 (ps := N17.take 2) F 1 0 (List.cons_ne_nil _ _) rfl (fun _ _ _ _ _ _ _ us its h1 h2 => match us, its, h1, h2 with | [_], [_], _, _ => ⟨_, rfl, rfl⟩)
    exact ⟨ds, _, b, r, fun H m => ⟨_, _, rfl, rfl, rfl⟩⟩
  · obtain rfl : n = 2 := by omega
    obtain ⟨ds, r, b⟩ := FunD.binds1 (ps := N17.take 2) F 2 1 (List.cons_ne_nil _ _) rfl (fun _ _ _ _ _ _ _ us its h1 h2 => match us, its, h1, h2 with | [_, _], [_], _, _ => ⟨_, rfl, rfl⟩)
    exact ⟨ds, _, b, r, fun H m => rfl⟩
theorem bd18 {K : W.Frag} {f : Addr} {fd : FuncData} (F : FunD K d18.name d18.qual d18.params d18.body d18.scope (d18.dvs K) (d18.kws K) f fd) (cl : Nat → Addr) : ∀ n, n ≤ 3 → 3 - n ≤ 0 → ∃ ds dvs, Binds K fd (N18.take 3) ds ∧ Vals dvs ds ∧ ∀ H m, RpL K cl H m (D18.dv.drop (0 - (3 - n))) dvs := by
  intro n h1 h2
  obtain rfl : n = 3 := by omega
  exact ⟨[], [], FunD.bindsN (ps := N18.take 3) F (fun _ _ _ _ _ _ us hl => match us, hl with | [_, _, _], _ => rfl), .nil, fun H m => rfl⟩
theorem bd19 {K : W.Frag} {f : Addr} {fd : FuncData} (F : FunD K d19.name d19.qual d19.params d19.body d19.scope (d19.dvs K) (d19.kws K) f fd) (cl : Nat → Addr) : ∀ n, n ≤ 3 → 3 - n ≤ 0 → ∃ ds dvs, Binds K fd (N19.take 3) ds ∧ Vals dvs ds ∧ ∀ H m, RpL K cl H m (D19.dv.drop (0 - (3 - n))) dvs := by
  intro n h1 h2
  obtain rfl : n = 3 := by omega
  exact ⟨[], [], FunD.bindsN (ps := N19.take 3) F (fun _ _ _ _ _ _ us hl => match us, hl with | [_, _, _], _ => rfl), .nil, fun H m => rfl⟩
theorem bd20 {K : W.Frag} {f : Addr} {fd : FuncData} (F : FunD K d20.name d20.qual d20.params d20.body d20.scope (d20.dvs K) (d20.kws K) f fd) (cl : Nat → Addr) : ∀ n, n ≤ 3 → 3 - n ≤ 0 → ∃ ds dvs, Binds K fd (N20.take 3) ds ∧ Vals dvs ds ∧ ∀ H m, RpL K cl H m (D20.dv.drop (0 - (3 - n))) dvs := by
  intro n h1 h2
  obtain rfl : n = 3 := by omega
  exact ⟨[], [], FunD.bindsN (ps := N20.take 3) F (fun _ _ _ _ _ _ us hl => match us, hl with | [_, _, _], _ => rfl), .nil, fun H m => rfl⟩
theorem bd21 {K : W.Frag} {f : Addr} {fd : FuncData} (F : FunD K d21.name d21.qual d21.params d21.body d21.scope (d21.dvs K) (d21.kws K) f fd) (cl : Nat → Addr) : ∀ n, n ≤ 1 → 1 - n ≤ 0 → ∃ ds dvs, Binds K fd (N21.take 1) ds ∧ Vals dvs ds ∧ ∀ H m, RpL K cl H m (D21.dv.drop (0 - (1 - n))) dvs := by
  intro n h1 h2
  obtain rfl : n = 1 := by omega
  exact ⟨[], [], FunD.bindsN (ps := N21.take 1) F (fun _ _ _ _ _ _ us hl => match us, hl with | [_], _ => rfl), .nil, fun H m => rfl⟩
theorem bd22 {K : W.Frag} {f : Addr} {fd : FuncData} (F : FunD K d22.name d22.qual d22.params d22.body d22.scope (d22.dvs K) (d22.kws K) f fd) (cl : Nat → Addr) : ∀ n, n ≤ 1 → 1 - n ≤ 0 → ∃ ds dvs, Binds K fd (N22.take 1) ds ∧ Vals dvs ds ∧ ∀ H m, RpL K cl H m (D22.dv.drop (0 - (1 - n))) dvs := by
  intro n h1 h2
  obtain rfl : n = 1 := by omega
  exact ⟨[], [], FunD.bindsN (ps := N22.take 1) F (fun _ _ _ _ _ _ us hl => match us, hl with | [_], _ => rfl), .nil, fun H m => rfl⟩
theorem bd23 {K : W.Frag} {f : Addr} {fd : FuncData} (F : FunD K d23.name d23.qual d23.params d23.body d23.scope (d23.dvs K) (d23.kws K) f fd) (cl : Nat → Addr) : ∀ n, n ≤ 2 → 2 - n ≤ 0 → ∃ ds dvs, Binds K fd (N23.take 2) ds ∧ Vals dvs ds ∧ ∀ H m, RpL K cl H m (D23.dv.drop (0 - (2 - n))) dvs := by
  intro n h1 h2
  obtain rfl : n = 2 := by omega
  exact ⟨[], [], FunD.bindsN (ps := N23.take 2) F (fun _ _ _ _ _ _ us hl => match us, hl with | [_, _], _ => rfl), .nil, fun H m => rfl⟩
theorem bd24 {K : W.Frag} {f : Addr} {fd : FuncData} (F : FunD K d24.name d24.qual d24.params d24.body d24.scope (d24.dvs K) (d24.kws K) f fd) (cl : Nat → Addr) : ∀ n, n ≤ 1 → 1 - n ≤ 0 → ∃ ds dvs, Binds K fd (N24.take 1) ds ∧ Vals dvs ds ∧ ∀ H m, RpL K cl H m (D24.dv.drop (0 - (1 - n))) dvs := by
  intro n h1 h2
  obtain rfl : n = 1 := by omega
  exact ⟨[], [], FunD.bindsN (ps := N24.take 1) F (fun _ _ _ _ _ _ us hl => match us, hl with | [_], _ => rfl), .nil, fun H m => rfl⟩
theorem bd25 {K : W.Frag} {f : Addr} {fd : FuncData} (F : FunD K d25.name d25.qual d25.params d25.body d25.scope (d25.dvs K) (d25.kws K) f fd) (cl : Nat → Addr) : ∀ n, n ≤ 2 → 2 - n ≤ 0 → ∃ ds dvs, Binds K fd (N25.take 2) ds ∧ Vals dvs ds ∧ ∀ H m, RpL K cl H m (D25.dv.drop (0 - (2 - n))) dvs := by
  intro n h1 h2
  obtain rfl : n = 2 := by omega
  exact ⟨[], [], FunD.bindsN (ps := N25.take 2) F (fun _ _ _ _ _ _ us hl => match us, hl with | [_, _], _ => rfl), .nil, fun H m => rfl⟩
theorem bd26 {K : W.Frag} {f : Addr} {fd : FuncData} (F : FunD K d26.name d26.qual d26.params d26.body d26.scope (d26.dvs K) (d26.kws K) f fd) (cl : Nat → Addr) : ∀ n, n ≤ 3 → 3 - n ≤ 0 → ∃ ds dvs, Binds K fd (N26.take 3) ds ∧ Vals dvs ds ∧ ∀ H m, RpL K cl H m (D26.dv.drop (0 - (3 - n))) dvs := by
  intro n h1 h2
  obtain rfl : n = 3 := by omega
  exact ⟨[], [], FunD.bindsN (ps := N26.take 3) F (fun _ _ _ _ _ _ us hl => match us, hl with | [_, _, _], _ => rfl), .nil, fun H m => rfl⟩
theorem bd27 {K : W.Frag} {f : Addr} {fd : FuncData} (F : FunD K d27.name d27.qual d27.params d27.body d27.scope (d27.dvs K) (d27.kws K) f fd) (cl : Nat → Addr) : ∀ n, n ≤ 3 → 3 - n ≤ 0 → ∃ ds dvs, Binds K fd (N27.take 3) ds ∧ Vals dvs ds ∧ ∀ H m, RpL K cl H m (D27.dv.drop (0 - (3 - n))) dvs := by
  intro n h1 h2
  obtain rfl : n = 3 := by omega
  exact ⟨[], [], FunD.bindsN (ps := N27.take 3) F (fun _ _ _ _ _ _ us hl => match us, hl with | [_, _, _], _ => rfl), .nil, fun H m => rfl⟩
theorem bd28 {K : W.Frag} {f : Addr} {fd : FuncData} (F : FunD K d28.name d28.qual d28.params d28.body d28.scope (d28.dvs K) (d28.kws K) f fd) (cl : Nat → Addr) : ∀ n, n ≤ 3 → 3 - n ≤ 0 → ∃ ds dvs, Binds K fd (N28.take 3) ds ∧ Vals dvs ds ∧ ∀ H m, RpL K cl H m (D28.dv.drop (0 - (3 - n))) dvs := by
  intro n h1 h2
  obtain rfl : n = 3 := by omega
  exact ⟨[], [], FunD.bindsN (ps := N28.take 3) F (fun _ _ _ _ _ _ us hl => match us, hl with | [_, _, _], _ => rfl), .nil, fun H m => rfl⟩
theorem bd29 {K : W.Frag} {f : Addr} {fd : FuncData} (F : FunD K d29.name d29.qual d29.params d29.body d29.scope (d29.dvs K) (d29.kws K) f fd) (cl : Nat → Addr) : ∀ n, n ≤ 3 → 3 - n ≤ 0 → ∃ ds dvs, Binds K fd (N29.take 3) ds ∧ Vals dvs ds ∧ ∀ H m, RpL K cl H m (D29.dv.drop (0 - (3 - n))) dvs := by
  intro n h1 h2
  obtain rfl : n = 3 := by omega
  exact ⟨[], [], FunD.bindsN (ps := N29.take 3) F (fun _ _ _ _ _ _ us hl => match us, hl with | [_, _, _], _ => rfl), .nil, fun H m => rfl⟩
theorem bd30 {K : W.Frag} {f : Addr} {fd : FuncData} (F : FunD K d30.name d30.qual d30.params d30.body d30.scope (d30.dvs K) (d30.kws K) f fd) (cl : Nat → Addr) : ∀ n, n ≤ 3 → 3 - n ≤ 0 → ∃ ds dvs, Binds K fd (N30.take 3) ds ∧ Vals dvs ds ∧ ∀ H m, RpL K cl H m (D30.dv.drop (0 - (3 - n))) dvs := by
  intro n h1 h2
  obtain rfl : n = 3 := by omega
  exact ⟨[], [], FunD.bindsN (ps := N30.take 3) F (fun _ _ _ _ _ _ us hl => match us, hl with | [_, _, _], _ => rfl), .nil, fun H m => rfl⟩
theorem bd31 {K : W.Frag} {f : Addr} {fd : FuncData} (F : FunD K d31.name d31.qual d31.params d31.body d31.scope (d31.dvs K) (d31.kws K) f fd) (cl : Nat → Addr) : ∀ n, n ≤ 2 → 2 - n ≤ 0 → ∃ ds dvs, Binds K fd (N31.take 2) ds ∧ Vals dvs ds ∧ ∀ H m, RpL K cl H m (D31.dv.drop (0 - (2 - n))) dvs := by
  intro n h1 h2
  obtain rfl : n = 2 := by omega
  exact ⟨[], [], FunD.bindsN (ps := N31.take 2) F (fun _ _ _ _ _ _ us hl => match us, hl with | [_, _], _ => rfl), .nil, fun H m => rfl⟩
theorem bd32 {K : W.Frag} {f : Addr} {fd : FuncData} (F : FunD K d32.name d32.qual d32.params d32.body d32.scope (d32.dvs K) (d32.kws K) f fd) (cl : Nat → Addr) : ∀ n, n ≤ 1 → 1 - n ≤ 0 → ∃ ds dvs, Binds K fd (N32.take 1) ds ∧ Vals dvs ds ∧ ∀ H m, RpL K cl H m (D32.dv.drop (0 - (1 - n))) dvs := by
  intro n h1 h2
  obtain rfl : n = 1 := by omega
  exact ⟨[], [], FunD.bindsN (ps := N32.take 1) F (fun _ _ _ _ _ _ us hl => match us, hl with | [_], _ => rfl), .nil, fun H m => rfl⟩
theorem bd33 {K : W.Frag} {f : Addr} {fd : FuncData} (F : FunD K d33.name d33.qual d33.params d33.body d33.scope (d33.dvs K) (d33.kws K) f fd) (cl : Nat → Addr) : ∀ n, n ≤ 2 → 2 - n ≤ 0 → ∃ ds dvs, Binds K fd (N33.take 2) ds ∧ Vals dvs ds ∧ ∀ H m, RpL K cl H m (D33.dv.drop (0 - (2 - n))) dvs := by
  intro n h1 h2
  obtain rfl : n = 2 := by omega
  exact ⟨[], [], FunD.bindsN (ps := N33.take 2) F (fun _ _ _ _ _ _ us hl => match us, hl with | [_, _], _ => rfl), .nil, fun H m => rfl⟩
theorem bd34 {K : W.Frag} {f : Addr} {fd : FuncData} (F : FunD K d34.name d34.qual d34.params d34.body d34.scope (d34.dvs K) (d34.kws K) f fd) (cl : Nat → Addr) : ∀ n, n ≤ 3 → 3 - n ≤ 0 → ∃ ds dvs, Binds K fd (N34.take 3) ds ∧ Vals dvs ds ∧ ∀ H m, RpL K cl H m (D34.dv.drop (0 - (3 - n))) dvs := by
  intro n h1 h2
  obtain rfl : n = 3 := by omega
  exact ⟨[], [], FunD.bindsN (ps := N34.take 3) F (fun _ _ _ _ _ _ us hl => match us, hl with | [_, _, _], _ => rfl), .nil, fun H m => rfl⟩
theorem bd35 {K : W.Frag} {f : Addr} {fd : FuncData} (F : FunD K d35.name d35.qual d35.params d35.body d35.scope (d35.dvs K) (d35.kws K) f fd) (cl : Nat → Addr) : ∀ n, n ≤ 2 → 2 - n ≤ 0 → ∃ ds dvs, Binds K fd (N35.take 2) ds ∧ Vals dvs ds ∧ ∀ H m, RpL K cl H m (D35.dv.drop (0 - (2 - n))) dvs := by
  intro n h1 h2
  obtain rfl : n = 2 := by omega
  exact ⟨[], [], FunD.bindsN (ps := N35.take 2) F (fun _ _ _ _ _ _ us hl => match us, hl with | [_, _], _ => rfl), .nil, fun H m => rfl⟩
theorem bd36 {K : W.Frag} {f : Addr} {fd : FuncData} (F : FunD K d36.name d36.qual d36.params d36.body d36.scope (d36.dvs K) (d36.kws K) f fd) (cl : Nat → Addr) : ∀ n, n ≤ 2 → 2 - n ≤ 0 → ∃ ds dvs, Binds K fd (N36.take 2) ds ∧ Vals dvs ds ∧ ∀ H m, RpL K cl H m (D36.dv.drop (0 - (2 - n))) dvs := by
  intro n h1 h2
  obtain rfl : n = 2 := by omega
  exact ⟨[], [], FunD.bindsN (ps := N36.take 2) F (fun _ _ _ _ _ _ us hl => match us, hl with | [_, _], _ => rfl), .nil, fun H m => rfl⟩
theorem bd37 {K : W.Frag} {f : Addr} {fd : FuncData} (F : FunD K d37.name d37.qual d37.params d37.body d37.scope (d37.dvs K) (d37.kws K) f fd) (cl : Nat → Addr) : ∀ n, n ≤ 3 → 3 - n ≤ 0 → ∃ ds dvs, Binds K fd (N37.take 3) ds ∧ Vals dvs ds ∧ ∀ H m, RpL K cl H m (D37.dv.drop (0 - (3 - n))) dvs := by
  intro n h1 h2
  obtain rfl : n = 3 := by omega
  exact ⟨[], [], FunD.bindsN (ps := N37.take 3) F (fun _ _ _ _ _ _ us hl => match us, hl with | [_, _, _], _ => rfl), .nil, fun H m => rfl⟩
theorem bd38 {K : W.Frag} {f : Addr} {fd : FuncData} (F : FunD K d38.name d38.qual d38.params d38.body d38.scope (d38.dvs K) (d38.kws K) f fd) (cl : Nat → Addr) : ∀ n, n ≤ 1 → 1 - n ≤ 0 → ∃ ds dvs, Binds K fd (N38.take 1) ds ∧ Vals dvs ds ∧ ∀ H m, RpL K cl H m (D38.dv.drop (0 - (1 - n))) dvs := by
  intro n h1 h2
  obtain rfl : n = 1 := by omega
  exact ⟨[], [], FunD.bindsN (ps := N38.take 1) F (fun _ _ _ _ _ _ us hl => match us, hl with | [_], _ => rfl), .nil, fun H m => rfl⟩
end Lk

set_option Elab.async false
set_option linter.all false
set_option maxRecDepth 100000
set_option maxHeartbeats 0
namespace Lk
open PySem PySem.Spec PyProof.Rows L2 Pv PySem.W PySem.Calls
abbrev R : W.OpenRow := W.OpenLaw.row PySem.Challenge.rw_untaughthelm_k06_rows_and_tables
abbrev qv : Program := W.view R.prog [0, 51]
def ex (K : W.Frag) : Bool := okB dm cn T kl gl isl K
abbrev hk : W.Hook := hookP 5 dm ex
def ob (s : W.SharedT) : AlP := obsPG 5 dm ex (HandSHeadRun.getT s)
theorem ob_eq (s : W.SharedT) : ob s = hk.obs s.abs := obsPG_eq (HandSHeadRun.getT_eq s)
def loose0 : List PySem.Str := ["_wall", "HelmError", "BadField", "BadNumber", "ZERO", "ONE", "is_whole", "make_ratio", "_in_lowest_terms", "ratio_plus", "ratio_minus", "ratio_times", "ratio_over", "ratio_text", "zero_row", "unit_row", "unit_table", "row_plus", "row_minus", "row_times", "dot", "table_row", "row_table", "table_table", "table_plus", "turned", "_PRIMES", "Field", "_inverse_rests", "_law_bag"]
def loose1 : List PySem.Str := ["_law_draw", "_law_prime", "_law_gcd", "_law_make", "_law_plus", "_law_times", "_law_minus", "_law_dot", "_law_unit", "_law_zero", "_law_number", "_law_row", "_law_list", "_law_kinds", "_law_tables_right"]
def loose : List PySem.Str := loose0 ++ loose1
theorem run (w : World) : HandSHeadRun.RunEqI R qv hk ob 6000 loose w := by unfold HandSHeadRun.RunEqI; kernel_rfl
def psf (f : Nat) : List Str := match Ns[f]?, df[f]? with
  | some N, some d => N.take d.np
  | _, _ => []
section
variable {K : W.Frag} {fd : Nat → FuncData}
theorem ents (W : Nat) (F : ∀ (i : Nat) (d : He.DefD), dm[i]? = some d → FunD K d.name d.qual d.params d.body d.scope (d.dvs K) (d.kws K) (He.fAd K d.at_) (fd i)) : ∀ f d, (PR W).df[f]? = some d → Ent T (PR W) K (faOf dm K f) (fd f) (psf f) d := by
  intro f d h
  match f, h with
  | 0, h => obtain rfl : D0 = d := Option.some.inj h; exact ⟨_, _, _, _, _, _, _, N0, 40, 12, F 0 d0 rfl, sc0, rfl, c0 W⟩
  | 1, h => obtain rfl : D1 = d := Option.some.inj h; exact ⟨_, _, _, _, _, _, _, N1, 40, 12, F 1 d1 rfl, sc1, rfl, c1 W⟩
  | 2, h => obtain rfl : D2 = d := Option.some.inj h; exact ⟨_, _, _, _, _, _, _, N2, 40, 12, F 2 d2 rfl, sc2, rfl, c2 W⟩
  | 3, h => obtain rfl : D3 = d := Option.some.inj h; exact ⟨_, _, _, _, _, _, _, N3, 40, 12, F 3 d3 rfl, sc3, rfl, c3 W⟩
  | 4, h => obtain rfl : D4 = d := Option.some.inj h; exact ⟨_, _, _, _, _, _, _, N4, 40, 12, F 4 d4 rfl, sc4, rfl, c4 W⟩
  | 5, h => obtain rfl : D5 = d := Option.some.inj h; exact ⟨_, _, _, _, _, _, _, N5, 40, 12, F 5 d5 rfl, sc5, rfl, c5 W⟩
  | 6, h => obtain rfl : D6 = d := Option.some.inj h; exact ⟨_, _, _, _, _, _, _, N6, 40, 12, F 6 d6 rfl, sc6, rfl, c6 W⟩
  | 7, h => obtain rfl : D7 = d := Option.some.inj h; exact ⟨_, _, _, _, _, _, _, N7, 40, 12, F 7 d7 rfl, sc7, rfl, c7 W⟩
  | 8, h => obtain rfl : D8 = d := Option.some.inj h; exact ⟨_, _, _, _, _, _, _, N8, 40, 12, F 8 d8 rfl, sc8, rfl, c8 W⟩
  | 9, h => obtain rfl : D9 = d := Option.some.inj h; exact ⟨_, _, _, _, _, _, _, N9, 40, 12, F 9 d9 rfl, sc9, rfl, c9 W⟩
  | 10, h => obtain rfl : D10 = d := Option.some.inj h; exact ⟨_, _, _, _, _, _, _, N10, 40, 12, F 10 d10 rfl, sc10, rfl, c10 W⟩
  | 11, h => obtain rfl : D11 = d := Option.some.inj h; exact ⟨_, _, _, _, _, _, _, N11, 40, 12, F 11 d11 rfl, sc11, rfl, c11 W⟩
  | 12, h => obtain rfl : D12 = d := Option.some.inj h; exact ⟨_, _, _, _, _, _, _, N12, 40, 12, F 12 d12 rfl, sc12, rfl, c12 W⟩
  | 13, h => obtain rfl : D13 = d := Option.some.inj h; exact ⟨_, _, _, _, _, _, _, N13, 40, 12, F 13 d13 rfl, sc13, rfl, c13 W⟩
  | 14, h => obtain rfl : D14 = d := Option.some.inj h; exact ⟨_, _, _, _, _, _, _, N14, 40, 12, F 14 d14 rfl, sc14, rfl, c14 W⟩
  | 15, h => obtain rfl : D15 = d := Option.some.inj h; exact ⟨_, _, _, _, _, _, _, N15, 40, 12, F 15 d15 rfl, sc15, rfl, c15 W⟩
  | 16, h => obtain rfl : D16 = d := Option.some.inj h; exact ⟨_, _, _, _, _, _, _, N16, 40, 12, F 16 d16 rfl, sc16, rfl, c16 W⟩
  | 17, h => obtain rfl : D17 = d := Option.some.inj h; exact ⟨_, _, _, _, _, _, _, N17, 40, 12, F 17 d17 rfl, sc17, rfl, c17 W⟩
  | 18, h => obtain rfl : D18 = d := Option.some.inj h; exact ⟨_, _, _, _, _, _, _, N18, 40, 12, F 18 d18 rfl, sc18, rfl, c18 W⟩
  | 19, h => obtain rfl : D19 = d := Option.some.inj h; exact ⟨_, _, _, _, _, _, _, N19, 40, 12, F 19 d19 rfl, sc19, rfl, c19 W⟩
  | 20, h => obtain rfl : D20 = d := Option.some.inj h; exact ⟨_, _, _, _, _, _, _, N20, 40, 12, F 20 d20 rfl, sc20, rfl, c20 W⟩
  | 21, h => obtain rfl : D21 = d := Option.some.inj h; exact ⟨_, _, _, _, _, _, _, N21, 40, 12, F 21 d21 rfl, sc21, rfl, c21 W⟩
  | 22, h => obtain rfl : D22 = d := Option.some.inj h; exact ⟨_, _, _, _, _, _, _, N22, 40, 12, F 22 d22 rfl, sc22, rfl, c22 W⟩
  | 23, h => obtain rfl : D23 = d := Option.some.inj h; exact ⟨_, _, _, _, _, _, _, N23, 40, 12, F 23 d23 rfl, sc23, rfl, c23 W⟩
  | 24, h => obtain rfl : D24 = d := Option.some.inj h; exact ⟨_, _, _, _, _, _, _, N24, 40, 12, F 24 d24 rfl, sc24, rfl, c24 W⟩
  | 25, h => obtain rfl : D25 = d := Option.some.inj h; exact ⟨_, _, _, _, _, _, _, N25, 40, 12, F 25 d25 rfl, sc25, rfl, c25 W⟩
  | 26, h => obtain rfl : D26 = d := Option.some.inj h; exact ⟨_, _, _, _, _, _, _, N26, 40, 12, F 26 d26 rfl, sc26, rfl, c26 W⟩
  | 27, h => obtain rfl : D27 = d := Option.some.inj h; exact ⟨_, _, _, _, _, _, _, N27, 40, 12, F 27 d27 rfl, sc27, rfl, c27 W⟩
  | 28, h => obtain rfl : D28 = d := Option.some.inj h; exact ⟨_, _, _, _, _, _, _, N28, 40, 12, F 28 d28 rfl, sc28, rfl, c28 W⟩
  | 29, h => obtain rfl : D29 = d := Option.some.inj h; exact ⟨_, _, _, _, _, _, _, N29, 40, 12, F 29 d29 rfl, sc29, rfl, c29 W⟩
  | 30, h => obtain rfl : D30 = d := Option.some.inj h; exact ⟨_, _, _, _, _, _, _, N30, 40, 12, F 30 d30 rfl, sc30, rfl, c30 W⟩
  | 31, h => obtain rfl : D31 = d := Option.some.inj h; exact ⟨_, _, _, _, _, _, _, N31, 40, 12, F 31 d31 rfl, sc31, rfl, c31 W⟩
  | 32, h => obtain rfl : D32 = d := Option.some.inj h; exact ⟨_, _, _, _, _, _, _, N32, 40, 12, F 32 d32 rfl, sc32, rfl, c32 W⟩
  | 33, h => obtain rfl : D33 = d := Option.some.inj h; exact ⟨_, _, _, _, _, _, _, N33, 40, 12, F 33 d33 rfl, sc33, rfl, c33 W⟩
  | 34, h => obtain rfl : D34 = d := Option.some.inj h; exact ⟨_, _, _, _, _, _, _, N34, 40, 12, F 34 d34 rfl, sc34, rfl, c34 W⟩
  | 35, h => obtain rfl : D35 = d := Option.some.inj h; exact ⟨_, _, _, _, _, _, _, N35, 40, 12, F 35 d35 rfl, sc35, rfl, c35 W⟩
  | 36, h => obtain rfl : D36 = d := Option.some.inj h; exact ⟨_, _, _, _, _, _, _, N36, 40, 12, F 36 d36 rfl, sc36, rfl, c36 W⟩
  | 37, h => obtain rfl : D37 = d := Option.some.inj h; exact ⟨_, _, _, _, _, _, _, N37, 40, 12, F 37 d37 rfl, sc37, rfl, c37 W⟩
  | 38, h => obtain rfl : D38 = d := Option.some.inj h; exact ⟨_, _, _, _, _, _, _, N38, 40, 12, F 38 d38 rfl, sc38, rfl, c38 W⟩
  | f + 39, h => cases h
theorem pls (W : Nat) : ∀ f d, (PR W).df[f]? = some d → (psf f).length = d.np := by
  intro f d h
  match f, h with
  | 0, h => obtain rfl : D0 = d := Option.some.inj h; rfl
  | 1, h => obtain rfl : D1 = d := Option.some.inj h; rfl
  | 2, h => obtain rfl : D2 = d := Option.some.inj h; rfl
  | 3, h => obtain rfl : D3 = d := Option.some.inj h; rfl
  | 4, h => obtain rfl : D4 = d := Option.some.inj h; rfl
  | 5, h => obtain rfl : D5 = d := Option.some.inj h; rfl
  | 6, h => obtain rfl : D6 = d := Option.some.inj h; rfl
  | 7, h => obtain rfl : D7 = d := Option.some.inj h; rfl
  | 8, h => obtain rfl : D8 = d := Option.some.inj h; rfl
  | 9, h => obtain rfl : D9 = d := Option.some.inj h; rfl
  | 10, h => obtain rfl : D10 = d := Option.some.inj h; rfl
  | 11, h => obtain rfl : D11 = d := Option.some.inj h; rfl
  | 12, h => obtain rfl : D12 = d := Option.some.inj h; rfl
  | 13, h => obtain rfl : D13 = d := Option.some.inj h; rfl
  | 14, h => obtain rfl : D14 = d := Option.some.inj h; rfl
  | 15, h => obtain rfl : D15 = d := Option.some.inj h; rfl
  | 16, h => obtain rfl : D16 = d := Option.some.inj h; rfl
  | 17, h => obtain rfl : D17 = d := Option.some.inj h; rfl
  | 18, h => obtain rfl : D18 = d := Option.some.inj h; rfl
  | 19, h => obtain rfl : D19 = d := Option.some.inj h; rfl
  | 20, h => obtain rfl : D20 = d := Option.some.inj h; rfl
  | 21, h => obtain rfl : D21 = d := Option.some.inj h; rfl
  | 22, h => obtain rfl : D22 = d := Option.some.inj h; rfl
  | 23, h => obtain rfl : D23 = d := Option.some.inj h; rfl
  | 24, h => obtain rfl : D24 = d := Option.some.inj h; rfl
  | 25, h => obtain rfl : D25 = d := Option.some.inj h; rfl
  | 26, h => obtain rfl : D26 = d := Option.some.inj h; rfl
  | 27, h => obtain rfl : D27 = d := Option.some.inj h; rfl
  | 28, h => obtain rfl : D28 = d := Option.some.inj h; rfl
  | 29, h => obtain rfl : D29 = d := Option.some.inj h; rfl
  | 30, h => obtain rfl : D30 = d := Option.some.inj h; rfl
  | 31, h => obtain rfl : D31 = d := Option.some.inj h; rfl
  | 32, h => obtain rfl : D32 = d := Option.some.inj h; rfl
  | 33, h => obtain rfl : D33 = d := Option.some.inj h; rfl
  | 34, h => obtain rfl : D34 = d := Option.some.inj h; rfl
  | 35, h => obtain rfl : D35 = d := Option.some.inj h; rfl
  | 36, h => obtain rfl : D36 = d := Option.some.inj h; rfl
  | 37, h => obtain rfl : D37 = d := Option.some.inj h; rfl
  | 38, h => obtain rfl : D38 = d := Option.some.inj h; rfl
  | f + 39, h => cases h
theorem bds (W : Nat) (F : ∀ (i : Nat) (d : He.DefD), dm[i]? = some d → FunD K d.name d.qual d.params d.body d.scope (d.dvs K) (d.kws K) (He.fAd K d.at_) (fd i)) : ∀ f d n, (PR W).df[f]? = some d → n ≤ d.np → d.np - n ≤ d.dv.length → ∃ ds dvs, Binds K (fd f) (psf f) ds ∧ Vals dvs ds ∧ ∀ H m, RpL K (clOf cn K) H m (d.dv.drop (d.dv.length - (d.np - n))) dvs := by
  intro f d n h
  match f, h with
  | 0, h => obtain rfl : D0 = d := Option.some.inj h; exact bd0 (F 0 d0 rfl) (clOf cn K) n
  | 1, h => obtain rfl : D1 = d := Option.some.inj h; exact bd1 (F 1 d1 rfl) (clOf cn K) n
  | 2, h => obtain rfl : D2 = d := Option.some.inj h; exact bd2 (F 2 d2 rfl) (clOf cn K) n
  | 3, h => obtain rfl : D3 = d := Option.some.inj h; exact bd3 (F 3 d3 rfl) (clOf cn K) n
  | 4, h => obtain rfl : D4 = d := Option.some.inj h; exact bd4 (F 4 d4 rfl) (clOf cn K) n
  | 5, h => obtain rfl : D5 = d := Option.some.inj h; exact bd5 (F 5 d5 rfl) (clOf cn K) n
  | 6, h => obtain rfl : D6 = d := Option.some.inj h; exact bd6 (F 6 d6 rfl) (clOf cn K) n
  | 7, h => obtain rfl : D7 = d := Option.some.inj h; exact bd7 (F 7 d7 rfl) (clOf cn K) n
  | 8, h => obtain rfl : D8 = d := Option.some.inj h; exact bd8 (F 8 d8 rfl) (clOf cn K) n
  | 9, h => obtain rfl : D9 = d := Option.some.inj h; exact bd9 (F 9 d9 rfl) (clOf cn K) n
  | 10, h => obtain rfl : D10 = d := Option.some.inj h; exact bd10 (F 10 d10 rfl) (clOf cn K) n
  | 11, h => obtain rfl : D11 = d := Option.some.inj h; exact bd11 (F 11 d11 rfl) (clOf cn K) n
  | 12, h => obtain rfl : D12 = d := Option.some.inj h; exact bd12 (F 12 d12 rfl) (clOf cn K) n
  | 13, h => obtain rfl : D13 = d := Option.some.inj h; exact bd13 (F 13 d13 rfl) (clOf cn K) n
  | 14, h => obtain rfl : D14 = d := Option.some.inj h; exact bd14 (F 14 d14 rfl) (clOf cn K) n
  | 15, h => obtain rfl : D15 = d := Option.some.inj h; exact bd15 (F 15 d15 rfl) (clOf cn K) n
  | 16, h => obtain rfl : D16 = d := Option.some.inj h; exact bd16 (F 16 d16 rfl) (clOf cn K) n
  | 17, h => obtain rfl : D17 = d := Option.some.inj h; exact bd17 (F 17 d17 rfl) (clOf cn K) n
  | 18, h => obtain rfl : D18 = d := Option.some.inj h; exact bd18 (F 18 d18 rfl) (clOf cn K) n
  | 19, h => obtain rfl : D19 = d := Option.some.inj h; exact bd19 (F 19 d19 rfl) (clOf cn K) n
  | 20, h => obtain rfl : D20 = d := Option.some.inj h; exact bd20 (F 20 d20 rfl) (clOf cn K) n
  | 21, h => obtain rfl : D21 = d := Option.some.inj h; exact bd21 (F 21 d21 rfl) (clOf cn K) n
  | 22, h => obtain rfl : D22 = d := Option.some.inj h; exact bd22 (F 22 d22 rfl) (clOf cn K) n
  | 23, h => obtain rfl : D23 = d := Option.some.inj h; exact bd23 (F 23 d23 rfl) (clOf cn K) n
  | 24, h => obtain rfl : D24 = d := Option.some.inj h; exact bd24 (F 24 d24 rfl) (clOf cn K) n
  | 25, h => obtain rfl : D25 = d := Option.some.inj h; exact bd25 (F 25 d25 rfl) (clOf cn K) n
  | 26, h => obtain rfl : D26 = d := Option.some.inj h; exact bd26 (F 26 d26 rfl) (clOf cn K) n
  | 27, h => obtain rfl : D27 = d := Option.some.inj h; exact bd27 (F 27 d27 rfl) (clOf cn K) n
  | 28, h => obtain rfl : D28 = d := Option.some.inj h; exact bd28 (F 28 d28 rfl) (clOf cn K) n
  | 29, h => obtain rfl : D29 = d := Option.some.inj h; exact bd29 (F 29 d29 rfl) (clOf cn K) n
  | 30, h => obtain rfl : D30 = d := Option.some.inj h; exact bd30 (F 30 d30 rfl) (clOf cn K) n
  | 31, h => obtain rfl : D31 = d := Option.some.inj h; exact bd31 (F 31 d31 rfl) (clOf cn K) n
  | 32, h => obtain rfl : D32 = d := Option.some.inj h; exact bd32 (F 32 d32 rfl) (clOf cn K) n
  | 33, h => obtain rfl : D33 = d := Option.some.inj h; exact bd33 (F 33 d33 rfl) (clOf cn K) n
  | 34, h => obtain rfl : D34 = d := Option.some.inj h; exact bd34 (F 34 d34 rfl) (clOf cn K) n
  | 35, h => obtain rfl : D35 = d := Option.some.inj h; exact bd35 (F 35 d35 rfl) (clOf cn K) n
  | 36, h => obtain rfl : D36 = d := Option.some.inj h; exact bd36 (F 36 d36 rfl) (clOf cn K) n
  | 37, h => obtain rfl : D37 = d := Option.some.inj h; exact bd37 (F 37 d37 rfl) (clOf cn K) n
  | 38, h => obtain rfl : D38 = d := Option.some.inj h; exact bd38 (F 38 d38 rfl) (clOf cn K) n
  | f + 39, h => cases h
end
theorem facts {P : Program} {w : World} {K : W.Frag} {h : Heap} {mg : Str → Option Value} {f : Addr} (X : K.In h) (G : h.Ns mainGlobals mg) (hfa : mg ("law" : Str) = some (.ref f)) (c : obsP dm ex K = valP dm) :
    ∃ fd : FuncData, (∀ (s : Shared) (v : Value), BindsTo s fd ⟨[v], []⟩ [("script", v)]) ∧ ∀ base : Heap, K.In base → base.Ns mainGlobals mg → FnG P w K mg base CX0 200 f fd ["script"] (spLaw PR 38 200 (clOf cn K) K) := by
  obtain ⟨c1, c2⟩ := says_p c
  have key : ∀ i : Nat, ∃ fd : FuncData, ∀ d : He.DefD, dm[i]? = some d → FunD K d.name d.qual d.params d.body d.scope (d.dvs K) (d.kws K) (He.fAd K d.at_) fd := fun i => by
    cases e : dm[i]? with
    | none => exact ⟨default, fun d z => by cases z⟩
    | some d =>
      obtain ⟨fd, F⟩ := c1.def_ i e
      exact ⟨fd, fun d' z => by cases z; exact F⟩
  obtain ⟨fd, hfd⟩ := Classical.axiomOfChoice key
  have wf : ∀ W, Wf T (PR W) (clOf cn K) (faOf dm K) fd psf K mg := fun W => wf_of X G c2 (fun i d e => (hfd i d e).kp) (pls W) (bds W hfd)
  have e := hfa.symm.trans ((wf 0).fn "law" 38 rfl).1
  cases e
  exact ⟨fd 38, fun s v => FunD.bindsA (ps := ["script"]) (hfd 38 d38 rfl) (fun _ _ _ _ _ _ us hl => match us, hl with | [_], _ => rfl) s [v] rfl, fun base _ _ => spLaw_ok (D := fun _ => D38) (fun _ => rfl) fun W => fn_ok (wf W) (ents W hfd) 200 38 D38 rfl⟩
theorem holds_of (hl : ∀ ns : List Int, ns.length ≤ 63 → (∀ z ∈ ns, Builtin.Int.intBits z ≤ 1048576) → LawSays PR 38 200 ns) : PySem.Challenge.rw_untaughthelm_k06_rows_and_tables.Holds := by
  w_on; o_law
  refine HandSHeadRun.head_imp (r := R) (q := qv) (H := hk) (ob := ob) (M := 6000) (loose := loose) (d := HandSHeadRun.topDef R.prog 51) (kwd := []) ob_eq run (by kernel_rfl) (by kernel_rfl) (by kernel_rfl) (by rfl) (by first | assumption | decide +kernel) (by decide +kernel) ⟨rfl, rfl, rfl, rfl, rfl, by decide +kernel⟩ ?hw ?hc
  case hw => w_witness2
  case hc =>
    refine walk_P (l := PySem.Challenge.rw_untaughthelm_k06_rows_and_tables) (n := 63) (k := 200) (x := "script") (CX := L2.CX0) rfl (by decide) (by kernel_rfl) ⟨rfl, by decide, by decide⟩ ?F (fun _ _ _ _ z => z)
    intro w mg fa h Y G hmg0
    obtain ⟨K, KX, c⟩ := Y
    have hmg : mg ("law" : PySem.Str) = some (.ref fa) := by
      have e : (HandSHeadRun.topDef R.prog 51).name = ("law" : PySem.Str) := by kernel_rfl
      rw [← e]
      exact hmg0
    obtain ⟨fd, hb, hF⟩ := facts (P := PySem.Challenge.rw_untaughthelm_k06_rows_and_tables.prog) (w := w) KX G hmg c
    exact ⟨K, fd, _, KX, hb, fun H a ns hlen hbits _ hS => spLaw_in (hl ns hlen hbits) hS, hF⟩
end Lk

set_option Elab.async false
set_option linter.all false
set_option maxRecDepth 100000
set_option maxHeartbeats 1000000
namespace Lk
open PySem PySem.Spec PyProof.Rows L2 Pv
/-!  sizes -/
def Sm (e : Nat) (i : Int) : Prop := i.natAbs < 2 ^ e
theorem Sm.mono {a b : Nat} {i : Int} (h : Sm a i) (l : a ≤ b) : Sm b i := Nat.lt_of_lt_of_le h (Nat.pow_le_pow_right (by decide) l)
theorem Sm.mul {a b : Nat} {i j : Int} (h : Sm a i) (g : Sm b j) : Sm (a + b) (i * j) := by
  unfold Sm at *
  rw [Int.natAbs_mul, Nat.pow_add]
  exact Nat.mul_lt_mul'' h g
theorem Sm.add {a : Nat} {i j : Int} (h : Sm a i) (g : Sm a j) : Sm (a + 1) (i + j) := by
  unfold Sm at *
  have := Int.natAbs_add_le i j
  rw [Nat.pow_succ]
  omega
theorem Sm.neg {a : Nat} {i : Int} (h : Sm a i) : Sm a (-i) := by
  unfold Sm at *
  rw [Int.natAbs_neg]
  exact h
theorem Sm.sub {a : Nat} {i j : Int} (h : Sm a i) (g : Sm a j) : Sm (a + 1) (i - j) := by
  rw [Int.sub_eq_add_neg]
  exact h.add g.neg
theorem sm1 : Sm 1 1 := by unfold Sm; decide
theorem smm1 : Sm 1 (-1) := by unfold Sm; decide
theorem log2_lt {n e : Nat} (he : 0 < e) (h : n < 2 ^ e) : n.log2 < e := by
  by_cases h0 : n = 0
  · subst h0
    rw [Nat.log2_zero]
    exact he
  · exact (Nat.log2_lt h0).mpr h
theorem log2_le {n e : Nat} (h : n < 2 ^ e) : n.log2 ≤ e := Nat.le_of_lt_succ (log2_lt (Nat.succ_pos e) (Nat.lt_of_lt_of_le h (Nat.pow_le_pow_right (by decide) (Nat.le_succ e))))
theorem Sm.mulok {a b : Nat} {i j : Int} (h : Sm a i) (g : Sm b j) (l : a + b < 100000000) : Pv.MulOk i j := by
  unfold Pv.MulOk
  have := log2_le h
  have := log2_le g
  omega
theorem Sm.divok {a : Nat} {i j : Int} (h : Sm a j) (h0 : j ≠ 0) (l : a < 9000) : Pv.DivOk i j := ⟨h0, Nat.lt_of_le_of_lt (log2_le h) l⟩
/-!  ratios -/
def num (x : Int × Int) : PV := .tup [.int x.1, .int x.2]
def gc (a b : Int) : Int := ((Nat.gcd a.natAbs b.natAbs : Nat) : Int)
def rdc (a b : Int) : Int × Int := if b < 0 then (-a / gc a b, -b / gc a b) else (a / gc a b, b / gc a b)
theorem gc_pos {a b : Int} (h : b ≠ 0) : 0 < gc a b := by
  unfold gc
  have : 0 < Nat.gcd a.natAbs b.natAbs := Nat.gcd_pos_of_pos_right _ (by omega)
  omega
theorem gc_le {a b : Int} (h : b ≠ 0) : (gc a b).natAbs ≤ b.natAbs := by
  unfold gc
  rw [Int.natAbs_natCast]
  exact Nat.gcd_le_right _ (by omega)
theorem gc_dvd_l (a b : Int) : gc a b ∣ a := Int.ofNat_dvd_left.mpr (Nat.gcd_dvd_left _ _)
theorem gc_dvd_r (a b : Int) : gc a b ∣ b := Int.ofNat_dvd_left.mpr (Nat.gcd_dvd_right _ _)
theorem fdiv_neg_r (a g : Int) (hg : 0 < g) : a.fdiv (-g) = (-a) / g := by
  have : a.fdiv (-g) = (-a).fdiv g := by
    have := Int.neg_fdiv_neg (-a) g
    rw [Int.neg_neg] at this
    exact this
  rw [this, Int.fdiv_eq_ediv_of_nonneg _ (Int.le_of_lt hg)]
/-- a number in lowest terms -/
def Low (x : Int × Int) : Prop := 1 ≤ x.2 ∧ gc x.1 x.2 = 1
theorem natAbs_div_le {a g : Int} (hg : 0 < g) : (a / g).natAbs ≤ a.natAbs := by
  exact Int.natAbs_ediv_le_natAbs a g
theorem gc_neg_l (a b : Int) : gc (-a) b = gc a b := by unfold gc; rw [Int.natAbs_neg]
theorem gc_neg_r (a b : Int) : gc a (-b) = gc a b := by unfold gc; rw [Int.natAbs_neg]
theorem gc_div {a b g : Int} (hg : 0 < g) (ha : g ∣ a) (hb : g ∣ b) : gc (a / g) (b / g) = gc a b / g := by
  unfold gc
  obtain ⟨c, rfl⟩ := ha
  obtain ⟨d, rfl⟩ := hb
  rw [Int.mul_ediv_cancel_left _ (by omega), Int.mul_ediv_cancel_left _ (by omega), Int.natAbs_mul, Int.natAbs_mul, Nat.gcd_mul_left]
  have e : (g.natAbs : Int) = g := by omega
  rw [Int.natCast_mul, e, Int.mul_ediv_cancel_left _ (by omega)]
theorem rdc_low {a b : Int} (h : b ≠ 0) : Low (rdc a b) := by
  have hg := gc_pos (a := a) h
  have h1 := gc_dvd_l a b
  have h2 := gc_dvd_r a b
  have le1 : ∀ {c : Int}, 0 < c → gc a b ∣ c → 1 ≤ c / gc a b := fun {c} hc hd => by
    have := Int.le_of_dvd hc hd
    exact (Int.le_ediv_iff_mul_le hg).mpr (by omega)
  unfold rdc Low
  split
  · rename_i hb
    refine ⟨le1 (by omega) (Int.dvd_neg.mpr h2), ?_⟩
    dsimp only
    rw [gc_div hg (Int.dvd_neg.mpr h1) (Int.dvd_neg.mpr h2), gc_neg_l, gc_neg_r, Int.ediv_self (by omega)]
  · rename_i hb
    refine ⟨le1 (by omega) h2, ?_⟩
    dsimp only
    rw [gc_div hg h1 h2, Int.ediv_self (by omega)]
theorem rdc_sm {a b : Int} {e : Nat} (h : b ≠ 0) (ha : Sm e a) (hb : Sm e b) : Sm e (rdc a b).1 ∧ Sm e (rdc a b).2 := by
  have hg := gc_pos (a := a) h
  unfold rdc
  split
  · exact ⟨Nat.lt_of_le_of_lt (natAbs_div_le hg) ha.neg, Nat.lt_of_le_of_lt (natAbs_div_le hg) hb.neg⟩
  · exact ⟨Nat.lt_of_le_of_lt (natAbs_div_le hg) ha, Nat.lt_of_le_of_lt (natAbs_div_le hg) hb⟩
theorem rdc_self {a b : Int} (h : Low (a, b)) : rdc a b = (a, b) := by
  obtain ⟨h1, h2⟩ := h
  dsimp only at h1 h2
  unfold rdc
  rw [if_neg (by omega), h2, Int.ediv_one, Int.ediv_one]
theorem rdc_neg (a b : Int) : rdc (-a) b = (-(rdc a b).1, (rdc a b).2) := by
  unfold rdc
  rw [gc_neg_l]
  have e : ∀ c : Int, gc a b ∣ c → -c / gc a b = -(c / gc a b) := fun c hc => Int.neg_ediv_of_dvd hc
  split
  · dsimp only
    rw [e (-a) (Int.dvd_neg.mpr (gc_dvd_l a b))]
  · dsimp only
    rw [e a (gc_dvd_l a b)]

@[simp] theorem kit_ii : L2.kitB "int" "int" = some true := by decide +kernel
@[simp] theorem kit_ib : L2.kitB "int" "bool" = some false := by decide +kernel
@[simp] theorem kit_tt : L2.kitB "tuple" "tuple" = some true := by decide +kernel
@[simp] theorem ln1 : (1 : Nat) ≤ sizeLine := by decide
@[simp] theorem ln2 : (2 : Nat) ≤ sizeLine := by decide
@[simp] theorem ln3 : (3 : Nat) ≤ sizeLine := by decide
@[simp] theorem atI0 {α : Type} (x : α) (xs : List α) : atI (x :: xs) 0 = some x := atI_nat (j := 0) rfl
@[simp] theorem atI1 {α : Type} (x y : α) (xs : List α) : atI (x :: y :: xs) 1 = some y := atI_nat (j := 1) rfl
theorem bi_gcd' (l : List (Cs × Cs × Bool)) (n : Nat) (i j : Int) (st : Store) : biF l n .gcd [.int i, .int j] st = .ok (.int (gc i j)) st := rfl
section
variable {W k : Nat} {st : Store}
theorem df0 : (PR W).df[0]? = some D0 := rfl
theorem df1 : (PR W).df[1]? = some D1 := rfl
theorem df2 : (PR W).df[2]? = some D2 := rfl
theorem df3 : (PR W).df[3]? = some D3 := rfl
theorem df4 : (PR W).df[4]? = some D4 := rfl
theorem c_whole (i : Int) : (ev (PR W) (k + 12)).call 0 [.int i, .non, .non] st = .ok (.bl true) st := by
  simp [C_call, stepC, df0, D0, b0]
theorem c_whole1 (i lo : Int) : (ev (PR W) (k + 12)).call 0 [.int i, .int lo, .non] st = .ok (.bl (decide (lo ≤ i))) st := by
  by_cases h : lo ≤ i <;> simp [C_call, stepC, df0, D0, b0, h]
theorem c_whole2 (i lo hi : Int) : (ev (PR W) (k + 12)).call 0 [.int i, .int lo, .int hi] st = .ok (.bl (decide (lo ≤ i) && decide (i ≤ hi))) st := by
  by_cases h : lo ≤ i <;> simp [C_call, stepC, df0, D0, b0, h]
theorem c_low {a b : Int} (h : b ≠ 0) (hb : Sm 8000 b) : (ev (PR W) (k + 12)).call 1 [.int a, .int b] st = .ok (num (rdc a b)) st := by
  have hg := gc_pos (a := a) h
  have sg : Sm 8000 (gc a b) := Nat.lt_of_le_of_lt (gc_le h) hb
  have g0 : gc a b ≠ 0 := by omega
  by_cases hn : b < 0
  · have f1 : ∀ (i : Int) (st : Store), bin2 .fdiv (.int i) (.int (-(gc a b))) st = .ok (.int (-i / gc a b)) st := fun i st => by
      rw [bin_fdiv (Sm.divok sg.neg (by omega) (by decide)), fdiv_neg_r _ _ hg]
    simp [-bi_gcd, bi_gcd', C_call, stepC, df1, D1, b1, hn, asg, f1, num, rdc]
  · have f1 : ∀ (i : Int) (st : Store), bin2 .fdiv (.int i) (.int (gc a b)) st = .ok (.int (i / gc a b)) st := fun i st => by
      rw [bin_fdiv (Sm.divok sg g0 (by decide)), Int.fdiv_eq_ediv_of_nonneg _ (Int.le_of_lt hg)]
    simp [-bi_gcd, bi_gcd', C_call, stepC, df1, D1, b1, hn, asg, f1, num, rdc]
end

section
variable {W k : Nat} {st : Store}
@[simp] theorem pad0_1 (x : PV) : pad D0 [x] = [x, .non, .non] := rfl
@[simp] theorem pad0_2 (x y : PV) : pad D0 [x, y] = [x, y, .non] := rfl
@[simp] theorem pad0_3 (x y z : PV) : pad D0 [x, y, z] = [x, y, z] := rfl
@[simp] theorem pad1 (x y : PV) : pad D1 [x, y] = [x, y] := rfl
@[simp] theorem pad2 (x y : PV) : pad D2 [x, y] = [x, y] := rfl
@[simp] theorem pad3 (x y : PV) : pad D3 [x, y] = [x, y] := rfl
@[simp] theorem pad4 (x y : PV) : pad D4 [x, y] = [x, y] := rfl
/-- the sums' sizes -/
theorem c_plus {a b c d : Int} (ha : Sm 1000 a) (hb : Sm 1000 b) (hc : Sm 1000 c) (hd : Sm 1000 d) (h1 : b ≠ 0) (h2 : d ≠ 0) : (ev (PR W) (k + 20)).call 2 [num (a, b), num (c, d)] st = .ok (num (rdc (a * d + c * b) (b * d))) st := by
  have m1 := bin_mul (st := st) (ha.mulok hd (by decide))
  have m2 := bin_mul (st := st) (hc.mulok hb (by decide))
  have m3 := bin_mul (st := st) (hb.mulok hd (by decide))
  have q := fun k a => c_low (W := W) (k := k) (st := st) (a := a) (Int.mul_ne_zero h1 h2) ((hb.mul hd).mono (by decide))
  rw [C_call]
  simp [stepC, df2, df1, D2, b2, num, m1, m2, m3, q]
theorem c_minus {a b c d : Int} (ha : Sm 1000 a) (hb : Sm 1000 b) (hc : Sm 1000 c) (hd : Sm 1000 d) (h1 : b ≠ 0) (h2 : d ≠ 0) : (ev (PR W) (k + 20)).call 3 [num (a, b), num (c, d)] st = .ok (num (rdc (a * d - c * b) (b * d))) st := by
  have m1 := bin_mul (st := st) (ha.mulok hd (by decide))
  have m2 := bin_mul (st := st) (hc.mulok hb (by decide))
  have m3 := bin_mul (st := st) (hb.mulok hd (by decide))
  have q := fun k a => c_low (W := W) (k := k) (st := st) (a := a) (Int.mul_ne_zero h1 h2) ((hb.mul hd).mono (by decide))
  rw [C_call]
  simp [stepC, df3, df1, D3, b3, num, m1, m2, m3, q]
theorem c_times {a b c d : Int} (ha : Sm 1000 a) (hb : Sm 1000 b) (hc : Sm 1000 c) (hd : Sm 1000 d) (h1 : b ≠ 0) (h2 : d ≠ 0) : (ev (PR W) (k + 20)).call 4 [num (a, b), num (c, d)] st = .ok (num (rdc (a * c) (b * d))) st := by
  have m1 := bin_mul (st := st) (ha.mulok hc (by decide))
  have m3 := bin_mul (st := st) (hb.mulok hd (by decide))
  have q := fun k a => c_low (W := W) (k := k) (st := st) (a := a) (Int.mul_ne_zero h1 h2) ((hb.mul hd).mono (by decide))
  rw [C_call]
  simp [stepC, df4, df1, D4, b4, num, m1, m3, q]
def cmpr (x y : Int × Int) : Int := if x.1 * y.2 = y.1 * x.2 then 0 else if x.1 * y.2 < y.1 * x.2 then -1 else 1
end

section
variable {W k : Nat} {st : Store}
theorem df25 : (PR W).df[25]? = some D25 := rfl
theorem df26 : (PR W).df[26]? = some D26 := rfl
theorem df27 : (PR W).df[27]? = some D27 := rfl
theorem df28 : (PR W).df[28]? = some D28 := rfl
theorem df29 : (PR W).df[29]? = some D29 := rfl
@[simp] theorem pad25 (x y : PV) : pad D25 [x, y] = [x, y] := rfl
@[simp] theorem pad26 (x y z : PV) : pad D26 [x, y, z] = [x, y, z] := rfl
@[simp] theorem pad27 (x y z : PV) : pad D27 [x, y, z] = [x, y, z] := rfl
@[simp] theorem pad28 (x y z : PV) : pad D28 [x, y, z] = [x, y, z] := rfl
@[simp] theorem pad29 (x y z : PV) : pad D29 [x, y, z] = [x, y, z] := rfl
theorem fmod_pos {a b : Int} (hb : 0 < b) : a.fmod b = a % b := Int.fmod_eq_emod_of_nonneg a (Int.le_of_lt hb)
theorem gc_rec {a b : Int} (ha : 0 ≤ a) (hb : 0 < b) : gc a b = gc b (a % b) := by
  unfold gc
  obtain ⟨x, rfl⟩ := Int.eq_ofNat_of_zero_le ha
  obtain ⟨y, rfl⟩ := Int.eq_ofNat_of_zero_le (Int.le_of_lt hb)
  rw [← Int.natCast_emod]
  simp only [Int.natAbs_natCast]
  rw [Nat.gcd_comm x y, Nat.gcd_rec y x, Nat.gcd_comm]
theorem lgcd_loop : ∀ (n : Nat) (a b : Int), 0 ≤ a → 0 ≤ b → b.natAbs < n →
    whileN (ev (PR W) (k + 6)) (.cmp .ne (.v 1) (.c (.int 0))) [.par 0 1 (.v 1) (.bin .mod (.bi .int [(.v 0)]) (.v 1))] n [some (.int a), some (.int b)] st = .ok (.nx, [some (.int (gc a b)), some (.int 0)]) st
  | 0, a, b, ha, hb, hn => by omega
  | n + 1, a, b, ha, hb, hn => by
    unfold whileN
    by_cases h : b = 0
    · subst h
      have : gc a 0 = a := by unfold gc; simp; omega
      simp [this]
    · have hb' : 0 < b := by omega
      have m := bin_mod (i := a) (st := st) h
      rw [fmod_pos hb'] at m
      have l1 := Int.emod_nonneg a h
      have l2 := Int.emod_lt_of_pos a hb'
      have ih := lgcd_loop n b (a % b) hb l1 (by omega)
      simp [h, m, ih, gc_rec ha hb']
theorem c_lgcd {a b : Int} (ha : 0 ≤ a) (hb : 0 ≤ b) (hW : b.natAbs < W) : (ev (PR W) (k + 10)).call 25 [.int a, .int b] st = .ok (.int (gc a b)) st := by
  rw [C_call]
  have := lgcd_loop (W := W) (k := k + 2) (st := st) W a b ha hb hW
  simp [stepC, df25, D25, b25, S_whl]
  rw [show (PR W).wf = W from rfl, this]
  simp
theorem gc_abs {a b : Int} : gc (ab a) b = gc a b := by
  unfold ab
  split
  · exact gc_neg_l a b
  · rfl
theorem c_lmake0 {a b : Int} (h : b ≠ 0) (hb : Sm 8000 b) (hW : 2 ^ 8000 ≤ W) : (ev (PR W) (k + 20)).call 26 [.int 0, .int a, .int b] st = .ok (num (rdc a b)) st := by
  have hg := gc_pos (a := a) h
  have sg : Sm 8000 (gc a b) := Nat.lt_of_le_of_lt (gc_le h) hb
  have g0 : gc a b ≠ 0 := by omega
  have f1 : ∀ (i : Int) (st : Store), bin2 .fdiv (.int i) (.int (gc a b)) st = .ok (.int (i / gc a b)) st := fun i st => by
    rw [bin_fdiv (Sm.divok sg g0 (by decide)), Int.fdiv_eq_ediv_of_nonneg _ (Int.le_of_lt hg)]
  have hbw : b.natAbs < W := Nat.lt_of_lt_of_le hb hW
  rw [C_call]
  by_cases hn : b < 0
  · have q := fun k => c_lgcd (W := W) (k := k) (st := st) (a := ab (0 - a)) (b := 0 - b) (ab_nonneg _) (by omega) (by omega)
    simp only [gc_abs, Int.zero_sub, gc_neg_l, gc_neg_r] at q
    simp [stepC, df26, df25, D26, b26, hn, asg, f1, num, rdc, q]
  · have q := fun k => c_lgcd (W := W) (k := k) (st := st) (a := ab a) (b := b) (ab_nonneg _) (by omega) hbw
    simp only [gc_abs] at q
    simp [stepC, df26, df25, D26, b26, hn, asg, f1, num, rdc, q]
theorem c_lplus0 {a b c d : Int} (ha : Sm 1000 a) (hb : Sm 1000 b) (hc : Sm 1000 c) (hd : Sm 1000 d) (h1 : b ≠ 0) (h2 : d ≠ 0) (hW : 2 ^ 8000 ≤ W) : (ev (PR W) (k + 30)).call 27 [.int 0, num (a, b), num (c, d)] st = .ok (num (rdc (a * d + c * b) (b * d))) st := by
  have m1 := bin_mul (st := st) (ha.mulok hd (by decide))
  have m2 := bin_mul (st := st) (hc.mulok hb (by decide))
  have m3 := bin_mul (st := st) (hb.mulok hd (by decide))
  have q := fun k a => c_lmake0 (W := W) (k := k) (st := st) (a := a) (Int.mul_ne_zero h1 h2) ((hb.mul hd).mono (by decide)) hW
  rw [C_call]
  simp [stepC, df27, df26, D27, b27, num, m1, m2, m3, q]
theorem c_ltimes0 {a b c d : Int} (ha : Sm 1000 a) (hb : Sm 1000 b) (hc : Sm 1000 c) (hd : Sm 1000 d) (h1 : b ≠ 0) (h2 : d ≠ 0) (hW : 2 ^ 8000 ≤ W) : (ev (PR W) (k + 30)).call 28 [.int 0, num (a, b), num (c, d)] st = .ok (num (rdc (a * c) (b * d))) st := by
  have m1 := bin_mul (st := st) (ha.mulok hc (by decide))
  have m3 := bin_mul (st := st) (hb.mulok hd (by decide))
  have q := fun k a => c_lmake0 (W := W) (k := k) (st := st) (a := a) (Int.mul_ne_zero h1 h2) ((hb.mul hd).mono (by decide)) hW
  rw [C_call]
  simp [stepC, df28, df26, D28, b28, num, m1, m3, q]
theorem low_m1 : rdc (-1) 1 = (-1, 1) := by decide +kernel
theorem rdc_m1 {c d : Int} (h : Low (c, d)) : rdc (-c) d = (-c, d) := by
  rw [rdc_neg, rdc_self h]
theorem c_lminus0 {a b c d : Int} (ha : Sm 900 a) (hb : Sm 900 b) (hc : Sm 900 c) (hd : Sm 900 d) (h1 : b ≠ 0) (l : Low (c, d)) (hW : 2 ^ 8000 ≤ W) : (ev (PR W) (k + 40)).call 29 [.int 0, num (a, b), num (c, d)] st = .ok (num (rdc (a * d - c * b) (b * d))) st := by
  have h2 : d ≠ 0 := by have := l.1; dsimp only at this; omega
  have q1 := fun k => c_lmake0 (W := W) (k := k) (st := st) (a := -1) (b := 1) (by decide) (sm1.mono (by decide)) hW
  have q2 := fun k => c_ltimes0 (W := W) (k := k) (st := st) (a := -1) (b := 1) (c := c) (d := d) (smm1.mono (by decide)) (sm1.mono (by decide)) (hc.mono (by decide)) (hd.mono (by decide)) (by decide) h2 hW
  have q3 := fun k => c_lplus0 (W := W) (k := k) (st := st) (a := a) (b := b) (c := -c) (d := d) (ha.mono (by decide)) (hb.mono (by decide)) (hc.neg.mono (by decide)) (hd.mono (by decide)) h1 h2 hW
  rw [low_m1] at q1
  rw [Int.one_mul, show (-1 : Int) * c = -c by omega, rdc_m1 l] at q2
  rw [Int.neg_mul, ← Int.sub_eq_add_neg] at q3
  rw [C_call]
  simp [stepC, df29, df27, df28, df26, D29, b29, q1, q2, q3]
def lord (x y : Int × Int) : Int := if x.1 * y.2 = y.1 * x.2 then 0 else if y.1 * x.2 < x.1 * y.2 then 1 else -1
end

section
variable {W k : Nat} {st : Store}
end

/-!  a Field -/
def flds (v i : PV) : List (Str × PV) := [("prime", v), ("_inverses", i)]
def fld (v i : PV) : PV := .ins 0 (flds v i)
def K0 : Kl := ⟨some 17, [("plus", 18), ("minus", 19), ("times", 20)], ["prime", "_inverses"]⟩
section
variable {W k : Nat} {st : Store} {v i : PV}
@[simp] theorem klK0 : (PR W).kl[0]? = some K0 := rfl
@[simp] theorem insOf_fld : insOf st (fld v i) = some (0, flds v i) := rfl
@[simp] theorem mem_prime : (("prime" : Str) ∈ K0.ats) = True := eq_true (by decide +kernel)
@[simp] theorem mem_inv : (("_inverses" : Str) ∈ K0.ats) = True := eq_true (by decide +kernel)
@[simp] theorem look_prime : (flds v i).lookup ("prime" : Str) = some v := by kernel_rfl
@[simp] theorem look_inv : (flds v i).lookup ("_inverses" : Str) = some i := by kernel_rfl
@[simp] theorem look_number : (flds v i).lookup ("number" : Str) = none := by kernel_rfl
@[simp] theorem look_holds : (flds v i).lookup ("holds" : Str) = none := by kernel_rfl
@[simp] theorem look_plus : (flds v i).lookup ("plus" : Str) = none := by kernel_rfl
@[simp] theorem look_minus : (flds v i).lookup ("minus" : Str) = none := by kernel_rfl
@[simp] theorem look_times : (flds v i).lookup ("times" : Str) = none := by kernel_rfl
@[simp] theorem look_over : (flds v i).lookup ("over" : Str) = none := by kernel_rfl
@[simp] theorem look_negative : (flds v i).lookup ("negative" : Str) = none := by kernel_rfl
@[simp] theorem ms_plus : K0.ms.lookup ("plus" : Str) = some 18 := by kernel_rfl
@[simp] theorem ms_minus : K0.ms.lookup ("minus" : Str) = some 19 := by kernel_rfl
@[simp] theorem ms_times : K0.ms.lookup ("times" : Str) = some 20 := by kernel_rfl
theorem df17 : (PR W).df[17]? = some D17 := rfl
theorem df18 : (PR W).df[18]? = some D18 := rfl
theorem df19 : (PR W).df[19]? = some D19 := rfl
theorem df20 : (PR W).df[20]? = some D20 := rfl
theorem df21 : (PR W).df[21]? = some D21 := rfl
@[simp] theorem pad18 (x y : PV) : pad { D18 with np := D18.np - 1 } [x, y] = [x, y] := rfl
@[simp] theorem pad19 (x y : PV) : pad { D19 with np := D19.np - 1 } [x, y] = [x, y] := rfl
@[simp] theorem pad20 (x y : PV) : pad { D20 with np := D20.np - 1 } [x, y] = [x, y] := rfl
/-!  by no prime -/
theorem f_plus {a b c d : Int} (ha : Sm 1000 a) (hb : Sm 1000 b) (hc : Sm 1000 c) (hd : Sm 1000 d) (h1 : b ≠ 0) (h2 : d ≠ 0) : (ev (PR W) (k + 30)).call 18 [fld .non i, num (a, b), num (c, d)] st = .ok (num (rdc (a * d + c * b) (b * d))) st := by
  have q := fun k => c_plus (W := W) (k := k) (st := st) ha hb hc hd h1 h2
  rw [C_call]
  simp [stepC, df18, df2, D18, b18, q]
theorem f_minus {a b c d : Int} (ha : Sm 1000 a) (hb : Sm 1000 b) (hc : Sm 1000 c) (hd : Sm 1000 d) (h1 : b ≠ 0) (h2 : d ≠ 0) : (ev (PR W) (k + 30)).call 19 [fld .non i, num (a, b), num (c, d)] st = .ok (num (rdc (a * d - c * b) (b * d))) st := by
  have q := fun k => c_minus (W := W) (k := k) (st := st) ha hb hc hd h1 h2
  rw [C_call]
  simp [stepC, df19, df3, D19, b19, q]
theorem f_times {a b c d : Int} (ha : Sm 1000 a) (hb : Sm 1000 b) (hc : Sm 1000 c) (hd : Sm 1000 d) (h1 : b ≠ 0) (h2 : d ≠ 0) : (ev (PR W) (k + 30)).call 20 [fld .non i, num (a, b), num (c, d)] st = .ok (num (rdc (a * c) (b * d))) st := by
  have q := fun k => c_times (W := W) (k := k) (st := st) ha hb hc hd h1 h2
  rw [C_call]
  simp [stepC, df20, df4, D20, b20, q]
end

section
variable {W k : Nat} {st : Store} {i : PV} {p : Int}
theorem bmod {a p : Int} {st : Store} (hp : 0 < p) : bin2 .mod (.int a) (.int p) st = .ok (.int (a % p)) st := by
  rw [bin_mod (by omega), fmod_pos hp]
theorem emod_sm {a p : Int} (hp : 0 < p) (h : p < 100) : Sm 7 (a % p) := by
  have h1 := Int.emod_nonneg a (show p ≠ 0 by omega)
  have h2 := Int.emod_lt_of_pos a hp
  unfold Sm
  omega
/-!  a Field by a prime -/
theorem g_plus {a b c d : Int} (hp : 0 < p) : (ev (PR W) (k + 30)).call 18 [fld (.int p) i, num (a, b), num (c, d)] st = .ok (num ((a + c) % p, 1)) st := by
  have q := fun a st => bmod (a := a) (st := st) hp
  rw [C_call]
  simp [stepC, df18, D18, b18, num, q]
theorem g_minus {a b c d : Int} (hp : 0 < p) : (ev (PR W) (k + 30)).call 19 [fld (.int p) i, num (a, b), num (c, d)] st = .ok (num ((a - c) % p, 1)) st := by
  have q := fun a st => bmod (a := a) (st := st) hp
  rw [C_call]
  simp [stepC, df19, D19, b19, num, q]
theorem g_times {a b c d : Int} (hp : 0 < p) (ha : Sm 1000 a) (hc : Sm 1000 c) : (ev (PR W) (k + 30)).call 20 [fld (.int p) i, num (a, b), num (c, d)] st = .ok (num ((a * c) % p, 1)) st := by
  have q := fun a st => bmod (a := a) (st := st) hp
  have m := bin_mul (st := st) (ha.mulok hc (by decide))
  rw [C_call]
  simp [stepC, df20, D20, b20, num, q, m]
/-!  the law's own sums by a prime -/
/-- the last of 0 .. n - 1 whose product with b has the rest 1; 0 if there is none -/
def fnd (p b : Int) : Nat → Int
  | 0 => 0
  | j + 1 => if b * j % p = 1 then j else fnd p b j
theorem fnd_lt (p b : Int) : ∀ n : Nat, 0 ≤ fnd p b n ∧ (fnd p b n < n ∨ fnd p b n = 0)
  | 0 => ⟨Int.le_refl 0, .inr rfl⟩
  | j + 1 => by
    have ih := fnd_lt p b j
    unfold fnd
    split
    · omega
    · omega
theorem fnd_sm {p b : Int} (hp' : p < 100) (n : Nat) (h : (n : Int) ≤ p) : Sm 7 (fnd p b n) := by
  have := fnd_lt p b n
  unfold Sm
  omega
theorem c_lmakeP {a b : Int} (hp : 0 < p) (hp' : p < 100) (ha : Sm 1000 a) (hb : Sm 1000 b) : (ev (PR W) (k + 30)).call 26 [.int p, .int a, .int b] st = .ok (num ((a * fnd p b p.toNat) % p, 1)) st := by
  have q := fun a st => bmod (a := a) (st := st) hp
  obtain ⟨env', st', e, hj⟩ := for_inv (r := ev (PR W) (k + 27)) (tg := .n 4) (b := [.ite (.cmp .eq (.bin .mod (.bi .int [(.bin .mul (.v 2) (.v 4))]) (.v 0)) (.c (.int 1))) [.set (.n 3) (.v 4)] []]) (g := fun _ => True) (xs := (List.range p.toNat).map fun (j : Nat) => PV.int j)
    (env := [some (.int p), some (.int a), some (.int b), some (.int 0), none, none]) (st := st) (fun j env s => s = st ∧ ∃ z, env = [some (.int p), some (.int a), some (.int b), some (.int (fnd p b j)), z, none])
    ⟨rfl, none, rfl⟩ (fun _ _ _ _ _ => trivial) (fun j x env s hx ⟨hs, z, he⟩ => by
      subst hs he
      have hj : j < p.toNat := by
        have := (List.getElem?_eq_some_iff.mp hx).1
        simpa using this
      rw [List.getElem?_map, List.getElem?_range hj] at hx
      cases hx
      refine ⟨_, rfl, ?_⟩
      have m := bin_mul (st := s) (hb.mulok (show Sm 7 (j : Int) by unfold Sm; omega) (by decide))
      refine ⟨[some (.int p), some (.int a), some (.int b), some (.int (fnd p b (j + 1))), some (.int j), none], s, .inl ?_, rfl, _, rfl⟩
      by_cases h1 : b * j % p = 1 <;> simp [asg, q, m, h1, fnd])
  obtain ⟨rfl, z, rfl⟩ := hj
  rw [List.length_map, List.length_range] at e
  have m := bin_mul (st := st') (ha.mulok (fnd_sm (b := b) hp' p.toNat (by omega)) (by decide))
  rw [C_call]
  simp [stepC, df26, D26, b26, num, S_for, walk_rng1 (Int.le_of_lt hp) (by omega : p < 2 ^ 62), hp, asg, e, q, m]
theorem c_lplusP {a b c d : Int} (hp : 0 < p) : (ev (PR W) (k + 30)).call 27 [.int p, num (a, b), num (c, d)] st = .ok (num ((a + c) % p, 1)) st := by
  have q := fun a st => bmod (a := a) (st := st) hp
  rw [C_call]
  simp [stepC, df27, D27, b27, num, q, hp]
theorem c_ltimesP {a b c d : Int} (hp : 0 < p) (ha : Sm 1000 a) (hc : Sm 1000 c) : (ev (PR W) (k + 30)).call 28 [.int p, num (a, b), num (c, d)] st = .ok (num ((a * c) % p, 1)) st := by
  have q := fun a st => bmod (a := a) (st := st) hp
  have m := bin_mul (st := st) (ha.mulok hc (by decide))
  rw [C_call]
  simp [stepC, df28, D28, b28, num, q, m, hp]
end

/-!  the inverses -/
def invL (p : Int) : Nat → List Int
  | 0 => [0, 1]
  | n + 1 => invL p n ++ [(-(p / ((n : Int) + 2)) * (invL p n).getD (p % ((n : Int) + 2)).toNat 0) % p]
theorem invL_len (p : Int) : ∀ n, (invL p n).length = n + 2
  | 0 => rfl
  | n + 1 => by simp [invL, invL_len p n]
theorem invL_in {p : Int} (hp : 2 ≤ p) : ∀ n, ∀ x ∈ invL p n, 0 ≤ x ∧ x < p
  | 0, x, h => by simp [invL] at h; omega
  | n + 1, x, h => by
    unfold invL at h
    rcases List.mem_append.mp h with h | h
    · exact invL_in hp n x h
    · rw [List.mem_singleton] at h
      subst h
      exact ⟨Int.emod_nonneg _ (by omega), Int.emod_lt_of_pos _ (by omega)⟩
theorem inv_step (p : Int) (j : Nat) : (invL p j).map PV.int ++ [PV.int ((-(p / (2 + (j : Int))) * (invL p j).getD (p % (2 + (j : Int))).toNat 0) % p)] = (invL p (j + 1)).map PV.int := by
  rw [invL, Int.add_comm (j : Int) 2, List.map_append, List.map_singleton]
theorem frzL_ints (f : Nat → Option PV) : ∀ l : List Int, frzL f (l.map PV.int) = some (l.map PV.int)
  | [] => rfl
  | x :: l => by
    rw [List.map_cons]
    unfold frzL
    rw [frzL_ints f l]
    rfl
theorem frz_ints (f : Nat → Option PV) (l : List Int) : frz f (.tup (l.map PV.int)) = some (.tup (l.map PV.int)) := by
  unfold frz
  rw [frzL_ints f l]
theorem getD_in {l : List Int} {j : Nat} (h : j < l.length) : l.getD j 0 ∈ l := by
  rw [List.getD_eq_getElem?_getD, List.getElem?_eq_getElem h]
  exact List.getElem_mem h
theorem atI_ints {l : List Int} {j : Int} (h0 : 0 ≤ j) (h : j.toNat < l.length) : atI (l.map PV.int) j = some (.int (l.getD j.toNat 0)) := by
  obtain ⟨n, rfl⟩ := Int.eq_ofNat_of_zero_le h0
  rw [Int.toNat_natCast] at h ⊢
  refine atI_nat (j := n) ?_
  rw [List.getElem?_map, List.getElem?_eq_getElem h, List.getD_eq_getElem?_getD, List.getElem?_eq_getElem h]
  rfl
section
variable {W k : Nat} {st : Store} {p : Int}
@[simp] theorem pad21 (x : PV) : pad D21 [x] = [x] := rfl
theorem at_new {st : Store} {o : SO} : (st ++ [o])[st.length]? = some o := by
  rw [List.getElem?_append_right (Nat.le_refl _)]
  simp
theorem c_inv (hp : 2 ≤ p) (hp' : p < 100) : (ev (PR W) (k + 30)).call 21 [.int p] st = .ok (.tup ((invL p (p - 2).toNat).map .int)) st := by
  obtain ⟨env', st', e, hj⟩ := for_inv (r := ev (PR W) (k + 28)) (tg := .n 2) (b := [.app (.v 1) (.bin .mod (.bin .mul (.neg (.bin .fdiv (.v 0) (.v 2))) (.idx (.v 1) (.bin .mod (.v 0) (.v 2)))) (.v 0))]) (g := fun _ => True) (xs := (List.range (p - 2).toNat).map fun (j : Nat) => PV.int (2 + j))
    (env := [some (.int p), some (.ref st.length), none]) (st := st ++ [.lst [.int 0, .int 1]]) (fun j env s => s = st ++ [.lst ((invL p j).map .int)] ∧ ∃ z, env = [some (.int p), some (.ref st.length), z])
    ⟨rfl, none, rfl⟩ (fun _ _ _ _ _ => trivial) (fun j x env s hx ⟨hs, z, he⟩ => by
      subst hs he
      have hj : j < (p - 2).toNat := by
        have := (List.getElem?_eq_some_iff.mp hx).1
        simpa using this
      rw [List.getElem?_map, List.getElem?_range hj] at hx
      cases hx
      have hr : (0 : Int) < 2 + (j : Int) := by omega
      have l1 := Int.emod_nonneg p (show (2 + (j : Int)) ≠ 0 by omega)
      have l2 := Int.emod_lt_of_pos p hr
      have hlt : (p % (2 + (j : Int))).toNat < (invL p j).length := by rw [invL_len]; omega
      have hin := invL_in hp j _ (getD_in hlt)
      have d1 : ∀ st : Store, bin2 .fdiv (.int p) (.int (2 + (j : Int))) st = .ok (.int (p / (2 + (j : Int)))) st := fun st => by
        rw [bin_fdiv (Sm.divok (show Sm 7 (2 + (j : Int)) by unfold Sm; omega) (by omega) (by decide)), Int.fdiv_eq_ediv_of_nonneg _ (Int.le_of_lt hr)]
      have sd : Sm 7 (p / (2 + (j : Int))) := by
        have := natAbs_div_le (a := p) hr
        unfold Sm
        omega
      have m1 := fun st : Store => bin_mul (st := st) (sd.neg.mulok (show Sm 7 ((invL p j).getD (p % (2 + (j : Int))).toNat 0) by unfold Sm; omega) (by decide))
      have q := fun a (st : Store) => bmod (a := a) (st := st) (show 0 < p by omega)
      have q2 := fun a (st : Store) => bmod (a := a) (st := st) hr
      have a1 := atI_ints l1 hlt
      refine ⟨_, rfl, [some (.int p), some (.ref st.length), some (.int (2 + j))], st ++ [.lst ((invL p (j + 1)).map .int)], .inl ?_, rfl, _, rfl⟩
      have pu := push_at (st0 := st) (acc := (invL p j).map .int) (y := .int ((-(p / (2 + (j : Int))) * (invL p j).getD (p % (2 + (j : Int))).toNat 0) % p)) rfl (by rw [List.length_map, invL_len]; exact Nat.lt_of_lt_of_le (show j + 2 < 1000 by omega) (by decide))
      rw [inv_step] at pu
      have sq : seqOf (st ++ [.lst ((invL p j).map .int)]) (.ref st.length) = some (false, (invL p j).map .int) := seqOf_ref at_new
      simp only [blk_cons, blk_nil, S_app, E_v, E_bin, E_neg, E_idx, Res.ok_bind, List.getElem?_cons_zero, List.getElem?_cons_succ, at_new, d1, q2, sq, a1, tl_some, m1, q, pu, List.set_cons_succ, List.set_cons_zero])
  obtain ⟨rfl, z, rfl⟩ := hj
  rw [List.length_map, List.length_range] at e
  have sq : seqOf (st ++ [.lst ((invL p (p - 2).toNat).map .int)]) (.ref st.length) = some (false, (invL p (p - 2).toNat).map .int) := seqOf_ref at_new
  have dn : done st false (.tup ((invL p (p - 2).toNat).map .int)) (st ++ [.lst ((invL p (p - 2).toNat).map .int)]) = .ok (.tup ((invL p (p - 2).toNat).map .int)) st := by
    rw [done_new (by simp) (oldOk_app _) (.inl rfl) (frz_ints _ _), List.take_left']
    rfl
  rw [C_call]
  simp [stepC, df21, D21, b21, S_for, asg, walk_rng2 (show (0 : Int) ≤ 2 by decide) (show 0 ≤ p by omega) (by decide) (show p < 2 ^ 62 by omega), e, sq, dn]
end

/-!  the inverses are inverses -/
def primes : List Int := [2, 3, 5, 7, 11, 13, 17, 19, 23, 29, 31, 37, 41, 43, 47, 53, 59, 61, 67, 71, 73, 79, 83, 89, 97]
/-- a prime of the table -/
structure Pr (p : Int) : Prop where
  lo : 2 ≤ p
  hi : p < 100
  no : ∀ r : Int, 2 ≤ r → r < p → p % r ≠ 0
theorem pr_all : (primes.all fun p => decide (2 ≤ p) && (decide (p < 100) && (List.range p.toNat).all fun r => decide (r < 2) || decide (p % (r : Int) ≠ 0))) = true := by decide +kernel
theorem pr_of {p : Int} (h : p ∈ primes) : Pr p := by
  have z := List.all_eq_true.mp pr_all p h
  simp only [Bool.and_eq_true, decide_eq_true_eq] at z
  refine ⟨z.1, z.2.1, fun r h1 h2 => ?_⟩
  have z2 := List.all_eq_true.mp z.2.2 r.toNat (List.mem_range.mpr (by omega))
  simp only [Bool.or_eq_true, decide_eq_true_eq] at z2
  rcases z2 with z2 | z2
  · omega
  · rwa [Int.toNat_of_nonneg (by omega)] at z2
def iv (p b : Int) : Int := (invL p (p - 2).toNat).getD b.toNat 0
theorem inv_ok {p : Int} (h : Pr p) : ∀ n : Nat, (n : Int) ≤ p - 2 → ∀ b : Nat, 1 ≤ b → b < n + 2 → ((b : Int) * (invL p n).getD b 0) % p = 1
  | 0, hn, b, h1, h2 => by
    obtain rfl : b = 1 := by omega
    have := h.lo
    show (1 * 1 : Int) % p = 1
    rw [Int.one_mul]
    exact Int.emod_eq_of_lt (by decide) (by omega)
  | n + 1, hn, b, h1, h2 => by
    have hp := h.lo
    have hl := invL_len p n
    have hn' : (n : Int) + 1 ≤ p - 2 := by simpa using hn
    rw [invL, List.getD_eq_getElem?_getD]
    by_cases e : b = n + 2
    · subst e
      rw [List.getElem?_append_right (by omega), hl, Nat.sub_self]
      simp only [List.getElem?_cons_zero, Option.getD_some]
      have hr : (0 : Int) < (n : Int) + 2 := by omega
      have l1 := Int.emod_nonneg p (show ((n : Int) + 2) ≠ 0 by omega)
      have l2 := Int.emod_lt_of_pos p hr
      have l3 := h.no ((n : Int) + 2) (by omega) (by omega)
      have ih := inv_ok h n (by omega) (p % ((n : Int) + 2)).toNat (by omega) (by omega)
      rw [Int.toNat_of_nonneg l1] at ih
      generalize (invL p n).getD (p % ((n : Int) + 2)).toNat 0 = x at ih ⊢
      rw [Int.mul_emod, Int.emod_emod_of_dvd _ (Int.dvd_refl p), ← Int.mul_emod]
      have dv := Int.mul_ediv_add_emod p ((n : Int) + 2)
      have c : ((n + 2 : Nat) : Int) = (n : Int) + 2 := by omega
      rw [c]
      have e2 : ((n : Int) + 2) * (-(p / ((n : Int) + 2)) * x) = (p % ((n : Int) + 2)) * x - p * x := by
        have e3 : ((n : Int) + 2) * (p / ((n : Int) + 2)) = p - p % ((n : Int) + 2) := by omega
        rw [Int.neg_mul, Int.mul_neg, ← Int.mul_assoc, e3, Int.sub_mul]
        omega
      rw [e2, Int.sub_mul_emod_self_left]
      exact ih
    · rw [List.getElem?_append_left (by omega), ← List.getD_eq_getElem?_getD]
      exact inv_ok h n (by omega) b h1 (by omega)
theorem iv_ok {p b : Int} (h : Pr p) (h1 : 1 ≤ b) (h2 : b < p) : (b * iv p b) % p = 1 := by
  have := inv_ok h (p - 2).toNat (by have := h.lo; omega) b.toNat (by omega) (by have := h.lo; omega)
  rwa [Int.toNat_of_nonneg (by omega)] at this
theorem iv_in {p b : Int} (h : Pr p) (h1 : 0 ≤ b) (h2 : b < p) : 0 ≤ iv p b ∧ iv p b < p := invL_in h.lo _ _ (getD_in (by rw [invL_len]; have := h.lo; omega))
theorem iv_sm {p b : Int} (h : Pr p) (h1 : 0 ≤ b) (h2 : b < p) : Sm 7 (iv p b) := by
  have := iv_in h h1 h2
  have := h.hi
  unfold Sm
  omega
theorem iv_at {p b : Int} (h : Pr p) (h1 : 0 ≤ b) (h2 : b < p) : atI ((invL p (p - 2).toNat).map PV.int) b = some (.int (iv p b)) := atI_ints h1 (by rw [invL_len]; have := h.lo; omega)
theorem inv_uniq {p b j x : Int} (hj : 0 ≤ j) (hj' : j < p) (hx : 0 ≤ x) (hx' : x < p) (h1 : b * j % p = 1) (h2 : b * x % p = 1) : j = x := by
  have e1 : (j * (b * x)) % p = j := by
    rw [Int.mul_emod, h2, Int.mul_one, Int.emod_emod_of_dvd _ (Int.dvd_refl p), Int.emod_eq_of_lt hj hj']
  have e2 : ((b * j) * x) % p = x := by
    rw [Int.mul_emod, h1, Int.one_mul, Int.emod_emod_of_dvd _ (Int.dvd_refl p), Int.emod_eq_of_lt hx hx']
  have e3 : j * (b * x) = (b * j) * x := by rw [← Int.mul_assoc, Int.mul_comm j b]
  rw [e3, e2] at e1
  exact e1.symm
theorem fnd_of {p b x : Int} (hx : 0 ≤ x) (h : b * x % p = 1) : ∀ n : Nat, (n : Int) ≤ p → x < n → fnd p b n = x
  | 0, hn, h2 => by omega
  | j + 1, hn, h2 => by
    unfold fnd
    by_cases e : b * j % p = 1
    · rw [if_pos e]
      exact inv_uniq (by omega) (by omega) hx (by omega) e h
    · rw [if_neg e]
      have ne : x ≠ j := fun z => e (by rw [← z]; exact h)
      exact fnd_of hx h j (by omega) (by omega)
theorem fnd_iv {p b : Int} (h : Pr p) (hb : b % p ≠ 0) : fnd p b p.toNat = iv p (b % p) := by
  have hp := h.lo
  have l1 := Int.emod_nonneg b (show p ≠ 0 by omega)
  have l2 := Int.emod_lt_of_pos b (show 0 < p by omega)
  have z := iv_in h l1 l2
  refine fnd_of z.1 ?_ p.toNat (by omega) (by omega)
  have := iv_ok h (b := b % p) (by omega) l2
  rw [Int.mul_emod, Int.emod_emod_of_dvd _ (Int.dvd_refl p), ← Int.mul_emod] at this
  exact this

section
variable {W k : Nat} {st : Store} {p : Int}
/-!  a Field is made -/
theorem gl2 : (PR W).gl[2]? = some (.tup (primes.map PV.int)) := rfl
theorem intsOf_map : ∀ l : List Int, intsOf (l.map PV.int) = some l
  | [] => rfl
  | x :: l => by
    rw [List.map_cons, intsOf, intsOf_map l]
theorem mem_pr (h : p ∈ primes) : cmpR .mem (.int p) (.tup (primes.map PV.int)) st = some true := by
  show mem2 st (.int p) (.tup (primes.map PV.int)) = some true
  unfold mem2
  dsimp only
  rw [intsOf_map]
  dsimp only
  rw [List.any_eq_true.mpr ⟨p, h, by simp⟩]
theorem put1 (v : PV) : putP ("prime" : Str) v [] = [(("prime" : Str), v)] := rfl
theorem put2 (v i : PV) : putP ("_inverses" : Str) i [(("prime" : Str), v)] = flds v i := by kernel_rfl
theorem set_new {st : Store} {o o' : SO} : (st ++ [o]).set st.length o' = st ++ [o'] := by
  rw [List.set_append_right _ _ (Nat.le_refl _)]
  simp
theorem c_init (h : p ∈ primes) : (ev (PR W) (k + 50)).call 17 [.ref st.length, .int p] (st ++ [.ins 0 []]) = .ok .non (st ++ [.ins 0 (flds (.int p) (.tup ((invL p (p - 2).toNat).map .int)))]) := by
  have hp := pr_of h
  have q := fun k (st : Store) => c_inv (W := W) (k := k) (st := st) hp.lo hp.hi
  have m := fun st : Store => mem_pr (st := st) h
  have q0 := fun k (st : Store) => c_whole (W := W) (k := k) (st := st) p
  rw [C_call]
  have g2 := gl2 (W := W)
  have l1 : ([] : List (Str × PV)).length < 1000 := by decide
  simp [stepC, df17, df0, df21, D17, b17, q, q0, m, g2, put1, put2, set_new, done_len]
theorem c_init0 : (ev (PR W) (k + 50)).call 17 [.ref st.length, .non] (st ++ [.ins 0 []]) = .ok .non (st ++ [.ins 0 (flds .non (.tup []))]) := by
  rw [C_call]
  simp [stepC, df17, D17, b17, put1, put2, set_new, done_len]
theorem frz_fld {f : Nat → Option PV} {v : PV} {l : List Int} (hv : frz f v = some v) : frzF f (flds v (.tup (l.map .int))) = some (flds v (.tup (l.map .int))) := by
  unfold flds frzF
  rw [hv]
  unfold frzF
  rw [frz_ints]
  unfold frzF
  rfl
theorem onRef_new {st : Store} {v : PV} {l : List Int} {x : Nat} (hx : x = st.length + 1) (hv : ∀ f, frz f v = some v) : onRef (st ++ [.ins 0 (flds v (.tup (l.map .int)))]) st.length x 3 st.length = some (fld v (.tup (l.map .int))) := by
  unfold onRef
  rw [if_neg (Nat.lt_irrefl _), if_neg (by omega), at_new]
  dsimp only
  rw [frz_fld (hv _)]
  rfl
theorem newI_by {v : PV} {l : List Int} (hv : ∀ f, frz f v = some v) (hc : (ev (PR W) k).call 17 [.ref st.length, v] (st ++ [.ins 0 []]) = .ok .non (st ++ [.ins 0 (flds v (.tup (l.map .int)))])) : newI (ev (PR W) k) 0 17 false [v] st = .ok (fld v (.tup (l.map .int))) st := by
  unfold newI
  rw [hc]
  simp only [Res.ok_bind, Bool.false_eq_true, if_false]
  have : frz (onRef (st ++ [.ins 0 (flds v (.tup (l.map .int)))]) st.length (st ++ [SO.ins 0 (flds v (.tup (l.map .int)))]).length 3) (.ref st.length) = some (fld v (.tup (l.map .int))) := by
    unfold frz
    exact onRef_new (by simp) hv
  rw [done_new (by simp) (oldOk_app _) (.inl rfl) this, List.take_left']
  rfl
theorem f_new {e : Ex} {env : En} (h : p ∈ primes) (he : (ev (PR W) (k + 59)).E e env st = .ok (.int p) st) : (ev (PR W) (k + 60)).E (.new 0 false [e]) env st = .ok (fld (.int p) (.tup ((invL p (p - 2).toNat).map .int))) st := by
  rw [E_new]
  simp only [evL_cons, evL_nil, he, Res.ok_bind, klK0]
  exact newI_by (fun _ => rfl) (c_init h)
theorem f_new0 {env : En} : (ev (PR W) (k + 60)).E (.new 0 false []) env st = .ok (fld .non (.tup [])) st := by
  rw [E_new]
  simp only [evL_nil, Res.ok_bind, klK0]
  exact newI_by (l := []) (fun _ => rfl) c_init0
end

/-!  the bag -/
def bagO (cells : List Int) (t r : Int) : SO := .lst [.lst (cells.map .int), .int t, .int r]
def cellsOf (ns : List Int) : List Int := if ns = [] then [5] else ns.map ab
section
variable {W k : Nat} {st : Store} {p : Int}
theorem df22 : (PR W).df[22]? = some D22 := rfl
theorem df23 : (PR W).df[23]? = some D23 := rfl
@[simp] theorem pad22 (x : PV) : pad D22 [x] = [x] := rfl
@[simp] theorem pad23 (x y : PV) : pad D23 [x, y] = [x, y] := rfl
@[simp] theorem atI2 {α : Type} (x y z : α) (xs : List α) : atI (x :: y :: z :: xs) 2 = some z := atI_nat (j := 2) rfl
theorem cut63 {xs : List PV} (h : xs.length ≤ 63) : cutP xs none (some 63) = xs := by
  unfold cutP
  rw [HT.sIx_none, show HT.sIx xs.length xs.length (some 63) = min 63 xs.length from HT.sIx_nat xs.length xs.length 63]
  rw [Nat.min_eq_right h]
  simp
def abV : PV → PV
  | .int i => .int (ab i)
  | x => x
theorem frz_lstI (f : Nat → Option PV) (l : List Int) : frz f (.lst (l.map PV.int)) = some (.lst (l.map PV.int)) := by
  unfold frz
  rw [frzL_ints f l]
theorem frzL_bag (f : Nat → Option PV) (l : List Int) (t r : Int) : frzL f [.lst (l.map .int), .int t, .int r] = some [.lst (l.map .int), .int t, .int r] := by
  unfold frzL
  rw [frz_lstI]
  rfl
theorem bag_comp {ns : List Int} (h : ns.length ≤ 63) {env : En} (he : env = [some (.scr ns), none, none]) : (ev (PR W) (k + 10)).E (.comp false (.bi .abs [(.v 2)]) (.n 2) .seq [(.slc (.v 0) .nil (.c (.int 63)))] []) env [] = .ok (.lst ((ns.map ab).map .int)) [] := by
  subst he
  have c := compL_map (r := ev (PR W) (k + 9)) (e := .bi .abs [(.v 2)]) (tg := .n 2) (g := fun st' => seqOf st' (.lst (ns.map PV.int)) = some (false, ns.map PV.int)) (d := 0) (env := [some (.scr ns), none, none]) abV (st0 := []) rfl (fun _ => rfl) (ns.map PV.int) []
    (fun x hx => by
      obtain ⟨i, _, rfl⟩ := List.mem_map.mp hx
      exact ⟨_, rfl, fun acc => by simp [abV]⟩) (by simp; exact Nat.le_trans h (by decide))
  have e1 : (ns.map PV.int).map abV = (ns.map ab).map PV.int := by
    rw [List.map_map, List.map_map]
    rfl
  rw [List.nil_append, List.nil_append, List.nil_append, e1] at c
  have dn : done [] false (.ref 0) [.lst ((ns.map ab).map .int)] = .ok (.lst ((ns.map ab).map .int)) [] := by
    refine (done_new (st := []) (by simp) (oldOk_app (st := []) _) (.inl rfl) (w := .lst ((ns.map ab).map .int)) ?_)
    unfold frz
    show onRef _ 0 1 3 0 = _
    unfold onRef
    simp only [Nat.lt_irrefl, if_false, List.getElem?_cons_zero]
    rw [if_neg (by decide), frzL_ints]
  rw [E_comp]
  unfold comp
  simp only [evL_cons, evL_nil, E_slc, E_v, E_c, partOf, Res.ok_bind, List.getElem?_cons_zero]
  rw [cut63 (by simpa using h)]
  dsimp only [walk_lst]
  show ((compL (ev (PR W) (k + 9)) (.bi .abs [(.v 2)]) (.n 2) [] (fun st' => seqOf st' (.lst (ns.map PV.int)) = some (false, ns.map PV.int)) 0 [some (.scr ns), none, none] (ns.map PV.int) [.lst []]).bind fun _ st' => if false = true then _ else done [] false (.ref 0) st') = _
  rw [c]
  exact dn
theorem c_bag {ns : List Int} (h : ns.length ≤ 63) : (ev (PR W) (k + 20)).call 22 [.scr ns] [] = .ok (.ref 0) [bagO (cellsOf ns) 0 0] := by
  have q := fun k => bag_comp (W := W) (k := k) h rfl
  have dn : ∀ l : List Int, done [] true (.ref 0) [bagO l 0 0] = .ok (.ref 0) [bagO l 0 0] := fun l => by
    unfold done
    rw [if_neg (by simp), if_pos (show OldOk [] [bagO l 0 0] from oldOk_app (st := []) [bagO l 0 0])]
    simp [bagO, frzL_bag]
  rw [C_call]
  by_cases hn : ns = []
  · subst hn
    simp [stepC, df22, D22, b22, q, asg, cellsOf]
    exact dn [5]
  · have hl : ¬ (ns.length = 0) := fun z => hn (List.length_eq_zero_iff.mp z)
    have := dn (ns.map ab)
    simp only [bagO, List.map_map] at this
    simp [stepC, df22, D22, b22, q, asg, cellsOf, hn, bagO, this]
end

/-!  draws -/
def mix1 (c t : Int) : Int := ((c + 17) * 48271 + t * t * 7919 + t * 104729) % 2147483647
def mix (c t : Int) : Int := (mix1 c t * 69621 + (t + 3) * 40692) % 2147483399
/-- the bag at n: t draws from the cells at most, the rest r -/
structure Bag (cells : List Int) (n : Nat) (T : Nat) (st : Store) : Prop where
  at_ : ∃ t r, st[n]? = some (bagO cells t r) ∧ 0 ≤ t ∧ t ≤ T ∧ 0 ≤ r
/-- only the bag has changed -/
def Upd (n : Nat) (st st' : Store) : Prop := ∃ o, st' = st.set n o
theorem Upd.refl' {n : Nat} {st : Store} {o : SO} (h : st[n]? = some o) : Upd n st st := ⟨o, by
  have := (List.getElem?_eq_some_iff.mp h).2
  rw [← this]
  exact (List.set_getElem_self _).symm⟩
theorem Upd.trans {n : Nat} {a b c : Store} (x : Upd n a b) (y : Upd n b c) : Upd n a c := by
  obtain ⟨o, rfl⟩ := x
  obtain ⟨o', rfl⟩ := y
  exact ⟨o', by rw [List.set_set]⟩
theorem Upd.len {n : Nat} {a b : Store} (x : Upd n a b) : b.length = a.length := by
  obtain ⟨o, rfl⟩ := x
  simp
theorem Upd.other {n m : Nat} {a b : Store} (x : Upd n a b) (h : m ≠ n) : b[m]? = a[m]? := by
  obtain ⟨o, rfl⟩ := x
  rw [List.getElem?_set_ne (Ne.symm h)]
structure CellsOk (cells : List Int) : Prop where
  ne : cells ≠ []
  nn : ∀ c ∈ cells, 0 ≤ c ∧ Sm 1048600 c
  ln : cells.length ≤ 100
theorem pow18 {st : Store} : bin2 .pow (.int 10) (.int 18) st = .ok (.int 1000000000000000000) st := by
  rw [bin_pow (show Pv.PowOk 10 18 by decide)]
  rfl
theorem pow30 {st : Store} : bin2 .pow (.int 10) (.int 30) st = .ok (.int 1000000000000000000000000000000) st := by
  rw [bin_pow (show Pv.PowOk 10 30 by decide)]
  rfl
theorem pow6 {st : Store} : bin2 .pow (.int 10) (.int 6) st = .ok (.int 1000000) st := by
  rw [bin_pow (show Pv.PowOk 10 6 by decide)]
  rfl
theorem set_get {st : Store} {n : Nat} {o o' : SO} (h : st[n]? = some o) : (st.set n o')[n]? = some o' := by
  rw [List.getElem?_set_self (List.getElem?_eq_some_iff.mp h).1]
section
variable {W k : Nat} {st : Store} {p : Int}
theorem ix2 : ixN 3 2 = some 2 := by decide +kernel
theorem ix1 : ixN 3 1 = some 1 := by decide +kernel
theorem c_draw {cells : List Int} {n T : Nat} {L : Int} (hc : CellsOk cells) (hb : Bag cells n T st) (hT : T ≤ 1000) (h0 : 0 < L) (hL : Sm 200 L) :
    ∃ d st', (∀ k, (ev (PR W) (k + 20)).call 23 [.ref n, .int L] st = .ok (.int d) st') ∧ 0 ≤ d ∧ d < L ∧ Bag cells n (T + 1) st' ∧ Upd n st st' := by
  obtain ⟨t, r, e, t0, tT, r0⟩ := hb.at_
  have qm := fun a (st : Store) => bmod (a := a) (st := st) h0
  have qd : ∀ a (st : Store), bin2 .fdiv (.int a) (.int L) st = .ok (.int (a / L)) st := fun a st => by
    rw [bin_fdiv (Sm.divok hL (by omega) (by decide)), Int.fdiv_eq_ediv_of_nonneg _ (Int.le_of_lt h0)]
  have dl : ∀ a : Int, 0 ≤ a % L ∧ a % L < L := fun a => ⟨Int.emod_nonneg a (by omega), Int.emod_lt_of_pos a h0⟩
  have sq : seqOf st (.ref n) = some (false, [.lst (cells.map .int), .int t, .int r]) := seqOf_ref e
  have e' : st[n]? = some (.lst [.lst (cells.map .int), .int t, .int r]) := e
  by_cases hr : 0 < r
  · refine ⟨r % L, st.set n (bagO cells t (r / L)), ?_, (dl r).1, (dl r).2, ⟨t, r / L, set_get e, t0, by omega, Int.ediv_nonneg r0 (by omega)⟩, ⟨_, rfl⟩⟩
    intro k
    rw [C_call]
    simp [stepC, df23, D23, b23, sq, hr, qm, qd, e', ix2, asg, bagO, done_len]
  · obtain rfl : r = 0 := by omega
    have e2 : (st.set n (bagO cells (t + 1) 0))[n]? = some (bagO cells (t + 1) 0) := set_get e
    have e2' : (st.set n (.lst [.lst (cells.map .int), .int (t + 1), .int 0]))[n]? = some (.lst [.lst (cells.map .int), .int (t + 1), .int 0]) := e2
    have sq2 : seqOf (st.set n (.lst [.lst (cells.map .int), .int (t + 1), .int 0])) (.ref n) = some (false, [.lst (cells.map .int), .int (t + 1), .int 0]) := seqOf_ref e2
    have ln0 : (0 : Int) < cells.length := by
      have := List.length_pos_iff.mpr hc.ne
      omega
    have ql := fun a (st : Store) => bmod (a := a) (st := st) ln0
    have l1 := Int.emod_nonneg t (show (cells.length : Int) ≠ 0 by omega)
    have l2 := Int.emod_lt_of_pos t ln0
    have hlt : (t % (cells.length : Int)).toNat < cells.length := by omega
    have ai := atI_ints l1 hlt
    have hin := hc.nn _ (getD_in hlt)
    generalize hcell : cells.getD (t % (cells.length : Int)).toNat 0 = c at ai hin
    by_cases big : t < (cells.length : Int) ∧ 1000000000000000000 ≤ c
    · refine ⟨c % L, (st.set n (bagO cells (t + 1) 0)).set n (bagO cells (t + 1) (c / L)), ?_, (dl c).1, (dl c).2, ⟨t + 1, c / L, set_get e2, by omega, by omega, Int.ediv_nonneg hin.1 (by omega)⟩, ⟨_, by rw [List.set_set]⟩⟩
      intro k
      rw [C_call]
      simp [stepC, df23, D23, b23, sq, sq2, qm, qd, ql, e', e2', ix1, ix2, asg, bagO, done_len, ai, big.1, big.2, pow18]
    · have st1 : Sm 10 t := by unfold Sm; omega
      have sc := hin.2
      have m1 := fun st : Store => bin_mul (st := st) ((Sm.add sc (show Sm 1048600 17 from Nat.lt_of_lt_of_le (show 17 < 2 ^ 5 by decide) (Nat.pow_le_pow_right (by decide) (by decide)))).mulok (show Sm 16 48271 by unfold Sm; decide) (by decide))
      have m2 := fun st : Store => bin_mul (st := st) (st1.mulok st1 (by decide))
      have m3 := fun st : Store => bin_mul (st := st) ((st1.mul st1).mulok (show Sm 13 7919 by unfold Sm; decide) (by decide))
      have m4 := fun st : Store => bin_mul (st := st) (st1.mulok (show Sm 17 104729 by unfold Sm; decide) (by decide))
      have q1 := fun a (st : Store) => bmod (a := a) (st := st) (show (0 : Int) < 2147483647 by decide)
      have q2 := fun a (st : Store) => bmod (a := a) (st := st) (show (0 : Int) < 2147483399 by decide)
      have b1 : Sm 31 (mix1 c t) := by
        have h1 := Int.emod_nonneg ((c + 17) * 48271 + t * t * 7919 + t * 104729) (show (2147483647 : Int) ≠ 0 by decide)
        have h2 := Int.emod_lt_of_pos ((c + 17) * 48271 + t * t * 7919 + t * 104729) (show (0 : Int) < 2147483647 by decide)
        unfold Sm mix1
        omega
      have m5 := fun st : Store => bin_mul (st := st) (b1.mulok (show Sm 17 69621 by unfold Sm; decide) (by decide))
      have m6 := fun st : Store => bin_mul (st := st) ((show Sm 11 (t + 3) by unfold Sm; omega).mulok (show Sm 16 40692 by unfold Sm; decide) (by decide))
      have d8 : ∀ a (st : Store), bin2 .fdiv (.int a) (.int 8) st = .ok (.int (a / 8)) st := fun a st => by
        rw [bin_fdiv (show Pv.DivOk a 8 from ⟨by decide, by decide⟩), Int.fdiv_eq_ediv_of_nonneg _ (by decide)]
      refine ⟨(mix c t / 8) % L, st.set n (bagO cells (t + 1) 0), ?_, (dl _).1, (dl _).2, ⟨t + 1, 0, e2, by omega, by omega, Int.le_refl 0⟩, ⟨_, rfl⟩⟩
      have nb : (t < (cells.length : Int)) → ¬ (1000000000000000000 ≤ c) := fun h1 h2 => big ⟨h1, h2⟩
      unfold mix1 at m5
      intro k
      rw [C_call]
      by_cases hl : t < (cells.length : Int)
      · simp [stepC, df23, D23, b23, sq, sq2, qm, qd, ql, e', e2', ix1, ix2, asg, bagO, done_len, ai, hl, nb hl, pow18, m1, m2, m3, m4, m5, m6, q1, q2, d8, mix, mix1]
      · simp [stepC, df23, D23, b23, sq, sq2, qm, qd, ql, e', e2', ix1, ix2, asg, bagO, done_len, ai, hl, pow18, m1, m2, m3, m4, m5, m6, q1, q2, d8, mix, mix1]
end

/-!  a field, whatever it is -/
def Fd (p : Int) : Prop := p = 0 ∨ p ∈ primes
def FV (p : Int) : PV := if p = 0 then fld .non (.tup []) else fld (.int p) (.tup ((invL p (p - 2).toNat).map .int))
/-- a number of it; one that may be longer -/
def Nm (p : Int) (x : Int × Int) : Prop := if p = 0 then Low x ∧ Sm 100 x.1 ∧ Sm 100 x.2 else (0 ≤ x.1 ∧ x.1 < p) ∧ x.2 = 1
def NmW (p : Int) (x : Int × Int) : Prop := if p = 0 then Low x ∧ Sm 8000 x.1 ∧ Sm 8000 x.2 else (0 ≤ x.1 ∧ x.1 < p) ∧ x.2 = 1
theorem Nm.w {p : Int} {x : Int × Int} (h : Nm p x) : NmW p x := by
  unfold Nm at h
  unfold NmW
  split
  · rename_i e
    rw [if_pos e] at h
    exact ⟨h.1, h.2.1.mono (by decide), h.2.2.mono (by decide)⟩
  · rename_i e
    rwa [if_neg e] at h
def oMake (p a b : Int) : Int × Int := if p = 0 then rdc a b else ((a * fnd p b p.toNat) % p, 1)
def oPlus (p : Int) (x y : Int × Int) : Int × Int := if p = 0 then rdc (x.1 * y.2 + y.1 * x.2) (x.2 * y.2) else ((x.1 + y.1) % p, 1)
def oMinus (p : Int) (x y : Int × Int) : Int × Int := if p = 0 then rdc (x.1 * y.2 - y.1 * x.2) (x.2 * y.2) else ((x.1 - y.1) % p, 1)
def oTimes (p : Int) (x y : Int × Int) : Int × Int := if p = 0 then rdc (x.1 * y.1) (x.2 * y.2) else ((x.1 * y.1) % p, 1)
def oOver (p : Int) (x y : Int × Int) : Int × Int := if p = 0 then rdc (x.1 * y.2) (x.2 * y.1) else ((x.1 * fnd p y.1 p.toNat) % p, 1)
def oNeg (p : Int) (x : Int × Int) : Int × Int := if p = 0 then (-x.1, x.2) else ((-x.1) % p, 1)
/-- a bottom that may stand -/
def Bt (p b : Int) : Prop := if p = 0 then b ≠ 0 else b % p ≠ 0
section
variable {W k : Nat} {st : Store} {p : Int}
theorem Fd.pos (F : Fd p) (h : p ≠ 0) : Pr p := pr_of (F.resolve_left h)
theorem Bt1 (F : Fd p) : Bt p 1 := by
  unfold Bt
  split
  · decide
  · rename_i h
    have := (F.pos h).lo
    rw [Int.emod_eq_of_lt (by decide) (by omega)]
    decide
theorem rest_sm {x p : Int} (P : Pr p) (h : 0 ≤ x ∧ x < p) : Sm 7 x := by
  have := P.hi
  unfold Sm
  omega
theorem em {x p : Int} (P : Pr p) : 0 ≤ x % p ∧ x % p < p := ⟨Int.emod_nonneg x (by have := P.lo; omega), Int.emod_lt_of_pos x (by have := P.lo; omega)⟩
theorem A_lmake (F : Fd p) (hW : 2 ^ 8000 ≤ W) {a b : Int} (ha : Sm 1000 a) (hb : Sm 1000 b) (h : Bt p b) : (ev (PR W) (k + 60)).call 26 [.int p, .int a, .int b] st = .ok (num (oMake p a b)) st := by
  unfold Bt at h
  unfold oMake
  split
  · rename_i e
    rw [if_pos e] at h
    subst e
    exact c_lmake0 (k := k + 40) h (hb.mono (by decide)) hW
  · rename_i e
    have P := F.pos e
    exact c_lmakeP (k := k + 30) (by have := P.lo; omega) P.hi ha hb
theorem A_plus (F : Fd p) {x y : Int × Int} (hx : Nm p x) (hy : Nm p y) : (ev (PR W) (k + 60)).call 18 [FV p, num x, num y] st = .ok (num (oPlus p x y)) st := by
  obtain ⟨a, b⟩ := x
  obtain ⟨c, d⟩ := y
  unfold Nm at hx hy
  unfold oPlus FV
  split
  · rename_i e
    rw [if_pos e] at hx hy
    exact f_plus (k := k + 30) (hx.2.1.mono (by decide)) (hx.2.2.mono (by decide)) (hy.2.1.mono (by decide)) (hy.2.2.mono (by decide)) (by have := hx.1.1; dsimp only at this; omega) (by have := hy.1.1; dsimp only at this; omega)
  · rename_i e
    have P := F.pos e
    exact g_plus (k := k + 30) (by have := P.lo; omega)
theorem A_minus (F : Fd p) {x y : Int × Int} (hx : Nm p x) (hy : Nm p y) : (ev (PR W) (k + 60)).call 19 [FV p, num x, num y] st = .ok (num (oMinus p x y)) st := by
  obtain ⟨a, b⟩ := x
  obtain ⟨c, d⟩ := y
  unfold Nm at hx hy
  unfold oMinus FV
  split
  · rename_i e
    rw [if_pos e] at hx hy
    exact f_minus (k := k + 30) (hx.2.1.mono (by decide)) (hx.2.2.mono (by decide)) (hy.2.1.mono (by decide)) (hy.2.2.mono (by decide)) (by have := hx.1.1; dsimp only at this; omega) (by have := hy.1.1; dsimp only at this; omega)
  · rename_i e
    have P := F.pos e
    exact g_minus (k := k + 30) (by have := P.lo; omega)
theorem A_times (F : Fd p) {x y : Int × Int} (hx : Nm p x) (hy : Nm p y) : (ev (PR W) (k + 60)).call 20 [FV p, num x, num y] st = .ok (num (oTimes p x y)) st := by
  obtain ⟨a, b⟩ := x
  obtain ⟨c, d⟩ := y
  unfold Nm at hx hy
  unfold oTimes FV
  split
  · rename_i e
    rw [if_pos e] at hx hy
    exact f_times (k := k + 30) (hx.2.1.mono (by decide)) (hx.2.2.mono (by decide)) (hy.2.1.mono (by decide)) (hy.2.2.mono (by decide)) (by have := hx.1.1; dsimp only at this; omega) (by have := hy.1.1; dsimp only at this; omega)
  · rename_i e
    rw [if_neg e] at hx hy
    have P := F.pos e
    exact g_times (k := k + 30) (by have := P.lo; omega) ((rest_sm P hx.1).mono (by decide)) ((rest_sm P hy.1).mono (by decide))
theorem A_lplus (F : Fd p) (hW : 2 ^ 8000 ≤ W) {x y : Int × Int} (hx : Nm p x) (hy : Nm p y) : (ev (PR W) (k + 60)).call 27 [.int p, num x, num y] st = .ok (num (oPlus p x y)) st := by
  obtain ⟨a, b⟩ := x
  obtain ⟨c, d⟩ := y
  unfold Nm at hx hy
  unfold oPlus
  split
  · rename_i e
    rw [if_pos e] at hx hy
    subst e
    exact c_lplus0 (k := k + 30) (hx.2.1.mono (by decide)) (hx.2.2.mono (by decide)) (hy.2.1.mono (by decide)) (hy.2.2.mono (by decide)) (by have := hx.1.1; dsimp only at this; omega) (by have := hy.1.1; dsimp only at this; omega) hW
  · rename_i e
    have P := F.pos e
    exact c_lplusP (k := k + 30) (by have := P.lo; omega)
theorem A_ltimes (F : Fd p) (hW : 2 ^ 8000 ≤ W) {x y : Int × Int} (hx : Nm p x) (hy : Nm p y) : (ev (PR W) (k + 60)).call 28 [.int p, num x, num y] st = .ok (num (oTimes p x y)) st := by
  obtain ⟨a, b⟩ := x
  obtain ⟨c, d⟩ := y
  unfold Nm at hx hy
  unfold oTimes
  split
  · rename_i e
    rw [if_pos e] at hx hy
    subst e
    exact c_ltimes0 (k := k + 30) (hx.2.1.mono (by decide)) (hx.2.2.mono (by decide)) (hy.2.1.mono (by decide)) (hy.2.2.mono (by decide)) (by have := hx.1.1; dsimp only at this; omega) (by have := hy.1.1; dsimp only at this; omega) hW
  · rename_i e
    rw [if_neg e] at hx hy
    have P := F.pos e
    exact c_ltimesP (k := k + 30) (by have := P.lo; omega) ((rest_sm P hx.1).mono (by decide)) ((rest_sm P hy.1).mono (by decide))
theorem fnd_one {p : Int} (P : Pr p) : fnd p 1 p.toNat = 1 := by
  have := P.lo
  refine fnd_of (by decide) ?_ p.toNat (by omega) (by omega)
  rw [Int.one_mul]
  exact Int.emod_eq_of_lt (by decide) (by omega)
theorem minus_rest {p a c : Int} : (a + (-1 % p * c) % p) % p = (a - c) % p := by
  have e : (-1 % p * c) % p = (-c) % p := by
    rw [Int.mul_emod, Int.emod_emod_of_dvd _ (Int.dvd_refl p), ← Int.mul_emod]
    congr 1
    omega
  rw [e, Int.add_emod, Int.emod_emod_of_dvd _ (Int.dvd_refl p), ← Int.add_emod, Int.sub_eq_add_neg]
theorem A_lminus (F : Fd p) (hW : 2 ^ 8000 ≤ W) {x y : Int × Int} (hx : Nm p x) (hy : Nm p y) : (ev (PR W) (k + 60)).call 29 [.int p, num x, num y] st = .ok (num (oMinus p x y)) st := by
  obtain ⟨a, b⟩ := x
  obtain ⟨c, d⟩ := y
  unfold Nm at hx hy
  unfold oMinus
  split
  · rename_i e
    rw [if_pos e] at hx hy
    subst e
    exact c_lminus0 (k := k + 20) (hx.2.1.mono (by decide)) (hx.2.2.mono (by decide)) (hy.2.1.mono (by decide)) (hy.2.2.mono (by decide)) (by have := hx.1.1; dsimp only at this; omega) hy.1 hW
  · rename_i e
    rw [if_neg e] at hx hy
    have P := F.pos e
    have hp : 0 < p := by have := P.lo; omega
    have q1 := fun k => c_lmakeP (W := W) (k := k) (st := st) hp P.hi (smm1.mono (show 1 ≤ 1000 by decide)) (sm1.mono (show 1 ≤ 1000 by decide))
    rw [fnd_one P, Int.mul_one] at q1
    have q2 := fun k => c_ltimesP (W := W) (k := k) (st := st) (a := -1 % p) (b := 1) (c := c) (d := d) hp ((emod_sm hp P.hi).mono (by decide)) ((rest_sm P hy.1).mono (by decide))
    have q3 := fun k => c_lplusP (W := W) (k := k) (st := st) (a := a) (b := b) (c := (-1 % p * c) % p) (d := 1) hp
    rw [minus_rest] at q3
    rw [C_call]
    simp [stepC, df29, df27, df28, df26, D29, b29, q1, q2, q3]
end

end Lk

set_option Elab.async false
set_option linter.all false
set_option maxRecDepth 100000
set_option maxHeartbeats 1000000
namespace Lk
open PySem PySem.Spec PyProof.Rows L2 Pv
section
variable {st : Store} {env : En}
/-! ### comprehensions over what is made of a list -/
theorem compL_by {α : Type} {r : Ev} {e : Ex} {tg : Tg} {g : Store → Prop} {d : Nat} {env : En} (mk f : α → PV) {st0 : Store} (hd : st0.length = d) (hg : ∀ acc, g (st0 ++ [.lst acc])) :
    ∀ (l : List α) (acc : List PV), (∀ a ∈ l, ∃ env1, asg tg (mk a) env = some env1 ∧ ∀ acc, r.E e env1 (st0 ++ [.lst acc]) = .ok (f a) (st0 ++ [.lst acc])) → acc.length + l.length ≤ sizeLine →
      compL r e tg [] g d env (l.map mk) (st0 ++ [.lst acc]) = .ok () (st0 ++ [.lst (acc ++ l.map f)])
  | [], acc, h, hl => by simp [compL_nil (hg acc)]
  | a :: l, acc, h, hl => by
    obtain ⟨env1, h1, h2⟩ := h a (List.mem_cons_self ..)
    rw [List.map_cons, compL_cons (hg acc) h1]
    simp only [List.length_cons] at hl
    have ih := compL_by (e := e) (tg := tg) (g := g) (env := env) mk f hd hg l (acc ++ [f a]) (fun x hx => h x (List.mem_cons_of_mem _ hx)) (by simp; omega)
    simp only [tests, Res.ok_bind, if_true, h2, push_at hd (show acc.length < sizeLine by omega)]
    rw [ih]
    simp
theorem comp_by {α : Type} {r : Ev} {e : Ex} {tg : Tg} {kk : Ik} {its : List Ex} {vs : List PV} {l : List α} {g : Store → Prop} (mk f : α → PV) (hi : evL r its env st = .ok vs st) (hw : walk kk vs st = some (l.map mk, g)) (hg : ∀ acc, g (st ++ [.lst acc]))
    (he : ∀ a ∈ l, ∃ env1, asg tg (mk a) (wipeE env (slots tg)) = some env1 ∧ ∀ acc, r.E e env1 (st ++ [.lst acc]) = .ok (f a) (st ++ [.lst acc])) (hl : l.length ≤ sizeLine) (hz : ∀ ff, frzL ff (l.map f) = some (l.map f)) :
    comp r false e tg kk its [] env st = .ok (.lst (l.map f)) st := by
  unfold comp
  rw [hi, Res.ok_bind, hw]
  dsimp only
  rw [compL_by mk f rfl hg l [] he (by simpa using hl)]
  simp only [Res.ok_bind, List.nil_append, Bool.false_eq_true, if_false]
  exact done_list hz
/-- .. where each item may change what stood before -/
theorem compL_inv {α ι : Type} {r : ι → Ev} {e : Ex} {tg : Tg} {g : Store → Prop} {d : Nat} {env : En} (mk : α → PV) (J : Nat → List PV → Store → Prop) (hg : ∀ i acc s, J i acc s → s.length = d ∧ g (s ++ [.lst acc])) :
    ∀ (l : List α) (i : Nat) (acc : List PV) (s : Store), J i acc s → (∀ (j : Nat) (a : α) acc s, l[j]? = some a → J (i + j) acc s → ∃ env1 y s', asg tg (mk a) env = some env1 ∧ (∀ k, (r k).E e env1 (s ++ [.lst acc]) = .ok y (s' ++ [.lst acc])) ∧ J (i + j + 1) (acc ++ [y]) s') → acc.length + l.length ≤ sizeLine →
      ∃ acc' s', (∀ k, compL (r k) e tg [] g d env (l.map mk) (s ++ [.lst acc]) = .ok () (s' ++ [.lst acc'])) ∧ J (i + l.length) acc' s'
  | [], i, acc, s, hj, h, hl => ⟨acc, s, fun k => by simp [compL_nil (hg i acc s hj).2], hj⟩
  | a :: l, i, acc, s, hj, h, hl => by
    obtain ⟨env1, y, s1, h1, h2, h3⟩ := h 0 a acc s rfl hj
    simp only [List.length_cons] at hl
    have hd : s1.length = d := (hg _ _ _ h3).1
    obtain ⟨acc', s', h4, h5⟩ := compL_inv (r := r) (e := e) (tg := tg) (g := g) (env := env) mk J hg l (i + 1) (acc ++ [y]) s1 h3 (fun j b acc s e hj => by
      have := h (j + 1) b acc s (by simpa using e) (by rw [show i + (j + 1) = i + 1 + j by omega]; exact hj)
      rw [show i + (j + 1) + 1 = i + 1 + j + 1 by omega] at this
      exact this) (by simp; omega)
    refine ⟨acc', s', fun k => ?_, by rw [List.length_cons, show i + (l.length + 1) = i + 1 + l.length by omega]; exact h5⟩
    rw [List.map_cons, compL_cons (hg i acc s hj).2 h1]
    simp only [tests, Res.ok_bind, if_true, h2, push_at hd (show acc.length < sizeLine by omega)]
    exact h4 k
/-- what a comprehension lays is let go; of what stood before a thing at n may have changed -/
theorem done_at {st s : Store} {n : Nat} {o : SO} {ys : List PV} (hs : s = st.set n o) (ho : oldO st.length o = true) (hz : ∀ f, frzL f ys = some ys) : done st false (.ref st.length) (s ++ [.lst ys]) = .ok (.lst ys) s := by
  have ln : s.length = st.length := by rw [hs]; simp
  have h : frz (onRef (s ++ [SO.lst ys]) st.length (s ++ [SO.lst ys]).length 3) (.ref st.length) = some (.lst ys) := by
    unfold frz
    show onRef _ _ _ 3 _ = _
    unfold onRef
    rw [if_neg (Nat.lt_irrefl _), if_neg (by simp [ln]), ← ln, List.getElem?_append_right (Nat.le_refl _)]
    simp [hz]
  have ok : OldOk st (s ++ [SO.lst ys]) := by
    refine ⟨by simp [ln], fun i hi => ?_⟩
    rw [List.getElem?_append_left (by rw [ln]; exact hi), hs]
    by_cases e : n = i
    · subst e
      refine .inr fun o' e' => ?_
      rw [List.getElem?_set_self hi] at e'
      cases e'
      exact ho
    · rw [List.getElem?_set_ne e]
      exact .inl rfl
  have := done_new (mu := false) (v := .ref st.length) (w := .lst ys) (st := st) (st' := s ++ [.lst ys]) (by simp [ln]) ok (.inl rfl) h
  rw [this, ← ln, List.take_left']
  rfl
theorem walk_zip {v w : PV} {b c : Bool} {xs ys : List PV} (hv : seqOf st v = some (b, xs)) (hw : seqOf st w = some (c, ys)) :
    walk .zip2 [v, w] st = some ((xs.zip ys).map fun p => .tup [p.1, p.2], fun st' => seqOf st' v = some (b, xs) ∧ seqOf st' w = some (c, ys)) := by
  unfold walk
  dsimp only
  rw [hv, hw]
end
/-! ### numbers with sizes -/
def Nb (p : Int) (e : Nat) (x : Int × Int) : Prop := if p = 0 then Low x ∧ Sm e x.1 ∧ Sm e x.2 else (0 ≤ x.1 ∧ x.1 < p) ∧ x.2 = 1
theorem Nb.mono {p : Int} {a b : Nat} {x : Int × Int} (h : Nb p a x) (l : a ≤ b) : Nb p b x := by
  unfold Nb at h ⊢
  split
  · rename_i e
    rw [if_pos e] at h
    exact ⟨h.1, h.2.1.mono l, h.2.2.mono l⟩
  · rename_i e
    rw [if_neg e] at h
    exact h
theorem Nb.nm {p : Int} {a : Nat} {x : Int × Int} (h : Nb p a x) (l : a ≤ 100) : Nm p x := h.mono l
section
variable {p : Int} {a b : Nat} {x y : Int × Int}
theorem Nb.plus (F : Fd p) (hx : Nb p a x) (hy : Nb p b y) : Nb p (a + b + 1) (oPlus p x y) := by
  unfold Nb at hx hy ⊢
  unfold oPlus
  by_cases e : p = 0
  · simp only [if_pos e] at hx hy ⊢
    have hx2 := hx.1.1
    have hy2 := hy.1.1
    have h0 : x.2 * y.2 ≠ 0 := Int.mul_ne_zero (by omega) (by omega)
    have := rdc_sm (e := a + b + 1) h0 (Sm.add (a := a + b) (hx.2.1.mul hy.2.2) (by have := hy.2.1.mul hx.2.2; rw [Nat.add_comm] at this; exact this)) ((hx.2.2.mul hy.2.2).mono (Nat.le_succ _))
    exact ⟨rdc_low h0, this⟩
  · simp only [if_neg e] at hx hy ⊢
    exact ⟨em (F.pos e), trivial⟩
theorem Nb.minus (F : Fd p) (hx : Nb p a x) (hy : Nb p b y) : Nb p (a + b + 1) (oMinus p x y) := by
  unfold Nb at hx hy ⊢
  unfold oMinus
  by_cases e : p = 0
  · simp only [if_pos e] at hx hy ⊢
    have hx2 := hx.1.1
    have hy2 := hy.1.1
    have h0 : x.2 * y.2 ≠ 0 := Int.mul_ne_zero (by omega) (by omega)
    have := rdc_sm (e := a + b + 1) h0 (Sm.sub (a := a + b) (hx.2.1.mul hy.2.2) (by have := hy.2.1.mul hx.2.2; rw [Nat.add_comm] at this; exact this)) ((hx.2.2.mul hy.2.2).mono (Nat.le_succ _))
    exact ⟨rdc_low h0, this⟩
  · simp only [if_neg e] at hx hy ⊢
    exact ⟨em (F.pos e), trivial⟩
theorem Nb.times (F : Fd p) (hx : Nb p a x) (hy : Nb p b y) : Nb p (a + b) (oTimes p x y) := by
  unfold Nb at hx hy ⊢
  unfold oTimes
  by_cases e : p = 0
  · simp only [if_pos e] at hx hy ⊢
    have hx2 := hx.1.1
    have hy2 := hy.1.1
    have h0 : x.2 * y.2 ≠ 0 := Int.mul_ne_zero (by omega) (by omega)
    exact ⟨rdc_low h0, rdc_sm h0 (hx.2.1.mul hy.2.1) (hx.2.2.mul hy.2.2)⟩
  · simp only [if_neg e] at hx hy ⊢
    exact ⟨em (F.pos e), trivial⟩
theorem nb0 (F : Fd p) : Nb p 1 (0, 1) := by
  unfold Nb
  by_cases e : p = 0
  · rw [if_pos e]
    exact ⟨⟨by decide, by decide⟩, by unfold Sm; decide, by unfold Sm; decide⟩
  · rw [if_neg e]
    have := (F.pos e).lo
    exact ⟨⟨by decide, by dsimp only; omega⟩, rfl⟩
/-- nothing added -/
theorem plus_zero (F : Fd p) (hx : Nb p a x) (hy : Nb p b y) {t : Int × Int} {c : Nat} (ht : Nb p c t) (h : x.1 = 0 ∨ y.1 = 0) : oPlus p t (oTimes p x y) = t := by
  unfold Nb at ht hx hy
  unfold oPlus oTimes
  have hz : x.1 * y.1 = 0 := by
    rcases h with h | h
    · rw [h, Int.zero_mul]
    · rw [h, Int.mul_zero]
  by_cases e : p = 0
  · simp only [if_pos e] at ht hx hy ⊢
    have hx2 := hx.1.1
    have hy2 := hy.1.1
    have h0 : x.2 * y.2 ≠ 0 := Int.mul_ne_zero (by omega) (by omega)
    have hp : 0 < x.2 * y.2 := Int.mul_pos (by omega) (by omega)
    have er : rdc (x.1 * y.1) (x.2 * y.2) = (0, 1) := by
      rw [hz]
      have g0 : gc 0 (x.2 * y.2) = x.2 * y.2 := by
        unfold gc
        simp
        omega
      unfold rdc
      rw [if_neg (by omega), g0]
      simp [Int.ediv_self h0]
    rw [er]
    simp only [Int.mul_one, Int.zero_mul, Int.add_zero]
    exact rdc_self ht.1
  · simp only [if_neg e] at ht hx hy ⊢
    rw [hz, Int.zero_emod, Int.add_zero, Int.emod_eq_of_lt ht.1.1 ht.1.2, ← ht.2]
end
end Lk

set_option Elab.async false
set_option linter.all false
set_option maxRecDepth 100000
set_option maxHeartbeats 1000000
namespace Lk
open PySem PySem.Spec PyProof.Rows L2 Pv
abbrev Nu := Int × Int
/-- a row; a row as a list or a tuple -/
def rowP (r : List Nu) : PV := .tup (r.map num)
def rowB (b : Bool) (r : List Nu) : PV := if b then .tup (r.map num) else .lst (r.map num)
@[simp] theorem seq_rowB (st : Store) (b : Bool) (r : List Nu) : seqOf st (rowB b r) = some (b, r.map num) := by cases b <;> rfl
@[simp] theorem seq_rowP (st : Store) (r : List Nu) : seqOf st (rowP r) = some (true, r.map num) := rfl
theorem frz_num (f : Nat → Option PV) (x : Nu) : frz f (num x) = some (num x) := rfl
theorem frzL_num {α : Type} (f : Nat → Option PV) (g : α → Nu) : ∀ l : List α, frzL f (l.map fun a => num (g a)) = some (l.map fun a => num (g a))
  | [] => rfl
  | a :: l => by
    rw [List.map_cons]
    unfold frzL
    rw [frz_num, frzL_num f g l]
theorem frzL_nums (f : Nat → Option PV) (r : List Nu) : frzL f (r.map num) = some (r.map num) := frzL_num f id r
theorem frz_row (f : Nat → Option PV) (r : List Nu) : frz f (rowP r) = some (rowP r) := by
  unfold rowP frz
  rw [frzL_nums]
theorem frzL_row {α : Type} (f : Nat → Option PV) (g : α → List Nu) : ∀ l : List α, frzL f (l.map fun a => rowP (g a)) = some (l.map fun a => rowP (g a))
  | [] => rfl
  | a :: l => by
    rw [List.map_cons]
    unfold frzL
    rw [frz_row, frzL_row f g l]
section
variable {W k : Nat} {st : Store} {p : Int}
theorem df5 : (PR W).df[5]? = some D5 := rfl
theorem df6 : (PR W).df[6]? = some D6 := rfl
theorem df7 : (PR W).df[7]? = some D7 := rfl
theorem df8 : (PR W).df[8]? = some D8 := rfl
theorem df9 : (PR W).df[9]? = some D9 := rfl
theorem df10 : (PR W).df[10]? = some D10 := rfl
theorem df11 : (PR W).df[11]? = some D11 := rfl
theorem df12 : (PR W).df[12]? = some D12 := rfl
theorem df13 : (PR W).df[13]? = some D13 := rfl
theorem df14 : (PR W).df[14]? = some D14 := rfl
theorem df15 : (PR W).df[15]? = some D15 := rfl
theorem df16 : (PR W).df[16]? = some D16 := rfl
@[simp] theorem pad5 (x : PV) : pad D5 [x] = [x] := rfl
@[simp] theorem pad6 (x y : PV) : pad D6 [x, y] = [x, y] := rfl
@[simp] theorem pad7 (x : PV) : pad D7 [x] = [x] := rfl
@[simp] theorem pad8 (x y z : PV) : pad D8 [x, y, z] = [x, y, z] := rfl
@[simp] theorem pad9 (x y z : PV) : pad D9 [x, y, z] = [x, y, z] := rfl
@[simp] theorem pad10 (x y z : PV) : pad D10 [x, y, z] = [x, y, z] := rfl
@[simp] theorem pad11 (x y z : PV) : pad D11 [x, y, z] = [x, y, z] := rfl
@[simp] theorem pad12 (x y z : PV) : pad D12 [x, y, z] = [x, y, z] := rfl
@[simp] theorem pad13_3 (x y z : PV) : pad D13 [x, y, z] = [x, y, z, .non] := rfl
@[simp] theorem pad13_4 (x y z u : PV) : pad D13 [x, y, z, u] = [x, y, z, u] := rfl
@[simp] theorem pad14 (x y z : PV) : pad D14 [x, y, z] = [x, y, z] := rfl
@[simp] theorem pad15 (x y z : PV) : pad D15 [x, y, z] = [x, y, z] := rfl
@[simp] theorem pad16 (x : PV) : pad D16 [x] = [x] := rfl
theorem gl0 : (PR W).gl[0]? = some (num (0, 1)) := rfl
theorem gl1 : (PR W).gl[1]? = some (num (1, 1)) := rfl
/-- a row of zeros -/
def zeroR (w : Nat) : List Nu := List.replicate w (0, 1)
theorem c_zero {w : Nat} (h : w ≤ 1000) : (ev (PR W) (k + 10)).call 5 [.int w] st = .ok (rowP (zeroR w)) st := by
  rw [C_call]
  have e : bin2 .mul (.tup [num (0, 1)]) (.int w) st = .ok (rowP (zeroR w)) st := by
    show (if 0 ≤ (w : Int) ∧ (w : Int) ≤ 1000 ∧ [num (0, 1)].length ≤ 1000 then _ else _) = _
    rw [if_pos ⟨by omega, by omega, by simp⟩]
    congr 2
    rw [Int.toNat_natCast]
    unfold zeroR
    rw [List.map_replicate]
    induction w with
    | zero => rfl
    | succ n ih => rw [List.replicate_succ, List.replicate_succ, List.flatten_cons, ih (by omega)]; rfl
  simp [stepC, df5, D5, b5, gl0, e]
def unitR (w j : Nat) : List Nu := (List.range w).map fun i => if i = j then (1, 1) else (0, 1)
theorem range_ok {w : Nat} (h : w ≤ 1000) : walk .rng1 [.int w] st = some ((List.range w).map fun (i : Nat) => PV.int i, fun _ => True) := by
  have := walk_rng1 (st := st) (j := w) (by omega) (by omega)
  rw [Int.toNat_natCast] at this
  exact this
theorem ln1000 {n : Nat} (h : n ≤ 1000) : n ≤ sizeLine := Nat.le_trans h (by decide)
theorem c_unit {w j : Nat} (h : w ≤ 1000) : (ev (PR W) (k + 20)).call 6 [.int w, .int j] st = .ok (rowP (unitR w j)) st := by
  rw [C_call]
  have c : ∀ k, comp (ev (PR W) (k + 6)) false (.ite (.cmp .eq (.v 2) (.v 1)) (.g 1) (.g 0)) (.n 2) .rng1 [.v 0] [] [some (.int w), some (.int j), none] st = .ok (.lst ((List.range w).map fun i => num (if i = j then (1, 1) else (0, 1)))) st := fun k => by
    refine comp_by (fun i : Nat => PV.int i) (fun i => num (if i = j then (1, 1) else (0, 1))) (vs := [.int w]) (by simp) (range_ok h) (fun _ => trivial) (fun i _ => ⟨_, rfl, fun acc => ?_⟩) (by simpa using ln1000 h) fun ff => frzL_num ff _ _
    by_cases e : i = j
    · subst e
      simp [wipeE, slots, gl1]
    · have : ¬ ((i : Int) = (j : Int)) := by omega
      simp [wipeE, slots, gl0, e, this]
  have e : rowP (unitR w j) = .tup ((List.range w).map fun i => num (if i = j then (1, 1) else (0, 1))) := by
    unfold rowP unitR
    rw [List.map_map]
    rfl
  rw [e]
  simp [stepC, df6, D6, b6, E_comp, c, biF]
/-! ### rows -/
theorem mul1 {n : Nat} (h : n ≤ 1000) : n ≤ sizeLine := ln1000 h
/-- f over two rows, place by place -/
def zipR (f : Nu → Nu → Nu) (x y : List Nu) : List Nu := (x.zip y).map fun z => f z.1 z.2
theorem zip_num (x y : List Nu) : ((x.map num).zip (y.map num)).map (fun q : PV × PV => PV.tup [q.1, q.2]) = (x.zip y).map fun z => PV.tup [num z.1, num z.2] := by
  rw [List.zip_map, List.map_map]
  rfl
theorem row_zip (f : Nu → Nu → Nu) (x y : List Nu) : rowP (zipR f x y) = .tup ((x.zip y).map fun z => num (f z.1 z.2)) := by
  unfold rowP zipR
  rw [List.map_map]
  rfl
theorem FV_fld : ∃ v i, FV p = fld v i := by
  unfold FV
  split
  · exact ⟨_, _, rfl⟩
  · exact ⟨_, _, rfl⟩
theorem A_rplus (F : Fd p) {x y : List Nu} {b c : Bool} (hx : ∀ z ∈ x, Nm p z) (hy : ∀ z ∈ y, Nm p z) (hl : x.length ≤ 1000) : (ev (PR W) (k + 80)).call 8 [FV p, rowB b x, rowB c y] st = .ok (rowP (zipR (oPlus p) x y)) st := by
  rw [C_call]
  have cc : ∀ k, comp (ev (PR W) (k + 70)) false (.meth (.v 0) "plus" [(.v 3), (.v 4)]) (.t [(.n 3), (.n 4)]) .zip2 [(.v 1), (.v 2)] [] [some (FV p), some (rowB b x), some (rowB c y), none, none] st = .ok (.lst ((x.zip y).map fun z => num (oPlus p z.1 z.2))) st := fun k => by
    have hw := walk_zip (seq_rowB st b x) (seq_rowB st c y)
    rw [zip_num] at hw
    refine comp_by (fun z : Nu × Nu => PV.tup [num z.1, num z.2]) (fun z => num (oPlus p z.1 z.2)) (vs := [rowB b x, rowB c y]) (by simp) hw (fun _ => ⟨seq_rowB _ b x, seq_rowB _ c y⟩) (fun z hz => ⟨_, rfl, fun acc => ?_⟩) (by rw [List.length_zip]; exact Nat.le_trans (Nat.min_le_left _ _) (ln1000 hl)) fun ff => frzL_num ff _ _
    obtain ⟨h1, h2⟩ := List.of_mem_zip hz
    have a := fun k => A_plus (W := W) (k := k) (st := st ++ [.lst acc]) F (hx _ h1) (hy _ h2)
    obtain ⟨v, is, e⟩ := FV_fld (p := p)
    simp only [e] at a ⊢
    simp [wipeE, slots, slotss, df18, a]
  rw [row_zip]
  simp [stepC, df8, D8, b8, E_comp, cc, biF]
end
end Lk

set_option Elab.async false
set_option linter.all false
set_option maxRecDepth 100000
set_option maxHeartbeats 1000000
namespace Lk
open PySem PySem.Spec PyProof.Rows L2 Pv
@[local simp] theorem wn_5 (env : En) : wipeE env [] = env := rfl
@[local simp] theorem wc_5 (env : En) (v : Nat) (vs : List Nat) : wipeE env (v :: vs) = (wipeE env vs).set v none := rfl
@[local simp] theorem sn_5 (i : Nat) : slots (.n i) = [i] := rfl
@[local simp] theorem st_5 (ts : List Tg) : slots (.t ts) = slotss ts := rfl
@[local simp] theorem sl_5 : slotss [] = [] := rfl
@[local simp] theorem sc_5 (t : Tg) (ts : List Tg) : slotss (t :: ts) = slots t ++ slotss ts := rfl
section
variable {W k : Nat} {st : Store} {p : Int}
theorem A_rminus (F : Fd p) {x y : List Nu} {b c : Bool} (hx : ∀ z ∈ x, Nm p z) (hy : ∀ z ∈ y, Nm p z) (hl : x.length ≤ 1000) : (ev (PR W) (k + 80)).call 9 [FV p, rowB b x, rowB c y] st = .ok (rowP (zipR (oMinus p) x y)) st := by
  rw [C_call]
  have cc : ∀ k, comp (ev (PR W) (k + 70)) false (.meth (.v 0) "minus" [(.v 3), (.v 4)]) (.t [(.n 3), (.n 4)]) .zip2 [(.v 1), (.v 2)] [] [some (FV p), some (rowB b x), some (rowB c y), none, none] st = .ok (.lst ((x.zip y).map fun z => num (oMinus p z.1 z.2))) st := fun k => by
    have hw := walk_zip (seq_rowB st b x) (seq_rowB st c y)
    rw [zip_num] at hw
    refine comp_by (fun z : Nu × Nu => PV.tup [num z.1, num z.2]) (fun z => num (oMinus p z.1 z.2)) (vs := [rowB b x, rowB c y]) (by simp) hw (fun _ => ⟨seq_rowB _ b x, seq_rowB _ c y⟩) (fun z hz => ⟨_, rfl, fun acc => ?_⟩) (by rw [List.length_zip]; exact Nat.le_trans (Nat.min_le_left _ _) (ln1000 hl)) fun ff => frzL_num ff _ _
    obtain ⟨h1, h2⟩ := List.of_mem_zip hz
    have a := fun k => A_minus (W := W) (k := k) (st := st ++ [.lst acc]) F (hx _ h1) (hy _ h2)
    obtain ⟨v, is, e⟩ := FV_fld (p := p)
    simp only [e] at a ⊢
    simp [df19, a]
  rw [row_zip]
  simp [stepC, df9, D9, b9, E_comp, cc, biF]
theorem walk_row (b : Bool) (x : List Nu) : walk .seq [rowB b x] st = some (x.map num, fun st' => seqOf st' (rowB b x) = some (b, x.map num)) := by
  unfold walk
  dsimp only
  rw [seq_rowB]
theorem A_rtimes (F : Fd p) {n : Nu} {x : List Nu} {b : Bool} (hn : Nm p n) (hx : ∀ z ∈ x, Nm p z) (hl : x.length ≤ 1000) : (ev (PR W) (k + 80)).call 10 [FV p, num n, rowB b x] st = .ok (rowP (x.map (oTimes p n))) st := by
  rw [C_call]
  have cc : ∀ k, comp (ev (PR W) (k + 70)) false (.meth (.v 0) "times" [(.v 1), (.v 3)]) (.n 3) .seq [(.v 2)] [] [some (FV p), some (num n), some (rowB b x), none] st = .ok (.lst (x.map fun z => num (oTimes p n z))) st := fun k => by
    refine comp_by num (fun z => num (oTimes p n z)) (vs := [rowB b x]) (by simp) (walk_row b x) (fun _ => seq_rowB _ b x) (fun z hz => ⟨_, rfl, fun acc => ?_⟩) (ln1000 hl) fun ff => frzL_num ff _ _
    have a := fun k => A_times (W := W) (k := k) (st := st ++ [.lst acc]) F hn (hx _ hz)
    obtain ⟨v, is, e⟩ := FV_fld (p := p)
    simp only [e] at a ⊢
    simp [df20, a]
  have e : rowP (x.map (oTimes p n)) = .tup (x.map fun z => num (oTimes p n z)) := by
    unfold rowP
    rw [List.map_map]
    rfl
  rw [e]
  simp [stepC, df10, D10, b10, E_comp, cc, biF]
/-- a sum of products -/
def oDot (p : Int) (l : List (Nu × Nu)) (t : Nu) : Nu := l.foldl (fun t z => oPlus p t (oTimes p z.1 z.2)) t
theorem oDot_nb (F : Fd p) : ∀ (l : List (Nu × Nu)) (t : Nu) (e : Nat), Nb p e t → (∀ z ∈ l, Nb p 2 z.1 ∧ Nb p 2 z.2) → Nb p (e + 5 * l.length) (oDot p l t)
  | [], t, e, h, _ => h
  | z :: l, t, e, h, hl => by
    have hz := hl z (List.mem_cons_self ..)
    have := oDot_nb F l (oPlus p t (oTimes p z.1 z.2)) (e + (2 + 2) + 1) (h.plus F (hz.1.times F hz.2)) fun y hy => hl y (List.mem_cons_of_mem _ hy)
    rw [List.length_cons]
    exact this.mono (by omega)
theorem A_dot (F : Fd p) {x y : List Nu} {b c : Bool} (hx : ∀ z ∈ x, Nb p 2 z) (hy : ∀ z ∈ y, Nb p 2 z) (hl : x.length ≤ 8) : (ev (PR W) (k + 80)).call 11 [FV p, rowB b x, rowB c y] st = .ok (num (oDot p (x.zip y) (0, 1))) st := by
  have hw := walk_zip (seq_rowB st b x) (seq_rowB st c y)
  rw [zip_num] at hw
  have ll : (x.zip y).length ≤ 8 := by rw [List.length_zip]; exact Nat.le_trans (Nat.min_le_left _ _) hl
  have key : ∀ (k : Nat), ∃ env' st', forL (ev (PR W) (k + 70)) (.t [(.n 4), (.n 5)]) [.set (.n 3) (.meth (.v 0) "plus" [(.v 3), (.meth (.v 0) "times" [(.v 4), (.v 5)])])] (fun _ => True) ((x.zip y).map fun z => PV.tup [num z.1, num z.2]) [some (FV p), some (rowB b x), some (rowB c y), some (num (0, 1)), none, none] st = .ok (.nx, env') st' ∧
      (st' = st ∧ ∃ u v, env' = [some (FV p), some (rowB b x), some (rowB c y), some (num (oDot p ((x.zip y).take ((x.zip y).map fun z => PV.tup [num z.1, num z.2]).length) (0, 1))), u, v]) := fun k =>
    for_inv (fun i env s => s = st ∧ ∃ u v, env = [some (FV p), some (rowB b x), some (rowB c y), some (num (oDot p ((x.zip y).take i) (0, 1))), u, v]) ⟨rfl, none, none, rfl⟩ (fun _ _ _ _ _ => trivial) (fun i z env s hz ⟨hs, u, v, he⟩ => by
      subst hs he
      rw [List.getElem?_map] at hz
      cases e : (x.zip y)[i]? with
      | none => rw [e] at hz; cases hz
      | some q =>
        rw [e] at hz
        cases hz
        have hm := List.mem_of_getElem? e
        obtain ⟨h1, h2⟩ := List.of_mem_zip hm
        have nt := oDot_nb F ((x.zip y).take i) (0, 1) 1 (nb0 F) fun z hz => by
          obtain ⟨h1, h2⟩ := List.of_mem_zip (List.mem_of_mem_take hz)
          exact ⟨hx _ h1, hy _ h2⟩
        have nl : ((x.zip y).take i).length ≤ 8 := Nat.le_trans (by rw [List.length_take]; exact Nat.min_le_right _ _) ll
        have a1 := fun k => A_times (W := W) (k := k) (st := s) F ((hx _ h1).nm (by decide)) ((hy _ h2).nm (by decide))
        have a2 := fun k => A_plus (W := W) (k := k) (st := s) F (nt.nm (by omega)) (((hx _ h1).times F (hy _ h2)).nm (by decide))
        refine ⟨_, rfl, [some (FV p), some (rowB b x), some (rowB c y), some (num (oDot p ((x.zip y).take (i + 1)) (0, 1))), some (num q.1), some (num q.2)], s, .inl ?_, rfl, _, _, rfl⟩
        have et : oDot p ((x.zip y).take (i + 1)) (0, 1) = oPlus p (oDot p ((x.zip y).take i) (0, 1)) (oTimes p q.1 q.2) := by
          unfold oDot
          rw [List.take_add_one, e, List.foldl_append]
          rfl
        rw [et]
        generalize oDot p ((x.zip y).take i) (0, 1) = t at a2 ⊢
        obtain ⟨v, is, e⟩ := FV_fld (p := p)
        simp only [e] at a1 a2 ⊢
        simp [df18, df20, a1, a2, asg])
  rw [C_call]
  obtain ⟨env', st', e, rfl, u, v, rfl⟩ := key k
  have key' : ∀ k, ∃ u v, forL (ev (PR W) (k + 70)) (.t [(.n 4), (.n 5)]) [.set (.n 3) (.meth (.v 0) "plus" [(.v 3), (.meth (.v 0) "times" [(.v 4), (.v 5)])])] (fun _ => True) ((x.zip y).map fun z => PV.tup [num z.1, num z.2]) [some (FV p), some (rowB b x), some (rowB c y), some (num (0, 1)), none, none] st' = .ok (.nx, [some (FV p), some (rowB b x), some (rowB c y), some (num (oDot p (x.zip y) (0, 1))), u, v]) st' := fun k => by
    obtain ⟨env2, st2, e, rfl, u, v, rfl⟩ := key k
    rw [List.length_map, List.take_length] at e
    exact ⟨u, v, e⟩
  obtain ⟨u, v, e⟩ := key' (k + 8)
  simp [stepC, df11, D11, b11, gl0, S_for, hw, e, asg]
end
end Lk

set_option Elab.async false
set_option linter.all false
set_option maxRecDepth 100000
set_option maxHeartbeats 1000000
namespace Lk
open PySem PySem.Spec PyProof.Rows L2 Pv
@[local simp] theorem wn_6 (env : En) : wipeE env [] = env := rfl
@[local simp] theorem wc_6 (env : En) (v : Nat) (vs : List Nat) : wipeE env (v :: vs) = (wipeE env vs).set v none := rfl
@[local simp] theorem sn_6 (i : Nat) : slots (.n i) = [i] := rfl
@[local simp] theorem st_6 (ts : List Tg) : slots (.t ts) = slotss ts := rfl
@[local simp] theorem sl_6 : slotss [] = [] := rfl
@[local simp] theorem sc_6 (t : Tg) (ts : List Tg) : slotss (t :: ts) = slots t ++ slotss ts := rfl
/-- a table: a list or a tuple of rows, each a list or a tuple -/
abbrev Tb := List (Bool × List Nu)
def rowsP (T : Tb) : List PV := T.map fun z => rowB z.1 z.2
def tabB (c : Bool) (T : Tb) : PV := if c then .tup (rowsP T) else .lst (rowsP T)
section
variable {W k : Nat} {st : Store} {p : Int}
@[simp] theorem seq_tabB (st : Store) (c : Bool) (T : Tb) : seqOf st (tabB c T) = some (c, rowsP T) := by cases c <;> rfl
theorem walk_tab (c : Bool) (T : Tb) : walk .seq [tabB c T] st = some (T.map (fun z => rowB z.1 z.2), fun st' => seqOf st' (tabB c T) = some (c, rowsP T)) := by
  unfold walk
  dsimp only
  rw [seq_tabB]
  rfl
theorem tup_nums {α : Type} (l : List α) (f : α → Nu) : rowP (l.map f) = .tup (l.map fun a => num (f a)) := by
  unfold rowP
  rw [List.map_map]
  rfl
theorem A_trow (F : Fd p) {T : Tb} {y : List Nu} {b c : Bool} (hT : ∀ r ∈ T, r.2.length ≤ 8 ∧ ∀ z ∈ r.2, Nb p 2 z) (hy : ∀ z ∈ y, Nb p 2 z) (hl : T.length ≤ 1000) :
    (ev (PR W) (k + 100)).call 12 [FV p, tabB b T, rowB c y] st = .ok (rowP (T.map fun r => oDot p (r.2.zip y) (0, 1))) st := by
  rw [C_call, tup_nums]
  have cc : ∀ k, comp (ev (PR W) (k + 90)) false (.call 11 [(.v 0), (.v 3), (.v 2)]) (.n 3) .seq [(.v 1)] [] [some (FV p), some (tabB b T), some (rowB c y), none] st = .ok (.lst (T.map fun r => num (oDot p (r.2.zip y) (0, 1)))) st := fun k => by
    refine comp_by (fun z : Bool × List Nu => rowB z.1 z.2) (fun r => num (oDot p (r.2.zip y) (0, 1))) (vs := [tabB b T]) (by simp) (walk_tab b T) (fun _ => seq_tabB _ b T) (fun z hz => ⟨_, rfl, fun acc => ?_⟩) (ln1000 hl) fun ff => frzL_num ff _ _
    have a := fun k => A_dot (W := W) (k := k) (st := st ++ [.lst acc]) (b := z.1) (c := c) F (hT z hz).2 hy (hT z hz).1
    simp [df11, a]
  simp [stepC, df12, D12, b12, E_comp, cc, biF]
/-- rows, each times its number, added -/
def oTot (p : Int) (l : List (Nu × List Nu)) (t : List Nu) : List Nu := l.foldl (fun t z => zipR (oPlus p) t (z.2.map (oTimes p z.1))) t
theorem zipR_len {f : Nu → Nu → Nu} {x y : List Nu} (h : x.length = y.length) : (zipR f x y).length = x.length := by
  unfold zipR
  rw [List.length_map, List.length_zip, ← h, Nat.min_self]
theorem zipR_mem {f : Nu → Nu → Nu} {x y : List Nu} {P : Nu → Prop} (h : ∀ a ∈ x, ∀ b ∈ y, P (f a b)) : ∀ z ∈ zipR f x y, P z := by
  intro z hz
  unfold zipR at hz
  rw [List.mem_map] at hz
  obtain ⟨q, hq, rfl⟩ := hz
  obtain ⟨h1, h2⟩ := List.of_mem_zip hq
  exact h _ h1 _ h2
theorem oTot_nb (F : Fd p) (w : Nat) : ∀ (l : List (Nu × List Nu)) (t : List Nu) (e : Nat), t.length = w → (∀ z ∈ t, Nb p e z) → (∀ z ∈ l, Nb p 2 z.1 ∧ z.2.length = w ∧ ∀ y ∈ z.2, Nb p 2 y) → (oTot p l t).length = w ∧ ∀ z ∈ oTot p l t, Nb p (e + 5 * l.length) z
  | [], t, e, h0, h, _ => ⟨h0, h⟩
  | z :: l, t, e, h0, h, hl => by
    obtain ⟨h1, h2, h3⟩ := hl z (List.mem_cons_self ..)
    have n1 : (z.2.map (oTimes p z.1)).length = w := by rw [List.length_map]; exact h2
    have := oTot_nb F w l (zipR (oPlus p) t (z.2.map (oTimes p z.1))) (e + (2 + 2) + 1) (by rw [zipR_len (h0.trans n1.symm)]; exact h0) (zipR_mem fun a ha b hb => by
      rw [List.mem_map] at hb
      obtain ⟨y, hy, rfl⟩ := hb
      exact (h a ha).plus F (h1.times F (h3 y hy))) fun y hy => hl y (List.mem_cons_of_mem _ hy)
    rw [List.length_cons]
    exact ⟨this.1, fun y hy => (this.2 y hy).mono (by omega)⟩
theorem nums_zip (x : List Nu) (T : Tb) : ((x.map num).zip (rowsP T)).map (fun q : PV × PV => PV.tup [q.1, q.2]) = (x.zip T).map fun z => PV.tup [num z.1, rowB z.2.1 z.2.2] := by
  unfold rowsP
  rw [List.zip_map, List.map_map]
  rfl
theorem row_b (r : List Nu) : rowP r = rowB true r := rfl
theorem A_rtab (F : Fd p) {T : Tb} {x : List Nu} {b c : Bool} {w : Nat} {wv : PV} (hx : ∀ z ∈ x, Nb p 2 z) (hT : ∀ r ∈ T, r.2.length = w ∧ ∀ z ∈ r.2, Nb p 2 z) (hw : w ≤ 8) (hl : x.length ≤ 8) (hv : wv = .int w ∨ (wv = .non ∧ T ≠ [])) :
    (ev (PR W) (k + 120)).call 13 [FV p, rowB b x, tabB c T, wv] st = .ok (rowP (oTot p (x.zip (T.map (·.2))) (zeroR w))) st := by
  have hwk := walk_zip (seq_rowB st b x) (seq_tabB st c T)
  rw [nums_zip] at hwk
  have ll : (x.zip T).length ≤ 8 := by rw [List.length_zip]; exact Nat.le_trans (Nat.min_le_left _ _) hl
  have zm : x.zip (T.map (·.2)) = (x.zip T).map fun z => (z.1, z.2.2) := by
    rw [List.zip_map_right]
    rfl
  have key : ∀ (k : Nat), ∃ env' st', forL (ev (PR W) (k + 100)) (.t [(.n 5), (.n 6)]) [.set (.n 4) (.call 8 [(.v 0), (.v 4), (.call 10 [(.v 0), (.v 5), (.v 6)])])] (fun _ => True) ((x.zip T).map fun z => PV.tup [num z.1, rowB z.2.1 z.2.2]) [some (FV p), some (rowB b x), some (tabB c T), some wv, some (rowP (zeroR w)), none, none] st = .ok (.nx, env') st' ∧
      (st' = st ∧ ∃ u v, env' = [some (FV p), some (rowB b x), some (tabB c T), some wv, some (rowP (oTot p (((x.zip T).take ((x.zip T).map fun z => PV.tup [num z.1, rowB z.2.1 z.2.2]).length).map fun z => (z.1, z.2.2)) (zeroR w))), u, v]) := fun k =>
    for_inv (fun i env s => s = st ∧ ∃ u v, env = [some (FV p), some (rowB b x), some (tabB c T), some wv, some (rowP (oTot p (((x.zip T).take i).map fun z => (z.1, z.2.2)) (zeroR w))), u, v]) ⟨rfl, none, none, rfl⟩ (fun _ _ _ _ _ => trivial) (fun i z env s hz ⟨hs, u, v, he⟩ => by
      subst hs he
      rw [List.getElem?_map] at hz
      cases e : (x.zip T)[i]? with
      | none => rw [e] at hz; cases hz
      | some q =>
        rw [e] at hz
        cases hz
        have hm := List.mem_of_getElem? e
        obtain ⟨h1, h2⟩ := List.of_mem_zip hm
        obtain ⟨h3, h4⟩ := hT _ h2
        have nl : ((x.zip T).take i).length ≤ 8 := Nat.le_trans (by rw [List.length_take]; exact Nat.min_le_right _ _) ll
        have nt := oTot_nb F w (((x.zip T).take i).map fun z => (z.1, z.2.2)) (zeroR w) 1 (by simp [zeroR]) (fun z hz => by
          rw [List.eq_of_mem_replicate hz]
          exact nb0 F) fun z hz => by
            rw [List.mem_map] at hz
            obtain ⟨y, hy, rfl⟩ := hz
            obtain ⟨g1, g2⟩ := List.of_mem_zip (List.mem_of_mem_take hy)
            exact ⟨hx _ g1, (hT _ g2).1, (hT _ g2).2⟩
        rw [List.length_map] at nt
        have a1 := fun k => A_rtimes (W := W) (k := k) (st := s) (b := q.2.1) F ((hx _ h1).nm (by decide)) (fun z hz => (h4 z hz).nm (by decide)) (by omega)
        have a2 := fun k => A_rplus (W := W) (k := k) (st := s) (b := true) (c := true) (y := q.2.2.map (oTimes p q.1)) F (fun z hz => (nt.2 z hz).nm (by omega)) (fun z hz => by
          rw [List.mem_map] at hz
          obtain ⟨y, hy, rfl⟩ := hz
          exact ((hx _ h1).times F (h4 y hy)).nm (by decide)) (by rw [nt.1]; omega)
        refine ⟨_, rfl, [some (FV p), some (rowB b x), some (tabB c T), some wv, some (rowP (oTot p (((x.zip T).take (i + 1)).map fun z => (z.1, z.2.2)) (zeroR w))), some (num q.1), some (rowB q.2.1 q.2.2)], s, .inl ?_, rfl, _, _, rfl⟩
        have et : oTot p (((x.zip T).take (i + 1)).map fun z => (z.1, z.2.2)) (zeroR w) = zipR (oPlus p) (oTot p (((x.zip T).take i).map fun z => (z.1, z.2.2)) (zeroR w)) (q.2.2.map (oTimes p q.1)) := by
          unfold oTot
          rw [List.take_add_one, e, List.map_append, List.foldl_append]
          rfl
        rw [et]
        simp only [← row_b] at a1 a2
        generalize oTot p (((x.zip T).take i).map fun z => (z.1, z.2.2)) (zeroR w) = t at a2 ⊢
        simp [df8, df10, a1, a2, asg])
  rw [C_call]
  obtain ⟨env', st', e, rfl, u, v, rfl⟩ := key (k + 18)
  rw [List.length_map, List.take_length, ← zm] at e
  have cz := fun k => c_zero (W := W) (k := k) (st := st') (w := w) (by omega)
  rcases hv with rfl | ⟨rfl, ne⟩
  · simp [stepC, df13, df5, D13, b13, cz, S_for, hwk, e, asg]
  · obtain ⟨r0, T', rfl⟩ := List.exists_cons_of_ne_nil ne
    have hlen : (rowB r0.1 r0.2) = (rowB r0.1 r0.2) := rfl
    have l0 : r0.2.length = w := (hT r0 (List.mem_cons_self ..)).1
    have er : rowsP (r0 :: T') = rowB r0.1 r0.2 :: rowsP T' := rfl
    simp [stepC, df13, df5, D13, b13, cz, S_for, hwk, e, asg, er, biF, l0]
end
end Lk

set_option Elab.async false
set_option linter.all false
set_option maxRecDepth 100000
set_option maxHeartbeats 1000000
namespace Lk
open PySem PySem.Spec PyProof.Rows L2 Pv
@[local simp] theorem wn_7 (env : En) : wipeE env [] = env := rfl
@[local simp] theorem wc_7 (env : En) (v : Nat) (vs : List Nat) : wipeE env (v :: vs) = (wipeE env vs).set v none := rfl
@[local simp] theorem sn_7 (i : Nat) : slots (.n i) = [i] := rfl
@[local simp] theorem st_7 (ts : List Tg) : slots (.t ts) = slotss ts := rfl
@[local simp] theorem sl_7 : slotss [] = [] := rfl
@[local simp] theorem sc_7 (t : Tg) (ts : List Tg) : slotss (t :: ts) = slots t ++ slotss ts := rfl
section
variable {W k : Nat} {st : Store} {p : Int}
/-- a table of rows as a tuple -/
def tabP (T : List (List Nu)) : PV := .tup (T.map rowP)
theorem tup_rows {α : Type} (l : List α) (f : α → List Nu) : tabP (l.map f) = .tup (l.map fun a => rowP (f a)) := by
  unfold tabP
  rw [List.map_map]
  rfl
theorem e6 {x y : PV} (st : Store) (k : Nat) : (ev (PR W) (k + 2)).E (.call 6 [(.v 0), (.v 1)]) [some x, some y] st = (ev (PR W) (k + 1)).call 6 [x, y] st := by
  simp only [E_call, evL_cons, evL_nil, E_v, List.getElem?_cons_zero, List.getElem?_cons_succ, Res.ok_bind, df6, pad6]
theorem e7 {x : PV} {ys : List PV} (st : Store) (k : Nat) (cc : comp (ev (PR W) (k + 1)) false (.call 6 [(.v 0), (.v 1)]) (.n 1) .rng1 [(.v 0)] [] [some x, none] st = .ok (.lst ys) st) : (ev (PR W) (k + 5)).call 7 [x] st = .ok (.tup ys) st := by
  rw [C_call]
  simp [stepC, df7, D7, b7, E_comp, cc, biF]
theorem c_units {w : Nat} (h : w ≤ 1000) : (ev (PR W) (k + 40)).call 7 [.int w] st = .ok (tabP ((List.range w).map (unitR w))) st := by
  rw [tup_rows]
  refine e7 st (k + 35) ?_
  have hl : (List.range w).length ≤ sizeLine := by
    rw [List.length_range]
    exact ln1000 h
  refine comp_by (fun i : Nat => PV.int i) (fun i => rowP (unitR w i)) (vs := [.int w]) (by simp) (range_ok h) (fun _ => trivial) (fun i _ => ⟨[some (.int w), some (.int i)], rfl, fun acc => ?_⟩) hl fun ff => frzL_row ff _ _
  rw [show k + 35 + 1 = k + 34 + 2 by omega, e6]
  exact c_unit (k := k + 15) h
theorem A_ttab (F : Fd p) {A T : Tb} {b c : Bool} {w : Nat} (hA : ∀ r ∈ A, r.2.length ≤ 8 ∧ ∀ z ∈ r.2, Nb p 2 z) (hT : ∀ r ∈ T, r.2.length = w ∧ ∀ z ∈ r.2, Nb p 2 z) (hw : w ≤ 8) (ne : T ≠ []) (hl : A.length ≤ 1000) :
    (ev (PR W) (k + 140)).call 14 [FV p, tabB b A, tabB c T] st = .ok (tabP (A.map fun r => oTot p (r.2.zip (T.map (·.2))) (zeroR w))) st := by
  rw [C_call, tup_rows]
  have cc : ∀ k, comp (ev (PR W) (k + 130)) false (.call 13 [(.v 0), (.v 3), (.v 2)]) (.n 3) .seq [(.v 1)] [] [some (FV p), some (tabB b A), some (tabB c T), none] st = .ok (.lst (A.map fun r => rowP (oTot p (r.2.zip (T.map (·.2))) (zeroR w)))) st := fun k => by
    have q := comp_by (r := ev (PR W) (k + 130)) (e := .call 13 [(.v 0), (.v 3), (.v 2)]) (tg := .n 3) (kk := .seq) (its := [(.v 1)]) (env := [some (FV p), some (tabB b A), some (tabB c T), none]) (st := st) (fun z : Bool × List Nu => rowB z.1 z.2) (fun r : Bool × List Nu => rowP (oTot p (r.2.zip (T.map (·.2))) (zeroR w))) (l := A) (vs := [tabB b A]) (by simp) (walk_tab b A) (fun _ => seq_tabB _ b A) (fun z hz => ⟨_, rfl, fun acc => by
      have a := fun k => A_rtab (W := W) (k := k) (st := st ++ [.lst acc]) (b := z.1) (c := c) F (hA z hz).2 hT hw (hA z hz).1 (.inr ⟨rfl, ne⟩)
      simp [df13, a]⟩) (ln1000 hl) (fun ff => frzL_row ff _ _)
    exact q
  simp [stepC, df14, D14, b14, E_comp, cc, biF]
theorem tabs_zip (A T : Tb) : ((rowsP A).zip (rowsP T)).map (fun q : PV × PV => PV.tup [q.1, q.2]) = (A.zip T).map fun z => PV.tup [rowB z.1.1 z.1.2, rowB z.2.1 z.2.2] := by
  unfold rowsP
  rw [List.zip_map, List.map_map]
  rfl
theorem A_tplus (F : Fd p) {A T : Tb} {b c : Bool} (hA : ∀ r ∈ A, r.2.length ≤ 8 ∧ ∀ z ∈ r.2, Nb p 2 z) (hT : ∀ r ∈ T, ∀ z ∈ r.2, Nb p 2 z) (hl : A.length ≤ 1000) :
    (ev (PR W) (k + 100)).call 15 [FV p, tabB b A, tabB c T] st = .ok (tabP ((A.zip T).map fun z => zipR (oPlus p) z.1.2 z.2.2)) st := by
  rw [C_call, tup_rows]
  have cc : ∀ k, comp (ev (PR W) (k + 90)) false (.call 8 [(.v 0), (.v 3), (.v 4)]) (.t [(.n 3), (.n 4)]) .zip2 [(.v 1), (.v 2)] [] [some (FV p), some (tabB b A), some (tabB c T), none, none] st = .ok (.lst ((A.zip T).map fun z => rowP (zipR (oPlus p) z.1.2 z.2.2))) st := fun k => by
    have hw := walk_zip (seq_tabB st b A) (seq_tabB st c T)
    rw [tabs_zip] at hw
    refine comp_by (fun z : (Bool × List Nu) × (Bool × List Nu) => PV.tup [rowB z.1.1 z.1.2, rowB z.2.1 z.2.2]) (fun z => rowP (zipR (oPlus p) z.1.2 z.2.2)) (vs := [tabB b A, tabB c T]) (by simp) hw (fun _ => ⟨seq_tabB _ b A, seq_tabB _ c T⟩) (fun z hz => ⟨_, rfl, fun acc => ?_⟩) (by rw [List.length_zip]; exact Nat.le_trans (Nat.min_le_left _ _) (ln1000 hl)) fun ff => frzL_row ff _ _
    obtain ⟨h1, h2⟩ := List.of_mem_zip hz
    have a := fun k => A_rplus (W := W) (k := k) (st := st ++ [.lst acc]) (b := z.1.1) (c := z.2.1) F (fun y hy => ((hA _ h1).2 y hy).nm (by decide)) (fun y hy => (hT _ h2 y hy).nm (by decide)) (by have := (hA _ h1).1; omega)
    simp [df8, a]
  simp [stepC, df15, D15, b15, E_comp, cc, biF]
/-- column i -/
def colN (T : List (List Nu)) (i : Nat) : List Nu := T.map fun r => r.getD i (0, 1)
theorem seqs_rows (st : Store) : ∀ T : Tb, seqsOf st (rowsP T) = some (T.map fun z => z.2.map num)
  | [] => rfl
  | z :: T => by
    unfold rowsP
    rw [List.map_cons]
    unfold seqsOf
    rw [seq_rowB]
    have := seqs_rows st T
    unfold rowsP at this
    rw [this]
    rfl
theorem colP_rows {i : Nat} : ∀ T : Tb, (∀ r ∈ T, i < r.2.length) → colP (T.map fun z => z.2.map num) i = (colN (T.map (·.2)) i).map num
  | [], _ => rfl
  | z :: T, h => by
    have hz := h z (List.mem_cons_self ..)
    have := colP_rows T fun r hr => h r (List.mem_cons_of_mem _ hr)
    unfold colP colN at this ⊢
    rw [List.map_cons, List.filterMap_cons, List.getElem?_map, List.getElem?_eq_getElem hz]
    simp only [Option.map_some, List.map_cons]
    rw [this, List.getD_eq_getElem?_getD, List.getElem?_eq_getElem hz]
    rfl
theorem c_turn {T : Tb} {b : Bool} {w : Nat} (hT : ∀ r ∈ T, r.2.length = w) (ne : T ≠ []) (hl : T.length ≤ 12) (w0 : 0 < w) (hw : w ≤ 1000) : (ev (PR W) (k + 10)).call 16 [tabB b T] st = .ok (tabP ((List.range w).map (colN (T.map (·.2))))) st := by
  rw [C_call, tup_rows]
  obtain ⟨r0, T', rfl⟩ := List.exists_cons_of_ne_nil ne
  have l0 : r0.2.length = w := hT r0 (List.mem_cons_self ..)
  have e : trnR ((r0 :: T').map fun z => z.2.map num) st = .ok (.tup ((List.range w).map fun i => rowP (colN ((r0 :: T').map (·.2)) i))) st := by
    unfold trnR
    rw [List.map_cons]
    dsimp only
    rw [if_pos ⟨by simp at hl ⊢; omega, by simp [l0, w0], by rw [List.length_map, l0]; exact ln1000 hw, fun x hx => by
      rw [List.mem_map] at hx
      obtain ⟨y, hy, rfl⟩ := hx
      rw [List.length_map, List.length_map, hT y (List.mem_cons_of_mem _ hy), l0]⟩]
    rw [List.length_map, l0, ← List.range_eq_range']
    congr 2
    apply List.map_congr_left
    intro i hi
    rw [List.mem_range] at hi
    have := colP_rows (i := i) (r0 :: T') fun r hr => by rw [hT r hr]; exact hi
    rw [List.map_cons] at this
    rw [this]
    rfl
  have et : ∀ k env, k ≠ 0 → (ev (PR W) (k + 1)).E (.trn (.v 0)) (some (tabB b (r0 :: T')) :: env) st = .ok (.tup ((List.range w).map fun i => rowP (colN ((r0 :: T').map (·.2)) i))) st := fun k env h0 => by
    show ((ev (PR W) k).E (.v 0) (some (tabB b (r0 :: T')) :: env) st).bind _ = _
    cases k with
    | zero => exact absurd rfl h0
    | succ k =>
      simp only [E_v, List.getElem?_cons_zero, Res.ok_bind, seq_tabB, seqs_rows]
      exact e
  simp [stepC, df16, D16, b16, et]
end
end Lk

set_option Elab.async false
set_option linter.all false
set_option maxRecDepth 100000
set_option maxHeartbeats 1000000
namespace Lk
open PySem PySem.Spec PyProof.Rows L2 Pv
@[local simp] theorem wn_8 (env : En) : wipeE env [] = env := rfl
@[local simp] theorem wc_8 (env : En) (v : Nat) (vs : List Nat) : wipeE env (v :: vs) = (wipeE env vs).set v none := rfl
@[local simp] theorem sn_8 (i : Nat) : slots (.n i) = [i] := rfl
@[local simp] theorem st_8 (ts : List Tg) : slots (.t ts) = slotss ts := rfl
@[local simp] theorem sl_8 : slotss [] = [] := rfl
@[local simp] theorem sc_8 (t : Tg) (ts : List Tg) : slotss (t :: ts) = slots t ++ slotss ts := rfl
section
variable {W k : Nat} {st : Store} {p : Int}
theorem df30 : (PR W).df[30]? = some D30 := rfl
theorem df31 : (PR W).df[31]? = some D31 := rfl
theorem df32 : (PR W).df[32]? = some D32 := rfl
@[simp] theorem pad30 (x y z : PV) : pad D30 [x, y, z] = [x, y, z] := rfl
@[simp] theorem pad31 (x y : PV) : pad D31 [x, y] = [x, y] := rfl
@[simp] theorem pad32 (x : PV) : pad D32 [x] = [x] := rfl
theorem num01 : num (0, 1) = .tup [.int 0, .int 1] := rfl
theorem num11 : num (1, 1) = .tup [.int 1, .int 1] := rfl
theorem c_lzero {w : Nat} (h : w ≤ 1000) : (ev (PR W) (k + 20)).call 32 [.int w] st = .ok (rowP (zeroR w)) st := by
  rw [C_call]
  have hl : (List.range w).length ≤ sizeLine := by
    rw [List.length_range]
    exact ln1000 h
  have cc : ∀ k, comp (ev (PR W) (k + 6)) false (.tup [(.c (.int 0)), (.c (.int 1))]) (.n 1) .rng1 [(.v 0)] [] [some (.int w), none] st = .ok (.lst ((List.range w).map fun _ => num (0, 1))) st := fun k => by
    refine comp_by (fun i : Nat => PV.int i) (fun _ => num (0, 1)) (vs := [.int w]) (by simp) (range_ok h) (fun _ => trivial) (fun i _ => ⟨_, rfl, fun acc => ?_⟩) hl fun ff => frzL_num ff _ _
    simp [num01]
  have e : rowP (zeroR w) = .tup ((List.range w).map fun _ => num (0, 1)) := by
    unfold rowP zeroR
    rw [List.map_replicate]
    congr 1
    rw [List.map_const', List.length_range]
  rw [e]
  simp [stepC, df32, D32, b32, E_comp, cc, biF]
theorem c_lunit {w j : Nat} (h : w ≤ 1000) : (ev (PR W) (k + 20)).call 31 [.int w, .int j] st = .ok (rowP (unitR w j)) st := by
  rw [C_call]
  have hl : (List.range w).length ≤ sizeLine := by
    rw [List.length_range]
    exact ln1000 h
  have cc : ∀ k, comp (ev (PR W) (k + 6)) false (.ite (.cmp .eq (.v 2) (.v 1)) (.tup [(.c (.int 1)), (.c (.int 1))]) (.tup [(.c (.int 0)), (.c (.int 1))])) (.n 2) .rng1 [.v 0] [] [some (.int w), some (.int j), none] st = .ok (.lst ((List.range w).map fun i => num (if i = j then (1, 1) else (0, 1)))) st := fun k => by
    refine comp_by (fun i : Nat => PV.int i) (fun i => num (if i = j then (1, 1) else (0, 1))) (vs := [.int w]) (by simp) (range_ok h) (fun _ => trivial) (fun i _ => ⟨_, rfl, fun acc => ?_⟩) hl fun ff => frzL_num ff _ _
    by_cases e : i = j
    · subst e
      simp [num11]
    · have : ¬ ((i : Int) = (j : Int)) := by omega
      simp [num01, e, this]
  have e : rowP (unitR w j) = .tup ((List.range w).map fun i => num (if i = j then (1, 1) else (0, 1))) := by
    unfold rowP unitR
    rw [List.map_map]
    rfl
  rw [e]
  simp [stepC, df31, D31, b31, E_comp, cc, biF]
theorem atI_nums {x : List Nu} {i : Nat} (h : i < x.length) : atI (x.map num) (i : Int) = some (num (x.getD i (0, 1))) := by
  rw [List.getD_eq_getElem?_getD, List.getElem?_eq_getElem h]
  exact atI_nat (j := i) (by rw [List.getElem?_map, List.getElem?_eq_getElem h]; rfl)
theorem take_zip {x y : List Nu} {i : Nat} (h1 : i < x.length) (h2 : i < y.length) : (x.zip y)[i]? = some (x.getD i (0, 1), y.getD i (0, 1)) := by
  rw [List.getElem?_zip_eq_some, List.getD_eq_getElem?_getD, List.getD_eq_getElem?_getD, List.getElem?_eq_getElem h1, List.getElem?_eq_getElem h2]
  exact ⟨rfl, rfl⟩
theorem getD_mem {x : List Nu} {i : Nat} (h : i < x.length) : x.getD i (0, 1) ∈ x := by
  rw [List.getD_eq_getElem?_getD, List.getElem?_eq_getElem h]
  exact List.getElem_mem h
theorem idx0 (x : Nu) (i : Nat) (k : Nat) {env : En} {e : Ex} (he : (ev (PR W) k).E e env st = .ok (num x) st) (h0 : k ≠ 0) : (ev (PR W) (k + 1)).E (.idx e (.c (.int 0))) env st = .ok (.int x.1) st := by
  obtain ⟨k, rfl⟩ := Nat.exists_eq_succ_of_ne_zero h0
  rw [E_idx, he]
  rfl
theorem A_ldot (F : Fd p) (hW : 2 ^ 8000 ≤ W) {x y : List Nu} {b c : Bool} (hx : ∀ z ∈ x, Nb p 2 z) (hy : ∀ z ∈ y, Nb p 2 z) (hl : x.length ≤ 8) (hxy : x.length = y.length) : (ev (PR W) (k + 90)).call 30 [.int p, rowB b x, rowB c y] st = .ok (num (oDot p (x.zip y) (0, 1))) st := by
  have ll : (x.zip y).length = x.length := by rw [List.length_zip, ← hxy, Nat.min_self]
  have key : ∀ (k : Nat), ∃ env' st', forL (ev (PR W) (k + 80)) (.n 4) [.ite (.and (.cmp .ne (.idx (.idx (.v 1) (.v 4)) (.c (.int 0))) (.c (.int 0))) (.cmp .ne (.idx (.idx (.v 2) (.v 4)) (.c (.int 0))) (.c (.int 0)))) [.set (.n 3) (.call 27 [(.v 0), (.v 3), (.call 28 [(.v 0), (.idx (.v 1) (.v 4)), (.idx (.v 2) (.v 4))])])] []] (fun _ => True) ((List.range x.length).map fun (i : Nat) => PV.int i) [some (.int p), some (rowB b x), some (rowB c y), some (num (0, 1)), none] st = .ok (.nx, env') st' ∧
      (st' = st ∧ ∃ u, env' = [some (.int p), some (rowB b x), some (rowB c y), some (num (oDot p ((x.zip y).take ((List.range x.length).map fun (i : Nat) => PV.int i).length) (0, 1))), u]) := fun k =>
    for_inv (fun i env s => s = st ∧ ∃ u, env = [some (.int p), some (rowB b x), some (rowB c y), some (num (oDot p ((x.zip y).take i) (0, 1))), u]) ⟨rfl, none, rfl⟩ (fun _ _ _ _ _ => trivial) (fun i z env s hz ⟨hs, u, he⟩ => by
      subst hs he
      rw [List.getElem?_map] at hz
      have hi : i < x.length := by
        by_cases hi : i < x.length
        · exact hi
        · rw [List.getElem?_eq_none (by simpa using hi)] at hz
          cases hz
      rw [List.getElem?_range hi] at hz
      cases hz
      have hi2 : i < y.length := by omega
      have e := take_zip hi hi2
      have nt := oDot_nb F ((x.zip y).take i) (0, 1) 1 (nb0 F) fun z hz => by
        obtain ⟨h1, h2⟩ := List.of_mem_zip (List.mem_of_mem_take hz)
        exact ⟨hx _ h1, hy _ h2⟩
      have nl : ((x.zip y).take i).length ≤ 8 := Nat.le_trans (by rw [List.length_take]; exact Nat.min_le_right _ _) (by omega)
      have g1 := hx _ (getD_mem hi)
      have g2 := hy _ (getD_mem hi2)
      have q1 := atI_nums hi
      have q2 := atI_nums hi2
      have et : oDot p ((x.zip y).take (i + 1)) (0, 1) = oPlus p (oDot p ((x.zip y).take i) (0, 1)) (oTimes p (x.getD i (0, 1)) (y.getD i (0, 1))) := by
        unfold oDot
        rw [List.take_add_one, e, List.foldl_append]
        rfl
      generalize x.getD i (0, 1) = a at g1 q1 et
      generalize y.getD i (0, 1) = d at g2 q2 et
      generalize oDot p ((x.zip y).take i) (0, 1) = t at nt et ⊢
      have a1 := fun k => A_ltimes (W := W) (k := k) (st := s) F hW (g1.nm (by decide)) (g2.nm (by decide))
      have a2 := fun k => A_lplus (W := W) (k := k) (st := s) F hW (nt.nm (by omega)) ((g1.times F g2).nm (by decide))
      have n0 : ∀ (x : Nu) (s : Store), seqOf s (num x) = some (true, [.int x.1, .int x.2]) := fun _ _ => rfl
      rw [et]
      clear et e hi hi2 nl ll
      dsimp only
      generalize (i : Int) = j at q1 q2 ⊢
      by_cases h : a.1 = 0 ∨ d.1 = 0
      · rw [plus_zero F g1 g2 nt h]
        refine ⟨_, rfl, [some (.int p), some (rowB b x), some (rowB c y), some (num t), some (.int j)], s, .inl ?_, rfl, _, rfl⟩
        by_cases h1 : a.1 = 0
        · simp [asg, q1, n0, h1]
        · have h2 : d.1 = 0 := h.resolve_left h1
          simp [asg, q1, q2, n0, h1, h2]
      · rw [not_or] at h
        refine ⟨_, rfl, [some (.int p), some (rowB b x), some (rowB c y), some (num (oPlus p t (oTimes p a d))), some (.int j)], s, .inl ?_, rfl, _, rfl⟩
        simp [asg, q1, q2, n0, h.1, h.2, df27, df28, a1, a2])
  rw [C_call]
  obtain ⟨env', st', e, rfl, u, rfl⟩ := key (k + 8)
  rw [List.length_map, List.length_range, ← ll, List.take_length, ll] at e
  have hr := range_ok (st := st') (w := x.length) (by omega)
  have e0 : num (0, 1) = .tup [.int 0, .int 1] := rfl
  rw [e0] at e
  obtain ⟨L, hL⟩ : ∃ L : Int, L = (x.length : Int) := ⟨_, rfl⟩
  rw [← hL] at hr
  have hlen : ∀ l n, biF l n .len [rowB b x] st' = .ok (.int L) st' := fun l n => by
    rw [hL]
    show (match seqOf st' (rowB b x) with
      | some (_, xs) => Res.ok (PV.int xs.length) st'
      | none => .bad) = _
    rw [seq_rowB]
    dsimp only
    rw [List.length_map]
  simp [stepC, df30, D30, b30, S_for, hlen, hr, e, asg]
end
end Lk

set_option Elab.async false
set_option linter.all false
set_option maxRecDepth 100000
set_option maxHeartbeats 1000000
namespace Lk
open PySem PySem.Spec PyProof.Rows L2 Pv
@[local simp] theorem wn_9 (env : En) : wipeE env [] = env := rfl
@[local simp] theorem wc_9 (env : En) (v : Nat) (vs : List Nat) : wipeE env (v :: vs) = (wipeE env vs).set v none := rfl
@[local simp] theorem sn_9 (i : Nat) : slots (.n i) = [i] := rfl
@[local simp] theorem st_9 (ts : List Tg) : slots (.t ts) = slotss ts := rfl
@[local simp] theorem sl_9 : slotss [] = [] := rfl
@[local simp] theorem sc_9 (t : Tg) (ts : List Tg) : slotss (t :: ts) = slots t ++ slotss ts := rfl
section
variable {W k : Nat} {st : Store} {p : Int} {cells : List Int} {n T : Nat}
theorem df33 : (PR W).df[33]? = some D33 := rfl
theorem df34 : (PR W).df[34]? = some D34 := rfl
theorem df35 : (PR W).df[35]? = some D35 := rfl
theorem df36 : (PR W).df[36]? = some D36 := rfl
@[simp] theorem pad33 (x y : PV) : pad D33 [x, y] = [x, y] := rfl
@[simp] theorem pad34 (x y z : PV) : pad D34 [x, y, z] = [x, y, z] := rfl
@[simp] theorem pad35 (x y : PV) : pad D35 [x, y] = [x, y] := rfl
@[simp] theorem pad36 (x y : PV) : pad D36 [x, y] = [x, y] := rfl
theorem ln5 : (5 : Nat) ≤ sizeLine := by decide
theorem Bag.mono {T' : Nat} (h : Bag cells n T st) (l : T ≤ T') : Bag cells n T' st := by
  obtain ⟨t, r, e, h1, h2, h3⟩ := h.at_
  exact ⟨t, r, e, h1, by omega, h3⟩
theorem five_at {d : Int} (h0 : 0 ≤ d) (h : d < 5) : ∃ b : Int, atI [PV.int 1, .int 1, .int 1, .int 2, .int 3] d = some (.int b) ∧ b ≠ 0 ∧ Sm 2 b := by
  have : d = 0 ∨ d = 1 ∨ d = 2 ∨ d = 3 ∨ d = 4 := by omega
  rcases this with rfl | rfl | rfl | rfl | rfl
  · exact ⟨1, rfl, by decide, by unfold Sm; decide⟩
  · exact ⟨1, rfl, by decide, by unfold Sm; decide⟩
  · exact ⟨1, rfl, by decide, by unfold Sm; decide⟩
  · exact ⟨2, rfl, by decide, by unfold Sm; decide⟩
  · exact ⟨3, rfl, by decide, by unfold Sm; decide⟩
theorem c_number (F : Fd p) (hW : 2 ^ 8000 ≤ W) (hc : CellsOk cells) (hb : Bag cells n T st) (hT : T ≤ 900) :
    ∃ x st', (∀ k, (ev (PR W) (k + 60)).call 33 [.ref n, .int p] st = .ok (num x) st') ∧ Nb p 2 x ∧ Bag cells n (T + 2) st' ∧ Upd n st st' := by
  by_cases e : p = 0
  · subst e
    obtain ⟨d1, s1, a1, l1, u1, b1, w1⟩ := c_draw (W := W) hc hb (by omega) (L := 7) (by decide) (by unfold Sm; decide)
    obtain ⟨d2, s2, a2, l2, u2, b2, w2⟩ := c_draw (W := W) hc b1 (by omega) (L := 5) (by decide) (by unfold Sm; decide)
    obtain ⟨b, hb1, hb0, hb2⟩ := five_at l2 u2
    have ha : Sm 2 (d1 - 3) := by unfold Sm; omega
    refine ⟨rdc (d1 - 3) b, s2, fun k => ?_, ?_, b2, w1.trans w2⟩
    · have m := fun k => c_lmake0 (W := W) (k := k) (st := s2) (a := d1 - 3) hb0 (hb2.mono (by decide)) hW
      rw [C_call]
      have dn : ∀ v, done st false v s2 = .ok v s2 := fun v => done_len (w1.trans w2).len
      simp [stepC, df33, df23, df26, D33, b33, a1, a2, m, hb1, ln5, dn]
    · unfold Nb
      rw [if_pos rfl]
      exact ⟨rdc_low hb0, rdc_sm hb0 ha hb2⟩
  · have P := F.pos e
    have hp : 0 < p := by have := P.lo; omega
    have sp : Sm 200 p := by
      have h7 : p.natAbs < 2 ^ 7 := by have := P.hi; omega
      exact Nat.lt_of_lt_of_le h7 (Nat.pow_le_pow_right (by decide) (by decide))
    obtain ⟨d1, s1, a1, l1, u1, b1, w1⟩ := c_draw (W := W) hc hb (by omega) (L := p) hp sp
    have dn : ∀ v, done st false v s1 = .ok v s1 := fun v => done_len w1.len
    refine ⟨(d1, 1), s1, fun k => ?_, ?_, b1.mono (by omega), w1⟩
    · rw [C_call]
      simp [stepC, df33, df23, D33, b33, a1, hp, num, dn]
    · unfold Nb
      rw [if_neg e]
      exact ⟨⟨l1, u1⟩, rfl⟩
theorem bag_old {t r : Int} (m : Nat) : oldO m (bagO cells t r) = true := by
  have vi : ∀ l : List Int, oldVs m (l.map PV.int) = true := fun l => by
    induction l with
    | nil => rfl
    | cons a l ih => simp [oldVs, oldV, ih]
  simp [bagO, oldO, oldVs, oldV, vi]
theorem app_set {st : Store} {o o' : SO} {n : Nat} (h : n < st.length) : (st ++ [o']).set n o = st.set n o ++ [o'] := by
  rw [List.set_append_left _ _ h]
theorem Bag.app {o : SO} (h : Bag cells n T st) : Bag cells n T (st ++ [o]) := by
  obtain ⟨t, r, e, h1, h2, h3⟩ := h.at_
  exact ⟨t, r, by rw [List.getElem?_append_left (List.getElem?_eq_some_iff.mp e).1]; exact e, h1, h2, h3⟩
theorem Bag.lt (h : Bag cells n T st) : n < st.length := by
  obtain ⟨t, r, e, _⟩ := h.at_
  exact (List.getElem?_eq_some_iff.mp e).1
/-- .. the bag's change seen without what was laid behind -/
theorem Upd.app {o : SO} {s' : Store} {T' : Nat} (hb : Bag cells n T st) (hb' : Bag cells n T' s') (h : Upd n (st ++ [o]) s') : ∃ s, s' = s ++ [o] ∧ Upd n st s ∧ Bag cells n T' s := by
  obtain ⟨o1, rfl⟩ := h
  rw [app_set hb.lt] at hb' ⊢
  refine ⟨_, rfl, ⟨o1, rfl⟩, ?_⟩
  obtain ⟨t, r, e, h1, h2, h3⟩ := hb'.at_
  rw [List.getElem?_append_left (by simpa using hb.lt)] at e
  exact ⟨t, r, e, h1, h2, h3⟩
theorem Upd.bag {s : Store} {T' : Nat} (hb : Bag cells n T st) (hb' : Bag cells n T' s) (h : Upd n st s) : ∃ o, s = st.set n o ∧ oldO st.length o = true := by
  obtain ⟨o, rfl⟩ := h
  refine ⟨o, rfl, ?_⟩
  obtain ⟨t, r, e, _⟩ := hb'.at_
  rw [List.getElem?_set_self hb.lt] at e
  cases e
  exact bag_old _
/-- a list of drawn things: each turn draws -/
theorem comp_draw {α β ι : Type} {r : ι → Ev} {e : Ex} {tg : Tg} {kk : Ik} {its : List Ex} {vs : List PV} {env : En} {l : List α} {g : Store → Prop} {q : Nat} (mk : α → PV) (f : β → PV) (P : β → Prop) (hb : Bag cells n T st) (hi : ∀ k, evL (r k) its env st = .ok vs st) (hw : walk kk vs st = some (l.map mk, g)) (hg : ∀ s, g s)
    (he : ∀ a ∈ l, ∃ env1, asg tg (mk a) (wipeE env (slots tg)) = some env1 ∧ ∀ (s : Store) (U : Nat), Bag cells n U s → U ≤ T + q * l.length → ∃ y s', (∀ k, (r k).E e env1 s = .ok (f y) s') ∧ P y ∧ Bag cells n (U + q) s' ∧ Upd n s s') (hl : l.length ≤ sizeLine) (hz : ∀ ff (ys : List β), frzL ff (ys.map f) = some (ys.map f)) :
    ∃ (ys : List β) (s' : Store), (∀ k, comp (r k) false e tg kk its [] env st = .ok (.lst (ys.map f)) s') ∧ ys.length = l.length ∧ (∀ y ∈ ys, P y) ∧ Bag cells n (T + q * l.length) s' ∧ Upd n st s' := by
  have hr : Upd n st st := by
    obtain ⟨t, r, e, _⟩ := hb.at_
    exact Upd.refl' e
  obtain ⟨acc', s', h1, ⟨ys, rfl, h2, h3, h4, h5⟩⟩ := compL_inv (r := r) (e := e) (tg := tg) (g := g) (d := st.length) (env := wipeE env (slots tg)) mk
    (fun i acc s => ∃ ys : List β, acc = ys.map f ∧ ys.length = i ∧ (∀ y ∈ ys, P y) ∧ Bag cells n (T + q * i) s ∧ Upd n st s) (fun i acc s ⟨ys, _, _, _, _, u⟩ => ⟨u.len, hg _⟩) l 0 [] st ⟨[], rfl, rfl, fun y hy => (nomatch hy), hb, hr⟩
    (fun j a acc s ea ⟨ys, e1, e2, e3, e4, e5⟩ => by
      rw [Nat.zero_add] at e2 e4 ⊢
      have hj : j < l.length := (List.getElem?_eq_some_iff.mp ea).1
      obtain ⟨env1, h1, h2⟩ := he a (List.mem_of_getElem? ea)
      obtain ⟨y, s2, h3, h4, h5, h6⟩ := h2 (s ++ [.lst acc]) (T + q * j) e4.app (Nat.add_le_add_left (Nat.mul_le_mul_left q (Nat.le_of_lt hj)) T)
      obtain ⟨s3, rfl, u3, b3⟩ := Upd.app e4 h5 h6
      refine ⟨env1, f y, s3, h1, h3, ys ++ [y], by rw [e1, List.map_append]; rfl, by rw [List.length_append, e2]; rfl, fun z hz => ?_, by rw [Nat.mul_succ, ← Nat.add_assoc]; exact b3, e5.trans u3⟩
      rcases List.mem_append.mp hz with hz | hz
      · exact e3 z hz
      · rw [List.mem_singleton.mp hz]
        exact h4) (by simpa using hl)
  rw [Nat.zero_add] at h2 h4
  refine ⟨ys, s', fun k => ?_, h2, h3, h4, h5⟩
  obtain ⟨o, e1, e2⟩ := Upd.bag hb h4 h5
  unfold comp
  rw [hi k, Res.ok_bind, hw]
  dsimp only
  rw [h1 k]
  simp only [Res.ok_bind, Bool.false_eq_true, if_false]
  exact done_at e1 e2 fun ff => hz ff ys
theorem e34 {x y z : PV} {ys : List PV} (st : Store) (s' : Store) (k : Nat) (hl : s'.length = st.length) (cc : comp (ev (PR W) (k + 1)) false (.call 33 [(.v 0), (.v 1)]) (.n 3) .rng1 [(.v 2)] [] [some x, some y, some z, none] st = .ok (.lst ys) s') : (ev (PR W) (k + 5)).call 34 [x, y, z] st = .ok (.tup ys) s' := by
  rw [C_call]
  have dn : ∀ v, done st false v s' = .ok v s' := fun v => done_len hl
  simp [stepC, df34, D34, b34, E_comp, cc, biF, dn]
theorem e33 {x y z : PV} (st : Store) (k : Nat) (u : Option PV) : (ev (PR W) (k + 2)).E (.call 33 [(.v 0), (.v 1)]) [some x, some y, some z, u] st = (ev (PR W) (k + 1)).call 33 [x, y] st := by
  simp only [E_call, evL_cons, evL_nil, E_v, List.getElem?_cons_zero, List.getElem?_cons_succ, Res.ok_bind, df33, pad33]
theorem c_row (F : Fd p) (hW : 2 ^ 8000 ≤ W) (hc : CellsOk cells) (hb : Bag cells n T st) {w : Nat} (hw : w ≤ 8) (hT : T ≤ 800) :
    ∃ x st', (∀ k, (ev (PR W) (k + 80)).call 34 [.ref n, .int p, .int w] st = .ok (rowP x) st') ∧ x.length = w ∧ (∀ z ∈ x, Nb p 2 z) ∧ Bag cells n (T + 2 * w) st' ∧ Upd n st st' := by
  have hl : (List.range w).length ≤ sizeLine := by
    rw [List.length_range]
    exact ln1000 (by omega)
  obtain ⟨ys, s', h1, h2, h3, h4, h5⟩ := comp_draw (r := fun k => ev (PR W) (k + 76)) (e := .call 33 [(.v 0), (.v 1)]) (tg := .n 3) (kk := .rng1) (its := [(.v 2)]) (vs := [.int w]) (env := [some (.ref n), some (.int p), some (.int w), none]) (l := List.range w) (q := 2) (fun i : Nat => PV.int i) num (fun z => Nb p 2 z) hb (fun k => by simp) (range_ok (by omega)) (fun _ => trivial)
    (fun i _ => ⟨[some (.ref n), some (.int p), some (.int w), some (.int i)], rfl, fun s U hU hu => by
      rw [List.length_range] at hu
      obtain ⟨x, s2, a1, a2, a3, a4⟩ := c_number F hW hc hU (by omega)
      exact ⟨x, s2, fun k => by rw [show k + 76 = k + 74 + 2 by omega, e33]; exact a1 (k + 15), a2, a3, a4⟩⟩) hl fun ff ys => frzL_nums ff ys
  rw [List.length_range] at h2 h4
  exact ⟨ys, s', fun k => e34 st s' (k + 75) h5.len (h1 k), h2, h3, h4, h5⟩
end
end Lk

set_option Elab.async false
set_option linter.all false
set_option maxRecDepth 100000
set_option maxHeartbeats 1000000
namespace Lk
open PySem PySem.Spec PyProof.Rows L2 Pv
@[local simp] theorem wn_10 (env : En) : wipeE env [] = env := rfl
@[local simp] theorem wc_10 (env : En) (v : Nat) (vs : List Nat) : wipeE env (v :: vs) = (wipeE env vs).set v none := rfl
@[local simp] theorem sn_10 (i : Nat) : slots (.n i) = [i] := rfl
@[local simp] theorem st_10 (ts : List Tg) : slots (.t ts) = slotss ts := rfl
@[local simp] theorem sl_10 : slotss [] = [] := rfl
@[local simp] theorem sc_10 (t : Tg) (ts : List Tg) : slotss (t :: ts) = slots t ++ slotss ts := rfl
section
variable {W k : Nat} {st : Store} {p : Int} {cells : List Int} {n T : Nat}
theorem df24 : (PR W).df[24]? = some D24 := rfl
@[simp] theorem pad24 (x : PV) : pad D24 [x] = [x] := rfl
theorem ln6 : (6 : Nat) ≤ sizeLine := by decide
theorem six_at {d : Int} (h0 : 0 ≤ d) (h : d < 6) : ∃ p : Int, atI [PV.int 0, .int 0, .int 2, .int 3, .int 5, .int 7] d = some (.int p) ∧ Fd p ∧ p < 8 := by
  have : d = 0 ∨ d = 1 ∨ d = 2 ∨ d = 3 ∨ d = 4 ∨ d = 5 := by omega
  rcases this with rfl | rfl | rfl | rfl | rfl | rfl
  · exact ⟨0, rfl, .inl rfl, by decide⟩
  · exact ⟨0, rfl, .inl rfl, by decide⟩
  · exact ⟨2, rfl, .inr (by decide), by decide⟩
  · exact ⟨3, rfl, .inr (by decide), by decide⟩
  · exact ⟨5, rfl, .inr (by decide), by decide⟩
  · exact ⟨7, rfl, .inr (by decide), by decide⟩
theorem c_prime (hc : CellsOk cells) (hb : Bag cells n T st) (hT : T ≤ 900) :
    ∃ p st', (∀ k, (ev (PR W) (k + 40)).call 24 [.ref n] st = .ok (.int p) st') ∧ Fd p ∧ p < 8 ∧ Bag cells n (T + 1) st' ∧ Upd n st st' := by
  obtain ⟨d1, s1, a1, l1, u1, b1, w1⟩ := c_draw (W := W) hc hb (by omega) (L := 6) (by decide) (by unfold Sm; decide)
  obtain ⟨p, h1, h2, h3⟩ := six_at l1 u1
  have dn : ∀ v, done st false v s1 = .ok v s1 := fun v => done_len w1.len
  refine ⟨p, s1, fun k => ?_, h2, h3, b1, w1⟩
  rw [C_call]
  simp [stepC, df24, df23, D24, b24, a1, h1, ln6, dn]
theorem c_list (hc : CellsOk cells) (hb : Bag cells n T st) (hT : T ≤ 900) (x : List Nu) :
    ∃ b st', (∀ k, (ev (PR W) (k + 40)).call 35 [.ref n, rowP x] st = .ok (rowB b x) st') ∧ Bag cells n (T + 1) st' ∧ Upd n st st' := by
  obtain ⟨d1, s1, a1, l1, u1, b1, w1⟩ := c_draw (W := W) hc hb (by omega) (L := 2) (by decide) (by unfold Sm; decide)
  have dn : ∀ v, done st false v s1 = .ok v s1 := fun v => done_len w1.len
  by_cases h : d1 = 1
  · refine ⟨false, s1, fun k => ?_, b1, w1⟩
    rw [C_call]
    have e : rowB false x = .lst (x.map num) := rfl
    rw [e]
    simp [stepC, df35, df23, D35, b35, a1, h, dn, biF]
  · refine ⟨true, s1, fun k => ?_, b1, w1⟩
    rw [C_call]
    have e : rowB true x = .tup (x.map num) := rfl
    rw [e]
    simp [stepC, df35, df23, D35, b35, a1, h, dn, biF]
end
end Lk

set_option Elab.async false
set_option linter.all false
set_option maxRecDepth 100000
set_option maxHeartbeats 1000000
namespace Lk
open PySem PySem.Spec PyProof.Rows L2 Pv
@[local simp] theorem wn_11 (env : En) : wipeE env [] = env := rfl
@[local simp] theorem wc_11 (env : En) (v : Nat) (vs : List Nat) : wipeE env (v :: vs) = (wipeE env vs).set v none := rfl
@[local simp] theorem sn_11 (i : Nat) : slots (.n i) = [i] := rfl
@[local simp] theorem st_11 (ts : List Tg) : slots (.t ts) = slotss ts := rfl
@[local simp] theorem sl_11 : slotss [] = [] := rfl
@[local simp] theorem sc_11 (t : Tg) (ts : List Tg) : slotss (t :: ts) = slots t ++ slotss ts := rfl
@[simp] theorem kit_it : L2.kitB "int" "tuple" = some false := by decide +kernel
@[simp] theorem kit_is : L2.kitB "int" "str" = some false := by decide +kernel
section
variable {W k : Nat} {st : Store}
theorem kind_int (i e : Int) : (ev (PR W) (k + 20)).call 36 [.int i, .int e] st = .ok (.bl true) st := by
  rw [C_call]
  simp [stepC, df36, D36, b36]
theorem all_true (l : List (Cs × Cs × Bool)) (m : Nat) (xs : List PV) (st : Store) : biF l m .all [.lst (xs.map fun _ => .bl true)] st = .ok (.bl true) st := by
  show (match seqOf st (.lst (xs.map fun _ => PV.bl true)) with
    | some (false, xs) => match blsOf xs with
      | some bs => Res.ok (PV.bl (bs.all id)) st
      | none => .bad
    | _ => .bad) = _
  rw [seqOf_lst]
  dsimp only
  rw [blsOf_true]
  simp
theorem kind_tup {xs : List PV} {e : Int} {c : Nat} (he : 0 < e) (hl : xs.length ≤ 1000) (h : ∀ x ∈ xs, ∀ (st : Store) (k : Nat), (ev (PR W) (k + c)).call 36 [x, .int (e - 1)] st = .ok (.bl true) st) : (ev (PR W) (k + c + 20)).call 36 [.tup xs, .int e] st = .ok (.bl true) st := by
  rw [C_call]
  have cc : ∀ k, comp (ev (PR W) (k + c + 6)) false (.call 36 [(.v 2), (.bin .sub (.v 1) (.c (.int 1)))]) (.n 2) .seq [(.v 0)] [] [some (.tup xs), some (.int e), none] st = .ok (.lst (xs.map fun _ => .bl true)) st := fun k => by
    have q := comp_by (r := ev (PR W) (k + c + 6)) (e := .call 36 [(.v 2), (.bin .sub (.v 1) (.c (.int 1)))]) (tg := .n 2) (kk := .seq) (its := [(.v 0)]) (env := [some (.tup xs), some (.int e), none]) (st := st) (l := xs) (fun x : PV => x) (fun _ => PV.bl true) (vs := [.tup xs]) (by simp) (by rw [List.map_id']; exact walk_tup xs) (fun _ => seqOf_tup _) (fun x hx => ⟨[some (.tup xs), some (.int e), some x], rfl, fun acc => by
      have a := fun k => h x hx (st ++ [.lst acc]) k
      have a5 := a (k + 5)
      rw [show k + 5 + c = k + c + 5 by omega] at a5
      simp [df36, a5]⟩) (ln1000 hl) (fun ff => frzL_true ff xs)
    exact q
  have c1 := cc (k + 8)
  rw [show k + 8 + c + 6 = k + c + 14 by omega] at c1
  simp [stepC, df36, D36, b36, he, E_comp, c1, all_true]
theorem kind_num (x : Nu) {e : Int} (he : 0 < e) : (ev (PR W) (k + 40)).call 36 [num x, .int e] st = .ok (.bl true) st :=
  kind_tup (k := k) (c := 20) he (by simp) fun y hy st k => by
    have : y = .int x.1 ∨ y = .int x.2 := by simpa using hy
    rcases this with rfl | rfl
    · exact kind_int _ _
    · exact kind_int _ _
theorem kind_row {x : List Nu} {e : Int} (he : 1 < e) (hl : x.length ≤ 1000) : (ev (PR W) (k + 60)).call 36 [rowP x, .int e] st = .ok (.bl true) st :=
  kind_tup (k := k) (c := 40) (by omega) (by rw [List.length_map]; exact hl) fun y hy st k => by
    rw [List.mem_map] at hy
    obtain ⟨z, _, rfl⟩ := hy
    exact kind_num z (by omega)
theorem kind_tab {X : List (List Nu)} {e : Int} (he : 2 < e) (hl : X.length ≤ 1000) (hx : ∀ x ∈ X, x.length ≤ 1000) : (ev (PR W) (k + 80)).call 36 [tabP X, .int e] st = .ok (.bl true) st :=
  kind_tup (k := k) (c := 60) (by omega) (by rw [List.length_map]; exact hl) fun y hy st k => by
    rw [List.mem_map] at hy
    obtain ⟨z, hz, rfl⟩ := hy
    exact kind_row (by omega) (hx z hz)
end
end Lk

set_option Elab.async false
set_option linter.all false
set_option maxRecDepth 100000
set_option maxHeartbeats 1000000
namespace Lk
open PySem PySem.Spec PyProof.Rows L2 Pv
/-! ### numbers, rows, tables as data -/
structure Dk (n w : Nat) (D : PyData) : Prop where
  sh : D.showable = true
  nd : D.hasDict = false
  dp : D.depth ≤ n
  lf : D.leavesShort 13 = true
  wt : D.weight ≤ w
structure DkA (n w : Nat) (Ds : List PyData) : Prop where
  sh : PyData.showableAll Ds = true
  nd : PyData.hasDictAll Ds = false
  dp : PyData.depthAll Ds ≤ n
  lf : PyData.leavesShortAll 13 Ds = true
  wt : PyData.weightAll Ds ≤ w
theorem DkA.of {n w : Nat} : ∀ {Ds : List PyData}, (∀ D ∈ Ds, Dk n w D) → DkA n ((w + 1) * Ds.length) Ds
  | [], _ => ⟨rfl, rfl, Nat.zero_le _, rfl, Nat.zero_le _⟩
  | D :: Ds, h => by
    have a := h D (List.mem_cons_self ..)
    have b := DkA.of (Ds := Ds) fun E hE => h E (List.mem_cons_of_mem _ hE)
    refine ⟨?_, ?_, ?_, ?_, ?_⟩
    · simp only [PyData.showableAll, a.sh, b.sh, Bool.and_self]
    · simp only [PyData.hasDictAll, a.nd, b.nd, Bool.or_self]
    · simp only [PyData.depthAll]
      exact Nat.max_le.mpr ⟨a.dp, b.dp⟩
    · simp only [PyData.leavesShortAll, a.lf, b.lf, Bool.and_self]
    · simp only [PyData.weightAll, List.length_cons]
      have h1 := a.wt
      have h2 := b.wt
      rw [Nat.mul_succ]
      omega
theorem DkA.tup {n w : Nat} {Ds : List PyData} (h : DkA n w Ds) : Dk (n + 1) w (.tuple Ds) :=
  ⟨by simpa only [PyData.showable] using h.sh, by simpa only [PyData.hasDict] using h.nd, by simp only [PyData.depth]; have := h.dp; omega, by simpa only [PyData.leavesShort] using h.lf, by simpa only [PyData.weight] using h.wt⟩
theorem DkA.lst {n w : Nat} {Ds : List PyData} (h : DkA n w Ds) : Dk (n + 1) w (.list Ds) :=
  ⟨by simpa only [PyData.showable] using h.sh, by simpa only [PyData.hasDict] using h.nd, by simp only [PyData.depth]; have := h.dp; omega, by simpa only [PyData.leavesShort] using h.lf, by simpa only [PyData.weight] using h.wt⟩
theorem dk_int {i : Int} (h : Sm 7 i) : Dk 0 8 (.int i) := by
  unfold Sm at h
  refine ⟨?_, rfl, Nat.le_refl _, ?_, ?_⟩
  · simp only [PyData.showable]
    exact decide_eq_true (Nat.lt_of_le_of_lt (log2_le h) (by decide))
  · simp only [PyData.leavesShort]
    exact decide_eq_true (PyData.shown_int_le (by omega))
  · simp only [PyData.weight]
    have := log2_le h
    split <;> omega
def dN (x : Nu) : PyData := .tuple [.int x.1, .int x.2]
def dR (b : Bool) (x : List Nu) : PyData := if b then .tuple (x.map dN) else .list (x.map dN)
def dT (T : Tb) : PyData := .list (T.map fun z => dR z.1 z.2)
theorem dats_nums (f : Nat → Option PyData) : ∀ x : List Nu, dats f (x.map num) = some (x.map dN)
  | [] => rfl
  | a :: x => by
    rw [List.map_cons]
    unfold dats
    rw [dats_nums f x]
    rfl
theorem dat_row (f : Nat → Option PyData) (b : Bool) (x : List Nu) : dat f (rowB b x) = some (dR b x) := by
  cases b with
  | true =>
    show dat f (.tup (x.map num)) = some (.tuple (x.map dN))
    unfold dat
    rw [dats_nums]
  | false =>
    show dat f (.lst (x.map num)) = some (.list (x.map dN))
    unfold dat
    rw [dats_nums]
theorem dats_rows (f : Nat → Option PyData) : ∀ T : Tb, dats f (rowsP T) = some (T.map fun z => dR z.1 z.2)
  | [] => rfl
  | a :: T => by
    unfold rowsP
    rw [List.map_cons]
    unfold dats
    rw [dat_row]
    have := dats_rows f T
    unfold rowsP at this
    rw [this]
    rfl
theorem dat_tab (st : Store) (T : Tb) : datOf st (tabB false T) = some (dT T) := by
  show dat _ (.lst (rowsP T)) = some (.list (T.map fun z => dR z.1 z.2))
  unfold dat
  rw [dats_rows]
theorem dk_num {x : Nu} (h1 : Sm 7 x.1) (h2 : Sm 7 x.2) : Dk 1 18 (dN x) := by
  have := (DkA.of (n := 0) (w := 8) (Ds := [.int x.1, .int x.2]) fun D hD => by
    have : D = .int x.1 ∨ D = .int x.2 := by simpa using hD
    rcases this with rfl | rfl
    · exact dk_int h1
    · exact dk_int h2).tup
  exact this
theorem Dk.mono {n w w' : Nat} {D : PyData} (h : Dk n w D) (l : w ≤ w') : Dk n w' D := ⟨h.sh, h.nd, h.dp, h.lf, Nat.le_trans h.wt l⟩
theorem dk_row {b : Bool} {x : List Nu} (hx : ∀ z ∈ x, Sm 7 z.1 ∧ Sm 7 z.2) (hl : x.length ≤ 8) : Dk 2 160 (dR b x) := by
  have a := DkA.of (n := 1) (w := 18) (Ds := x.map dN) fun D hD => by
    rw [List.mem_map] at hD
    obtain ⟨z, hz, rfl⟩ := hD
    exact dk_num (hx z hz).1 (hx z hz).2
  rw [List.length_map] at a
  cases b with
  | true => exact a.tup.mono (by omega)
  | false => exact a.lst.mono (by omega)
theorem c_repr {T : Tb} (hT : ∀ r ∈ T, r.2.length ≤ 8 ∧ ∀ z ∈ r.2, Sm 7 z.1 ∧ Sm 7 z.2) (hl : T.length ≤ 8) : ∃ S, ∀ l m (st : Store), biF l m .repr [tabB false T] st = .ok (.str S) st := by
  have a := (DkA.of (n := 2) (w := 160) (Ds := T.map fun z => dR z.1 z.2) fun D hD => by
    rw [List.mem_map] at hD
    obtain ⟨z, hz, rfl⟩ := hD
    exact dk_row (hT z hz).2 (hT z hz).1).lst
  rw [List.length_map] at a
  have a : Dk 3 1300 (dT T) := a.mono (by omega)
  refine ⟨(dT T).shown, fun l m st => ?_⟩
  show (match seqOf st (tabB false T), datOf st (tabB false T) with
    | some _, some d => if d.showable = true ∧ d.hasDict = false ∧ d.depth ≤ 40 ∧ d.shown.length ≤ sizeLine then Res.ok (PV.str d.shown) st else .bad
    | _, _ => .bad) = _
  rw [seq_tabB, dat_tab]
  dsimp only
  rw [if_pos ⟨a.sh, a.nd, by have := a.dp; omega, PyData.shown_fits (B := 13) (by decide) (by decide) a.lf (by have := a.wt; omega)⟩]
end Lk

set_option Elab.async false
set_option linter.all false
set_option maxRecDepth 100000
set_option maxHeartbeats 1000000
namespace Lk
open PySem PySem.Spec PyProof.Rows L2 Pv
/-- no sign beyond the last one -/
def Fr (D : PyData) : Prop := ∀ k, 200 ≤ k → k ∉ D.shown.cps.toList
theorem fr_int (i : Int) : Fr (.int i) := fun k hk => shown_int_free' ⟨by omega, .inr (by omega)⟩ i
theorem fr_join {k : Nat} (hk : 200 ≤ k) {xs : List PyData} (h : ∀ x ∈ xs, Fr x) : k ∉ (Str.join ", " (PyData.shownAll xs)).cps.toList := by
  rw [mem_join, signs_sep]
  rintro (⟨t, ht, hc⟩ | ⟨_, hc⟩)
  · exact shownAll_free (fun x hx => h x hx k hk) t ht hc
  · simp only [List.mem_cons, List.not_mem_nil, or_false] at hc; omega
theorem fr_list {xs : List PyData} (h : ∀ x ∈ xs, Fr x) : Fr (.list xs) := fun k hk => by
  rw [PyData.shown_list, mem_cps_append, mem_cps_append, signs_lbrack, signs_rbrack]
  rintro ((hm | hm) | hm)
  · simp only [List.mem_cons, List.not_mem_nil, or_false] at hm; omega
  · exact fr_join hk h hm
  · simp only [List.mem_cons, List.not_mem_nil, or_false] at hm; omega
theorem fr_tuple {xs : List PyData} (h : ∀ x ∈ xs, Fr x) : Fr (.tuple xs) := fun k hk => by
  rw [PyData.shown_tuple, mem_cps_append, mem_cps_append, signs_lparen]
  rintro ((hm | hm) | hm)
  · simp only [List.mem_cons, List.not_mem_nil, or_false] at hm; omega
  · exact fr_join hk h hm
  · have : ∀ b : Bool, k ∉ ((if b then ",)" else ")" : String) : PySem.Str).cps.toList := fun b => by
      cases b with
      | true =>
        rw [show ((if true = true then ",)" else ")" : String) : PySem.Str).cps.toList = [44, 41] by decide]
        simp only [List.mem_cons, List.not_mem_nil, or_false]; omega
      | false =>
        rw [show ((if false = true then ",)" else ")" : String) : PySem.Str).cps.toList = [41] by decide]
        simp only [List.mem_cons, List.not_mem_nil, or_false]; omega
    exact this _ hm
theorem fr_ok {D : PyData} (h : Fr D) : SeqAt.shaped (.str D.shown) = true := by
  unfold SeqAt.shaped
  have e : PyData.canLay0 (.str D.shown) = true := by
    unfold PyData.canLay0 PyData.strOk
    rw [Array.all_eq_true_iff_forall_mem]
    intro c hc
    refine decide_eq_true ?_
    by_cases l : c < 200
    · omega
    · exact absurd (Array.mem_toList_iff.mpr hc) (h c (by omega))
  rw [e, Bool.true_and]
  exact decide_eq_true (by unfold PyData.depth; omega)
theorem fr_nums (x : List Nu) : ∀ D ∈ x.map dN, Fr D := fun D hD => by
  obtain ⟨z, _, rfl⟩ := List.mem_map.mp hD
  exact fr_tuple fun D hD => by
    simp only [List.mem_cons, List.not_mem_nil, or_false] at hD
    rcases hD with rfl | rfl
    · exact fr_int _
    · exact fr_int _
theorem fr_tab (T : Tb) : Fr (dT T) := fr_list fun D hD => by
  obtain ⟨z, _, rfl⟩ := List.mem_map.mp hD
  obtain ⟨b, x⟩ := z
  cases b with
  | true => exact fr_tuple (fr_nums x)
  | false => exact fr_list (fr_nums x)
theorem c_reprS {T : Tb} (hT : ∀ r ∈ T, r.2.length ≤ 8 ∧ ∀ z ∈ r.2, Sm 7 z.1 ∧ Sm 7 z.2) (hl : T.length ≤ 8) : ∃ S, SeqAt.shaped (.str S) = true ∧ ∀ l m (st : Store), biF l m .repr [tabB false T] st = .ok (.str S) st := by
  have a := (DkA.of (n := 2) (w := 160) (Ds := T.map fun z => dR z.1 z.2) fun D hD => by
    rw [List.mem_map] at hD
    obtain ⟨z, hz, rfl⟩ := hD
    exact dk_row (hT z hz).2 (hT z hz).1).lst
  rw [List.length_map] at a
  have a : Dk 3 1300 (dT T) := a.mono (by omega)
  refine ⟨(dT T).shown, fr_ok (fr_tab T), fun l m st => ?_⟩
  show (match seqOf st (tabB false T), datOf st (tabB false T) with
    | some _, some d => if d.showable = true ∧ d.hasDict = false ∧ d.depth ≤ 40 ∧ d.shown.length ≤ sizeLine then Res.ok (PV.str d.shown) st else .bad
    | _, _ => .bad) = _
  rw [seq_tabB, dat_tab]
  dsimp only
  rw [if_pos ⟨a.sh, a.nd, by have := a.dp; omega, PyData.shown_fits (B := 13) (by decide) (by decide) a.lf (by have := a.wt; omega)⟩]
end Lk

set_option Elab.async false
set_option linter.all false
set_option maxRecDepth 100000
set_option maxHeartbeats 1000000
namespace Lk
open PySem PySem.Spec PyProof.Rows L2 Pv
/-! ### by places -/
theorem list_by {x : List Nu} {w : Nat} (h : x.length = w) : x = (List.range w).map fun k => x.getD k (0, 1) := by
  apply List.ext_getElem?
  intro i
  by_cases hi : i < w
  · rw [List.getElem?_map, List.getElem?_range hi, Option.map_some, List.getD_eq_getElem?_getD, List.getElem?_eq_getElem (by omega)]
    rfl
  · rw [List.getElem?_eq_none (by omega), List.getElem?_eq_none (by simp; omega)]
theorem zipR_by {f : Nu → Nu → Nu} {x y : List Nu} {w : Nat} (h1 : x.length = w) (h2 : y.length = w) : zipR f x y = (List.range w).map fun k => f (x.getD k (0, 1)) (y.getD k (0, 1)) := by
  unfold zipR
  apply List.ext_getElem?
  intro i
  by_cases hi : i < w
  · rw [List.getElem?_map, take_zip (by omega) (by omega), List.getElem?_map, List.getElem?_range hi]
    rfl
  · rw [List.getElem?_eq_none (by simp; omega), List.getElem?_eq_none (by simp; omega)]
theorem getD_map {f : Nat → Nu} {w k : Nat} (h : k < w) : ((List.range w).map f).getD k (0, 1) = f k := by
  rw [List.getD_eq_getElem?_getD, List.getElem?_map, List.getElem?_range h]
  rfl
theorem oTot_by {p : Int} {w : Nat} : ∀ (l : List (Nu × List Nu)) (t : List Nu), t.length = w → (∀ z ∈ l, z.2.length = w) → oTot p l t = (List.range w).map fun k => oDot p (l.map fun z => (z.1, z.2.getD k (0, 1))) (t.getD k (0, 1))
  | [], t, h, _ => list_by h
  | z :: l, t, h, hl => by
    have hz := hl z (List.mem_cons_self ..)
    have n1 : (z.2.map (oTimes p z.1)).length = w := by rw [List.length_map]; exact hz
    have := oTot_by (p := p) l (zipR (oPlus p) t (z.2.map (oTimes p z.1))) (by rw [zipR_len (h.trans n1.symm)]; exact h) fun y hy => hl y (List.mem_cons_of_mem _ hy)
    show oTot p l (zipR (oPlus p) t (z.2.map (oTimes p z.1))) = _
    rw [this]
    apply List.map_congr_left
    intro k hk
    rw [List.mem_range] at hk
    rw [zipR_by h n1, getD_map hk, List.map_cons]
    show _ = oDot p _ (oPlus p (t.getD k (0, 1)) (oTimes p z.1 (z.2.getD k (0, 1))))
    congr 2
    rw [List.getD_eq_getElem?_getD, List.getElem?_map, List.getElem?_eq_getElem (by omega), List.getD_eq_getElem?_getD, List.getElem?_eq_getElem (by omega)]
    rfl
theorem zip_col (x : List Nu) (A : List (List Nu)) (k : Nat) : x.zip (colN A k) = (x.zip A).map fun z => (z.1, z.2.getD k (0, 1)) := by
  unfold colN
  rw [List.zip_map_right]
  rfl
theorem zeroR_get {w k : Nat} : (zeroR w).getD k (0, 1) = (0, 1) := by
  unfold zeroR
  rw [List.getD_eq_getElem?_getD, List.getElem?_replicate]
  split <;> rfl
/-- a row times a table, by columns -/
theorem oTot_cols {p : Int} {w : Nat} {x : List Nu} {A : List (List Nu)} (h : ∀ r ∈ A, r.length = w) : oTot p (x.zip A) (zeroR w) = (List.range w).map fun k => oDot p (x.zip (colN A k)) (0, 1) := by
  rw [oTot_by _ _ (by simp [zeroR]) fun z hz => h _ (List.of_mem_zip hz).2]
  apply List.map_congr_left
  intro k _
  rw [zip_col, zeroR_get]
/-! ### what stands in told and due is data that may be compared -/
structure De (n : Nat) (D : PyData) : Prop where
  cl : D.canLay0 = true
  dp : D.depth ≤ n
theorem De.tup {n : Nat} {Ds : List PyData} (h : ∀ D ∈ Ds, De n D) : De (n + 1) (.tuple Ds) := by
  have a : PyData.canLayAll0 Ds = true ∧ PyData.depthAll Ds ≤ n := by
    induction Ds with
    | nil => exact ⟨rfl, Nat.zero_le _⟩
    | cons D Ds ih =>
      have b := h D (List.mem_cons_self ..)
      have c := ih fun E hE => h E (List.mem_cons_of_mem _ hE)
      exact ⟨by simp only [PyData.canLayAll0, b.cl, c.1, Bool.and_self], by simp only [PyData.depthAll]; exact Nat.max_le.mpr ⟨b.dp, c.2⟩⟩
  exact ⟨by simpa only [PyData.canLay0] using a.1, by simp only [PyData.depth]; have := a.2; omega⟩
theorem De.lst {n : Nat} {Ds : List PyData} (h : ∀ D ∈ Ds, De n D) : De (n + 1) (.list Ds) := by
  have a := De.tup h
  exact ⟨by have := a.cl; simpa only [PyData.canLay0] using this, by have := a.dp; simpa only [PyData.depth] using this⟩
theorem De.mono {n m : Nat} {D : PyData} (h : De n D) (l : n ≤ m) : De m D := ⟨h.cl, Nat.le_trans h.dp l⟩
theorem de_num (x : Nu) : De 1 (dN x) := De.tup (n := 0) fun D hD => by
  have : D = .int x.1 ∨ D = .int x.2 := by simpa using hD
  rcases this with rfl | rfl
  · exact ⟨rfl, Nat.le_refl _⟩
  · exact ⟨rfl, Nat.le_refl _⟩
/-- a value that is a number, a row, a table: its data -/
def Pl (v : PV) : Prop := ∃ D, (∀ f, dat f v = some D) ∧ De 3 D
theorem pl_num (x : Nu) : Pl (num x) := ⟨dN x, fun _ => rfl, (de_num x).mono (by decide)⟩
theorem de_row (x : List Nu) : De 2 (.tuple (x.map dN)) := De.tup fun D hD => by
  rw [List.mem_map] at hD
  obtain ⟨z, _, rfl⟩ := hD
  exact de_num z
theorem dat_rowP (f : Nat → Option PyData) (x : List Nu) : dat f (rowP x) = some (.tuple (x.map dN)) := dat_row f true x
theorem pl_row (x : List Nu) : Pl (rowP x) := ⟨_, fun f => dat_rowP f x, (de_row x).mono (by decide)⟩
theorem dats_rowP (f : Nat → Option PyData) : ∀ X : List (List Nu), dats f (X.map rowP) = some (X.map fun x => .tuple (x.map dN))
  | [] => rfl
  | a :: X => by
    rw [List.map_cons]
    unfold dats
    rw [dat_rowP, dats_rowP f X]
    rfl
theorem pl_tab (X : List (List Nu)) : Pl (tabP X) := by
  refine ⟨.tuple (X.map fun x => .tuple (x.map dN)), fun f => ?_, De.tup fun D hD => ?_⟩
  · unfold tabP dat
    rw [dats_rowP]
  · rw [List.mem_map] at hD
    obtain ⟨z, _, rfl⟩ := hD
    exact de_row z
theorem pl_all : ∀ {vs : List PV}, (∀ v ∈ vs, Pl v) → ∃ Ds, (∀ f, dats f vs = some Ds) ∧ ∀ D ∈ Ds, De 3 D
  | [], _ => ⟨[], fun _ => rfl, fun D h => (nomatch h)⟩
  | v :: vs, h => by
    obtain ⟨D, h1, h2⟩ := h v (List.mem_cons_self ..)
    obtain ⟨Ds, h3, h4⟩ := pl_all fun u hu => h u (List.mem_cons_of_mem _ hu)
    refine ⟨D :: Ds, fun f => ?_, fun E hE => (List.mem_cons.mp hE).elim (fun e => by rw [e]; exact h2) (h4 E)⟩
    unfold dats
    rw [h1, h3]
/-- told == due: two lists in the store with the same things -/
theorem lists_eq {st : Store} {a b : Nat} {vs : List PV} (ha : st[a]? = some (.lst vs)) (hb : st[b]? = some (.lst vs)) (h : ∀ v ∈ vs, Pl v) : cmpR .eq (.ref a) (.ref b) st = some true := by
  obtain ⟨Ds, h1, h2⟩ := pl_all h
  have d : ∀ c, st[c]? = some (.lst vs) → datOf st (.ref c) = some (.list Ds) := fun c hc => by
    show dat (refD st 3) (.ref c) = _
    unfold dat
    unfold refD
    rw [hc]
    dsimp only
    rw [h1]
  have e := De.lst h2
  refine cmp_eq_same (d a ha) (d b hb) ?_
  unfold SeqAt.shaped
  rw [e.cl, Bool.true_and]
  exact decide_eq_true (by have := e.dp; omega)
end Lk

set_option Elab.async false
set_option linter.all false
set_option maxRecDepth 100000
set_option maxHeartbeats 1000000
namespace Lk
open PySem PySem.Spec PyProof.Rows L2 Pv
section
variable {W k : Nat} {st : Store} {p : Int} {cells : List Int} {n T : Nat} {env : En}
/-- a slot's value -/
abbrev At (env : En) (i : Nat) (v : PV) : Prop := env[i]? = some (some v)
/-- a comprehension's names -/
theorem at_in {i j : Nat} {v x : PV} (h : At env i v) (e : i ≠ j) : At ((wipeE env [j]).set j (some x)) i v := by
  show ((wipeE env [j]).set j (some x))[i]? = _
  rw [List.getElem?_set_ne (Ne.symm e)]
  show (env.set j none)[i]? = _
  rw [List.getElem?_set_ne (Ne.symm e)]
  exact h
theorem at_own {j : Nat} {x : PV} (h : j < env.length) : At ((wipeE env [j]).set j (some x)) j x := by
  show ((wipeE env [j]).set j (some x))[j]? = _
  rw [List.getElem?_set_self (by rw [wipeE_length]; exact h)]
theorem asg_own {j : Nat} {x : PV} (h : j < env.length) : asg (.n j) x (wipeE env (slots (.n j))) = some ((wipeE env [j]).set j (some x)) := by
  show (if j < (wipeE env [j]).length then _ else _) = _
  rw [if_pos (by rw [wipeE_length]; exact h)]
  rfl
theorem E_at {i : Nat} {v : PV} (h : At env i v) : (ev (PR W) (k + 1)).E (.v i) env st = .ok v st := by
  rw [E_v, h]
/-- [_law_row(bag, p, width) for k in range(height)] -/
theorem c_rows (F : Fd p) (hW : 2 ^ 8000 ≤ W) (hc : CellsOk cells) (hb : Bag cells n T st) {a b w h : Nat} (h7 : 7 < env.length) (e0 : At env 0 (.ref n)) (e1 : At env 1 (.int p)) (ea : At env a (.int w)) (eb : At env b (.int h)) (ha : a ≠ 7) (hb7 : b ≠ 7) (hw : w ≤ 8) (hh : h ≤ 8) (hT : T ≤ 600) :
    ∃ (X : List (List Nu)) (s' : Store), (∀ k, comp (ev (PR W) (k + 90)) false (.call 34 [(.v 0), (.v 1), (.v a)]) (.n 7) .rng1 [(.v b)] [] env st = .ok (.lst (X.map rowP)) s') ∧ X.length = h ∧ (∀ x ∈ X, x.length = w ∧ ∀ z ∈ x, Nb p 2 z) ∧ Bag cells n (T + 2 * w * h) s' ∧ Upd n st s' := by
  have hl : (List.range h).length ≤ sizeLine := by
    rw [List.length_range]
    exact ln1000 (by omega)
  have hz : ∀ (ff : Nat → Option PV) (ys : List (List Nu)), frzL ff (ys.map rowP) = some (ys.map rowP) := fun ff ys => frzL_row ff id ys
  obtain ⟨ys, s', h1, h2, h3, h4, h5⟩ := comp_draw (r := fun k => ev (PR W) (k + 90)) (e := .call 34 [(.v 0), (.v 1), (.v a)]) (tg := .n 7) (kk := .rng1) (its := [(.v b)]) (vs := [.int h]) (env := env) (l := List.range h) (q := 2 * w) (fun i : Nat => PV.int i) rowP (fun x => x.length = w ∧ ∀ z ∈ x, Nb p 2 z) hb (fun k => by rw [evL_cons, E_at eb]; rfl) (range_ok (by omega)) (fun _ => trivial)
    (fun i _ => ⟨_, asg_own h7, fun s U hU hu => by
      rw [List.length_range] at hu
      have : 2 * w * h ≤ 2 * 8 * 8 := Nat.mul_le_mul (Nat.mul_le_mul_left 2 hw) hh
      obtain ⟨x, s2, a1, a2, a3, a4, a5⟩ := c_row F hW hc hU hw (by omega)
      refine ⟨x, s2, fun k => ?_, ⟨a2, a3⟩, a4, a5⟩
      rw [E_call, evL_cons, E_at (at_in e0 (by decide)), Res.ok_bind, evL_cons, E_at (at_in e1 (by decide)), Res.ok_bind, evL_cons, E_at (at_in ea ha), Res.ok_bind, evL_nil, Res.ok_bind, Res.ok_bind, Res.ok_bind, Res.ok_bind, df34]
      exact a1 (k + 9)⟩) hl hz
  rw [List.length_range] at h2 h4
  exact ⟨ys, s', h1, h2, h3, h4, h5⟩
/-- a drawn thing for each of the list -/
theorem comp_sel {α β ι : Type} {r : ι → Ev} {e : Ex} {tg : Tg} {kk : Ik} {its : List Ex} {vs : List PV} {env : En} {l : List α} {g : Store → Prop} {q : Nat} (mk : α → PV) (f : β → PV) (sel : β → α) (hb : Bag cells n T st) (hi : ∀ k, evL (r k) its env st = .ok vs st) (hw : walk kk vs st = some (l.map mk, g)) (hg : ∀ s, g s)
    (he : ∀ a ∈ l, ∃ env1, asg tg (mk a) (wipeE env (slots tg)) = some env1 ∧ ∀ (s : Store) (U : Nat), Bag cells n U s → U ≤ T + q * l.length → ∃ y s', (∀ k, (r k).E e env1 s = .ok (f y) s') ∧ sel y = a ∧ Bag cells n (U + q) s' ∧ Upd n s s') (hl : l.length ≤ sizeLine) (hz : ∀ ff (ys : List β), frzL ff (ys.map f) = some (ys.map f)) :
    ∃ (ys : List β) (s' : Store), (∀ k, comp (r k) false e tg kk its [] env st = .ok (.lst (ys.map f)) s') ∧ ys.map sel = l ∧ Bag cells n (T + q * l.length) s' ∧ Upd n st s' := by
  have hr : Upd n st st := by
    obtain ⟨t, r, e, _⟩ := hb.at_
    exact Upd.refl' e
  obtain ⟨acc', s', h1, ⟨ys, rfl, h2, h4, h5⟩⟩ := compL_inv (r := r) (e := e) (tg := tg) (g := g) (d := st.length) (env := wipeE env (slots tg)) mk
    (fun i acc s => ∃ ys : List β, acc = ys.map f ∧ ys.map sel = l.take i ∧ Bag cells n (T + q * i) s ∧ Upd n st s) (fun i acc s ⟨ys, _, _, _, u⟩ => ⟨u.len, hg _⟩) l 0 [] st ⟨[], rfl, rfl, hb, hr⟩
    (fun j a acc s ea ⟨ys, e1, e2, e4, e5⟩ => by
      rw [Nat.zero_add] at e2 e4 ⊢
      have hj : j < l.length := (List.getElem?_eq_some_iff.mp ea).1
      obtain ⟨env1, h1, h2⟩ := he a (List.mem_of_getElem? ea)
      obtain ⟨y, s2, h3, h4, h5, h6⟩ := h2 (s ++ [.lst acc]) (T + q * j) e4.app (Nat.add_le_add_left (Nat.mul_le_mul_left q (Nat.le_of_lt hj)) T)
      obtain ⟨s3, rfl, u3, b3⟩ := Upd.app e4 h5 h6
      refine ⟨env1, f y, s3, h1, h3, ys ++ [y], by rw [e1, List.map_append]; rfl, ?_, by rw [Nat.mul_succ, ← Nat.add_assoc]; exact b3, e5.trans u3⟩
      rw [List.map_append, e2, List.take_add_one, ea, List.map_singleton, h4]
      rfl) (by simpa using hl)
  rw [Nat.zero_add] at h2 h4
  refine ⟨ys, s', fun k => ?_, by rw [h2, List.take_length], h4, h5⟩
  obtain ⟨o, e1, e2⟩ := Upd.bag hb h4 h5
  unfold comp
  rw [hi k, Res.ok_bind, hw]
  dsimp only
  rw [h1 k]
  simp only [Res.ok_bind, Bool.false_eq_true, if_false]
  exact done_at e1 e2 fun ff => hz ff ys
theorem frz_rowB (f : Nat → Option PV) (b : Bool) (x : List Nu) : frz f (rowB b x) = some (rowB b x) := by
  cases b with
  | true => exact frz_row f x
  | false =>
    show frz f (.lst (x.map num)) = _
    unfold frz
    rw [frzL_nums]
    rfl
theorem frzL_rowsP (f : Nat → Option PV) : ∀ Y : Tb, frzL f (Y.map fun z => rowB z.1 z.2) = some (Y.map fun z => rowB z.1 z.2)
  | [] => rfl
  | z :: Y => by
    rw [List.map_cons]
    unfold frzL
    rw [frz_rowB, frzL_rowsP f Y]
/-- [_law_list(bag, line) for line in one] -/
theorem c_lists (hc : CellsOk cells) (hb : Bag cells n T st) {X : List (List Nu)} (h14 : 14 < env.length) (e0 : At env 0 (.ref n)) (e6 : At env 6 (.lst (X.map rowP))) (hX : X.length ≤ 8) (hT : T ≤ 600) :
    ∃ (Y : Tb) (s' : Store), (∀ k, comp (ev (PR W) (k + 90)) false (.call 35 [(.v 0), (.v 14)]) (.n 14) .seq [(.v 6)] [] env st = .ok (tabB false Y) s') ∧ Y.map (·.2) = X ∧ Bag cells n (T + X.length) s' ∧ Upd n st s' := by
  obtain ⟨ys, s', h1, h2, h4, h5⟩ := comp_sel (r := fun k => ev (PR W) (k + 90)) (e := .call 35 [(.v 0), (.v 14)]) (tg := .n 14) (kk := .seq) (its := [(.v 6)]) (vs := [.lst (X.map rowP)]) (env := env) (l := X) (q := 1) rowP (fun z : Bool × List Nu => rowB z.1 z.2) (·.2) hb (fun k => by rw [evL_cons, E_at e6]; rfl) (walk_lst (X.map rowP)) (fun _ => rfl)
    (fun x _ => ⟨_, asg_own h14, fun s U hU hu => by
      obtain ⟨b, s2, a1, a4, a5⟩ := c_list (W := W) hc hU (by omega) x
      refine ⟨(b, x), s2, fun k => ?_, rfl, a4, a5⟩
      rw [E_call, evL_cons, E_at (at_in e0 (by decide)), Res.ok_bind, evL_cons, E_at (at_own h14), Res.ok_bind, evL_nil, Res.ok_bind, Res.ok_bind, Res.ok_bind, df35]
      exact a1 (k + 49)⟩) (ln1000 (by omega)) fun ff ys => frzL_rowsP ff ys
  rw [Nat.one_mul] at h4
  exact ⟨ys, s', h1, h2, h4, h5⟩
end
end Lk

set_option Elab.async false
set_option linter.all false
set_option maxRecDepth 100000
set_option maxHeartbeats 1000000
namespace Lk
open PySem PySem.Spec PyProof.Rows L2 Pv
section
variable {W k : Nat} {st : Store} {p : Int} {cells : List Int} {n T : Nat} {env : En}
/-- [line[k] for line in X] -/
theorem c_col {X : List (List Nu)} {s w i : Nat} (h14 : 14 < env.length) (es : At env s (.lst (X.map rowP))) (e7 : At env 7 (.int i)) (hX : ∀ x ∈ X, x.length = w) (hi : i < w) (hl : X.length ≤ 1000) :
    ∀ k, comp (ev (PR W) (k + 10)) false (.idx (.v 14) (.v 7)) (.n 14) .seq [(.v s)] [] env st = .ok (.lst ((colN X i).map num)) st := fun k => by
  have q := comp_by (r := ev (PR W) (k + 10)) (e := .idx (.v 14) (.v 7)) (tg := .n 14) (kk := .seq) (its := [(.v s)]) (vs := [.lst (X.map rowP)]) (env := env) (st := st) (l := X) rowP (fun x => num (x.getD i (0, 1))) (by rw [evL_cons, E_at es]; rfl) (walk_lst (X.map rowP)) (fun _ => rfl)
    (fun x hx => ⟨_, asg_own h14, fun acc => by
      rw [E_idx, E_at (at_own h14), Res.ok_bind, E_at (at_in e7 (by decide)), Res.ok_bind]
      dsimp only
      rw [seq_rowP]
      dsimp only
      rw [atI_nums (by rw [hX x hx]; exact hi)]
      rfl⟩) (ln1000 hl) (fun ff => frzL_num ff _ _)
  have e : (colN X i).map num = X.map fun x => num (x.getD i (0, 1)) := by
    unfold colN
    rw [List.map_map]
    rfl
  rw [e]
  exact q
theorem bi_tuple (l : List (Cs × Cs × Bool)) (m : Nat) (xs : List PV) (st : Store) : biF l m .tuple [.lst xs] st = .ok (.tup xs) st := rfl
/-- [tuple([line[k] for line in X]) for k in range(w)] -/
theorem c_cols {X : List (List Nu)} {s r w : Nat} (h14 : 14 < env.length) (es : At env s (.lst (X.map rowP))) (er : At env r (.int w)) (hs : s ≠ 7) (hX : ∀ x ∈ X, x.length = w) (hl : X.length ≤ 1000) (hw : w ≤ 1000) :
    ∀ k, comp (ev (PR W) (k + 20)) false (.bi .tuple [(.comp false (.idx (.v 14) (.v 7)) (.n 14) .seq [(.v s)] [])]) (.n 7) .rng1 [(.v r)] [] env st = .ok (.lst (((List.range w).map (colN X)).map rowP)) st := fun k => by
  have ll : (List.range w).length ≤ sizeLine := by
    rw [List.length_range]
    exact ln1000 hw
  have q := comp_by (r := ev (PR W) (k + 20)) (e := .bi .tuple [(.comp false (.idx (.v 14) (.v 7)) (.n 14) .seq [(.v s)] [])]) (tg := .n 7) (kk := .rng1) (its := [(.v r)]) (vs := [.int w]) (env := env) (st := st) (l := List.range w) (fun i : Nat => PV.int i) (fun i => rowP (colN X i)) (by rw [evL_cons, E_at er]; rfl) (range_ok hw) (fun _ => trivial)
    (fun i hi => ⟨_, asg_own (by omega), fun acc => by
      rw [List.mem_range] at hi
      have c := c_col (W := W) (st := st ++ [.lst acc]) (env := (wipeE env [7]).set 7 (some (.int i))) (X := X) (s := s) (w := w) (i := i) (by rw [List.length_set, wipeE_length]; exact h14) (at_in es hs) (at_own (by omega)) hX hi hl
      rw [E_bi, evL_cons, E_comp, c (k + 8), Res.ok_bind, evL_nil, Res.ok_bind, Res.ok_bind, bi_tuple]
      rfl⟩) ll (fun ff => frzL_row ff _ _)
  rw [List.map_map]
  exact q
/-- [_law_dot(p, weights, [line[k] for line in one]) for k in range(w)] -/
theorem c_mixed (F : Fd p) (hW : 2 ^ 8000 ≤ W) {X : List (List Nu)} {y : List Nu} {w : Nat} (h14 : 14 < env.length) (e1 : At env 1 (.int p)) (e11 : At env 11 (rowP y)) (es : At env 6 (.lst (X.map rowP))) (er : At env 3 (.int w)) (hX : ∀ x ∈ X, x.length = w ∧ ∀ z ∈ x, Nb p 2 z) (hy : ∀ z ∈ y, Nb p 2 z) (hyl : y.length = X.length) (hl : X.length ≤ 8) (hw : w ≤ 8) :
    ∀ k, comp (ev (PR W) (k + 120)) false (.call 30 [(.v 1), (.v 11), (.comp false (.idx (.v 14) (.v 7)) (.n 14) .seq [(.v 6)] [])]) (.n 7) .rng1 [(.v 3)] [] env st = .ok (.lst ((List.range w).map fun k => num (oDot p (y.zip (colN X k)) (0, 1)))) st := fun k => by
  have ll : (List.range w).length ≤ sizeLine := by
    rw [List.length_range]
    exact ln1000 (by omega)
  refine comp_by (r := ev (PR W) (k + 120)) (e := .call 30 [(.v 1), (.v 11), (.comp false (.idx (.v 14) (.v 7)) (.n 14) .seq [(.v 6)] [])]) (tg := .n 7) (kk := .rng1) (its := [(.v 3)]) (vs := [.int w]) (env := env) (st := st) (l := List.range w) (fun i : Nat => PV.int i) (fun i => num (oDot p (y.zip (colN X i)) (0, 1))) (by rw [evL_cons, E_at er]; rfl) (range_ok (by omega)) (fun _ => trivial)
    (fun i hi => ⟨_, asg_own (by omega), fun acc => by
      rw [List.mem_range] at hi
      have c := c_col (W := W) (st := st ++ [.lst acc]) (env := (wipeE env [7]).set 7 (some (.int i))) (X := X) (s := 6) (w := w) (i := i) (by rw [List.length_set, wipeE_length]; exact h14) (at_in es (by decide)) (at_own (by omega)) (fun x hx => (hX x hx).1) hi (by omega)
      have cm : ∀ z ∈ colN X i, Nb p 2 z := fun z hz => by
        unfold colN at hz
        rw [List.mem_map] at hz
        obtain ⟨x, hx, rfl⟩ := hz
        exact (hX x hx).2 _ (getD_mem (by rw [(hX x hx).1]; exact hi))
      have d := A_ldot (W := W) (k := k + 29) (st := st ++ [.lst acc]) (b := true) (c := false) F hW hy cm (by omega) (by unfold colN; rw [List.length_map]; exact hyl)
      rw [E_call, evL_cons, E_at (at_in e1 (by decide)), Res.ok_bind, evL_cons, E_at (at_in e11 (by decide)), Res.ok_bind, evL_cons, E_comp, c (k + 108), Res.ok_bind, evL_nil, Res.ok_bind, Res.ok_bind, Res.ok_bind, Res.ok_bind, df30]
      exact d⟩) ll (fun ff => frzL_num ff _ _)
end
end Lk

set_option Elab.async false
set_option linter.all false
set_option maxRecDepth 100000
set_option maxHeartbeats 1000000
namespace Lk
open PySem PySem.Spec PyProof.Rows L2 Pv
section
variable {W k : Nat} {st : Store} {p : Int} {env : En}
theorem rng_len {w : Nat} (h : w ≤ 8) : (List.range w).length ≤ sizeLine := by
  rw [List.length_range]
  exact ln1000 (by omega)
theorem c_lunits {w : Nat} (h7 : 7 < env.length) (e3 : At env 3 (.int w)) (hw : w ≤ 8) : ∀ k, comp (ev (PR W) (k + 40)) false (.call 31 [(.v 3), (.v 7)]) (.n 7) .rng1 [(.v 3)] [] env st = .ok (.lst (((List.range w).map (unitR w)).map rowP)) st := fun k => by
  have q := comp_by (r := ev (PR W) (k + 40)) (e := .call 31 [(.v 3), (.v 7)]) (tg := .n 7) (kk := .rng1) (its := [(.v 3)]) (vs := [.int w]) (env := env) (st := st) (l := List.range w) (fun i : Nat => PV.int i) (fun i => rowP (unitR w i)) (by rw [evL_cons, E_at e3]; rfl) (range_ok (by omega)) (fun _ => trivial)
    (fun i hi => ⟨_, asg_own h7, fun acc => by
      have d := c_lunit (W := W) (k := k + 19) (st := st ++ [.lst acc]) (w := w) (j := i) (by omega)
      rw [E_call, evL_cons, E_at (at_in e3 (by decide)), Res.ok_bind, evL_cons, E_at (at_own h7), Res.ok_bind, evL_nil, Res.ok_bind, Res.ok_bind, Res.ok_bind, df31]
      exact d⟩) (rng_len hw) (fun ff => frzL_row ff _ _)
  rw [List.map_map]
  exact q
/-- one[0] -/
theorem E_first {X : List (List Nu)} {x : List Nu} (e6 : At env 6 (.lst (rowP x :: X.map rowP))) (k : Nat) : (ev (PR W) (k + 2)).E (.idx (.v 6) (.c (.int 0))) env st = .ok (rowP x) st := by
  rw [E_idx, E_at e6, Res.ok_bind, E_c, Res.ok_bind]
  dsimp only
  rw [seqOf_lst]
  dsimp only
  rw [atI0]
  rfl
theorem E_row {e : Ex} {x : List Nu} {i k : Nat} (he : (ev (PR W) (k + 1)).E e env st = .ok (rowP x) st) (e7 : At env 7 (.int i)) (hi : i < x.length) : (ev (PR W) (k + 2)).E (.idx e (.v 7)) env st = .ok (num (x.getD i (0, 1))) st := by
  rw [E_idx, he, Res.ok_bind, E_at e7, Res.ok_bind]
  dsimp only
  rw [seq_rowP]
  dsimp only
  rw [atI_nums hi]
  rfl
theorem c_lpl (F : Fd p) (hW : 2 ^ 8000 ≤ W) {X : List (List Nu)} {x y : List Nu} {w : Nat} (h7 : 7 < env.length) (e1 : At env 1 (.int p)) (e3 : At env 3 (.int w)) (e6 : At env 6 (.lst (rowP x :: X.map rowP))) (e12 : At env 12 (rowP y)) (hx : x.length = w ∧ ∀ z ∈ x, Nb p 2 z) (hy : y.length = w ∧ ∀ z ∈ y, Nb p 2 z) (hw : w ≤ 8) :
    ∀ k, comp (ev (PR W) (k + 90)) false (.call 27 [(.v 1), (.idx (.idx (.v 6) (.c (.int 0))) (.v 7)), (.idx (.v 12) (.v 7))]) (.n 7) .rng1 [(.v 3)] [] env st = .ok (.lst ((List.range w).map fun i => num (oPlus p (x.getD i (0, 1)) (y.getD i (0, 1))))) st := fun k =>
  comp_by (r := ev (PR W) (k + 90)) (e := .call 27 [(.v 1), (.idx (.idx (.v 6) (.c (.int 0))) (.v 7)), (.idx (.v 12) (.v 7))]) (tg := .n 7) (kk := .rng1) (its := [(.v 3)]) (vs := [.int w]) (env := env) (st := st) (l := List.range w) (fun i : Nat => PV.int i) (fun i => num (oPlus p (x.getD i (0, 1)) (y.getD i (0, 1)))) (by rw [evL_cons, E_at e3]; rfl) (range_ok (by omega)) (fun _ => trivial)
    (fun i hi => ⟨_, asg_own h7, fun acc => by
      rw [List.mem_range] at hi
      have g1 := hx.2 _ (getD_mem (i := i) (by rw [hx.1]; exact hi))
      have g2 := hy.2 _ (getD_mem (i := i) (by rw [hy.1]; exact hi))
      have d := A_lplus (W := W) (k := k + 29) (st := st ++ [.lst acc]) F hW (g1.nm (by decide)) (g2.nm (by decide))
      rw [E_call, evL_cons, E_at (at_in e1 (by decide)), Res.ok_bind, evL_cons, E_row (E_first (at_in e6 (by decide)) _) (at_own h7) (by rw [hx.1]; exact hi), Res.ok_bind, evL_cons, E_row (E_at (at_in e12 (by decide))) (at_own h7) (by rw [hy.1]; exact hi), Res.ok_bind, evL_nil, Res.ok_bind, Res.ok_bind, Res.ok_bind, Res.ok_bind, df27]
      exact d⟩) (rng_len hw) (fun ff => frzL_num ff _ _)
theorem c_lmi (F : Fd p) (hW : 2 ^ 8000 ≤ W) {X : List (List Nu)} {x y : List Nu} {w : Nat} (h7 : 7 < env.length) (e1 : At env 1 (.int p)) (e3 : At env 3 (.int w)) (e6 : At env 6 (.lst (rowP x :: X.map rowP))) (e12 : At env 12 (rowP y)) (hx : x.length = w ∧ ∀ z ∈ x, Nb p 2 z) (hy : y.length = w ∧ ∀ z ∈ y, Nb p 2 z) (hw : w ≤ 8) :
    ∀ k, comp (ev (PR W) (k + 90)) false (.call 29 [(.v 1), (.idx (.idx (.v 6) (.c (.int 0))) (.v 7)), (.idx (.v 12) (.v 7))]) (.n 7) .rng1 [(.v 3)] [] env st = .ok (.lst ((List.range w).map fun i => num (oMinus p (x.getD i (0, 1)) (y.getD i (0, 1))))) st := fun k =>
  comp_by (r := ev (PR W) (k + 90)) (e := .call 29 [(.v 1), (.idx (.idx (.v 6) (.c (.int 0))) (.v 7)), (.idx (.v 12) (.v 7))]) (tg := .n 7) (kk := .rng1) (its := [(.v 3)]) (vs := [.int w]) (env := env) (st := st) (l := List.range w) (fun i : Nat => PV.int i) (fun i => num (oMinus p (x.getD i (0, 1)) (y.getD i (0, 1)))) (by rw [evL_cons, E_at e3]; rfl) (range_ok (by omega)) (fun _ => trivial)
    (fun i hi => ⟨_, asg_own h7, fun acc => by
      rw [List.mem_range] at hi
      have g1 := hx.2 _ (getD_mem (i := i) (by rw [hx.1]; exact hi))
      have g2 := hy.2 _ (getD_mem (i := i) (by rw [hy.1]; exact hi))
      have d := A_lminus (W := W) (k := k + 29) (st := st ++ [.lst acc]) F hW (g1.nm (by decide)) (g2.nm (by decide))
      rw [E_call, evL_cons, E_at (at_in e1 (by decide)), Res.ok_bind, evL_cons, E_row (E_first (at_in e6 (by decide)) _) (at_own h7) (by rw [hx.1]; exact hi), Res.ok_bind, evL_cons, E_row (E_at (at_in e12 (by decide))) (at_own h7) (by rw [hy.1]; exact hi), Res.ok_bind, evL_nil, Res.ok_bind, Res.ok_bind, Res.ok_bind, Res.ok_bind, df29]
      exact d⟩) (rng_len hw) (fun ff => frzL_num ff _ _)
theorem c_lti (F : Fd p) (hW : 2 ^ 8000 ≤ W) {X : List (List Nu)} {x : List Nu} {m : Nu} {w : Nat} (h21 : 21 < env.length) (e1 : At env 1 (.int p)) (e6 : At env 6 (.lst (rowP x :: X.map rowP))) (e10 : At env 10 (num m)) (hx : x.length = w ∧ ∀ z ∈ x, Nb p 2 z) (hm : Nb p 2 m) (hw : w ≤ 8) :
    ∀ k, comp (ev (PR W) (k + 90)) false (.call 28 [(.v 1), (.v 10), (.v 21)]) (.n 21) .seq [(.idx (.v 6) (.c (.int 0)))] [] env st = .ok (.lst (x.map fun z => num (oTimes p m z))) st := fun k =>
  comp_by (r := ev (PR W) (k + 90)) (e := .call 28 [(.v 1), (.v 10), (.v 21)]) (tg := .n 21) (kk := .seq) (its := [(.idx (.v 6) (.c (.int 0)))]) (vs := [rowP x]) (env := env) (st := st) (l := x) num (fun z => num (oTimes p m z)) (by rw [evL_cons, E_first e6]; rfl) (walk_tup (x.map num)) (fun _ => rfl)
    (fun z hz => ⟨_, asg_own h21, fun acc => by
      have d := A_ltimes (W := W) (k := k + 29) (st := st ++ [.lst acc]) F hW (hm.nm (by decide)) ((hx.2 z hz).nm (by decide))
      rw [E_call, evL_cons, E_at (at_in e1 (by decide)), Res.ok_bind, evL_cons, E_at (at_in e10 (by decide)), Res.ok_bind, evL_cons, E_at (at_own h21), Res.ok_bind, evL_nil, Res.ok_bind, Res.ok_bind, Res.ok_bind, Res.ok_bind, df28]
      exact d⟩) (ln1000 (by omega)) (fun ff => frzL_num ff _ _)
theorem c_ldots (F : Fd p) (hW : 2 ^ 8000 ≤ W) {X : List (List Nu)} {y : List Nu} {w : Nat} (h14 : 14 < env.length) (e1 : At env 1 (.int p)) (e6 : At env 6 (.lst (X.map rowP))) (e12 : At env 12 (rowP y)) (hX : ∀ x ∈ X, x.length = w ∧ ∀ z ∈ x, Nb p 2 z) (hy : y.length = w ∧ ∀ z ∈ y, Nb p 2 z) (hw : w ≤ 8) (hl : X.length ≤ 8) :
    ∀ k, comp (ev (PR W) (k + 120)) false (.call 30 [(.v 1), (.v 14), (.v 12)]) (.n 14) .seq [(.v 6)] [] env st = .ok (.lst (X.map fun x => num (oDot p (x.zip y) (0, 1)))) st := fun k =>
  comp_by (r := ev (PR W) (k + 120)) (e := .call 30 [(.v 1), (.v 14), (.v 12)]) (tg := .n 14) (kk := .seq) (its := [(.v 6)]) (vs := [.lst (X.map rowP)]) (env := env) (st := st) (l := X) rowP (fun x => num (oDot p (x.zip y) (0, 1))) (by rw [evL_cons, E_at e6]; rfl) (walk_lst (X.map rowP)) (fun _ => rfl)
    (fun x hx => ⟨_, asg_own h14, fun acc => by
      have d := A_ldot (W := W) (k := k + 29) (st := st ++ [.lst acc]) (b := true) (c := true) F hW (hX x hx).2 hy.2 (by rw [(hX x hx).1]; exact hw) (by rw [(hX x hx).1, hy.1])
      rw [E_call, evL_cons, E_at (at_in e1 (by decide)), Res.ok_bind, evL_cons, E_at (at_own h14), Res.ok_bind, evL_cons, E_at (at_in e12 (by decide)), Res.ok_bind, evL_nil, Res.ok_bind, Res.ok_bind, Res.ok_bind, Res.ok_bind, df30]
      exact d⟩) (ln1000 (by omega)) (fun ff => frzL_num ff _ _)
end
end Lk

set_option Elab.async false
set_option linter.all false
set_option maxRecDepth 100000
set_option maxHeartbeats 1000000
namespace Lk
open PySem PySem.Spec PyProof.Rows L2 Pv
section
variable {W k : Nat} {st : Store} {p : Int} {env : En}
/-- [tuple([_law_dot(p, line, part) for part in columns]) for line in one] -/
theorem c_tt (F : Fd p) (hW : 2 ^ 8000 ≤ W) {X C : List (List Nu)} {w : Nat} (h14 : 21 < env.length) (e1 : At env 1 (.int p)) (e6 : At env 6 (.lst (X.map rowP))) (e17 : At env 17 (.lst (C.map rowP))) (hX : ∀ x ∈ X, x.length = w ∧ ∀ z ∈ x, Nb p 2 z) (hC : ∀ x ∈ C, x.length = w ∧ ∀ z ∈ x, Nb p 2 z) (hw : w ≤ 8) (hl : X.length ≤ 8) (hc : C.length ≤ 8) :
    ∀ k, comp (ev (PR W) (k + 140)) false (.bi .tuple [(.comp false (.call 30 [(.v 1), (.v 14), (.v 21)]) (.n 21) .seq [(.v 17)] [])]) (.n 14) .seq [(.v 6)] [] env st = .ok (.lst ((X.map fun x => C.map fun c => oDot p (x.zip c) (0, 1)).map rowP)) st := fun k => by
  have q := comp_by (r := ev (PR W) (k + 140)) (e := .bi .tuple [(.comp false (.call 30 [(.v 1), (.v 14), (.v 21)]) (.n 21) .seq [(.v 17)] [])]) (tg := .n 14) (kk := .seq) (its := [(.v 6)]) (vs := [.lst (X.map rowP)]) (env := env) (st := st) (l := X) rowP (fun x => rowP (C.map fun c => oDot p (x.zip c) (0, 1))) (by rw [evL_cons, E_at e6]; rfl) (walk_lst (X.map rowP)) (fun _ => rfl)
    (fun x hx => ⟨_, asg_own (by omega), fun acc => by
      have l1 : 21 < ((wipeE env [14]).set 14 (some (rowP x))).length := by rw [List.length_set, wipeE_length]; exact h14
      have c := comp_by (r := ev (PR W) (k + 138)) (e := .call 30 [(.v 1), (.v 14), (.v 21)]) (tg := .n 21) (kk := .seq) (its := [(.v 17)]) (vs := [.lst (C.map rowP)]) (env := (wipeE env [14]).set 14 (some (rowP x))) (st := st ++ [.lst acc]) (l := C) rowP (fun c => num (oDot p (x.zip c) (0, 1))) (by rw [evL_cons, E_at (at_in e17 (by decide))]; rfl) (walk_lst (C.map rowP)) (fun _ => rfl)
        (fun y hy => ⟨_, asg_own l1, fun acc2 => by
          have d := A_ldot (W := W) (k := k + 47) (st := st ++ [.lst acc] ++ [.lst acc2]) (b := true) (c := true) F hW (hX x hx).2 (hC y hy).2 (by rw [(hX x hx).1]; exact hw) (by rw [(hX x hx).1, (hC y hy).1])
          rw [E_call, evL_cons, E_at (at_in (at_in e1 (by decide)) (by decide)), Res.ok_bind, evL_cons, E_at (at_in (at_own (by omega)) (by decide)), Res.ok_bind, evL_cons, E_at (at_own l1), Res.ok_bind, evL_nil, Res.ok_bind, Res.ok_bind, Res.ok_bind, Res.ok_bind, df30]
          exact d⟩) (ln1000 (by omega)) (fun ff => frzL_num ff _ _)
      rw [E_bi, evL_cons, E_comp, c, Res.ok_bind, evL_nil, Res.ok_bind, Res.ok_bind, bi_tuple, tup_nums]⟩) (ln1000 (by omega)) (fun ff => frzL_row ff _ _)
  rw [List.map_map]
  exact q
/-- all([_law_kinds(thing, 3) for thing in told]) -/
theorem c_kinds {vs : List PV} {n : Nat} (h24 : 24 < env.length) (e19 : At env 19 (.ref n)) (hn : st[n]? = some (.lst vs)) (hv : ∀ v ∈ vs, ∀ (s : Store) (k : Nat), (ev (PR W) (k + 80)).call 36 [v, .int 3] s = .ok (.bl true) s) (hl : vs.length ≤ 1000) :
    ∀ k, comp (ev (PR W) (k + 100)) false (.call 36 [(.v 24), (.c (.int 3))]) (.n 24) .seq [(.v 19)] [] env st = .ok (.lst (vs.map fun _ => .bl true)) st := fun k =>
  comp_by (r := ev (PR W) (k + 100)) (e := .call 36 [(.v 24), (.c (.int 3))]) (tg := .n 24) (kk := .seq) (its := [(.v 19)]) (vs := [.ref n]) (env := env) (st := st) (l := vs) (fun v : PV => v) (fun _ => PV.bl true) (by rw [evL_cons, E_at e19]; rfl) (by rw [List.map_id']; exact walk_ref hn) (fun acc => seqOf_ref (app_get hn))
    (fun v hx => ⟨_, asg_own h24, fun acc => by
      rw [E_call, evL_cons, E_at (at_own h24), Res.ok_bind, evL_cons, E_c, Res.ok_bind, evL_nil, Res.ok_bind, Res.ok_bind, Res.ok_bind, df36]
      exact hv v hx _ (k + 19)⟩) (ln1000 hl) (fun ff => frzL_true ff vs)
end
end Lk

set_option Elab.async false
set_option linter.all false
set_option maxRecDepth 100000
set_option maxHeartbeats 1000000
namespace Lk
open PySem PySem.Spec PyProof.Rows L2 Pv
section
variable {W k : Nat} {st : Store} {p : Int} {env : En}
/-- row i of a table -/
def rowN (X : List (List Nu)) (i : Nat) : List Nu := X.getD i []
theorem rowN_mem {X : List (List Nu)} {i : Nat} (h : i < X.length) : rowN X i ∈ X := by
  unfold rowN
  rw [List.getD_eq_getElem?_getD, List.getElem?_eq_getElem h]
  exact List.getElem_mem h
theorem atI_rows {X : List (List Nu)} {i : Nat} (h : i < X.length) : atI (X.map rowP) (i : Int) = some (rowP (rowN X i)) := by
  unfold rowN
  rw [List.getD_eq_getElem?_getD, List.getElem?_eq_getElem h]
  exact atI_nat (j := i) (by rw [List.getElem?_map, List.getElem?_eq_getElem h]; rfl)
theorem E_rowN {X : List (List Nu)} {a b i k : Nat} (ea : At env a (.lst (X.map rowP))) (eb : At env b (.int i)) (hi : i < X.length) : (ev (PR W) (k + 2)).E (.idx (.v a) (.v b)) env st = .ok (rowP (rowN X i)) st := by
  rw [E_idx, E_at ea, Res.ok_bind, E_at eb, Res.ok_bind]
  dsimp only
  rw [seqOf_lst]
  dsimp only
  rw [atI_rows hi]
  rfl
theorem E_cell {e : Ex} {x : List Nu} {b i k : Nat} (he : (ev (PR W) (k + 1)).E e env st = .ok (rowP x) st) (eb : At env b (.int i)) (hi : i < x.length) : (ev (PR W) (k + 2)).E (.idx e (.v b)) env st = .ok (num (x.getD i (0, 1))) st := by
  rw [E_idx, he, Res.ok_bind, E_at eb, Res.ok_bind]
  dsimp only
  rw [seq_rowP]
  dsimp only
  rw [atI_nums hi]
  rfl
theorem c_add (F : Fd p) (hW : 2 ^ 8000 ≤ W) {X Y : List (List Nu)} {w i : Nat} (h23 : 23 < env.length) (e1 : At env 1 (.int p)) (e3 : At env 3 (.int w)) (e6 : At env 6 (.lst (X.map rowP))) (e8 : At env 8 (.lst (Y.map rowP))) (e7 : At env 7 (.int i)) (hX : ∀ x ∈ X, x.length = w ∧ ∀ z ∈ x, Nb p 2 z) (hY : ∀ x ∈ Y, x.length = w ∧ ∀ z ∈ x, Nb p 2 z) (hi : i < X.length) (hi2 : i < Y.length) (hw : w ≤ 8) :
    ∀ k, comp (ev (PR W) (k + 90)) false (.call 27 [(.v 1), (.idx (.idx (.v 6) (.v 7)) (.v 23)), (.idx (.idx (.v 8) (.v 7)) (.v 23))]) (.n 23) .rng1 [(.v 3)] [] env st = .ok (.lst ((zipR (oPlus p) (rowN X i) (rowN Y i)).map num)) st := fun k => by
  have mx := hX _ (rowN_mem hi)
  have my := hY _ (rowN_mem hi2)
  have q := comp_by (r := ev (PR W) (k + 90)) (e := .call 27 [(.v 1), (.idx (.idx (.v 6) (.v 7)) (.v 23)), (.idx (.idx (.v 8) (.v 7)) (.v 23))]) (tg := .n 23) (kk := .rng1) (its := [(.v 3)]) (vs := [.int w]) (env := env) (st := st) (l := List.range w) (fun i : Nat => PV.int i) (fun j => num (oPlus p ((rowN X i).getD j (0, 1)) ((rowN Y i).getD j (0, 1)))) (by rw [evL_cons, E_at e3]; rfl) (range_ok (by omega)) (fun _ => trivial)
    (fun j hj => ⟨_, asg_own h23, fun acc => by
      rw [List.mem_range] at hj
      have g1 := mx.2 _ (getD_mem (i := j) (by rw [mx.1]; exact hj))
      have g2 := my.2 _ (getD_mem (i := j) (by rw [my.1]; exact hj))
      have d := A_lplus (W := W) (k := k + 29) (st := st ++ [.lst acc]) F hW (g1.nm (by decide)) (g2.nm (by decide))
      rw [E_call, evL_cons, E_at (at_in e1 (by decide)), Res.ok_bind, evL_cons, E_cell (E_rowN (at_in e6 (by decide)) (at_in e7 (by decide)) hi) (at_own h23) (by rw [mx.1]; exact hj), Res.ok_bind, evL_cons, E_cell (E_rowN (at_in e8 (by decide)) (at_in e7 (by decide)) hi2) (at_own h23) (by rw [my.1]; exact hj), Res.ok_bind, evL_nil, Res.ok_bind, Res.ok_bind, Res.ok_bind, Res.ok_bind, df27]
      exact d⟩) (rng_len hw) (fun ff => frzL_num ff _ _)
  rw [zipR_by mx.1 my.1, List.map_map]
  exact q
/-- env but for some slots -/
def But (is : List Nat) (env env' : En) : Prop := env'.length = env.length ∧ ∀ i, i ∉ is → env'[i]? = env[i]?
theorem But.at_ {is : List Nat} {env env' : En} {i : Nat} {v : PV} (b : But is env env') (h : At env i v) (hi : i ∉ is) : At env' i v := (b.2 i hi).trans h
theorem but_set {is : List Nat} {env env' : En} {i : Nat} {x : Option PV} (b : But is env env') (hi : i ∈ is) : But is env (env'.set i x) :=
  ⟨by rw [List.length_set]; exact b.1, fun j hj => by rw [List.getElem?_set_ne (fun e => hj (by rw [← e]; exact hi))]; exact b.2 j hj⟩
/-- for k in range(height): added.append(..) -/
theorem c_added (F : Fd p) (hW : 2 ^ 8000 ≤ W) {X Y : List (List Nu)} {w h a : Nat} (h23 : 23 < env.length) (e1 : At env 1 (.int p)) (e3 : At env 3 (.int w)) (e4 : At env 4 (.int h)) (e6 : At env 6 (.lst (X.map rowP))) (e8 : At env 8 (.lst (Y.map rowP))) (e22 : At env 22 (.ref a)) (ha : st[a]? = some (.lst [])) (hX : ∀ x ∈ X, x.length = w ∧ ∀ z ∈ x, Nb p 2 z) (hY : ∀ x ∈ Y, x.length = w ∧ ∀ z ∈ x, Nb p 2 z) (hx : X.length = h) (hy : Y.length = h) (hw : w ≤ 8) (hh : h ≤ 8) :
    ∀ k, ∃ env', (ev (PR W) (k + 110)).S (.for_ (.n 7) .rng1 [(.v 4)] [.app (.v 22) (.bi .tuple [(.comp false (.call 27 [(.v 1), (.idx (.idx (.v 6) (.v 7)) (.v 23)), (.idx (.idx (.v 8) (.v 7)) (.v 23))]) (.n 23) .rng1 [(.v 3)] [])])]) env st
      = .ok (.nx, env') (st.set a (.lst (((List.range h).map fun i => zipR (oPlus p) (rowN X i) (rowN Y i)).map rowP))) ∧ But [7] env env' := by
  intro k
  have lt : a < st.length := (List.getElem?_eq_some_iff.mp ha).1
  let R : Nat → List PV := fun i => ((List.range i).map fun i => zipR (oPlus p) (rowN X i) (rowN Y i)).map rowP
  have sq : ∀ l, (st.set a (.lst l))[a]? = some (.lst l) := fun l => List.getElem?_set_self lt
  obtain ⟨env', st', f1, f2, f3⟩ := for_inv (r := ev (PR W) (k + 109)) (tg := .n 7) (b := [.app (.v 22) (.bi .tuple [(.comp false (.call 27 [(.v 1), (.idx (.idx (.v 6) (.v 7)) (.v 23)), (.idx (.idx (.v 8) (.v 7)) (.v 23))]) (.n 23) .rng1 [(.v 3)] [])])]) (g := fun _ => True) (xs := (List.range h).map fun (i : Nat) => PV.int i) (env := env) (st := st)
    (fun i env' s => But [7] env env' ∧ s = st.set a (.lst (R i))) ⟨⟨rfl, fun _ _ => rfl⟩, by
      show st = st.set a (.lst [])
      have := (List.getElem?_eq_some_iff.mp ha).2
      rw [← this]
      exact (List.set_getElem_self _).symm⟩ (fun _ _ _ _ _ => trivial) (fun i z env' s hz ⟨hb, hs⟩ => by
      subst hs
      rw [List.getElem?_map] at hz
      have hi : i < h := by
        by_cases hi : i < h
        · exact hi
        · rw [List.getElem?_eq_none (by simpa using hi)] at hz
          cases hz
      rw [List.getElem?_range hi] at hz
      cases hz
      have b2 : But [7] env (env'.set 7 (some (.int (i : Int)))) := but_set hb (by simp)
      have c := c_add (W := W) (st := st.set a (.lst (R i))) (env := env'.set 7 (some (.int (i : Int)))) (i := i) F hW (by rw [b2.1]; exact h23) (b2.at_ e1 (by decide)) (b2.at_ e3 (by decide)) (b2.at_ e6 (by decide)) (b2.at_ e8 (by decide)) (List.getElem?_set_self (by rw [hb.1]; omega)) hX hY (by omega) (by omega) hw
      have pu : push a (rowP (zipR (oPlus p) (rowN X i) (rowN Y i))) (st.set a (.lst (R i))) = some (st.set a (.lst (R (i + 1)))) := by
        unfold push
        rw [sq]
        dsimp only
        rw [if_pos (by
          have : (R i).length = i := by simp [R]
          rw [this]
          exact Nat.lt_of_lt_of_le (show i < 100 by omega) (by decide)), List.set_set]
        have : R (i + 1) = R i ++ [rowP (zipR (oPlus p) (rowN X i) (rowN Y i))] := by simp [R, List.range_succ]
        rw [this]
      refine ⟨_, (by show (if 7 < env'.length then _ else _) = _; rw [if_pos (by rw [hb.1]; omega)]), env'.set 7 (some (.int (i : Int))), _, .inl ?_, b2, rfl⟩
      have ex : (ev (PR W) (k + 108)).E (.bi .tuple [(.comp false (.call 27 [(.v 1), (.idx (.idx (.v 6) (.v 7)) (.v 23)), (.idx (.idx (.v 8) (.v 7)) (.v 23))]) (.n 23) .rng1 [(.v 3)] [])]) (env'.set 7 (some (.int (i : Int)))) (st.set a (.lst (R i))) = .ok (rowP (zipR (oPlus p) (rowN X i) (rowN Y i))) (st.set a (.lst (R i))) := by
        rw [E_bi, evL_cons, E_comp, c (k + 16), Res.ok_bind, evL_nil, Res.ok_bind, Res.ok_bind, bi_tuple]
        rfl
      rw [blk_cons, S_app, E_at (b2.at_ e22 (by decide)), Res.ok_bind]
      dsimp only
      rw [sq]
      dsimp only
      rw [ex, Res.ok_bind, pu, tl_some, Res.ok_bind]
      rfl)
  refine ⟨env', ?_, f2⟩
  rw [S_for, evL_cons, E_at e4, Res.ok_bind, evL_nil, Res.ok_bind, Res.ok_bind, range_ok (by omega)]
  dsimp only
  rw [f1, f3, List.length_map, List.length_range]
end
end Lk

set_option Elab.async false
set_option linter.all false
set_option maxRecDepth 100000
set_option maxHeartbeats 1000000
namespace Lk
open PySem PySem.Spec PyProof.Rows L2 Pv
section
variable {W k : Nat} {st st' : Store} {env : En}
theorem step_set {r : Prog} {i : Nat} {e : Ex} {v : PV} {ss : List Pv.Sm} (he : (ev r k).E e env st = .ok v st') (hi : i < env.length) : blk (ev r (k + 1)) (.set (.n i) e :: ss) env st = blk (ev r (k + 1)) ss (env.set i (some v)) st' := by
  rw [blk_cons, S_set, he, Res.ok_bind]
  show (Res.bind (tl (if i < env.length then _ else _) st') _).bind _ = _
  rw [if_pos hi]
  rfl
theorem step_app {r : Prog} {i a : Nat} {e : Ex} {v : PV} {xs : List PV} {ss : List Pv.Sm} (hi : At env i (.ref a)) (ha : st[a]? = some (.lst xs)) (he : (ev r (k + 1)).E e env st = .ok v st) (hl : xs.length < 1000) : blk (ev r (k + 2)) (.app (.v i) e :: ss) env st = blk (ev r (k + 2)) ss env (st.set a (.lst (xs ++ [v]))) := by
  have h1 : xs.length < sizeLine := Nat.lt_of_lt_of_le hl (by decide)
  have pu : push a v st = some (st.set a (.lst (xs ++ [v]))) := by
    unfold push
    rw [ha]
    dsimp only
    rw [if_pos h1]
  have q : (ev r (k + 1)).E (.v i) env st = .ok (.ref a) st := by rw [E_v, hi]
  rw [blk_cons, S_app, q, Res.ok_bind]
  dsimp only
  rw [ha]
  dsimp only
  rw [he, Res.ok_bind, pu]
  rfl
theorem step_ext {r : Prog} {i a : Nat} {e : Ex} {xs ys : List PV} {ss : List Pv.Sm} (hi : At env i (.ref a)) (ha : st[a]? = some (.lst xs)) (he : (ev r (k + 1)).E e env st = .ok (.lst ys) st) (hl : xs.length + ys.length ≤ 1000) : blk (ev r (k + 2)) (.ext (.v i) e :: ss) env st = blk (ev r (k + 2)) ss env (st.set a (.lst (xs ++ ys))) := by
  have h1 : xs.length + ys.length ≤ sizeLine := ln1000 hl
  have q : (ev r (k + 1)).E (.v i) env st = .ok (.ref a) st := by rw [E_v, hi]
  rw [blk_cons, S_ext, q, Res.ok_bind]
  dsimp only
  rw [ha]
  dsimp only
  rw [he, Res.ok_bind]
  rw [seqOf_lst, ha]
  dsimp only
  rw [if_pos h1]
  rfl
theorem step_for {r : Prog} {s : Pv.Sm} {env' : En} {ss : List Pv.Sm} (h : (ev r k).S s env st = .ok (.nx, env') st') : blk (ev r k) (s :: ss) env st = blk (ev r k) ss env' st' := by
  rw [blk_cons, h]
  rfl
/-- a list that may change is laid -/
theorem E_new {r : Prog} {es : List Ex} {vs : List PV} (he : evL (ev r k) es env st = .ok vs st) (hl : vs.length ≤ 1000) : (ev r (k + 1)).E (.lst true es) env st = .ok (.ref st.length) (st ++ [.lst vs]) := by
  rw [E_lst, he, Res.ok_bind, if_pos (ln1000 hl)]
  rfl
theorem E_lstF {r : Prog} {es : List Ex} {vs : List PV} (he : evL (ev r k) es env st = .ok vs st) (hl : vs.length ≤ 1000) : (ev r (k + 1)).E (.lst false es) env st = .ok (.lst vs) st := by
  rw [E_lst, he, Res.ok_bind, if_pos (ln1000 hl)]
  rfl
/-- the values of some expressions, the store as it was -/
theorem evL_c {r : Prog} {e : Ex} {es : List Ex} {v : PV} {vs : List PV} (he : (ev r k).E e env st = .ok v st) (hs : evL (ev r k) es env st = .ok vs st) : evL (ev r k) (e :: es) env st = .ok (v :: vs) st := by
  rw [evL_cons, he, Res.ok_bind, hs]
  rfl
theorem E_tupc {c : Ex} {xs : List PV} (h : (ev (PR W) k).E c env st = .ok (.lst xs) st) : (ev (PR W) (k + 1)).E (.bi .tuple [c]) env st = .ok (.tup xs) st := by
  rw [E_bi, evL_cons, h, Res.ok_bind, evL_nil, Res.ok_bind, Res.ok_bind, bi_tuple]
end
end Lk

set_option Elab.async false
set_option linter.all false
set_option maxRecDepth 100000
set_option maxHeartbeats 1000000
namespace Lk
open PySem PySem.Spec PyProof.Rows L2 Pv
section
variable {W k : Nat} {S st st1 : Store} {p : Int} {env : En}
theorem set_a {S R : Store} {x y : SO} : (S ++ x :: R).set S.length y = S ++ y :: R := by
  induction S with
  | nil => rfl
  | cons a S ih => show a :: (S ++ x :: R).set S.length y = _; rw [ih]; rfl
theorem set_b {S R : Store} {z x y : SO} : (S ++ z :: x :: R).set (S.length + 1) y = S ++ z :: y :: R := by
  induction S with
  | nil => rfl
  | cons a S ih => show a :: (S ++ z :: x :: R).set (S.length + 1) y = _; rw [ih]; rfl
theorem set_c {S R : Store} {z w x y : SO} : (S ++ z :: w :: x :: R).set (S.length + 2) y = S ++ z :: w :: y :: R := by
  induction S with
  | nil => rfl
  | cons a S ih => show a :: (S ++ z :: w :: x :: R).set (S.length + 2) y = _; rw [ih]; rfl
theorem get_a {S R : Store} {x : SO} : (S ++ x :: R)[S.length]? = some x := by
  rw [List.getElem?_append_right (Nat.le_refl _), Nat.sub_self]; rfl
theorem get_b {S R : Store} {z x : SO} : (S ++ z :: x :: R)[S.length + 1]? = some x := by
  rw [List.getElem?_append_right (by omega), show S.length + 1 - S.length = 1 by omega]; rfl
theorem get_c {S R : Store} {z w x : SO} : (S ++ z :: w :: x :: R)[S.length + 2]? = some x := by
  rw [List.getElem?_append_right (by omega), show S.length + 2 - S.length = 2 by omega]; rfl
/-- a call by its parts -/
theorem E_callA {f : Nat} {es : List Ex} {vs vs' : List PV} {d : Df} {r : Res PV} (hd : (PR W).df[f]? = some d) (he : evL (ev (PR W) k) es env st = .ok vs st1) (hp : pad d vs = vs') (h : (ev (PR W) k).call f vs' st1 = r) : (ev (PR W) (k + 1)).E (.call f es) env st = r := by
  rw [E_call, he, Res.ok_bind, hd]
  dsimp only
  rw [hp]
  exact h
theorem app_a {i : Nat} {e : Ex} {v : PV} {xs : List PV} {R : Store} {ss : List Pv.Sm} {r : Res (Fl × En)} (hi : At env i (.ref S.length)) (he : (ev (PR W) (k + 1)).E e env (S ++ .lst xs :: R) = .ok v (S ++ .lst xs :: R)) (hl : xs.length < 1000) (h : blk (ev (PR W) (k + 2)) ss env (S ++ .lst (xs ++ [v]) :: R) = r) : blk (ev (PR W) (k + 2)) (.app (.v i) e :: ss) env (S ++ .lst xs :: R) = r := by
  rw [step_app hi get_a he hl, set_a]
  exact h
theorem app_b {i : Nat} {e : Ex} {v : PV} {xs : List PV} {z : SO} {R : Store} {ss : List Pv.Sm} {r : Res (Fl × En)} (hi : At env i (.ref (S.length + 1))) (he : (ev (PR W) (k + 1)).E e env (S ++ z :: .lst xs :: R) = .ok v (S ++ z :: .lst xs :: R)) (hl : xs.length < 1000) (h : blk (ev (PR W) (k + 2)) ss env (S ++ z :: .lst (xs ++ [v]) :: R) = r) : blk (ev (PR W) (k + 2)) (.app (.v i) e :: ss) env (S ++ z :: .lst xs :: R) = r := by
  rw [step_app hi get_b he hl, set_b]
  exact h
theorem ext_a {i : Nat} {e : Ex} {xs ys : List PV} {R : Store} {ss : List Pv.Sm} {r : Res (Fl × En)} (hi : At env i (.ref S.length)) (he : (ev (PR W) (k + 1)).E e env (S ++ .lst xs :: R) = .ok (.lst ys) (S ++ .lst xs :: R)) (hl : xs.length + ys.length ≤ 1000) (h : blk (ev (PR W) (k + 2)) ss env (S ++ .lst (xs ++ ys) :: R) = r) : blk (ev (PR W) (k + 2)) (.ext (.v i) e :: ss) env (S ++ .lst xs :: R) = r := by
  rw [step_ext hi get_a he hl, set_a]
  exact h
theorem ext_b {i : Nat} {e : Ex} {xs ys : List PV} {z : SO} {R : Store} {ss : List Pv.Sm} {r : Res (Fl × En)} (hi : At env i (.ref (S.length + 1))) (he : (ev (PR W) (k + 1)).E e env (S ++ z :: .lst xs :: R) = .ok (.lst ys) (S ++ z :: .lst xs :: R)) (hl : xs.length + ys.length ≤ 1000) (h : blk (ev (PR W) (k + 2)) ss env (S ++ z :: .lst (xs ++ ys) :: R) = r) : blk (ev (PR W) (k + 2)) (.ext (.v i) e :: ss) env (S ++ z :: .lst xs :: R) = r := by
  rw [step_ext hi get_b he hl, set_b]
  exact h
theorem set_s {i : Nat} {e : Ex} {v : PV} {ss : List Pv.Sm} {r : Res (Fl × En)} (he : (ev (PR W) k).E e env st = .ok v st1) (hi : Nat.ble (i + 1) env.length = true) (h : blk (ev (PR W) (k + 1)) ss (env.set i (some v)) st1 = r) : blk (ev (PR W) (k + 1)) (.set (.n i) e :: ss) env st = r := by
  rw [step_set he (Nat.le_of_ble_eq_true hi)]
  exact h
/-- behind a call that has drawn -/
theorem done_blu {n : Nat} {o x : SO} {ext : Store} {b : Bool} (hS : S = st.set n o) (ho : oldO st.length o = true) : done st false (.bl b) (S ++ x :: ext) = .ok (.bl b) S := by
  have sl : S.length = st.length := by rw [hS, List.length_set]
  rw [done_new (w := .bl b) (by simp [sl]) ⟨by simp [sl], fun m hm => ?_⟩ (.inl rfl) (by unfold frz; rfl), List.take_left' sl]
  rw [List.getElem?_append_left (by omega), hS]
  by_cases e : n = m
  · subst e
    rw [List.getElem?_set_self hm]
    exact .inr fun o' h => by cases h; exact ho
  · rw [List.getElem?_set_ne e]
    exact .inl rfl
theorem zip_rows {f : List Nu → List Nu → List Nu} {X Y : List (List Nu)} {h : Nat} (hx : X.length = h) (hy : Y.length = h) : (X.zip Y).map (fun z => f z.1 z.2) = (List.range h).map fun i => f (rowN X i) (rowN Y i) := by
  refine List.ext_getElem (by simp [hx, hy]) fun i h1 h2 => ?_
  have hi : i < h := by simpa using h2
  simp [rowN, List.getD_eq_getElem?_getD, List.getElem?_eq_getElem (show i < X.length by omega), List.getElem?_eq_getElem (show i < Y.length by omega)]
theorem bi_tuple_ref (l : List (Cs × Cs × Bool)) (m a : Nat) (xs : List PV) (st : Store) (h : st[a]? = some (.lst xs)) : biF l m .tuple [.ref a] st = .ok (.tup xs) st := by
  show (match seqOf st (.ref a) with
    | some (_, xs) => Res.ok (PV.tup xs) st
    | none => .bad) = _
  rw [seqOf_ref h]
/-- tuple of a list of the store -/
theorem E_tupref {i a : Nat} {xs : List PV} (h : At env i (.ref a)) (ha : st[a]? = some (.lst xs)) : (ev (PR W) (k + 2)).E (.bi .tuple [.v i]) env st = .ok (.tup xs) st := by
  rw [E_bi, evL_cons, E_at h, Res.ok_bind, evL_nil, Res.ok_bind, Res.ok_bind, bi_tuple_ref _ _ _ _ _ ha]
theorem E_compA {mu : Bool} {e : Ex} {tg : Tg} {q : Ik} {its ts : List Ex} {r : Res PV} (h : comp (ev (PR W) k) mu e tg q its ts env st = r) : (ev (PR W) (k + 1)).E (.comp mu e tg q its ts) env st = r := by
  rw [E_comp]; exact h
end
end Lk

set_option Elab.async false
set_option linter.all false
set_option maxRecDepth 100000
set_option maxHeartbeats 4000000
namespace Lk
open PySem PySem.Spec PyProof.Rows L2 Pv
section
variable {W : Nat} {st : Store} {p : Int} {cells : List Int} {n T : Nat}
/-- what was drawn -/
structure Drawn (p : Int) (w h f : Nat) (X X2 O : List (List Nu)) (m : Nu) (y r : List Nu) (Y : Tb) (j : Nat) : Prop where
  w0 : 0 < w
  w8 : w ≤ 5
  h0 : 0 < h
  h8 : h ≤ 4
  f0 : 0 < f
  f8 : f ≤ 4
  lX : X.length = h
  rX : ∀ x ∈ X, x.length = w ∧ ∀ z ∈ x, Nb p 2 z
  lX2 : X2.length = h
  rX2 : ∀ x ∈ X2, x.length = w ∧ ∀ z ∈ x, Nb p 2 z
  lO : O.length = w
  rO : ∀ x ∈ O, x.length = f ∧ ∀ z ∈ x, Nb p 2 z
  hm : Nb p 2 m
  ly : y.length = h
  ry : ∀ z ∈ y, Nb p 2 z
  lr : r.length = w
  rr : ∀ z ∈ r, Nb p 2 z
  hY : Y.map (·.2) = X
  hj : j < w
/-- the fifteen results -/
def dueV (p : Int) (w h f : Nat) (x0 : List Nu) (X X2 O : List (List Nu)) (m : Nu) (y r : List Nu) (j : Nat) : List PV :=
  [rowP (zeroR w), rowP (unitR w j), tabP ((List.range w).map (unitR w)), num (oDot p (x0.zip r) (0, 1)),
   rowP (zipR (oPlus p) x0 r), rowP (zipR (oMinus p) x0 r), rowP (x0.map (oTimes p m)),
   rowP (X.map fun x => oDot p (x.zip r) (0, 1)), rowP ((List.range w).map fun k => oDot p (y.zip (colN X k)) (0, 1)), rowP (zeroR w),
   rowP ((List.range w).map fun k => oDot p (y.zip (colN X k)) (0, 1)), tabP (X.map fun x => (List.range f).map fun k => oDot p (x.zip (colN O k)) (0, 1)),
   tabP ((List.range f).map (colN O)), tabP ((List.range w).map (colN X)),
   tabP ((List.range h).map fun i => zipR (oPlus p) (rowN X i) (rowN X2 i))]
theorem c_draws (F : Fd p) (hW : 2 ^ 8000 ≤ W) (hc : CellsOk cells) (hb : Bag cells n T st) (hT : T ≤ 300) :
    ∃ (w h f : Nat) (X X2 O : List (List Nu)) (m : Nu) (y r : List Nu) (Y : Tb) (j : Nat) (S : Store) (S' : PySem.Str),
      Drawn p w h f X X2 O m y r Y j ∧ SeqAt.shaped (.str S') = true ∧ (∀ l m' (st : Store), biF l m' .repr [tabB false Y] st = .ok (.str S') st) ∧ Bag cells n (T + 200) S ∧ Upd n st S ∧
      ∀ (k : Nat) (ss : List Pv.Sm) (q : Res (Fl × En)),
        (blk (ev (PR W) (k + 161)) ss [some (.ref n), some (.int p), some (FV p), some (.int w), some (.int h), some (.int f), some (.lst (X.map rowP)), none, some (.lst (X2.map rowP)), some (.lst (O.map rowP)), some (num m), some (rowP y), some (rowP r), some (tabB false Y), none, some (.str S'), some (.int j), none, none, none, none, none, none, none, none] S = q) → blk (ev (PR W) (k + 161)) (b37.take 12 ++ ss) [some (.ref n), some (.int p), some (FV p), none, none, none, none, none, none, none, none, none, none, none, none, none, none, none, none, none, none, none, none, none, none] st = q := by
  obtain ⟨d1, s1, a1, l1, u1, b1, w1⟩ := c_draw (W := W) hc hb (by omega) (L := 5) (by decide) (by unfold Sm; decide)
  obtain ⟨d2, s2, a2, l2, u2, b2, w2⟩ := c_draw (W := W) hc b1 (by omega) (L := 4) (by decide) (by unfold Sm; decide)
  obtain ⟨d3, s3, a3, l3, u3, b3, w3⟩ := c_draw (W := W) hc b2 (by omega) (L := 4) (by decide) (by unfold Sm; decide)
  obtain ⟨w, hw⟩ : ∃ w : Nat, 1 + d1 = (w : Int) := ⟨(1 + d1).toNat, by omega⟩
  obtain ⟨h, hh⟩ : ∃ w : Nat, 1 + d2 = (w : Int) := ⟨(1 + d2).toNat, by omega⟩
  obtain ⟨f, hf⟩ : ∃ w : Nat, 1 + d3 = (w : Int) := ⟨(1 + d3).toNat, by omega⟩
  have hwh : 2 * w * h ≤ 2 * 5 * 4 := Nat.mul_le_mul (Nat.mul_le_mul_left 2 (by omega)) (by omega)
  have hfw : 2 * f * w ≤ 2 * 4 * 5 := Nat.mul_le_mul (Nat.mul_le_mul_left 2 (by omega)) (by omega)
  obtain ⟨X, s4, c4, lX, rX, b4, w4⟩ := c_rows (W := W) (env := [some (.ref n), some (.int p), some (FV p), some (.int w), some (.int h), some (.int f), none, none, none, none, none, none, none, none, none, none, none, none, none, none, none, none, none, none, none]) (a := 3) (b := 4) (w := w) (h := h) F hW hc b3 (Nat.le_of_ble_eq_true rfl) rfl rfl rfl rfl (by decide) (by decide) (by omega) (by omega) (by omega)
  obtain ⟨X2, s5, c5, lX2, rX2, b5, w5⟩ := c_rows (W := W) (env := [some (.ref n), some (.int p), some (FV p), some (.int w), some (.int h), some (.int f), some (.lst (X.map rowP)), none, none, none, none, none, none, none, none, none, none, none, none, none, none, none, none, none, none]) (a := 3) (b := 4) (w := w) (h := h) F hW hc b4 (Nat.le_of_ble_eq_true rfl) rfl rfl rfl rfl (by decide) (by decide) (by omega) (by omega) (by omega)
  obtain ⟨O, s6, c6, lO, rO, b6, w6⟩ := c_rows (W := W) (env := [some (.ref n), some (.int p), some (FV p), some (.int w), some (.int h), some (.int f), some (.lst (X.map rowP)), none, some (.lst (X2.map rowP)), none, none, none, none, none, none, none, none, none, none, none, none, none, none, none, none]) (a := 5) (b := 3) (w := f) (h := w) F hW hc b5 (Nat.le_of_ble_eq_true rfl) rfl rfl rfl rfl (by decide) (by decide) (by omega) (by omega) (by omega)
  obtain ⟨m, s7, c7, hm, b7, w7⟩ := c_number (W := W) F hW hc b6 (by omega)
  obtain ⟨y, s8, c8, ly, ry, b8, w8⟩ := c_row (W := W) F hW hc b7 (w := h) (by omega) (by omega)
  obtain ⟨r, s9, c9, lr, rr, b9, w9⟩ := c_row (W := W) F hW hc b8 (w := w) (by omega) (by omega)
  obtain ⟨Y, s10, c10, hY, b10, w10⟩ := c_lists (W := W) (env := [some (.ref n), some (.int p), some (FV p), some (.int w), some (.int h), some (.int f), some (.lst (X.map rowP)), none, some (.lst (X2.map rowP)), some (.lst (O.map rowP)), some (num m), some (rowP y), some (rowP r), none, none, none, none, none, none, none, none, none, none, none, none]) hc b9 (X := X) (Nat.le_of_ble_eq_true rfl) rfl rfl (by omega) (by omega)
  obtain ⟨d11, s11, a11, l11, u11, b11, w11⟩ := c_draw (W := W) hc b10 (by omega) (L := w) (by omega) (Nat.lt_of_le_of_lt (show (w : Int).natAbs ≤ 5 by omega) (by decide))
  obtain ⟨j, hj⟩ : ∃ j : Nat, d11 = (j : Int) := ⟨d11.toNat, by omega⟩
  have nb7 : ∀ z : Nu, Nb p 2 z → Sm 7 z.1 ∧ Sm 7 z.2 := fun z hz => by
    unfold Nb at hz
    by_cases e : p = 0
    · rw [if_pos e] at hz
      exact ⟨hz.2.1.mono (by decide), hz.2.2.mono (by decide)⟩
    · rw [if_neg e] at hz
      have P := F.pos e
      exact ⟨rest_sm P hz.1, by rw [hz.2]; unfold Sm; decide⟩
  have rY : ∀ t ∈ Y, t.2.length = w ∧ ∀ z ∈ t.2, Nb p 2 z := fun t ht => rX t.2 (by rw [← hY]; exact List.mem_map_of_mem ht)
  have lY : Y.length = h := by rw [← lX, ← hY, List.length_map]
  obtain ⟨S', sh, hS'⟩ := c_reprS (T := Y) (fun t ht => ⟨by rw [(rY t ht).1]; omega, fun z hz => nb7 z ((rY t ht).2 z hz)⟩) (by omega)
  refine ⟨w, h, f, X, X2, O, m, y, r, Y, j, s11, S', ⟨by omega, by omega, by omega, by omega, by omega, by omega, lX, rX, lX2, rX2, lO, rO, hm, ly, ry, lr, rr, hY, by omega⟩, sh, hS', b11.mono (by omega), w1.trans (w2.trans (w3.trans (w4.trans (w5.trans (w6.trans (w7.trans (w8.trans (w9.trans (w10.trans w11))))))))), fun k ss q hq => ?_⟩
  refine set_s (v := .int w) (st1 := s1) ?_ rfl ?_
  · rw [← hw]; simp [df23, a1]
  refine set_s (v := .int h) (st1 := s2) ?_ rfl ?_
  · rw [← hh]; simp [df23, a2]
  refine set_s (v := .int f) (st1 := s3) ?_ rfl ?_
  · rw [← hf]; simp [df23, a3]
  refine set_s (v := .lst (X.map rowP)) (st1 := s4) (E_compA (c4 (k + 69))) rfl ?_
  refine set_s (v := .lst (X2.map rowP)) (st1 := s5) (E_compA (c5 (k + 69))) rfl ?_
  refine set_s (v := .lst (O.map rowP)) (st1 := s6) (E_compA (c6 (k + 69))) rfl ?_
  refine set_s (v := num m) (st1 := s7) (E_callA df33 (evL_c (E_at rfl) (evL_c (E_at rfl) rfl)) rfl (c7 (k + 99))) rfl ?_
  refine set_s (v := rowP y) (st1 := s8) (E_callA df34 (evL_c (E_at rfl) (evL_c (E_at rfl) (evL_c (E_at rfl) rfl))) rfl (c8 (k + 79))) rfl ?_
  refine set_s (v := rowP r) (st1 := s9) (E_callA df34 (evL_c (E_at rfl) (evL_c (E_at rfl) (evL_c (E_at rfl) rfl))) rfl (c9 (k + 79))) rfl ?_
  refine set_s (v := tabB false Y) (st1 := s10) (E_compA (c10 (k + 69))) rfl ?_
  refine set_s (v := .str S') (st1 := s10) ?_ rfl ?_
  · rw [E_bi, evL_cons, E_at rfl, Res.ok_bind, evL_nil, Res.ok_bind, Res.ok_bind]
    exact hS' _ _ _
  refine set_s (v := .int j) (st1 := s11) (E_callA df23 (evL_c (E_at rfl) (evL_c (E_at rfl) rfl)) rfl (by rw [← hj]; exact a11 (k + 139))) rfl ?_
  exact hq
end
end Lk

set_option Elab.async false
set_option linter.all false
set_option maxRecDepth 100000
set_option maxHeartbeats 4000000
namespace Lk
open PySem PySem.Spec PyProof.Rows L2 Pv
section
variable {W : Nat} {st : Store} {p : Int} {cells : List Int} {n T : Nat}
theorem kd_num (x : Nu) : ∀ (s : Store) (k : Nat), (ev (PR W) (k + 80)).call 36 [num x, .int 3] s = .ok (.bl true) s := fun s k => kind_num (k := k + 40) x (by decide)
theorem kd_row {x : List Nu} (h : x.length ≤ 1000) : ∀ (s : Store) (k : Nat), (ev (PR W) (k + 80)).call 36 [rowP x, .int 3] s = .ok (.bl true) s := fun s k => kind_row (k := k + 20) (by decide) h
theorem kd_tab {X : List (List Nu)} (h : X.length ≤ 1000) (hx : ∀ x ∈ X, x.length ≤ 1000) : ∀ (s : Store) (k : Nat), (ev (PR W) (k + 80)).call 36 [tabP X, .int 3] s = .ok (.bl true) s := fun s k => kind_tab (k := k) (by decide) h hx
theorem pl_due {p : Int} {w h f : Nat} {x0 : List Nu} {X X2 O : List (List Nu)} {m : Nu} {y r : List Nu} {j : Nat} : ∀ v ∈ dueV p w h f x0 X X2 O m y r j, Pl v := by
  unfold dueV
  simp only [List.forall_mem_cons]
  exact ⟨pl_row _, pl_row _, pl_tab _, pl_num _, pl_row _, pl_row _, pl_row _, pl_row _, pl_row _, pl_row _, pl_row _, pl_tab _, pl_tab _, pl_tab _, pl_tab _, fun _ h => by cases h⟩
theorem kd_due {p : Int} {w h f : Nat} {x0 : List Nu} {X X2 O : List (List Nu)} {m : Nu} {y r : List Nu} {Y : Tb} {j : Nat} (D : Drawn p w h f (x0 :: X) X2 O m y r Y j) : ∀ v ∈ dueV p w h f x0 (x0 :: X) X2 O m y r j, ∀ (s : Store) (k : Nat), (ev (PR W) (k + 80)).call 36 [v, .int 3] s = .ok (.bl true) s := by
  have e1 := D.w8
  have e2 := D.h8
  have e3 := D.f8
  have lx0 : x0.length = w := (D.rX x0 (List.mem_cons_self ..)).1
  have lX : X.length + 1 = h := D.lX
  have lr := D.lr
  unfold dueV
  simp only [List.forall_mem_cons]
  refine ⟨kd_row (by unfold zeroR; rw [List.length_replicate]; omega), kd_row (by unfold unitR; simp; omega), kd_tab (by simp; omega) (fun x hx => ?_), kd_num _,
    kd_row (by unfold zipR; simp; omega), kd_row (by unfold zipR; simp; omega), kd_row (by simp; omega), kd_row (by simp; omega), kd_row (by simp; omega), kd_row (by unfold zeroR; rw [List.length_replicate]; omega), kd_row (by simp; omega),
    kd_tab (by simp; omega) (fun x hx => ?_), kd_tab (by simp; omega) (fun x hx => ?_), kd_tab (by simp; omega) (fun x hx => ?_), kd_tab (by simp; omega) (fun x hx => ?_), fun _ h => by cases h⟩
  · obtain ⟨i, _, rfl⟩ := List.mem_map.mp hx
    unfold unitR; simp; omega
  · obtain ⟨i, _, rfl⟩ := List.mem_map.mp hx
    simp; omega
  · obtain ⟨i, _, rfl⟩ := List.mem_map.mp hx
    unfold colN
    rw [List.length_map, D.lO]; omega
  · obtain ⟨i, _, rfl⟩ := List.mem_map.mp hx
    unfold colN
    simp; omega
  · obtain ⟨i, hi, rfl⟩ := List.mem_map.mp hx
    rw [List.mem_range] at hi
    have q := D.rX _ (rowN_mem (X := x0 :: X) (i := i) (by rw [D.lX]; exact hi))
    unfold zipR
    rw [List.length_map, List.length_zip, q.1]; omega
theorem walkDue (F : Fd p) (hW : 2 ^ 8000 ≤ W) {w h f : Nat} {x0 : List Nu} {X' X2 O : List (List Nu)} {m : Nu} {y r : List Nu} {Y : Tb} {j : Nat} {S : Store} {S' : PySem.Str} (D : Drawn p w h f (x0 :: X') X2 O m y r Y j) (sh : SeqAt.shaped (.str S') = true) (hS' : ∀ l m' (st : Store), biF l m' .repr [tabB false Y] st = .ok (.str S') st) (k : Nat) :
    ∃ env' ext, blk (ev (PR W) (k + 161)) (b37.drop 12) [some (.ref n), some (.int p), some (FV p), some (.int w), some (.int h), some (.int f), some (.lst ((x0 :: X').map rowP)), none, some (.lst (X2.map rowP)), some (.lst (O.map rowP)), some (num m), some (rowP y), some (rowP r), some (tabB false Y), none, some (.str S'), some (.int j), none, none, none, none, none, none, none, none] S = .ok (.ret (.bl true), env') (S ++ .lst (dueV p w h f x0 (x0 :: X') X2 O m y r j) :: ext) := by
  have w8 := D.w8
  have h8 := D.h8
  have f8 := D.f8
  have w0 := D.w0
  have f0 := D.f0
  have h0 := D.h0
  have lX : (x0 :: X').length = h := D.lX
  have rX := D.rX
  have rx0 := rX x0 (List.mem_cons_self ..)
  have rO := D.rO
  have lO := D.lO
  have lr := D.lr
  have rr := D.rr
  have ly := D.ly
  have ry := D.ry
  have hY := D.hY
  have rY : ∀ t ∈ Y, t.2.length = w ∧ ∀ z ∈ t.2, Nb p 2 z := fun t ht => rX t.2 (by rw [← hY]; exact List.mem_map_of_mem ht)
  have lY : Y.length = h := by rw [← lX, ← hY, List.length_map]
  have nY : Y ≠ [] := fun e => by rw [e] at lY; simp at lY; omega
  obtain ⟨y0, Y', eY⟩ := List.exists_cons_of_ne_nil nY
  have hy0 : y0.2 = x0 := by rw [eY, List.map_cons] at hY; exact (List.cons.inj hY).1
  -- one[0], passed[0] as they are read
  have P0 : ∀ (k : Nat) (env : En) (s : Store), At env 13 (tabB false Y) → (ev (PR W) (k + 2)).E (.idx (.v 13) (.c (.int 0))) env s = .ok (rowB y0.1 x0) s := fun k env s h => by
    rw [E_idx, E_at h, Res.ok_bind, E_c, Res.ok_bind]
    dsimp only
    rw [seq_tabB]
    dsimp only
    rw [eY]
    show tl (atI (rowB y0.1 y0.2 :: rowsP Y') 0) s = _
    rw [atI0, hy0]
    rfl
  have mapX : ∀ (g : List Nu → Nu), (Y.map fun t => g t.2) = (x0 :: X').map g := fun g => by rw [← hY, List.map_map]; rfl
  have mapXr : ∀ (g : List Nu → List Nu), (Y.map fun t => g t.2) = (x0 :: X').map g := fun g => by rw [← hY, List.map_map]; rfl
  -- other as a table
  let To : Tb := O.map fun r => (true, r)
  have eTo : tabB false To = .lst (O.map rowP) := by
    show PV.lst ((O.map fun r => (true, r)).map fun z => rowB z.1 z.2) = _
    rw [List.map_map]; rfl
  have lTo : To.map (·.2) = O := by
    show (O.map fun r => (true, r)).map (·.2) = O
    rw [List.map_map]; exact List.map_id' O
  have rTo : ∀ t ∈ To, t.2.length = f ∧ ∀ z ∈ t.2, Nb p 2 z := fun t ht => rO t.2 (by rw [← lTo]; exact List.mem_map_of_mem ht)
  have nTo : To ≠ [] := fun e => by rw [e] at lTo; rw [← lTo] at lO; simp at lO; omega
  let T2 : Tb := X2.map fun r => (true, r)
  have eT2 : tabB false T2 = .lst (X2.map rowP) := by
    show PV.lst ((X2.map fun r => (true, r)).map fun z => rowB z.1 z.2) = _
    rw [List.map_map]; rfl
  have rT2 : ∀ t ∈ T2, ∀ z ∈ t.2, Nb p 2 z := fun t ht => by
    obtain ⟨r, hr, rfl⟩ := List.mem_map.mp ht
    exact (D.rX2 r hr).2
  have rC : ∀ x ∈ (List.range f).map (colN O), x.length = w ∧ ∀ z ∈ x, Nb p 2 z := fun x hx => by
    obtain ⟨i, hi, rfl⟩ := List.mem_map.mp hx
    rw [List.mem_range] at hi
    refine ⟨by unfold colN; rw [List.length_map, lO], fun z hz => ?_⟩
    obtain ⟨q, hq, rfl⟩ := List.mem_map.mp hz
    exact (rO q hq).2 _ (getD_mem (by rw [(rO q hq).1]; exact hi))
  obtain ⟨hplus, hminus⟩ : rowP (zipR (oPlus p) x0 r) = .tup ((List.range w).map fun i => num (oPlus p (x0.getD i (0, 1)) (r.getD i (0, 1)))) ∧ rowP (zipR (oMinus p) x0 r) = .tup ((List.range w).map fun i => num (oMinus p (x0.getD i (0, 1)) (r.getD i (0, 1)))) := by
    constructor
    · rw [zipR_by rx0.1 lr, tup_nums]
    · rw [zipR_by rx0.1 lr, tup_nums]
  have hsum : (Y.zip T2).map (fun z => zipR (oPlus p) z.1.2 z.2.2) = (List.range h).map fun i => zipR (oPlus p) (rowN (x0 :: X') i) (rowN X2 i) := by
    rw [← zip_rows lX D.lX2, ← hY]
    show (Y.zip (X2.map fun r => (true, r))).map _ = _
    rw [List.zip_map_right, List.zip_map_left, List.map_map, List.map_map]
    rfl
  have t12 : ∀ k s, (ev (PR W) (k + 100)).call 12 [FV p, tabB false Y, rowP r] s = .ok (rowP ((x0 :: X').map fun x => oDot p (x.zip r) (0, 1))) s := fun k s => by
    rw [← mapX fun x => oDot p (x.zip r) (0, 1)]
    exact A_trow (b := false) (c := true) F (fun t ht => ⟨by rw [(rY t ht).1]; omega, (rY t ht).2⟩) rr (by omega)
  have hmix : oTot p (y.zip (x0 :: X')) (zeroR w) = (List.range w).map fun k => oDot p (y.zip (colN (x0 :: X') k)) (0, 1) := oTot_cols fun r hr => (rX r hr).1
  have t13 : ∀ k s wv, (wv = .int w ∨ (wv = .non ∧ Y ≠ [])) → (ev (PR W) (k + 120)).call 13 [FV p, rowP y, tabB false Y, wv] s = .ok (rowP ((List.range w).map fun k => oDot p (y.zip (colN (x0 :: X') k)) (0, 1))) s := fun k s wv hv => by
    rw [← hmix, ← hY]
    exact A_rtab (b := true) (c := false) F ry rY (by omega) (by omega) hv
  have t13e : ∀ k s, (ev (PR W) (k + 120)).call 13 [FV p, .tup [], .tup [], .int w] s = .ok (rowP (zeroR w)) s := fun k s =>
    A_rtab (b := true) (c := true) (x := []) (T := []) (w := w) F (fun _ h => by cases h) (fun _ h => by cases h) (by omega) (by simp) (.inl rfl)
  have t14 : ∀ k s, (ev (PR W) (k + 140)).call 14 [FV p, tabB false Y, .lst (O.map rowP)] s = .ok (tabP ((x0 :: X').map fun x => (List.range f).map fun k => oDot p (x.zip (colN O k)) (0, 1))) s := fun k s => by
    have q := A_ttab (W := W) (k := k) (st := s) (b := false) (c := false) (A := Y) (T := To) F (fun t ht => ⟨by rw [(rY t ht).1]; omega, (rY t ht).2⟩) rTo (by omega) nTo (by omega)
    rw [eTo, lTo, mapXr (fun x => oTot p (x.zip O) (zeroR f)), List.map_congr_left fun x hx => oTot_cols fun r hr => (rO r hr).1] at q
    exact q
  have nlTo : To.length = w := by show (O.map fun r => (true, r)).length = w; rw [List.length_map, lO]
  have t16o : ∀ k s, (ev (PR W) (k + 10)).call 16 [.lst (O.map rowP)] s = .ok (tabP ((List.range f).map (colN O))) s := fun k s => by
    have q := c_turn (W := W) (k := k) (st := s) (T := To) (b := false) (w := f) (fun t ht => (rTo t ht).1) nTo (by rw [nlTo]; omega) f0 (by omega)
    rw [eTo, lTo] at q
    exact q
  have t16p : ∀ k s, (ev (PR W) (k + 10)).call 16 [tabB false Y] s = .ok (tabP ((List.range w).map (colN (x0 :: X')))) s := fun k s => by
    have q := c_turn (W := W) (k := k) (st := s) (T := Y) (b := false) (w := w) (fun t ht => (rY t ht).1) nY (by omega) w0 (by omega)
    rw [hY] at q
    exact q
  have t15 : ∀ k s, (ev (PR W) (k + 100)).call 15 [FV p, tabB false Y, .lst (X2.map rowP)] s = .ok (tabP ((List.range h).map fun i => zipR (oPlus p) (rowN (x0 :: X') i) (rowN X2 i))) s := fun k s => by
    have q := A_tplus (W := W) (k := k) (st := s) (b := false) (c := false) (A := Y) (T := T2) F (fun t ht => ⟨by rw [(rY t ht).1]; omega, (rY t ht).2⟩) rT2 (by omega)
    rw [eT2, hsum] at q
    exact q
  have due_tt : ∀ x : List Nu, (((List.range f).map (colN O)).map fun c => oDot p (x.zip c) (0, 1)) = (List.range f).map fun k => oDot p (x.zip (colN O k)) (0, 1) := fun x => by
    rw [List.map_map]; rfl
  have u6 : ∀ (k : Nat) (env : En) (s : Store), At env 3 (.int w) → At env 16 (.int j) → (ev (PR W) (k + 21)).E (.call 6 [.v 3, .v 16]) env s = .ok (rowP (unitR w j)) s := fun k env s h1 h2 =>
    E_callA df6 (evL_c (E_at h1) (evL_c (E_at h2) rfl)) rfl (c_unit (w := w) (j := j) (by omega))
  have u5 : ∀ (k : Nat) (env : En) (s : Store), At env 3 (.int w) → (ev (PR W) (k + 21)).E (.call 5 [.v 3]) env s = .ok (rowP (zeroR w)) s := fun k env s h1 =>
    E_callA df5 (evL_c (E_at h1) rfl) rfl (c_zero (k := k + 10) (w := w) (by omega))
  have u7 : ∀ (k : Nat) (env : En) (s : Store), At env 3 (.int w) → (ev (PR W) (k + 41)).E (.call 7 [.v 3]) env s = .ok (tabP ((List.range w).map (unitR w))) s := fun k env s h1 =>
    E_callA df7 (evL_c (E_at h1) rfl) rfl (c_units (w := w) (by omega))
  have u11 : ∀ (k : Nat) (env : En) (s : Store), At env 2 (FV p) → At env 6 (.lst ((x0 :: X').map rowP)) → At env 12 (rowP r) → (ev (PR W) (k + 81)).E (.call 11 [.v 2, (.idx (.v 6) (.c (.int 0))), .v 12]) env s = .ok (num (oDot p (x0.zip r) (0, 1))) s := fun k env s h1 h2 h3 =>
    E_callA df11 (evL_c (E_at h1) (evL_c (E_first h2 _) (evL_c (E_at h3) rfl))) rfl (A_dot (b := true) (c := true) F rx0.2 rr (by rw [rx0.1]; omega))
  have told0 : ∀ (k : Nat) (env : En) (s : Store), At env 2 (FV p) → At env 3 (.int w) → At env 6 (.lst ((x0 :: X').map rowP)) → At env 12 (rowP r) → At env 16 (.int j) → evL (ev (PR W) (k + 81)) [(.call 5 [(.v 3)]), (.call 6 [(.v 3), (.v 16)]), (.call 7 [(.v 3)]), (.call 11 [(.v 2), (.idx (.v 6) (.c (.int 0))), (.v 12)])] env s = .ok [rowP (zeroR w), rowP (unitR w j), tabP ((List.range w).map (unitR w)), num (oDot p (x0.zip r) (0, 1))] s := fun k env s h2 h3 h6 h12 h16 =>
    evL_c (u5 (k + 60) _ _ h3) (evL_c (u6 (k + 60) _ _ h3 h16) (evL_c (u7 (k + 40) _ _ h3) (evL_c (u11 k _ _ h2 h6 h12) rfl)))
  have due0 : ∀ (k : Nat) (env : En) (s : Store), Nat.ble 8 env.length = true → At env 1 (.int p) → At env 3 (.int w) → At env 6 (.lst ((x0 :: X').map rowP)) → At env 12 (rowP r) → At env 16 (.int j) → evL (ev (PR W) (k + 100)) [(.call 32 [(.v 3)]), (.call 31 [(.v 3), (.v 16)]), (.bi .tuple [(.comp false (.call 31 [(.v 3), (.v 7)]) (.n 7) .rng1 [(.v 3)] [])]), (.call 30 [(.v 1), (.idx (.v 6) (.c (.int 0))), (.v 12)])] env s = .ok [rowP (zeroR w), rowP (unitR w j), tabP ((List.range w).map (unitR w)), num (oDot p (x0.zip r) (0, 1))] s := fun k env s h7 h1 h3 h6 h12 h16 =>
    evL_c (E_callA df32 (evL_c (E_at h3) rfl) rfl (c_lzero (k := k + 79) (w := w) (by omega))) (evL_c (E_callA df31 (evL_c (E_at h3) (evL_c (E_at h16) rfl)) rfl (c_lunit (k := k + 79) (w := w) (j := j) (by omega))) (evL_c (E_tupc (E_compA (c_lunits (w := w) (Nat.le_of_ble_eq_true h7) h3 (by omega) (k + 58)))) (evL_c (E_callA df30 (evL_c (E_at h1) (evL_c (E_first h6 _) (evL_c (E_at h12) rfl))) rfl (A_ldot (k := k + 9) (b := true) (c := true) F hW rx0.2 rr (by rw [rx0.1]; omega) (by rw [rx0.1, lr]))) rfl)))
  let V := dueV p w h f x0 (x0 :: X') X2 O m y r j
  have hV : V = dueV p w h f x0 (x0 :: X') X2 O m y r j := rfl
  obtain ⟨env', hf, hb⟩ := c_added (W := W) (env := [some (.ref n), some (.int p), some (FV p), some (.int w), some (.int h), some (.int f), some (.lst ((x0 :: X').map rowP)), none, some (.lst (X2.map rowP)), some (.lst (O.map rowP)), some (num m), some (rowP y), some (rowP r), some (tabB false Y), none, some (.str S'), some (.int j), some (.lst (((List.range f).map (colN O)).map rowP)), some (rowP ((List.range w).map fun k => oDot p (y.zip (colN (x0 :: X') k)) (0, 1))), some (.ref S.length), some (.ref (S.length + 1)), none, some (.ref (S.length + 2)), none, none]) (st := S ++ .lst V :: .lst (V.take 14) :: [.lst []]) F hW (Nat.le_of_ble_eq_true rfl) rfl rfl rfl rfl rfl rfl get_c rX D.rX2 lX D.lX2 (by omega) (by omega) (k + 51)
  rw [set_c] at hf
  rw [show b37.drop 12 = [.set (.n 17) (.comp false (.bi .tuple [(.comp false (.idx (.v 14) (.v 7)) (.n 14) .seq [(.v 9)] [])]) (.n 7) .rng1 [(.v 5)] []), .set (.n 18) (.bi .tuple [(.comp false (.call 30 [(.v 1), (.v 11), (.comp false (.idx (.v 14) (.v 7)) (.n 14) .seq [(.v 6)] [])]) (.n 7) .rng1 [(.v 3)] [])])] ++ b37.drop 14 from rfl]
  refine ⟨env', .lst V :: [.lst (((List.range h).map fun i => zipR (oPlus p) (rowN (x0 :: X') i) (rowN X2 i)).map rowP)], ?_⟩
  refine set_s (v := .lst (((List.range f).map (colN O)).map rowP)) (st1 := S) (E_compA (c_cols (Nat.le_of_ble_eq_true rfl) rfl rfl (by decide) (fun x hx => (rO x hx).1) (by omega) (by omega) (k + 139))) rfl ?_
  refine set_s (v := .tup ((List.range w).map fun k => num (oDot p (y.zip (colN (x0 :: X') k)) (0, 1)))) (st1 := S) (E_tupc (E_compA (c_mixed F hW (Nat.le_of_ble_eq_true rfl) rfl rfl rfl rfl rX ry (by rw [ly, lX]) (by omega) (by omega) (k + 38)))) rfl ?_
  show blk _ (b37.drop 14) [some (.ref n), some (.int p), some (FV p), some (.int w), some (.int h), some (.int f), some (.lst ((x0 :: X').map rowP)), none, some (.lst (X2.map rowP)), some (.lst (O.map rowP)), some (num m), some (rowP y), some (rowP r), some (tabB false Y), none, some (.str S'), some (.int j), some (.lst (((List.range f).map (colN O)).map rowP)), some (.tup ((List.range w).map fun k => num (oDot p (y.zip (colN (x0 :: X') k)) (0, 1)))), none, none, none, none, none, none] _ = _
  rw [← tup_nums (List.range w) fun k => oDot p (y.zip (colN (x0 :: X') k)) (0, 1)]
  -- told, due
  refine set_s (v := .ref S.length) (st1 := S ++ [.lst ((dueV p w h f x0 (x0 :: X') X2 O m y r j).take 4)]) (E_new (told0 (k + 78) _ _ rfl rfl rfl rfl rfl) (by simp)) rfl ?_
  refine set_s (v := .ref (S.length + 1)) (st1 := S ++ .lst ((dueV p w h f x0 (x0 :: X') X2 O m y r j).take 4) :: [.lst ((dueV p w h f x0 (x0 :: X') X2 O m y r j).take 4)]) ?_ rfl ?_
  · have q := fun env h1 h2 h3 h4 h5 h6 => E_new (k := k + 159) (due0 (k + 59) env (S ++ [.lst ((dueV p w h f x0 (x0 :: X') X2 O m y r j).take 4)]) h1 h2 h3 h4 h5 h6) (by simp)
    refine (q _ rfl rfl rfl rfl rfl rfl).trans ?_
    rw [List.length_append, List.append_assoc]
    rfl
  show blk _ (b37.drop 16) [some (.ref n), some (.int p), some (FV p), some (.int w), some (.int h), some (.int f), some (.lst ((x0 :: X').map rowP)), none, some (.lst (X2.map rowP)), some (.lst (O.map rowP)), some (num m), some (rowP y), some (rowP r), some (tabB false Y), none, some (.str S'), some (.int j), some (.lst (((List.range f).map (colN O)).map rowP)), some (rowP ((List.range w).map fun k => oDot p (y.zip (colN (x0 :: X') k)) (0, 1))), some (.ref S.length), some (.ref (S.length + 1)), none, none, none, none] _ = _
  -- the rows
  refine ext_a rfl (E_lstF (evL_c (E_callA df8 (evL_c (E_at rfl) (evL_c (P0 _ _ _ rfl) (evL_c (E_at rfl) rfl))) rfl (A_rplus (k := k + 78) (c := true) F (fun z hz => (rx0.2 z hz).nm (by decide)) (fun z hz => (rr z hz).nm (by decide)) (by omega))) (evL_c (E_callA df9 (evL_c (E_at rfl) (evL_c (P0 _ _ _ rfl) (evL_c (E_at rfl) rfl))) rfl (A_rminus (k := k + 78) (c := true) F (fun z hz => (rx0.2 z hz).nm (by decide)) (fun z hz => (rr z hz).nm (by decide)) (by omega))) (evL_c (E_callA df10 (evL_c (E_at rfl) (evL_c (E_at rfl) (evL_c (P0 _ _ _ rfl) rfl))) rfl (A_rtimes (k := k + 78) F (D.hm.nm (by decide)) (fun z hz => (rx0.2 z hz).nm (by decide)) (by omega))) rfl))) (by simp)) (Nat.le_of_ble_eq_true rfl) ?_
  refine app_b (v := rowP (zipR (oPlus p) x0 r)) rfl ?_ (Nat.le_of_ble_eq_true rfl) ?_
  · rw [hplus]
    exact E_tupc (E_compA (c_lpl F hW (Nat.le_of_ble_eq_true rfl) rfl rfl rfl rfl rx0 ⟨lr, rr⟩ (by omega) (k + 68)))
  refine app_b (v := rowP (zipR (oMinus p) x0 r)) rfl ?_ (Nat.le_of_ble_eq_true rfl) ?_
  · rw [hminus]
    exact E_tupc (E_compA (c_lmi F hW (Nat.le_of_ble_eq_true rfl) rfl rfl rfl rfl rx0 ⟨lr, rr⟩ (by omega) (k + 68)))
  refine app_b (v := rowP (x0.map (oTimes p m))) rfl ?_ (Nat.le_of_ble_eq_true rfl) ?_
  · rw [show rowP (x0.map (oTimes p m)) = _ from tup_nums x0 (oTimes p m)]
    exact E_tupc (E_compA (c_lti F hW (Nat.le_of_ble_eq_true rfl) rfl rfl rfl rx0 D.hm (by omega) (k + 68)))
  -- tables and rows
  refine ext_a rfl (E_lstF (evL_c (E_callA df12 (evL_c (E_at rfl) (evL_c (E_at rfl) (evL_c (E_at rfl) rfl))) rfl (t12 (k + 58) _)) (evL_c (E_callA df13 (evL_c (E_at rfl) (evL_c (E_at rfl) (evL_c (E_at rfl) rfl))) rfl (t13 (k + 38) _ .non (.inr ⟨rfl, nY⟩))) (evL_c (E_callA df13 (evL_c (E_at rfl) (evL_c (v := .tup []) rfl (evL_c (v := .tup []) rfl (evL_c (E_at rfl) rfl)))) rfl (t13e (k + 38) _)) rfl))) (by simp)) (Nat.le_of_ble_eq_true rfl) ?_
  refine ext_b rfl (E_lstF (evL_c (v := rowP ((x0 :: X').map fun x => oDot p (x.zip r) (0, 1))) (by rw [show rowP ((x0 :: X').map fun x => oDot p (x.zip r) (0, 1)) = _ from tup_nums (x0 :: X') fun x => oDot p (x.zip r) (0, 1)]; exact E_tupc (E_compA (c_ldots F hW (Nat.le_of_ble_eq_true rfl) rfl rfl rfl rX ⟨lr, rr⟩ (by omega) (by omega) (k + 37)))) (evL_c (E_at rfl) (evL_c (E_callA df32 (evL_c (E_at rfl) rfl) rfl (c_lzero (k := k + 138) (w := w) (by omega))) rfl))) (by simp)) (Nat.le_of_ble_eq_true rfl) ?_
  refine ext_a rfl (E_lstF (evL_c (E_callA df13 (evL_c (E_at rfl) (evL_c (E_at rfl) (evL_c (E_at rfl) (evL_c (E_at rfl) rfl)))) rfl (t13 (k + 38) _ (.int w) (.inl rfl))) (evL_c (E_callA df14 (evL_c (E_at rfl) (evL_c (E_at rfl) (evL_c (E_at rfl) rfl))) rfl (t14 (k + 18) _)) (evL_c (E_callA df16 (evL_c (E_at rfl) rfl) rfl (t16o (k + 148) _)) (evL_c (E_callA df16 (evL_c (E_at rfl) rfl) rfl (t16p (k + 148) _)) rfl)))) (by simp)) (Nat.le_of_ble_eq_true rfl) ?_
  refine ext_b rfl (E_lstF (evL_c (E_at rfl) (evL_c (v := tabP ((x0 :: X').map fun x => (List.range f).map fun k => oDot p (x.zip (colN O k)) (0, 1))) (by rw [← List.map_congr_left fun x _ => due_tt x]; exact E_tupc (E_compA (c_tt F hW (Nat.le_of_ble_eq_true rfl) rfl rfl rfl rX rC (by omega) (by omega) (by simp; omega) (k + 17)))) (evL_c (v := tabP ((List.range f).map (colN O))) (E_tupc (E_at rfl)) rfl))) (by simp)) (Nat.le_of_ble_eq_true rfl) ?_
  refine app_b (v := tabP ((List.range w).map (colN (x0 :: X')))) rfl (E_tupc (E_compA (c_cols (Nat.le_of_ble_eq_true rfl) rfl rfl (by decide) (fun x hx => (rX x hx).1) (by omega) (by omega) (k + 138)))) (Nat.le_of_ble_eq_true rfl) ?_
  refine app_a rfl (E_callA df15 (evL_c (E_at rfl) (evL_c (E_at rfl) (evL_c (E_at rfl) rfl))) rfl (t15 (k + 59) _)) (Nat.le_of_ble_eq_true rfl) ?_
  -- added
  refine set_s (v := .ref (S.length + 2)) (st1 := S ++ .lst V :: .lst (V.take 14) :: [.lst []]) ?_ rfl ?_
  · have q := E_new (k := k + 159) (r := PR W) (es := []) (vs := []) (st := S ++ .lst V :: [.lst (V.take 14)]) (env := [some (.ref n), some (.int p), some (FV p), some (.int w), some (.int h), some (.int f), some (.lst ((x0 :: X').map rowP)), none, some (.lst (X2.map rowP)), some (.lst (O.map rowP)), some (num m), some (rowP y), some (rowP r), some (tabB false Y), none, some (.str S'), some (.int j), some (.lst (((List.range f).map (colN O)).map rowP)), some (rowP ((List.range w).map fun k => oDot p (y.zip (colN (x0 :: X') k)) (0, 1))), some (.ref S.length), some (.ref (S.length + 1)), none, none, none, none]) rfl (by simp)
    rw [List.length_append, List.append_assoc] at q
    exact q
  refine (step_for hf).trans ?_
  refine app_b (v := tabP ((List.range h).map fun i => zipR (oPlus p) (rowN (x0 :: X') i) (rowN X2 i))) (hb.at_ rfl (by decide)) (E_tupref (hb.at_ rfl (by decide)) get_c) (Nat.le_of_ble_eq_true rfl) ?_
  have ck := c_kinds (W := W) (env := env') (st := S ++ .lst V :: .lst V :: [.lst (((List.range h).map fun i => zipR (oPlus p) (rowN (x0 :: X') i) (rowN X2 i)).map rowP)]) (vs := V) (n := S.length) (by rw [hb.1]; exact Nat.le_of_ble_eq_true rfl) (hb.at_ rfl (by decide)) get_a (kd_due D) (Nat.le_of_ble_eq_true rfl) (k + 57)
  have ss : ∀ st : Store, cmpR .eq (.str S') (.str S') st = some true := fun st => cmp_eq_same (d := .str S') rfl rfl sh
  have hret : (ev (PR W) (k + 160)).E (.and (.bi .all [(.comp false (.call 36 [(.v 24), (.c (.int 3))]) (.n 24) .seq [(.v 19)] [])]) (.and (.cmp .eq (.v 19) (.v 20)) (.cmp .eq (.bi .repr [(.v 13)]) (.v 15)))) env' (S ++ .lst V :: .lst V :: [.lst (((List.range h).map fun i => zipR (oPlus p) (rowN (x0 :: X') i) (rowN X2 i)).map rowP)]) = .ok (.bl true) (S ++ .lst V :: .lst V :: [.lst (((List.range h).map fun i => zipR (oPlus p) (rowN (x0 :: X') i) (rowN X2 i)).map rowP)]) := by
    rw [E_and, E_bi, evL_cons, E_compA ck, Res.ok_bind, evL_nil, Res.ok_bind, Res.ok_bind, all_true, Res.ok_bind]
    dsimp only
    rw [E_and, E_cmp, E_at (hb.at_ (i := 19) rfl (by decide)), Res.ok_bind, E_at (hb.at_ (i := 20) rfl (by decide)), Res.ok_bind, lists_eq get_a get_b pl_due, tl_some, Res.ok_bind, Res.ok_bind]
    dsimp only
    rw [E_cmp, E_bi, evL_cons, E_at (hb.at_ (i := 13) rfl (by decide)), Res.ok_bind, evL_nil, Res.ok_bind, Res.ok_bind, hS', Res.ok_bind, E_at (hb.at_ (i := 15) rfl (by decide)), Res.ok_bind, ss, tl_some, Res.ok_bind]
  show blk _ [.ret _] _ (S ++ .lst V :: .lst V :: [.lst (((List.range h).map fun i => zipR (oPlus p) (rowN (x0 :: X') i) (rowN X2 i)).map rowP)]) = _
  rw [blk_cons, S_ret, hret]
  rfl
end
end Lk

set_option Elab.async false
set_option linter.all false
set_option maxRecDepth 100000
set_option maxHeartbeats 4000000
namespace Lk
open PySem PySem.Spec PyProof.Rows L2 Pv
section
variable {W : Nat} {st : Store} {p : Int} {cells : List Int} {n T : Nat}
theorem sm_bits {z : Int} (h : Builtin.Int.intBits z ≤ 1048576) : Sm 1048600 z := by
  unfold Sm
  by_cases h0 : z = 0
  · subst h0
    exact Nat.two_pow_pos _
  · have e : Builtin.Int.intBits z = z.natAbs.log2 + 1 := by
      unfold Builtin.Int.intBits
      rw [if_neg (by simpa using h0)]
    rw [e] at h
    exact Nat.lt_of_lt_of_le Nat.lt_log2_self (Nat.pow_le_pow_right (by decide) (by omega))
theorem cells_ok {ns : List Int} (hl : ns.length ≤ 63) (hb : ∀ z ∈ ns, Builtin.Int.intBits z ≤ 1048576) : CellsOk (cellsOf ns) := by
  unfold cellsOf
  by_cases h : ns = []
  · rw [if_pos h]
    refine ⟨by simp, fun c hc => ?_, by decide⟩
    rw [List.mem_singleton] at hc
    subst hc
    exact ⟨by decide, (show Sm 3 5 by unfold Sm; decide).mono (by decide)⟩
  · rw [if_neg h]
    refine ⟨by simpa using h, fun c hc => ?_, by rw [List.length_map]; omega⟩
    obtain ⟨z, hz, rfl⟩ := List.mem_map.mp hc
    refine ⟨ab_nonneg z, ?_⟩
    have := sm_bits (hb z hz)
    unfold Sm at this ⊢
    rw [ab_natAbs]
    exact this
theorem done_bl {b : Bool} {ext : Store} : done st false (.bl b) (st ++ ext) = .ok (.bl b) st := by
  by_cases h : ext = []
  · subst h
    rw [List.append_nil]
    exact done_same _ _
  · have hl : (st ++ ext).length ≠ st.length := by
      rw [List.length_append]
      have := List.length_pos_iff.mpr h
      omega
    rw [done_new (w := .bl b) hl (oldOk_app _) (.inl rfl) (by unfold frz; rfl), List.take_left']
    rfl
theorem df37 : (PR W).df[37]? = some D37 := rfl
@[simp] theorem pad37 (x y z : PV) : pad D37 [x, y, z] = [x, y, z] := rfl
theorem c_tables (F : Fd p) (hW : 2 ^ 8000 ≤ W) (hc : CellsOk cells) (hb : Bag cells n T st) (hT : T ≤ 300) :
    ∃ s', (∀ k, (ev (PR W) (k + 162)).call 37 [.ref n, .int p, FV p] st = .ok (.bl true) s') ∧ Bag cells n (T + 200) s' ∧ Upd n st s' := by
  obtain ⟨w, h, f, X, X2, O, m, y, r, Y, j, S, S', D, sh, hS', b, u, q⟩ := c_draws (W := W) F hW hc hb hT
  have nX : X ≠ [] := fun e => by
    have := D.lX
    rw [e] at this
    have := D.h0
    simp at *
    omega
  obtain ⟨x0, X', rfl⟩ := List.exists_cons_of_ne_nil nX
  obtain ⟨o, hS, ho⟩ := Upd.bag hb b u
  refine ⟨S, fun k => ?_, b, u⟩
  obtain ⟨env', ext, hd⟩ := walkDue (n := n) (S := S) F hW D sh hS' k
  have all := q k _ _ hd
  refine call_by (P := PR W) (d := D37) (fl := .ret (.bl true)) (v := .bl true) (res := .ok (.bl true) S) df37 rfl (by decide) all (.inr rfl) ?_
  exact done_blu hS ho
/-! the law -/
theorem field_new (F : Fd p) (h8 : p < 8) {env : En} (h : At env 2 (.int p)) (k : Nat) : (ev (PR W) (k + 80)).E (.ite (.cmp .eq (.v 2) (.c (.int 0))) (.new 0 false []) (.new 0 false [(.v 2)])) env st = .ok (FV p) st := by
  by_cases h0 : p = 0
  · subst h0
    have := f_new0 (W := W) (k := k + 19) (st := st) (env := env)
    rw [show fld .non (.tup []) = FV 0 from rfl] at this
    have t : (ev (PR W) (k + 79)).T (.cmp .eq (.v 2) (.c (.int 0))) env st = .ok true st := by
      rw [T_cmp, E_at h, Res.ok_bind, E_c, Res.ok_bind]
      rfl
    rw [E_ite, t, Res.ok_bind]
    exact this
  · have hm := F.resolve_left h0
    have := f_new (W := W) (k := k + 19) (st := st) (e := .v 2) (env := env) hm (E_at h)
    rw [show fld (.int p) (.tup ((invL p (p - 2).toNat).map .int)) = FV p by unfold FV; rw [if_neg h0]] at this
    have t : (ev (PR W) (k + 79)).T (.cmp .eq (.v 2) (.c (.int 0))) env st = .ok false st := by
      simp [h, h0]
    rw [E_ite, t, Res.ok_bind]
    exact this
theorem law_says {ns : List Int} (hl : ns.length ≤ 63) (hb : ∀ z ∈ ns, Builtin.Int.intBits z ≤ 1048576) : ∃ W st', (ev (PR W) 200).call 38 [.scr ns] [] = .ok (.bl true) st' := by
  obtain ⟨W, hW⟩ : ∃ W : Nat, 2 ^ 8000 ≤ W := ⟨2 ^ 8000, Nat.le_refl _⟩
  have hc := cells_ok hl hb
  have bg := c_bag (W := W) (k := 170) hl
  have b0 : Bag (cellsOf ns) 0 0 [bagO (cellsOf ns) 0 0] := ⟨0, 0, rfl, by decide, by decide, by decide⟩
  obtain ⟨p, s1, cp, F, p8, b1, u1⟩ := c_prime (W := W) hc b0 (by decide)
  obtain ⟨s2, t1, b2, u2⟩ := c_tables (W := W) F hW hc b1 (by decide)
  obtain ⟨s3, t2, b3, u3⟩ := c_tables (W := W) F hW hc b2 (by decide)
  have l3 : s3.length = 1 := by rw [(u1.trans (u2.trans u3)).len]; rfl
  have dn : done [] false (.bl true) s3 = .ok (.bl true) [] := by
    have := done_bl (st := []) (b := true) (ext := s3)
    rwa [List.nil_append] at this
  refine ⟨W, [], ?_⟩
  refine call_by (P := PR W) (k := 199) (d := D38) (env' := [some (.scr ns), some (.ref 0), some (.int p), some (FV p)]) (fl := .ret (.bl true)) (v := .bl true) (st' := s3) (res := .ok (.bl true) []) rfl rfl (by decide) ?_ (.inr rfl) dn
  refine set_s (k := 198) (v := .ref 0) (st1 := [bagO (cellsOf ns) 0 0]) (E_callA df22 (evL_c (E_at rfl) rfl) rfl (by exact c_bag (W := W) (k := 177) hl)) rfl ?_
  refine set_s (k := 198) (v := .int p) (st1 := s1) (E_callA df24 (evL_c (E_at rfl) rfl) rfl (cp 157)) rfl ?_
  refine set_s (k := 198) (v := FV p) (st1 := s1) (field_new F p8 rfl 118) rfl ?_
  show blk _ [.ret (.and (.call 37 [(.v 1), (.v 2), (.v 3)]) (.call 37 [(.v 1), (.v 2), (.v 3)]))] [some (.scr ns), some (.ref 0), some (.int p), some (FV p)] s1 = _
  have e1 : (ev (PR W) 197).E (.call 37 [(.v 1), (.v 2), (.v 3)]) [some (.scr ns), some (.ref 0), some (.int p), some (FV p)] s1 = .ok (.bl true) s2 := E_callA df37 (evL_c (E_at rfl) (evL_c (E_at rfl) (evL_c (E_at rfl) rfl))) rfl (t1 34)
  have e2 : (ev (PR W) 197).E (.call 37 [(.v 1), (.v 2), (.v 3)]) [some (.scr ns), some (.ref 0), some (.int p), some (FV p)] s2 = .ok (.bl true) s3 := E_callA df37 (evL_c (E_at rfl) (evL_c (E_at rfl) (evL_c (E_at rfl) rfl))) rfl (t2 34)
  rw [blk_cons, S_ret, E_and]
  rw [e1, Res.ok_bind]
  dsimp only
  rw [e2]
  rfl
theorem says {ns : List Int} (hl : ns.length ≤ 63) (hb : ∀ z ∈ ns, Builtin.Int.intBits z ≤ 1048576) : LawSays PR 38 200 ns := law_says hl hb
end
end Lk

open PySem PySem.W PyProof.Rows
set_option maxRecDepth 100000 in
set_option maxHeartbeats 0 in
theorem PySem.Challenge.cw_untaughthelm_k06_rows_and_tables_holds : PySem.Challenge.rw_untaughthelm_k06_rows_and_tables.Holds := by
  exact Lk.holds_of (fun _ hl hb => Lk.says hl hb)

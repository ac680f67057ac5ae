import PyProof.Rows.All
import Wide.All
import OpenK.AllK
import Wide.FinOn
import HandS.ForMost
import HandS.IsInst
import HandS.Conv
import HandS.SetFor
import HandS.SortInts
import HandS.TupAny
import HandS.Wide
import HandS.Style
import HandS.RaiseMore
import HandS.ExcValue
import PyProof.ReprLen
import HandS.Zip
import HandS.Strs
import HandS.TupMul
import KE.GoesMore
import HandS.NoneIn
import PySem.Challenge.RW_samelayout_k04_rules_of_any_value
set_option Elab.async false
set_option linter.all false
set_option maxRecDepth 100000
namespace SL
open PySem PySem.Spec PyProof.Rows L2

/-! ### defs that are called where no text of an object is being made -/
structure FnG (P : Program) (w : World) (K : PySem.W.Frag) (mg : Str → Option Value) (base : Heap) (k : Nat) (f : Addr)
    (fd : FuncData) (ps : List Str) (sp : Sp) : Prop where
  size : ∀ vs H Q E, sp vs H Q E → vs.length = ps.length
  go : ∀ (A : Around) (outer : List Env) (s : Shared) (H : Hp) (args : Args) (us : List Value) (vs : List V) (Q : VK) (E : XK),
    A.guards = some [] → Room k A → Env0 P w K mg base A outer s H → BindsTo s fd args (ps.zip us) → Vals vs us →
    sp vs H Q E → codeAny (model P w) A (.call (.ref f) args) (CR CX0 outer P w H s Q E) s

section
variable {P : Program} {w : World} {K : PySem.W.Frag} {mg : Str → Option Value} {base : Heap}
theorem fnG_mk {x qual : Str} {st : Stmt} {f : Addr} {fd : FuncData} {N ps : List Str} {k : Nat} {sp : Sp}
    (F : Fun K x qual st f fd) (sc : FnScope N ps (defScope st)) (size : ∀ vs H Q E, sp vs H Q E → vs.length = ps.length)
    (body : ∀ (cdv : Value) (A : Around) (outer : List Env) (s : Shared) (H : Hp) (vs : List V) (Q : VK) (E : XK),
      A.guards = some [] → Room k (A.deeper (envOfC qual (defScope st) s.heap.objs.size f cdv)) → sp vs H Q E →
      ∃ t, PSs (cxOf CX0 P w K mg base N qual (defScope st) f cdv A outer s H E).nox (defBody st) t ∧
        t { nx := fun _ H' => Q .non H', rt := Q } (start N vs) H) : FnG P w K mg base (k + 1) f fd ps sp := by
  obtain ⟨oc, od, kV, doc, pm, an, cdv, ct, osl, rfl, look, code⟩ := F.ex
  constructor
  · exact size
  · intro A outer s H args us vs Q E hgd room env bound rel prom
    have many := size _ _ _ _ prom
    have inK : K.In s.heap := env.mod.kin.keeps fun b o q => (env.bs b o q).1
    have free : s.heap.NoLimit := env.mod.nolimit.keeps fun b o q => (env.bs b o q).1
    refine codeAny_call_function room.depth (inK _ _ look) rfl sc.co sc.gen rfl (PySem.W.codeRec_of inK code)
      (bound _ _ _ _ ?_)
    refine wpAny_newFunctionEnv_cells sc.kind ?kinds fun env' same s1 fresh => ?_
    case kinds =>
      rintro ⟨n, v⟩ here
      rcases sc.par n (List.of_mem_zip here).1 with q | q
      · exact Or.inl q
      · exact Or.inr ⟨q, PySem.W.cellsFrom_some _ _ _ (Or.inl q)⟩
    subst same
    refine ⟨free.keeps fresh.toInCall.keep, codeAny_func ?_⟩
    obtain ⟨t, der, reading⟩ := body cdv A outer s H vs Q E hgd (room.deeper _) prom
    have I := inv_start (CX := CX0) (E := E) sc room.hd env many rel fresh
    refine wpAny_mono (der.nox.run [] s1 (start N vs) H _ I reading) (fun fl s' e => ?_) fun _ _ e => e
    cases fl with
    | ret u => obtain ⟨v, σ', H', J, r', q⟩ := e; exact ⟨v, H', J.os, J.bare, J.base, J.hok, r', q⟩
    | next => obtain ⟨σ', H', J, q⟩ := e; exact ⟨.non, H', J.os, J.bare, J.base, J.hok, rfl, q⟩
    | brk => obtain ⟨_, _, _, q⟩ := e; exact False.elim q
    | cont => obtain ⟨_, _, _, q⟩ := e; exact False.elim q

/-- a call of such a def by its name -/
theorem pe_callG {X : Cx} {k : Nat} {f : Addr} {fd : FuncData} {ps : List Str} {sp : Sp} {x : Str} {p pos : Pos} {e : Expr} {es : List Expr} {t : TA}
    (F : FnG X.prog X.w X.K X.mg X.base k f fd ps sp) (gd : X.A.guards = some []) (room : Room k X.A) (gl : Gl X x)
    (at_ : X.mg x = some (.ref f)) (keep : PySem.W.keepIn X.K (.ref f) = true) (bd : Binds X.K fd ps []) (args : PA X (e :: es) t)
    (h1 : (x == ("__debug__" : Str)) = false := by decide)
    (h2 : starEach (e :: es) X.env = (false, eval e X.env) :: starEach es X.env := by rfl)
    (h3 : (backTo pos (starEach es X.env)).any (·.1) = false := by rfl) :
    PE X (.Call (.Name x p) (e :: es) [] pos) (tCall sp [] E0 t) := by
  constructor
  intro pins s σ H Q I h
  refine wpAny_Call_Name_kw (ld_glob I gl at_ ?_ h1)
  refine PySem.W.callWith_K (h₀ := X.base) I.ok.mod.kin keep (thn (args.run pos pins s σ H _ I h) ?_) h2 h3
  rintro us s1 ⟨vs, H1, I1, rel, q⟩
  refine ⟨I1.kIn, ?_⟩
  have q' : sp vs H1 Q E0 := by have z := q; rw [List.append_nil] at z; exact z
  have long : us.length = ps.length := by rw [← rel.length]; exact F.size _ _ _ _ q'
  have bd' := bd s1 us I1.kIn (by rw [List.append_nil]; exact long)
  rw [List.append_nil] at bd'
  refine wpAny_call (codeAny_mono (F.go X.A X.stack s1 H1 ⟨us, []⟩ us vs Q E0 gd room I1.env0 bd' rel q') fun r s' here => ?_)
  cases r with
  | error _ => exact False.elim here
  | ok fl => cases fl with
    | ret _ => exact I1.after here
    | next => exact False.elim here
    | brk => exact False.elim here
    | cont => exact False.elim here
end

/-! ### the law's own call -/
theorem lawG {P : Program} {w : World} {K : PySem.W.Frag} {mg mb : Str → Option Value} {k : Nat} {fa a : Addr} {fd : FuncData} {x : Str} {sp : Sp}
    {s₁ : Shared} {vs : List Value} {ns : List Int} (inK : K.In s₁.heap) (gl : s₁.heap.Ns mainGlobals mg) (bl : s₁.heap.Ns builtinsNs mb)
    (bb : ∀ x : Str, x ≠ "__name__" → mb x = bootBuiltins x) (lim : s₁.heap.NoLimit) (gens : s₁.gens = #[])
    (obj : s₁.heap.get? a = some { cls := .type "list", data := .seq vs.toArray }) (nums : IntsAre vs ns) (few : ns.length ≤ sizeLine) (room : Room k callerA)
    (F : ∀ base : Heap, K.In base → base.Ns mainGlobals mg → FnG P w K mg base k fa fd [x] sp)
    (bound : ∀ (s : Shared) (u : Value), BindsTo s fd ⟨[u], []⟩ [(x, u)])
    (prom : ∀ H : Hp, Only H → SqL K H a (ns.map V.int) → sp [.ref a] H (fun v _ => v = .bl true) E0) :
    codeAny (model P w) callerA (.call (.ref fa) ⟨[.ref a], []⟩)
      (fun r s' => r = .ok (.ret (.bool true)) ∧ OldK s₁.heap s'.heap ∧ s'.os = s₁.os ∧ AllBare s'.gens) s₁ := by
  have rel := vals_ints nums
  have inner : ∀ H : Hp, Only H → SqL K H a (ns.map V.int) → HOk P w H s₁.heap → (∀ b, H b ≠ none → b = a) →
      (H a ≠ none → K.lookup a = none) → codeAny (model P w) callerA (.call (.ref fa) ⟨[.ref a], []⟩)
        (fun r s' => r = .ok (.ret (.bool true)) ∧ OldK s₁.heap s'.heap ∧ s'.os = s₁.os ∧ AllBare s'.gens) s₁ := by
    intro H only seq hok alone outK
    have dictFree : ∀ {b : Addr} {o : Obj} {es : Array DictEntry} {ep : Nat}, s₁.heap.get? b = some o → o.data = .dict es ep → H b = none := by
      intro b o es ep e d
      cases q : H b with
      | none => rfl
      | some u =>
        obtain rfl : b = a := alone b (by rw [q]; intro z; cases z)
        rw [obj] at e
        cases e
        cases (show Data.seq vs.toArray _ = Data.dict es ep from d)
    have nsH : ∀ {b : Addr} {m : Str → Option Value}, s₁.heap.Ns b m → (hidT s₁.heap H).Ns b m := by
      rintro b m ⟨o, es, ep, e, d, r⟩
      exact ⟨o, es, ep, hidT_get e (dictFree e d), d, r⟩
    have kH : K.In (hidT s₁.heap H) := by
      intro b o e
      refine hidT_get (inK b o e) ?_
      cases q : H b with
      | none => rfl
      | some u =>
        obtain rfl : b = a := alone b (by rw [q]; intro z; cases z)
        rw [outK (by rw [q]; intro z; cases z)] at e
        cases e
    have limH : (hidT s₁.heap H).NoLimit := by
      obtain ⟨mc, h1, h2⟩ := lim
      exact ⟨mc, nsH h1, h2⟩
    have env : Env0 P w K mg (hidT s₁.heap H) callerA [] s₁ H := by
      refine ⟨rfl, ⟨kH, nsH gl, ⟨mb, nsH bl, bb⟩, limH⟩, fun b o e => of_hidT e, Nat.le_of_eq (hidT_size _ _), trivial, ?_, hok, .of_eq gens⟩
      intro b hb
      cases (show b ∈ ([] : List Addr) from hb)
    have G := F _ kH (nsH gl)
    refine codeAny_mono (G.go callerA [] s₁ H ⟨[.ref a], []⟩ [.ref a] [.ref a] _ _ rfl room env (bound s₁ (.ref a)) (.cons rfl .nil) (prom H only seq)) ?_
    intro r s' h
    cases r with
    | error e => exact False.elim h
    | ok fl => cases fl with
      | next => exact False.elim h
      | brk => exact False.elim h
      | cont => exact False.elim h
      | ret u =>
        obtain ⟨v, H', os, bare, un, hok', r', q⟩ := h
        obtain rfl : v = .bl true := q
        obtain rfl : u = Value.bool true := r'
        refine ⟨rfl, OldK.of_keep ?_, os, bare⟩
        intro b o e
        rcases only b with z | ⟨ob, xs, z⟩
        · exact un.keep b o e z (fun m => by cases (show b ∈ ([] : List Addr) from m)) (fun m => by cases m)
        · obtain ⟨e1, _⟩ := hok b _ z
          obtain ⟨e2, _⟩ := hok' b _ (un.frzs b ob _ z)
          rw [e] at e1
          cases e1
          exact e2
  cases written : K.lookup a with
  | some o =>
    have e := inK a o written
    rw [obj] at e
    cases e
    refine inner (fun _ => none) (fun _ => Or.inl rfl) (Or.inr ⟨_, vs.toArray, _, written, rfl, rfl, rfl, ?_, ?_⟩) (fun b u z => by cases z) (fun b z => absurd rfl z) (fun z => absurd rfl z)
    · rw [List.size_toArray, nums.length]; exact few
    · simpa using rel
  | none =>
    have yes : ∀ b : Addr, b = a → (fun b => if b = a then some (HO.frz { cls := .type "list", data := .seq vs.toArray } (.lst (ns.map V.int))) else none) b = some (HO.frz { cls := .type "list", data := .seq vs.toArray } (.lst (ns.map V.int))) := fun b e => if_pos e
    have no : ∀ b : Addr, b ≠ a → (fun b => if b = a then some (HO.frz { cls := .type "list", data := .seq vs.toArray } (.lst (ns.map V.int))) else none) b = none := fun b e => if_neg e
    refine inner (fun b => if b = a then some (HO.frz { cls := .type "list", data := .seq vs.toArray } (.lst (ns.map V.int))) else none) ?_ (Or.inl (Or.inr ⟨_, yes a rfl⟩)) ?_ ?_ (fun _ => written)
    · intro b
      by_cases same : b = a
      · exact Or.inr ⟨_, _, yes b same⟩
      · exact Or.inl (no b same)
    · intro b u z
      by_cases same : b = a
      · have z' := (yes b same).symm.trans z
        cases z'
        subst same
        exact ⟨obj, by rw [List.length_map]; exact few, vs, _, rel, obj⟩
      · have z' := (no b same).symm.trans z
        cases z'
    · intro b z
      by_cases same : b = a
      · exact same
      · exact absurd (no b same) z

theorem walkG {l : PySem.W.OpenLaw} {n k : Nat} {q : Program} {loose : List Str} {XP : (Str → Option Value) → Heap → Prop} {YP : World → Heap → Prop}
    {d : DefRec} {K : Params → PySem.W.Frag} {sp : PySem.W.Frag → Sp} {x : Str} (most : l.most = some n) (few : n ≤ sizeLine)
    (plain : d.params.defaults = []) (room : Room k callerA) (inK : ∀ (w : World) (h : Heap), YP w h → (K w.params).In h)
    (F : ∀ (w : World) (mg : Str → Option Value) (fa : Addr) (h : Heap), (K w.params).In h → h.Ns mainGlobals mg → mg d.name = some (.ref fa) →
      ∃ fd : FuncData, (∀ (s : Shared) (u : Value), BindsTo s fd ⟨[u], []⟩ [(x, u)]) ∧
        ∀ base : Heap, (K w.params).In base → base.Ns mainGlobals mg → FnG l.prog w (K w.params) mg base k fa fd [x] (sp (K w.params)))
    (prom : ∀ (K : PySem.W.Frag) (H : Hp) (a : Addr) (ns : List Int), ns.length ≤ n → Only H → SqL K H a (ns.map V.int) →
      sp K [.ref a] H (fun v _ => v = .bl true) E0) :
    PySem.W.WalkO q loose XP YP l.row.toRowW d [] (fun f vs => PySem.call f vs) := by
  refine Att.attach_call most plain ?_
  intro w s₀ s₁ mg mb fa o pm cd doc a vs ns G Y ho hd hcd named obj nums len gens
  obtain ⟨fd, bound, hF⟩ := F w mg fa _ (inK w _ Y) G.T.g named
  exact lawG (inK w _ Y) G.T.g G.T.b G.T.builtins G.T.nolimit gens obj nums (Nat.le_trans len few) room hF bound
    (fun H only seq => prom (K w.params) H a ns len only seq)
end SL

namespace SL
open PySem PySem.Spec PyProof.Rows L2

/-! ### powers of great numbers -/
theorem op_powB {X : Cx} : OpR X (binaryOp .Pow) (rI (fun i j => 0 ≤ j ∧ (Builtin.Int.intBits i : Int) * j ≤ 2 ^ 27) fun i j => .int (i ^ j.toNat)) :=
  opI fun _ _ _ _ _ _ _ c q => pow_int c.1 c.2 q

/-! ### repr -/
/-- a value that is data: as the layer reads it, or an empty dict -/
def Da (K : PySem.W.Frag) (H : Hp) (v : V) (d : PyData) : Prop :=
  (Dp K H v d ∧ d.hasDict = false) ∨ ∃ a, v = .ref a ∧ H a = some (.dK []) ∧ d = .dict []
def rRepr (K : PySem.W.Frag) : List V → Hp → VK → Prop := fun xs H Q => ∃ v d, xs = [v] ∧ Da K H v d ∧ d.showable = true ∧ d.depth ≤ 50 ∧
  d.shown.length ≤ sizeLine ∧ Q (.str d.shown) H
theorem call_reprD {X : Cx} (gd : X.A.guards = some []) (hu : X.A.units + 64 < cLine) : CallR X (.builtin "repr") (rRepr X.K) := by
  intro pins s σ H xs us Q I r h
  obtain ⟨v, d, rfl, da, sh, dep, siz, q⟩ := h
  cases r with
  | cons r0 rt =>
    cases rt
    rename_i u
    have big : ∀ (a : Addr) (as : List Addr), Reads s.heap (.ref a) d as → (d.hasDict = true → sysModules ∉ as) → u = .ref a →
        wpAny (model X.prog X.w) X.A (call (.builtin "repr") [u]) (EP X pins σ Q) X.xe s := by
      intro a as rd nd e
      subst e
      refine repr_of_reads' rd sh nd gd (by omega) (fun _ _ e => e) (fun h' u tk kept => ?_) siz
      exact ⟨.str d.shown, H, I.kept kept, ⟨_, rfl⟩, q⟩
    rcases da with ⟨dp, nd⟩ | ⟨a, rfl, ha, rfl⟩
    · obtain ⟨as, rd⟩ := Dp.reads I d v u dp r0
      cases dp with
      | non => cases r0; exact PySem.P.repr_of_none ⟨.str _, H, I.tok _, ⟨_, rfl⟩, q⟩
      | bl b => cases r0; exact PySem.P.repr_of_bool ⟨.str _, H, I.tok _, ⟨_, rfl⟩, q⟩
      | int i =>
        obtain ⟨t, rfl⟩ := r0
        exact PySem.P.repr_of_int (of_decide_eq_true sh) ⟨.str _, H, I.tok _, ⟨_, rfl⟩, q⟩
      | str x =>
        obtain ⟨t, rfl⟩ := r0
        exact PySem.P.repr_of_str (h := ⟨.str _, H, I.tok _, ⟨_, rfl⟩, q⟩) siz
      | lst _ _ => cases r0; exact big _ as rd (fun z => by rw [nd] at z; cases z) rfl
      | tup _ _ => cases r0; exact big _ as rd (fun z => by rw [nd] at z; cases z) rfl
    · cases r0
      obtain ⟨_, ns, vs, kv, o, es, ep, e, ex, dt, rest⟩ := I.hok a _ ha
      cases kv
      have e0 : es.toList = [] := by
        have z := rest.2.1.length
        cases q : es.toList with
        | nil => rfl
        | cons x y => rw [q] at z; cases z
      refine big a ([a]) ?_ (fun _ m => ?_) rfl
      · exact Reads.dict (as := []) (bs := []) e ex.1 dt (by rw [e0]; exact .nil) (by rw [e0]; exact .nil)
      · rw [List.mem_singleton] at m
        rw [← m] at ns
        simp at ns

theorem objGet {P : Program} {w : World} {H : Hp} {h : Heap} {a : Addr} {o : HO} (x : ObjOk P w H h a o) : ∃ u, h.get? a = some u := by
  cases o with
  | lst xs => obtain ⟨_, _, _, _, e⟩ := x; exact ⟨_, e⟩
  | tup xs => obtain ⟨_, _, _, _, e, _⟩ := x; exact ⟨_, e⟩
  | dK kvs => obtain ⟨_, _, _, _, _, _, _, e, _⟩ := x; exact ⟨_, e⟩
  | dT kvs => obtain ⟨_, _, _, _, _, _, _, e, _⟩ := x; exact ⟨_, e⟩
  | set S n => obtain ⟨_, _, _, _, e, _⟩ := x; exact ⟨_, e⟩
  | ins C dx fs => obtain ⟨_, _, _, e, _⟩ := x; exact ⟨_, e⟩
  | own y => exact x
  | xd fs => obtain ⟨_, ⟨_, _, _, e, _⟩, _⟩ := x; exact ⟨_, e⟩
  | rng lo hi => obtain ⟨_, _, _, e⟩ := x; exact ⟨_, e⟩
  | frz ob u => obtain ⟨e, _⟩ := x; exact ⟨_, e⟩
  | tbl ps => exact ⟨_, x⟩
  | met f y => exact ⟨_, x⟩
  | ext φ => obtain ⟨_, e, _⟩ := x; exact e

/-! ### sorted(t), a tuple of ints -/
def rSortT (K : PySem.W.Frag) : List V → Hp → VK → Prop := fun vs H Q => ∃ (a : Addr) (ns : List Int), vs = [V.ref a] ∧ SqT K H a (ns.map V.int) ∧
  ∀ (out : List Int) (p : Addr), out.Perm ns → out.Pairwise (· ≤ ·) → H p = none → Q (.ref p) (upd H p (.lst (out.map V.int)))
theorem cr_sortT {X : Cx} : CallR X (.builtin "sorted") (rSortT X.K) := by
  intro pins s σ H vs us Q I r h
  obtain ⟨a, ns, rfl, hs, q⟩ := h
  obtain ⟨its, rv, ht, hz⟩ := I.tuple hs
  obtain ⟨o, ho, hc, n, hd⟩ := id ht
  rw [Vals.ref1 r]
  have nums := rv.ints
  have hz' : its.length ≤ sizeLine := by rw [← rv.length]; exact hz
  refine Calls.call_function_entry kind_sorted plain_sorted entry_sorted (args_sorted1 _) ?_
  unfold Builtin.«sorted»
  refine wpAny_bind (m := checkCount "sorted" 1 1 _) (wpAny_pure ?_)
  refine wpAny_bind (wpAny_collect_seq a (Or.inr rfl) ho hc hd (fun h1 kept => ?_) (by simpa using hz'))
  refine wpAny_bind (wpAny_newList ?_ (by simpa using hz'))
  have hoL : (h1.push (seqObj "list" its.toArray 0)).get? h1.objs.size = some (seqObj "list" its.toArray 0) := Heap.get?_push_size _ rfl
  have new1 : s.heap.get? h1.objs.size = none := by
    cases q : s.heap.get? h1.objs.size with
    | none => rfl
    | some o => exact absurd (Heap.lt_size (kept _ _ q)) (Nat.lt_irrefl _)
  have new2 : H h1.objs.size = none := by
    cases q : H h1.objs.size with
    | none => rfl
    | some u =>
      obtain ⟨o, z⟩ := objGet (I.hok _ _ q)
      rw [new1] at z
      cases z
  show wpAny _ _ _ _ _ { s with heap := h1.push (seqObj "list" its.toArray 0) }
  refine wpAny_bind (wpAny_holding (wpAny_call_entry slot_list_sort ⟨_, hoL, rfl⟩ entry_list_sort
    (SrtO.list_sort_ord SrtO.swo_int hoL hz' (fun h2 => SrtO.ints_sortable nums h2) fun out hs hb => ⟨_, rfl, ?_⟩) (args_list_sort _)))
  refine wpAny_pure ⟨_, rfl, ?_⟩
  obtain ⟨k1, k2, k3⟩ := SrtO.ints_out nums hs hb
  obtain ⟨ep, he⟩ := sortedHeap_at (vs := its) (out := out.toArray) hoL
  have len : ((out.map SrtO.iv).map V.int).length ≤ sizeLine := by
    rw [List.length_map, k2.length_eq]
    rw [List.length_map] at hz
    exact hz
  refine ⟨.ref h1.objs.size, upd H h1.objs.size (.lst ((out.map SrtO.iv).map V.int)), I.laidN (t' := s.toks) ?_ new1 new2 ⟨len, out, ep, vals_of_ints k1, he⟩, rfl, q _ _ k2 k3 new2⟩
  intro b u hu
  have lt : b < h1.objs.size := Heap.lt_size (kept _ _ hu)
  have lt2 : b < (h1.push (seqObj "list" its.toArray 0)).objs.size := by rw [Heap.size_push]; exact Nat.lt_succ_of_lt lt
  rw [sortedHeap_old (Nat.ne_of_lt lt) lt2]
  exact Heap.get?_push_of_some _ (kept _ _ hu)

/-! ### len(set(t)), a tuple of ints -/
def tLenSetT (K : PySem.W.Frag) (ta : TE) : TE := fun σ H Q => ta σ H fun x H1 => ∃ (l : Addr) (ns : List Int), x = .ref l ∧ SqT K H1 l (ns.map V.int) ∧ ns.length ≤ 4000 ∧
  ∀ ks : List Int, ks.Nodup → (∀ k, k ∈ ks ↔ k ∈ ns) → Q (.int (ks.length : Nat)) H1
theorem pe_lenSetT {X : Cx} {a : Expr} {ta : TE} {p p2 q pos : Pos} (g1 : Gl X "len") (m1 : X.mg "len" = none) (g2 : Gl X "set") (m2 : X.mg "set" = none) (ha : PE X a ta)
    (calm : X.calm = true := by rfl) (one : starEach [a] X.env = (false, eval a X.env) :: starEach [] X.env := by rfl) :
    PE X (.Call (.Name "len" p) [.Call (.Name "set" p2) [a] [] q] [] pos) (tLenSetT X.K ta) := by
  constructor
  intro pins s σ H Q I h
  refine Call_ (ld_blt I g1 m1 boot_len ?_)
  refine callWith_builtin1 (args_cons ?_ rfl) rfl rfl
  refine Call_ (ld_blt I g2 m2 boot_set ?_)
  refine callWith_type1 (args_cons (thn (ha.run pins s σ H _ I h) ?_) one) one rfl
  rintro v s1 ⟨x, H1, I1, r1, l, ns, rfl, seq, few, q1⟩
  refine args_nil ?_
  cases r1
  obtain ⟨its, rv, ht, hz⟩ := I1.tuple seq
  refine call_set_tupI ns (I1.ok.hd calm) ht (by simpa using rv.ints) (by unfold scanBound; omega) fun h' tk c hS hc kept => ?_
  refine args_nil ?_
  obtain ⟨o, es, ep, t, ho, ex, dt, _, nd, mem, lt, fits, siz, _⟩ := hS
  have I2 : Inv X pins σ H1 { s1 with heap := h', toks := tk } := I1.kept kept
  have len : (es.toList.map keyOf).length = es.size := by rw [List.length_map, Array.length_toList]
  have few' : (es.size : Int) < 2 ^ 63 := by
    have z : es.size ≤ 4000 := by omega
    omega
  refine call_len_set ho ex dt fits few' ⟨.int es.size, H1, I2.tok _, ⟨_, rfl⟩, ?_⟩
  have z := q1 (es.toList.map keyOf) nd fun k => by rw [← mem k]; simp
  rw [len] at z
  exact z

/-! ### t[::-1], a tuple -/
theorem adjustBack (n : Nat) : Builtin.Slice.sliceAdjust none none (-1) (n : Int) = ((n : Int) - 1, -1) := by
  unfold Builtin.Slice.sliceAdjust
  simp
theorem placesBack (n : Nat) : Builtin.Slice.slicePlaces ((n : Int) - 1) (-1) (-1) = n := by
  unfold Builtin.Slice.slicePlaces
  simp
  omega
theorem pickBack (xs : Array Value) : ((List.range xs.size).filterMap fun (m : Nat) => xs[(((xs.size : Int) - 1) + (m : Int) * (-1)).toNat]?).toArray = xs.toList.reverse.toArray := by
  have e : ((List.range xs.size).filterMap fun (m : Nat) => xs[(((xs.size : Int) - 1) + (m : Int) * (-1)).toNat]?) = ((List.range xs.size).map fun k => xs.size - 1 - k).filterMap (xs[·]?) := by
    rw [List.filterMap_map]
    have all : ∀ l : List Nat, (∀ m ∈ l, m < xs.size) → (l.filterMap fun (m : Nat) => xs[(((xs.size : Int) - 1) + (m : Int) * (-1)).toNat]?) = l.filterMap ((fun x => xs[x]?) ∘ fun k => xs.size - 1 - k) := by
      intro l
      induction l with
      | nil => intro _; rfl
      | cons m r ih =>
        intro hl
        have z : (((xs.size : Int) - 1) + (m : Int) * (-1)).toNat = xs.size - 1 - m := by
          have := hl m List.mem_cons_self
          omega
        rw [List.filterMap_cons, List.filterMap_cons, z, ih fun n hn => hl n (List.mem_cons_of_mem _ hn)]
        rfl
    exact all _ fun m hm => List.mem_range.mp hm
  rw [e, PySem.W.krv_range, List.filterMap_reverse, PySem.W.krv_all]
def tRevT (K : PySem.W.Frag) (te : TE) : TE := fun σ H Q => te σ H fun x H1 => ∃ a xs, x = .ref a ∧ SqT K H1 a xs ∧ ∀ p, H1 p = none → Q (.ref p) (upd H1 p (.tup xs.reverse))
theorem pe_revT {X : Cx} {e : Expr} {te : TE} {k : Nat} {p1 p2 p3 pos : Pos} (he : PE X e te) :
    PE X (.Subscript e (.Slice none none (some (.UnaryOp .USub (.Constant (.int 1) k p1) p2)) p3) pos) (tRevT X.K te) := by
  constructor
  intro pins s σ H Q I h
  refine Subscript_ (thn (he.run pins s σ H _ I h) ?_)
  rintro v s1 ⟨x, H1, I1, r1, a, xs, rfl, hx, q⟩
  cases r1
  have step : PO X (some (.UnaryOp .USub (.Constant (.int 1) k p1) p2)) (tPart (tUn (rU fun i => .int (-i)) (tC (.int 1)))) := po_some (pe_un un_neg pe_int)
  refine wpAny_Slice (thn (po_none.run pins s1 σ H1 (fun o G => o = none ∧ G = H1) I1 ⟨rfl, rfl⟩) ?_)
  rintro vl s2 ⟨l, H2, I2, pl, rfl, rfl⟩
  refine thn (po_none.run pins s2 σ H2 (fun o G => o = none ∧ G = H2) I2 ⟨rfl, rfl⟩) ?_
  rintro vu s3 ⟨u, H3, I3, pu, rfl, rfl⟩
  refine thn (step.run pins s3 σ H3 (fun o G => o = some (-1) ∧ G = H3) I3 ⟨1, rfl, -1, rfl, rfl, rfl⟩) ?_
  rintro vs s4 ⟨o, H4, I4, ps, rfl, rfl⟩
  have I5 : Inv X pins σ H4 { s4 with heap := s4.heap.push { cls := .type "slice", data := .fields #[vl, vu, vs] } } := I4.kept (t' := s4.toks) fun b ob z => Heap.get?_push_of_some _ z
  obtain ⟨its, r, ht, hz⟩ := I5.tuple hx
  have len := r.length
  show wpAny (model X.prog X.w) X.A (subscriptTail e (.Slice none none (some (.UnaryOp .USub (.Constant (.int 1) k p1) p2)) p3) (.ref a) (.ref s4.heap.objs.size)) (EP X pins σ Q) X.xe
    { s4 with heap := s4.heap.push { cls := .type "slice", data := .fields #[vl, vu, vs] } }
  refine tail_any (ops := [.ref a, .ref s4.heap.objs.size]) ht.typeIs PyProof.Rows.slot_tuple_getitem.lookup ?_ (by with_unfolding_all rfl)
  have hsl : Heap.IsSliceOf (s4.heap.push { cls := .type "slice", data := .fields #[vl, vu, vs] }) s4.heap.objs.size vl vu vs := Heap.IsSliceOf.new _ vl vu vs
  obtain ⟨os, hos, hcs, hds⟩ := id hsl
  have typ : Shared.TypeIs { s4 with heap := s4.heap.push { cls := .type "slice", data := .fields #[vl, vu, vs] } } (.ref s4.heap.objs.size) "slice" := ⟨os, hos, hcs⟩
  have small : sizeOk (.seq its.reverse.toArray) := by
    show its.reverse.toArray.size ≤ sizeLine
    rw [List.size_toArray, List.length_reverse, ← len]
    exact hz
  have fin : EP X pins σ Q (.ref (s4.heap.push { cls := .type "slice", data := .fields #[vl, vu, vs] }).objs.size)
      { s4 with heap := (s4.heap.push { cls := .type "slice", data := .fields #[vl, vu, vs] }).push { cls := .type "tuple", data := .seq its.reverse.toArray } } := by
    refine ⟨.ref _, _, I5.laid (t' := s4.toks) (o := .tup xs.reverse) (fun b ob z => Heap.get?_push_of_some _ z) (Nat.le_refl _) ?_, rfl, q _ (I5.hok.fresh (Nat.le_refl _))⟩
    exact ⟨by rw [List.length_reverse]; exact hz, _, r.reverse, ⟨_, Heap.get?_push_size _ rfl, rfl, _, rfl⟩⟩
  unfold getItem
  try with_reducible refine wpAny_holding ?_
  first | refine wpAny_bind (wpAny_pure ?_) | skip
  refine wpAny_bind (wpAny_sequenceKey ht.typeIs (by decide) ?_)
  refine wpAny_bind (wpAny_callSpecial?_slot (name := Str.ofString "__getitem__") ht.typeIs PyProof.Rows.slot_tuple_getitem (wpAny_call_entry PyProof.Rows.slot_tuple_getitem ht.typeIs PyProof.Rows.entry_tuple_getitem ?_ (PyProof.Rows.args_tuple_getitem _ _)))
  show wpAny _ _ (Builtin.Tuple.tupleItemsOf (.ref a) >>= _) _ _ _
  refine wpAny_bind (PyProof.Rows.tupleItemsOf_ ht ?_)
  refine wpAny_bind (wpAny_typeOf typ ?_)
  rw [if_pos (by decide)]
  refine wpAny_bind ?_
  unfold Builtin.Slice.sliceApplied Builtin.Slice.sliceFields
  refine wpAny_bind (wpAny_bind (wpAny_field hos hds (x := vl) rfl (wpAny_bind (wpAny_field hos hds (x := vu) rfl (wpAny_bind (wpAny_field hos hds (x := vs) rfl (wpAny_pure ?_)))))))
  refine wpAny_bind (HT.slicePart_ ps ?_)
  show wpAny _ _ (if ((-1 : Int) == 0) = true then _ else _) _ _ _
  rw [if_neg (by decide)]
  refine wpAny_bind (HT.slicePart_ pl (wpAny_bind (HT.slicePart_ pu (wpAny_bind (wpAny_pure ?_)))))
  show wpAny _ _ (match Builtin.Slice.sliceAdjust none none (-1) (its.toArray.size : Int) with | (lo, hi) => pure (lo, (-1 : Int), Builtin.Slice.slicePlaces lo hi (-1))) _ _ _
  rw [adjustBack]
  show wpAny _ _ (pure (((its.toArray.size : Int) - 1), (-1 : Int), Builtin.Slice.slicePlaces ((its.toArray.size : Int) - 1) (-1) (-1))) _ _ _
  rw [placesBack]
  refine wpAny_pure ?_
  have hno : ¬ ((((its.toArray.size : Int) - 1) == 0 && (-1 : Int) == 1 && its.toArray.size == its.toArray.size) = true) := by
    rw [show ((-1 : Int) == 1) = false from rfl, Bool.and_false, Bool.false_and]
    exact Bool.false_ne_true
  show wpAny _ _ (if (((its.toArray.size : Int) - 1) == 0 && (-1 : Int) == 1 && its.toArray.size == its.toArray.size) = true then _ else _) _ _ _
  rw [if_neg hno, pickBack]
  first
    | exact wpAny_bind (m := Builtin.Tuple.tupleExact _) (wpAny_newObj_type (wpAny_pure ⟨_, rfl, wpAny_pure fin⟩) small)
    | exact wpAny_bind (m := Builtin.Tuple.tupleExact _) (wpAny_newObj_type (wpAny_bind (wpAny_pure (wpAny_pure ⟨_, rfl, wpAny_pure fin⟩))) small)
    | exact wpAny_bind (wpAny_bind (m := Builtin.Tuple.tupleExact _) (wpAny_newObj_type (wpAny_pure (wpAny_pure ⟨_, rfl, wpAny_pure fin⟩)) small))
    | exact wpAny_bind (wpAny_bind (m := Builtin.Tuple.tupleExact _) (wpAny_newObj_type (wpAny_pure ⟨_, rfl, wpAny_pure fin⟩) small))
end SL

namespace SL
open PySem PySem.Spec PyProof.Rows L2
/-! ### the text -/
def topS (i : Nat) : Stmt := PySem.Challenge.pw_samelayout_k04_rules_of_any_value.main.body.getD i (.Pass ⟨0, 0, 0, 0⟩)
abbrev sWithin : Stmt := topS 1
abbrev sAllIn : Stmt := topS 2
abbrev sRule : Stmt := topS 5
abbrev sSized : Stmt := topS 6
abbrev sTable : Stmt := topS 7
abbrev sAscending : Stmt := topS 8
abbrev sDecided : Stmt := topS 9
abbrev sPot : Stmt := topS 11
abbrev sTake : Stmt := topS 12
abbrev sPick : Stmt := topS 13
abbrev sMixed : Stmt := topS 14
abbrev sOrdTable : Stmt := topS 15
abbrev sAnyTable : Stmt := topS 16
abbrev sTurned : Stmt := topS 17
abbrev sLawTable : Stmt := topS 18
abbrev sOdd : Stmt := topS 19
abbrev sBent : Stmt := topS 20
abbrev sNumber : Stmt := topS 21
abbrev sAreKeys : Stmt := topS 22
abbrev sIsTable : Stmt := topS 23
abbrev sDue : Stmt := topS 24
abbrev sAsked : Stmt := topS 25
abbrev sByHand : Stmt := topS 26
abbrev sRight : Stmt := topS 27
abbrev sLaw : Stmt := topS 28
theorem scTake : FnScope ["_law_pot_here", "_law_size", "_law_digit", "_law_prime", "_law_mixed_here"] ["_law_pot_here", "_law_size"] (defScope sTake) := ⟨rfl, rfl, rfl, by decide +kernel, rfl, by decide +kernel, by decide +kernel⟩
theorem scPot : FnScope ["_law_script", "_law_k", "_law_cell", "_law_great"] ["_law_script", "_law_k"] (defScope sPot) := ⟨rfl, rfl, rfl, by decide +kernel, rfl, by decide +kernel, by decide +kernel⟩
theorem scPick : FnScope ["_law_pot_here", "_law_some"] ["_law_pot_here", "_law_some"] (defScope sPick) := ⟨rfl, rfl, rfl, by decide +kernel, rfl, by decide +kernel, by decide +kernel⟩

/-! ### heaps -/
/-- all but p is as it was -/
def Kp (p : Addr) (H H' : Hp) : Prop := ∀ b o, b ≠ p → H b = some o → H' b = some o
theorem Kp.refl (p : Addr) (H : Hp) : Kp p H H := fun _ _ _ h => h
theorem Kp.trans {p : Addr} {H H1 H2 : Hp} (a : Kp p H H1) (b : Kp p H1 H2) : Kp p H H2 := fun c o n h => b c o n (a c o n h)
theorem Kp.same {p : Addr} {H H' : Hp} (s : Same H H') : Kp p H H' := fun b o _ h => s b o h
theorem Kp.upd (p : Addr) (H : Hp) (o : HO) : Kp p H (upd H p o) := fun b u n h => by rw [upd_ne n]; exact h
theorem same_new {H : Hp} {p : Addr} {o : HO} (h : H p = none) : Same H (upd H p o) := fun b u e => by rw [upd_ne (ne_of_none e h)]; exact e
/-- a pot with n takes to come -/
def Pot (H : Hp) (p : Addr) (n : Nat) : Prop := ∃ g m c : Int, H p = some (.lst [.int g, .int m, .int c]) ∧ 0 ≤ g ∧ g < 10 ^ 180 ∧ 0 ≤ m ∧ m < 2 ^ 61 ∧ 0 ≤ c ∧ c + n ≤ 1000000
theorem Pot.less {H : Hp} {p : Addr} {n m : Nat} (h : Pot H p n) (l : m ≤ n) : Pot H p m := by
  obtain ⟨g, a, c, h1, h2, h3, h4, h5, h6, h7⟩ := h
  exact ⟨g, a, c, h1, h2, h3, h4, h5, h6, by omega⟩
theorem Pot.same {H H' : Hp} {p : Addr} {n : Nat} (h : Pot H p n) (s : Same H H') : Pot H' p n := by
  obtain ⟨g, a, c, h1, h2⟩ := h
  exact ⟨g, a, c, s _ _ h1, h2⟩
theorem Pot.lst {H : Hp} {p : Addr} {n : Nat} (h : Pot H p n) : ∃ xs, H p = some (.lst xs) := by
  obtain ⟨g, a, c, h1, h2⟩ := h
  exact ⟨_, h1⟩
section
variable {P : Program} {w : World} {K : PySem.W.Frag} {mg : Str → Option Value} {base : Heap}
/-! ### take -/
def spTake : Sp := fun vs H Q _ => ∃ (p : Addr) (z : Int) (n : Nat), vs = [.ref p, .int z] ∧ Pot H p (n + 1) ∧ 0 < z ∧ z ≤ 1000 ∧
  ∀ H' r, Kp p H H' → Pot H' p n → 0 ≤ r → r < z → Q (.int r) H'
theorem ok_take {f : Addr} {fd : FuncData} {k : Nat} (F : Fun K "_law_take" "_law_take" sTake f fd) : FnOk P w K mg base CX0 (k + 1) f fd ["_law_pot_here", "_law_size"] spTake := by
  refine F.ok scTake (fun vs H Q E h => ?_) (fun cdv A outer s H vs Q E hr h => ?_)
  · obtain ⟨p, z, n, rfl, _⟩ := h
    rfl
  · obtain ⟨p, z, n, rfl, hp, z0, z1, q⟩ := h
    obtain ⟨g, m, c, h1, g0, g1, m0, m1, c0, c1⟩ := hp
    refine ⟨_, pss_cons (ps_if (pt_cmpR op_gt (pe_ix ix_list (pv 0) pe_int (fun _ _ => rfl)) pe_int (nomark _))
        (pss_cons (ps_set (i := 2) scTake.nd rfl (.inl rfl) (pe_op op_mod (pe_ix ix_list (pv 0) pe_int (fun _ _ => rfl)) (pv 1)))
          (pss_cons (ps_asg (pe_op op_fdiv (pe_ix ix_list (pv 0) pe_int (fun _ _ => rfl)) (pv 1)) (pg_sub (pv 0) pe_int set_list))
            (pss_one (ps_ret (pv 2))))) pss_nil)
      (pss_cons (ps_asg (pe_op op_add (pe_ix ix_list (pv 0) pe_int (fun _ _ => rfl)) pe_int) (pg_sub (pv 0) pe_int set_list))
      (pss_cons (ps_set (i := 3) scTake.nd rfl (.inl rfl) (pe_ix ix_list (pe_lst (pa_cons pe_int (pa_cons pe_int (pa_cons pe_int (pa_cons pe_int (pa_cons pe_int pa_nil))))))
          (pe_op op_mod (pe_ix ix_list (pv 0) pe_int (fun _ _ => rfl)) pe_int) (fun _ _ => rfl)))
      (pss_cons (ps_set (i := 4) scTake.nd rfl (.inl rfl) (pe_op op_mod (pe_op op_pow (pe_op op_add (pe_op op_add (pe_ix ix_list (pv 0) pe_int (fun _ _ => rfl))
            (pe_op op_mul (pe_op op_mul pe_int (pe_ix ix_list (pv 0) pe_int (fun _ _ => rfl))) (pe_ix ix_list (pv 0) pe_int (fun _ _ => rfl)))) pe_int) pe_int) (pv 3)))
      (pss_one (ps_ret (pe_op op_mod (pe_op op_fdiv (pe_op op_mod (pe_op op_mul (pv 4) (pe_op op_add (pe_op op_mod (pv 4) pe_int)
            (pe_op op_mul pe_int (pe_ix ix_list (pv 0) pe_int (fun _ _ => rfl))))) pe_int) pe_int) (pv 1))))))), ?_⟩
    have hL : SqL K H p [.int g, .int m, .int c] := SqL.of h1
    refine ⟨.ref p, rfl, p, _, 0, .int g, rfl, rfl, hL, atI_nat (j := 0) rfl, _, _, rfl, rfl, _, rfl, ite2 (fun e => ?_) (fun e => ?_)⟩
    · refine ⟨.ref p, rfl, p, _, 0, .int g, rfl, rfl, hL, atI_nat (j := 0) rfl, .int z, rfl, g, z, rfl, rfl, z0, ?_⟩
      refine ⟨.ref p, rfl, p, _, 0, .int g, rfl, rfl, hL, atI_nat (j := 0) rfl, .int z, rfl, g, z, rfl, rfl, ⟨z0, by omega⟩, ?_⟩
      refine ⟨.ref p, rfl, p, _, 0, 0, rfl, rfl, h1, rfl, ?_⟩
      refine ⟨.int (g % z), rfl, ?_⟩
      refine q _ _ (Kp.upd p H _) ⟨g / z, m, c, upd_same, Int.ediv_nonneg g0 (by omega), ?_, m0, m1, c0, by omega⟩ (Int.emod_nonneg _ (by omega)) (Int.emod_lt_of_pos _ z0)
      exact Int.lt_of_le_of_lt (Int.ediv_le_self z g0) g1
    · -- pot[2] = pot[2] + 1
      refine ⟨.ref p, rfl, p, _, 2, .int c, rfl, rfl, hL, atI_nat (j := 2) rfl, c, 1, rfl, rfl, ?_⟩
      refine ⟨.ref p, rfl, p, _, 2, 2, rfl, rfl, h1, rfl, ?_⟩
      have h2 : upd H p (.lst ([V.int g, .int m, .int c].set 2 (.int (c + 1)))) p = some (.lst [.int g, .int m, .int (c + 1)]) := upd_same
      -- the prime
      refine ⟨Nat.le_of_lt (small1000 (by decide)), fun l hl => ?_⟩
      have ne : p ≠ l := fun e => by
        rw [← e, h2] at hl
        cases hl
      have h3 : upd (upd H p (.lst ([V.int g, .int m, .int c].set 2 (.int (c + 1))))) l (.lst [.int 2147483647, .int 2147483629, .int 2147483587, .int 2147483579, .int 2147483563]) p = some (.lst [.int g, .int m, .int (c + 1)]) := by
        rw [upd_ne ne]
        exact h2
      have hM : SqL K (upd (upd H p (.lst ([V.int g, .int m, .int c].set 2 (.int (c + 1))))) l (.lst [.int 2147483647, .int 2147483629, .int 2147483587, .int 2147483579, .int 2147483563])) p [.int g, .int m, .int (c + 1)] := SqL.of h3
      have hP : SqL K (upd (upd H p (.lst ([V.int g, .int m, .int c].set 2 (.int (c + 1))))) l (.lst [.int 2147483647, .int 2147483629, .int 2147483587, .int 2147483579, .int 2147483563])) l [.int 2147483647, .int 2147483629, .int 2147483587, .int 2147483579, .int 2147483563] := SqL.of upd_same
      have kp : Kp p H (upd (upd H p (.lst ([V.int g, .int m, .int c].set 2 (.int (c + 1))))) l (.lst [.int 2147483647, .int 2147483629, .int 2147483587, .int 2147483579, .int 2147483563])) := (Kp.upd p H _).trans (Kp.same (same_new hl))
      generalize upd (upd H p (.lst ([V.int g, .int m, .int c].set 2 (.int (c + 1))))) l (.lst [.int 2147483647, .int 2147483629, .int 2147483587, .int 2147483579, .int 2147483563]) = H2 at h3 hM hP kp ⊢
      have r0 : 0 ≤ (c + 1) % 5 := Int.emod_nonneg _ (by decide)
      have r1 : (c + 1) % 5 < 5 := Int.emod_lt_of_pos _ (by decide)
      obtain ⟨pr, hpr, p0, p1⟩ : ∃ pr : Int, atI [V.int 2147483647, .int 2147483629, .int 2147483587, .int 2147483579, .int 2147483563] ((c + 1) % 5) = some (.int pr) ∧ 0 < pr ∧ pr ≤ 2147483647 := by
        have cs : (c + 1) % 5 = 0 ∨ (c + 1) % 5 = 1 ∨ (c + 1) % 5 = 2 ∨ (c + 1) % 5 = 3 ∨ (c + 1) % 5 = 4 := by omega
        rcases cs with e | e | e | e | e <;> rw [e]
        · exact ⟨2147483647, atI_nat (j := 0) rfl, by decide, by decide⟩
        · exact ⟨2147483629, atI_nat (j := 1) rfl, by decide, by decide⟩
        · exact ⟨2147483587, atI_nat (j := 2) rfl, by decide, by decide⟩
        · exact ⟨2147483579, atI_nat (j := 3) rfl, by decide, by decide⟩
        · exact ⟨2147483563, atI_nat (j := 4) rfl, by decide, by decide⟩
      refine ⟨.ref p, rfl, p, _, 2, .int (c + 1), rfl, rfl, hM, atI_nat (j := 2) rfl, c + 1, 5, rfl, rfl, (show (0 : Int) < 5 by decide), ?_⟩
      refine ⟨l, _, _, .int pr, rfl, rfl, hP, hpr, ?_⟩
      -- mixed
      have b1 : 40009 * (c + 1) ≤ 40009 * 1000000 := by omega
      have b2 : 0 ≤ 40009 * (c + 1) := by omega
      have b3 : 0 ≤ 40009 * (c + 1) * (c + 1) := Int.mul_nonneg b2 (by omega)
      have b4 : 40009 * (c + 1) * (c + 1) ≤ (40009 * 1000000) * 1000000 := Int.mul_le_mul b1 (by omega) (by omega) (by decide)
      refine ⟨.ref p, rfl, p, _, 1, .int m, rfl, rfl, hM, atI_nat (j := 1) rfl, .ref p, rfl, p, _, 2, .int (c + 1), rfl, rfl, hM, atI_nat (j := 2) rfl, 40009, c + 1, rfl, rfl, .inl ⟨by decide, by decide⟩,
        .ref p, rfl, p, _, 2, .int (c + 1), rfl, rfl, hM, atI_nat (j := 2) rfl, _, c + 1, rfl, rfl, .inl ⟨by omega, by omega⟩, m, _, rfl, rfl, _, 31, rfl, rfl, _, 3, rfl, rfl, ⟨by decide, by decide, by omega⟩, .int pr, rfl, _, pr, rfl, rfl, p0, ?_⟩
      generalize (m + 40009 * (c + 1) * (c + 1) + 31) ^ (3 : Int).toNat = y
      have y0 : 0 ≤ y % pr := Int.emod_nonneg _ (by omega)
      have y1 : y % pr < pr := Int.emod_lt_of_pos _ p0
      have v0 : 0 ≤ y % pr % 10009 := Int.emod_nonneg _ (by decide)
      have v1 : y % pr % 10009 < 10009 := Int.emod_lt_of_pos _ (by decide)
      refine ⟨.int (y % pr), rfl, .int (y % pr), rfl, y % pr, 10009, rfl, rfl, (show (0 : Int) < 10009 by decide), .ref p, rfl, p, _, 2, .int (c + 1), rfl, rfl, hM, atI_nat (j := 2) rfl, 89, c + 1, rfl, rfl, .inl ⟨by decide, by decide⟩,
        _, _, rfl, rfl, y % pr, _, rfl, rfl, .inl ⟨by omega, by omega⟩, _, 2305843009213693907, rfl, rfl, (show (0 : Int) < 2305843009213693907 by decide), _, 89, rfl, rfl, ⟨by decide, by decide⟩, .int z, rfl, _, z, rfl, rfl, z0, ?_⟩
      exact q _ _ kp ⟨g, m, c + 1, h3, g0, g1, m0, m1, by omega, by omega⟩ (Int.emod_nonneg _ (by omega)) (Int.emod_lt_of_pos _ z0)
/-! ### pot -/
def spPot (K : PySem.W.Frag) : Sp := fun vs H Q _ => ∃ (a : Addr) (ns : List Int) (k : Nat), vs = [.ref a, .int k] ∧ SqL K H a (ns.map V.int) ∧ k ≤ 3 ∧
  ∀ H' p, Same H H' → H p = none → Pot H' p 1000000 → Q (.ref p) H'
theorem ok_pot {f : Addr} {fd : FuncData} {k : Nat} (F : Fun K "_law_pot" "_law_pot" sPot f fd) (ml : mg "len" = none) (ma : mg "abs" = none) :
    FnOk P w K mg base CX0 (k + 1) f fd ["_law_script", "_law_k"] (spPot K) := by
  refine F.ok scPot (fun vs H Q E h => ?_) (fun cdv A outer s H vs Q E hr h => ?_)
  · obtain ⟨a, ns, k, rfl, _⟩ := h
    rfl
  · obtain ⟨a, ns, k, rfl, hS, k3, q⟩ := h
    refine ⟨_, pss_cons (ps_set (i := 2) scPot.nd rfl (.inl rfl) (pe_ifExp (pt_cmpR op_lt (pv 1) (pe_callB call_len_seq (by rfl) ml PySem.boot_len (pa_cons (pv 0) pa_nil)) (nomark _))
          (pe_ix ix_list (pv 0) (pv 1) (fun _ _ => rfl)) (pe_op op_add (pe_op op_mul pe_int (pv 1)) pe_int)))
      (pss_cons (ps_set (i := 3) scPot.nd rfl (.inl rfl) (pe_ifExp (pt_cmpR op_ge (pe_callB call_abs (by rfl) ma (by decide +kernel) (pa_cons (pv 2) pa_nil)) (pe_op op_pow pe_int pe_int) (nomark _))
          (pe_op op_mod (pe_callB call_abs (by rfl) ma (by decide +kernel) (pa_cons (pv 2) pa_nil)) (pe_op op_powB (pe_op op_pow pe_int pe_int) pe_int)) pe_int))
      (pss_one (ps_ret (pe_lst (pa_cons (pv 3) (pa_cons (pe_op op_mod (pe_op op_add (pe_op op_add (pe_op op_mul (pe_op op_mod (pv 2) pe_int) pe_int)
          (pe_op op_mul (pe_op op_mul pe_int (pv 1)) (pv 1))) pe_int) pe_int) (pa_cons pe_int pa_nil))))))), ?_⟩
    have e60 : (10 : Int) ^ (60 : Int).toNat = 1000000000000000000000000000000000000000000000000000000000000 := by decide +kernel
    have e180 : ((10 : Int) ^ (60 : Int).toNat) ^ (3 : Int).toNat = 10 ^ 180 := by decide +kernel
    refine ⟨.int k, rfl, .ref a, rfl, a, _, rfl, .inl hS, _, _, rfl, rfl, _, rfl, ite2 (fun e => ?_) (fun e => ?_)⟩
    · have lt : k < ns.length := by
        have z := of_decide_eq_true e
        rw [List.length_map] at z
        omega
      refine ⟨.ref a, rfl, .int k, rfl, a, _, k, .int ns[k], rfl, rfl, hS, atI_nat (by rw [List.getElem?_map, List.getElem?_eq_getElem lt]; rfl), ?_⟩
      refine ⟨.int ns[k], rfl, ns[k], rfl, 10, 18, rfl, rfl, ⟨by decide, by decide, by decide⟩, _, _, rfl, rfl, _, rfl, ite2 (fun e => ?_) (fun e => ?_)⟩
      · refine ⟨.int ns[k], rfl, ns[k], rfl, 10, 60, rfl, rfl, ⟨by decide, by decide, by decide⟩, _, 3, rfl, rfl, ⟨by decide, by rw [e60]; decide +kernel⟩, _, _, rfl, rfl, by rw [e180]; exact (by decide +kernel : (0 : Int) < 10 ^ 180), ?_⟩
        rw [e180]
        have gr0 : 0 ≤ (if ns[k] < 0 then -ns[k] else ns[k]) % 10 ^ 180 := Int.emod_nonneg _ (by decide +kernel)
        have gr1 : (if ns[k] < 0 then -ns[k] else ns[k]) % 10 ^ 180 < 10 ^ 180 := Int.emod_lt_of_pos _ (by decide +kernel)
        have g9 : 0 ≤ ns[k] % 2305843009213693951 := Int.emod_nonneg _ (by decide)
        have g8 : ns[k] % 2305843009213693951 < 2305843009213693951 := Int.emod_lt_of_pos _ (by decide)
        refine ⟨_, rfl, .int ns[k], rfl, ns[k], 2305843009213693951, rfl, rfl, (show (0 : Int) < 2305843009213693951 by decide), _, 69621, rfl, rfl, .inl ⟨by omega, by omega⟩, .int k, rfl, 104729, k, rfl, rfl, .inl ⟨by decide, by decide⟩,
          .int k, rfl, _, k, rfl, rfl, .inl ⟨by omega, by omega⟩, _, _, rfl, rfl, _, 71, rfl, rfl, _, 2305843009213693921, rfl, rfl, (show (0 : Int) < 2305843009213693921 by decide), Nat.le_of_lt (small1000 (by show 3 ≤ 1000; decide)), fun p hp => ?_⟩
        exact q _ _ (same_new hp) hp ⟨_, (ns[k] % 2305843009213693951 * 69621 + 104729 * k * k + 71) % 2305843009213693921, 0, upd_same, gr0, gr1, Int.emod_nonneg _ (by decide), Int.lt_trans (Int.emod_lt_of_pos _ (by decide)) (by decide), by decide, by decide⟩
      · have gr0 : (0 : Int) ≤ 0 := by decide
        have gr1 : (0 : Int) < 10 ^ 180 := by decide +kernel
        have g9 : 0 ≤ ns[k] % 2305843009213693951 := Int.emod_nonneg _ (by decide)
        have g8 : ns[k] % 2305843009213693951 < 2305843009213693951 := Int.emod_lt_of_pos _ (by decide)
        refine ⟨_, rfl, .int ns[k], rfl, ns[k], 2305843009213693951, rfl, rfl, (show (0 : Int) < 2305843009213693951 by decide), _, 69621, rfl, rfl, .inl ⟨by omega, by omega⟩, .int k, rfl, 104729, k, rfl, rfl, .inl ⟨by decide, by decide⟩,
          .int k, rfl, _, k, rfl, rfl, .inl ⟨by omega, by omega⟩, _, _, rfl, rfl, _, 71, rfl, rfl, _, 2305843009213693921, rfl, rfl, (show (0 : Int) < 2305843009213693921 by decide), Nat.le_of_lt (small1000 (by show 3 ≤ 1000; decide)), fun p hp => ?_⟩
        exact q _ _ (same_new hp) hp ⟨_, (ns[k] % 2305843009213693951 * 69621 + 104729 * k * k + 71) % 2305843009213693921, 0, upd_same, gr0, gr1, Int.emod_nonneg _ (by decide), Int.lt_trans (Int.emod_lt_of_pos _ (by decide)) (by decide), by decide, by decide⟩
    · refine ⟨.int k, rfl, 17, k, rfl, rfl, .inl ⟨by decide, by decide⟩, _, 3, rfl, rfl, ?_⟩
      refine ⟨.int (17 * (k : Int) + 3), rfl, (17 * (k : Int) + 3), rfl, 10, 18, rfl, rfl, ⟨by decide, by decide, by decide⟩, _, _, rfl, rfl, _, rfl, ite2 (fun e => ?_) (fun e => ?_)⟩
      · refine ⟨.int (17 * (k : Int) + 3), rfl, (17 * (k : Int) + 3), rfl, 10, 60, rfl, rfl, ⟨by decide, by decide, by decide⟩, _, 3, rfl, rfl, ⟨by decide, by rw [e60]; decide +kernel⟩, _, _, rfl, rfl, by rw [e180]; exact (by decide +kernel : (0 : Int) < 10 ^ 180), ?_⟩
        rw [e180]
        have gr0 : 0 ≤ (if (17 * (k : Int) + 3) < 0 then -(17 * (k : Int) + 3) else (17 * (k : Int) + 3)) % 10 ^ 180 := Int.emod_nonneg _ (by decide +kernel)
        have gr1 : (if (17 * (k : Int) + 3) < 0 then -(17 * (k : Int) + 3) else (17 * (k : Int) + 3)) % 10 ^ 180 < 10 ^ 180 := Int.emod_lt_of_pos _ (by decide +kernel)
        have g9 : 0 ≤ (17 * (k : Int) + 3) % 2305843009213693951 := Int.emod_nonneg _ (by decide)
        have g8 : (17 * (k : Int) + 3) % 2305843009213693951 < 2305843009213693951 := Int.emod_lt_of_pos _ (by decide)
        refine ⟨_, rfl, .int (17 * (k : Int) + 3), rfl, (17 * (k : Int) + 3), 2305843009213693951, rfl, rfl, (show (0 : Int) < 2305843009213693951 by decide), _, 69621, rfl, rfl, .inl ⟨by omega, by omega⟩, .int k, rfl, 104729, k, rfl, rfl, .inl ⟨by decide, by decide⟩,
          .int k, rfl, _, k, rfl, rfl, .inl ⟨by omega, by omega⟩, _, _, rfl, rfl, _, 71, rfl, rfl, _, 2305843009213693921, rfl, rfl, (show (0 : Int) < 2305843009213693921 by decide), Nat.le_of_lt (small1000 (by show 3 ≤ 1000; decide)), fun p hp => ?_⟩
        exact q _ _ (same_new hp) hp ⟨_, ((17 * (k : Int) + 3) % 2305843009213693951 * 69621 + 104729 * k * k + 71) % 2305843009213693921, 0, upd_same, gr0, gr1, Int.emod_nonneg _ (by decide), Int.lt_trans (Int.emod_lt_of_pos _ (by decide)) (by decide), by decide, by decide⟩
      · have gr0 : (0 : Int) ≤ 0 := by decide
        have gr1 : (0 : Int) < 10 ^ 180 := by decide +kernel
        have g9 : 0 ≤ (17 * (k : Int) + 3) % 2305843009213693951 := Int.emod_nonneg _ (by decide)
        have g8 : (17 * (k : Int) + 3) % 2305843009213693951 < 2305843009213693951 := Int.emod_lt_of_pos _ (by decide)
        refine ⟨_, rfl, .int (17 * (k : Int) + 3), rfl, (17 * (k : Int) + 3), 2305843009213693951, rfl, rfl, (show (0 : Int) < 2305843009213693951 by decide), _, 69621, rfl, rfl, .inl ⟨by omega, by omega⟩, .int k, rfl, 104729, k, rfl, rfl, .inl ⟨by decide, by decide⟩,
          .int k, rfl, _, k, rfl, rfl, .inl ⟨by omega, by omega⟩, _, _, rfl, rfl, _, 71, rfl, rfl, _, 2305843009213693921, rfl, rfl, (show (0 : Int) < 2305843009213693921 by decide), Nat.le_of_lt (small1000 (by show 3 ≤ 1000; decide)), fun p hp => ?_⟩
        exact q _ _ (same_new hp) hp ⟨_, ((17 * (k : Int) + 3) % 2305843009213693951 * 69621 + 104729 * k * k + 71) % 2305843009213693921, 0, upd_same, gr0, gr1, Int.emod_nonneg _ (by decide), Int.lt_trans (Int.emod_lt_of_pos _ (by decide)) (by decide), by decide, by decide⟩
end
end SL

namespace SL
open PySem
/-! ### lists -/
theorem perm_of_sub {α : Type} [DecidableEq α] : ∀ (l r : List α), l.Nodup → (∀ x ∈ l, x ∈ r) → r.length ≤ l.length → l.Perm r
  | [], r, _, _, h => by
    have e : r = [] := List.eq_nil_of_length_eq_zero (Nat.le_zero.mp h)
    rw [e]
  | a :: l, r, nd, sub, h => by
    have ha : a ∈ r := sub a List.mem_cons_self
    have p := List.perm_cons_erase ha
    have len : (r.erase a).length = r.length - 1 := List.length_erase_of_mem ha
    rw [List.nodup_cons] at nd
    have ih := perm_of_sub l (r.erase a) nd.2 (fun x hx => (List.mem_erase_of_ne (fun (e : x = a) => nd.1 (by rw [← e]; exact hx))).mpr (sub x (List.mem_cons_of_mem _ hx))) (by
      rw [len]
      rw [List.length_cons] at h
      omega)
    exact (ih.cons a).trans p.symm
theorem len_of_sub {α : Type} [DecidableEq α] : ∀ (l r : List α), l.Nodup → (∀ x ∈ l, x ∈ r) → l.length ≤ r.length
  | [], r, _, _ => Nat.zero_le _
  | a :: l, r, nd, sub => by
    have ha : a ∈ r := sub a List.mem_cons_self
    have len : (r.erase a).length = r.length - 1 := List.length_erase_of_mem ha
    rw [List.nodup_cons] at nd
    have ih := len_of_sub l (r.erase a) nd.2 (fun x hx => (List.mem_erase_of_ne (fun (e : x = a) => nd.1 (by rw [← e]; exact hx))).mpr (sub x (List.mem_cons_of_mem _ hx)))
    have pos : 0 < r.length := List.length_pos_of_mem ha
    rw [List.length_cons]
    omega
/-- the slots -/
def R (n : Nat) : List Int := (List.range n).map fun (i : Nat) => (i : Int)
theorem R_len (n : Nat) : (R n).length = n := by simp [R]
theorem R_mem {n : Nat} {x : Int} : x ∈ R n ↔ 0 ≤ x ∧ x < n := by
  unfold R
  rw [List.mem_map]
  constructor
  · rintro ⟨i, hi, rfl⟩
    have := List.mem_range.mp hi
    omega
  · rintro ⟨h0, h1⟩
    exact ⟨x.toNat, List.mem_range.mpr (by omega), by omega⟩
theorem R_nodup (n : Nat) : (R n).Nodup := by
  unfold R
  rw [List.nodup_iff_pairwise_ne, List.pairwise_map]
  exact (List.nodup_range (n := n)).imp (fun h e => h (by omega))
theorem R_rising (n : Nat) : (R n).Pairwise (· ≤ ·) := by
  unfold R
  rw [List.pairwise_map]
  exact (List.pairwise_lt_range (n := n)).imp (fun h => by omega)
/-- by the set: as many as there are, and no more of them -/
theorem probe_by_set {n : Nat} {ns ks : List Int} (nd : ks.Nodup) (mem : ∀ k, k ∈ ks ↔ k ∈ ns) (inR : ∀ x ∈ ns, x ∈ R n) : (ns.length = n ∧ ks.length = n) ↔ ns.Perm (R n) := by
  constructor
  · rintro ⟨h1, h2⟩
    have p : ks.Perm (R n) := perm_of_sub ks (R n) nd (fun x hx => inR x ((mem x).mp hx)) (by rw [R_len]; omega)
    refine (perm_of_sub (R n) ns (R_nodup n) (fun x hx => (mem x).mp (p.mem_iff.mpr hx)) (by rw [R_len]; omega)).symm
  · intro p
    have h1 : ns.length = n := by rw [p.length_eq, R_len]
    refine ⟨h1, ?_⟩
    have a := len_of_sub ks (R n) nd fun x hx => inR x ((mem x).mp hx)
    have b := len_of_sub (R n) ks (R_nodup n) fun x hx => (mem x).mpr (p.mem_iff.mpr hx)
    rw [R_len] at a b
    omega
/-- by sorting -/
theorem sorted_one {a b : List Int} (p : a.Perm b) (ha : a.Pairwise (· ≤ ·)) (hb : b.Pairwise (· ≤ ·)) : a = b :=
  p.eq_of_pairwise (fun x y _ _ h1 h2 => Int.le_antisymm h1 h2) ha hb
theorem probe_by_sort {n : Nat} {ns out : List Int} (p : out.Perm ns) (r : out.Pairwise (· ≤ ·)) : out = R n ↔ ns.Perm (R n) := by
  constructor
  · intro e
    rw [← e]
    exact p.symm
  · intro q
    exact sorted_one (p.trans q) r (R_rising n)
/-- in a row, round -/
def lineL (n : Nat) (b : Int) : List Int := (List.range n).map fun (i : Nat) => (b + i) % n
theorem line_perm {n : Nat} {b : Int} (hn : 0 < n) : (lineL n b).Perm (R n) := by
  refine perm_of_sub _ _ ?_ (fun x hx => ?_) (by rw [R_len]; simp [lineL])
  · unfold lineL
    rw [List.nodup_iff_pairwise_ne, List.pairwise_map]
    refine (List.pairwise_lt_range (n := n)).imp_of_mem (fun {i j} hi hj h e => ?_)
    have hi := List.mem_range.mp hi
    have hj := List.mem_range.mp hj
    have z : ((b + j) - (b + i)) % (n : Int) = 0 := by rw [Int.sub_emod, ← e, Int.sub_self, Int.zero_emod]
    have d := Int.emod_emod_of_dvd
    have dv : (n : Int) ∣ ((b + j) - (b + i)) := Int.dvd_of_emod_eq_zero z
    have l := Int.le_of_dvd (by omega) dv
    omega
  · unfold lineL at hx
    rw [List.mem_map] at hx
    obtain ⟨i, _, rfl⟩ := hx
    exact R_mem.mpr ⟨Int.emod_nonneg _ (by omega), Int.emod_lt_of_pos _ (by omega)⟩
end SL

namespace SL
open PySem PySem.Spec PyProof.Rows L2
theorem scMixed : FnScope ["_law_pot_here", "_law_some", "_law_left", "_law_found"] ["_law_pot_here", "_law_some"] (defScope sMixed) := ⟨rfl, rfl, rfl, by decide +kernel, rfl, by decide +kernel, by decide +kernel⟩
section
variable {P : Program} {w : World} {K : PySem.W.Frag} {mg : Str → Option Value} {base : Heap}
/-! ### pick -/
def spPick : Sp := fun vs H Q _ => ∃ (p l : Addr) (xs : List V) (n : Nat), vs = [.ref p, .ref l] ∧ Pot H p (n + 1) ∧ H l = some (.lst xs) ∧ l ≠ p ∧ 0 < xs.length ∧ xs.length ≤ 1000 ∧
  ∀ H' (i : Nat) x, Kp p H H' → Pot H' p n → xs[i]? = some x → Q x H'
theorem ok_pick {f fT : Addr} {fd fdT : FuncData} {k : Nat} (F : Fun K "_law_pick" "_law_pick" sPick f fd) (FT : Fun K "_law_take" "_law_take" sTake fT fdT) (bT : Binds K fdT ["_law_pot_here", "_law_size"] []) (gT : mg "_law_take" = some (.ref fT))
    (ml : mg "len" = none) : FnOk P w K mg base CX0 (k + 2) f fd ["_law_pot_here", "_law_some"] spPick := by
  have GT : FnOk P w K mg base CX0 (k + 1) fT fdT ["_law_pot_here", "_law_size"] spTake := ok_take FT
  refine F.ok scPick (fun vs H Q E h => ?_) (fun cdv A outer s H vs Q E hr h => ?_)
  · obtain ⟨p, l, xs, n, rfl, _⟩ := h
    rfl
  · obtain ⟨p, l, xs, n, rfl, hp, hl, ne, x0, x1, q⟩ := h
    refine ⟨_, pss_one (ps_ret (pe_ix ix_list (pv 1) (pe_call GT hr (by rfl) gT FT.kp bT .nil pass0 (pa_cons (pv 0) (pa_cons (pe_callB call_len_seq (by rfl) ml PySem.boot_len (pa_cons (pv 1) pa_nil)) pa_nil))) (fun _ _ => rfl))), ?_⟩
    refine ⟨.ref l, rfl, .ref p, rfl, .ref l, rfl, l, xs, rfl, .inl (SqL.of hl), p, _, n, rfl, hp, by omega, by omega, fun H' r kp hp' r0 r1 => ?_⟩
    have hi : r.toNat < xs.length := by omega
    refine ⟨l, xs, r, xs[r.toNat], rfl, rfl, SqL.of (kp _ _ ne hl), at_of (j := r.toNat) (by omega) (List.getElem?_eq_getElem hi), ?_⟩
    exact q H' r.toNat _ kp hp' (List.getElem?_eq_getElem hi)
/-! ### mixed -/
def spMixed : Sp := fun vs H Q _ => ∃ (p l : Addr) (ns : List Int) (n : Nat), vs = [.ref p, .ref l] ∧ Pot H p (n + ns.length) ∧ H l = some (.lst (ns.map V.int)) ∧ ns.length ≤ 100 ∧
  ∀ (H' : Hp) (t : Addr) (out : List Int), Kp p H H' → Pot H' p n → H t = none → H' t = some (.lst (out.map V.int)) → out.Perm ns → Q (.ref t) H'
def lenAt (H : Hp) : Option (Option V) → Nat
  | some (some (.ref a)) => match H a with
    | some (.lst xs) => xs.length
    | _ => 0
  | _ => 0
theorem lenAt_of {H : Hp} {a : Addr} {xs : List V} (h : H a = some (.lst xs)) : lenAt H (some (some (.ref a))) = xs.length := by
  show (match H a with
    | some (.lst xs) => xs.length
    | _ => 0) = xs.length
  rw [h]
theorem take_out : ∀ (l : List Int) (i : Nat) (h : i < l.length), (l[i] :: l.eraseIdx i).Perm l
  | [], i, h => by simp at h
  | a :: l, 0, h => List.Perm.refl _
  | a :: l, i + 1, h => by
    have h' : i < l.length := by simpa using h
    have ih := take_out l i h'
    show (l[i] :: a :: l.eraseIdx i).Perm (a :: l)
    exact (List.Perm.swap a _ _).trans (ih.cons a)
theorem shaped_ints (ns : List Int) : SeqAt.shaped (.list (ns.map PyData.int)) = true := by
  have lay : PyData.canLayAll0 (ns.map PyData.int) = true := by
    induction ns with
    | nil => simp [PyData.canLayAll0]
    | cons a r ih => simp [PyData.canLayAll0, PyData.canLay0, ih]
  have dep : PyData.depthAll (ns.map PyData.int) ≤ 1 := by
    induction ns with
    | nil => simp [PyData.depthAll]
    | cons a r ih =>
      have ih' := ih (by
        simp only [List.map_cons, PyData.canLayAll0, Bool.and_eq_true] at lay
        exact lay.2)
      simp only [List.map_cons, PyData.depthAll, PyData.depth]
      omega
  show ((PyData.list (ns.map PyData.int)).canLay0 && decide ((PyData.list (ns.map PyData.int)).depth ≤ 64)) = true
  rw [Bool.and_eq_true]
  refine ⟨by simp only [PyData.canLay0]; exact lay, decide_eq_true ?_⟩
  simp only [PyData.depth]
  omega
theorem dp_ints (K : PySem.W.Frag) (H : Hp) : ∀ ns : List Int, DpAll K H (ns.map V.int) (ns.map PyData.int)
  | [] => .nil
  | n :: ns => .cons (.int n) (dp_ints K H ns)
theorem ok_mixed {f fT : Addr} {fd fdT : FuncData} {k : Nat} (F : Fun K "_law_mixed" "_law_mixed" sMixed f fd) (FT : Fun K "_law_take" "_law_take" sTake fT fdT) (bT : Binds K fdT ["_law_pot_here", "_law_size"] []) (gT : mg "_law_take" = some (.ref fT))
    (ml : mg "len" = none) (mli : mg "list" = none) : FnOk P w K mg base CX0 (k + 2) f fd ["_law_pot_here", "_law_some"] spMixed := by
  have GT : FnOk P w K mg base CX0 (k + 1) fT fdT ["_law_pot_here", "_law_size"] spTake := ok_take FT
  refine F.ok scMixed (fun vs H Q E h => ?_) (fun cdv A outer s H vs Q E hr h => ?_)
  · obtain ⟨p, l, ns, n, rfl, _⟩ := h
    rfl
  · obtain ⟨p, l, ns, n, rfl, hp, hl, few, q⟩ := h
    refine ⟨_, pss_cons (ps_par (i := 2) (j := 3) (by rfl) scMixed.nd rfl rfl (by decide) rfl rfl (pa_cons (pe_callTy call_list_of (by rfl) mli (by decide +kernel) (pa_cons (pv 1) pa_nil)) (pa_cons (pe_lst pa_nil) pa_nil)) (by rfl))
      (pss_cons (ps_while PassesOwn.never (pt_cmpR (op_neD hr.units) (pv 2) (pe_lst pa_nil) (nomark _))
        (pss_one (ps_expr (pe_bm PySem.F.plainAttrs_list PySem.F.slot_list_append PySem.F.type_list_append mt_append (pv 3)
          (pa_cons (pe_bm PySem.F.plainAttrs_list PySem.F.slot_list_pop PySem.F.type_list_pop mt_popAt (pv 2)
            (pa_cons (pe_call GT hr (by rfl) gT FT.kp bT .nil pass0 (pa_cons (pv 0) (pa_cons (pe_callB call_len_seq (by rfl) ml PySem.boot_len (pa_cons (pv 2) pa_nil)) pa_nil))) pa_nil)) pa_nil)))))
      (pss_one (ps_ret (pv 3)))), ?_⟩
    refine ⟨.ref l, rfl, l, _, rfl, .inl (SqL.of hl), fun a na => ?_⟩
    refine ⟨Nat.zero_le _, fun b nb => ?_⟩
    refine ⟨_, _, rfl, ?_⟩
    have nba : a ≠ b := fun e => by
      rw [← e, upd_same] at nb
      cases nb
    have kb : H b = none := (same_new na).free nb
    refine while_by (fun σ G => ∃ left found : List Int, σ = [some (.ref p), some (.ref l), some (.ref a), some (.ref b)] ∧ G a = some (.lst (left.map V.int)) ∧ G b = some (.lst (found.map V.int)) ∧
        (found ++ left).Perm ns ∧ Pot G p (n + left.length) ∧ Kp p H G) (fun σ G => lenAt G σ[2]?) ?_ (fun σ G inv => ?_) (fun σ G Q1 Q2 mono h => ?_)
    · refine ⟨ns, [], rfl, ?_, upd_same, List.Perm.refl _, (hp.same (same_new na)).same (same_new nb), Kp.same ((same_new na).trans (same_new nb))⟩
      rw [upd_ne nba, upd_same]
    · obtain ⟨left, found, rfl, ha, hb, perm, pot, kp⟩ := inv
      have apa : a ≠ p := fun e => by
        obtain ⟨g, m, c, hpp, _⟩ := hp
        rw [e, hpp] at na
        cases na
      have bpb : b ≠ p := fun e => by
        obtain ⟨g, m, c, hpp, _⟩ := hp
        rw [e, hpp] at kb
        cases kb
      refine ⟨.ref a, rfl, Nat.zero_le _, fun t nt => ?_⟩
      have st : Same G (upd G t (.lst [])) := same_new nt
      refine ⟨_, _, .lst (SqL.of (st _ _ ha)) (dp_ints K _ left), .lst (SqL.of upd_same) .nil, shaped_ints left, shaped_ints [], _, rfl, ?_⟩
      cases left with
      | nil =>
        show if (!PyData.eqv (.list []) (.list [])) = true then _ else _
        rw [show PyData.eqv (.list []) (.list []) = true by simp [PyData.eqv, PyData.eqvAll]]
        refine iteF ?_
        refine ⟨.ref b, rfl, ?_⟩
        refine q _ b found (kp.trans (Kp.same st)) ((pot.same st).less (by simp)) kb (st _ _ hb) ?_
        rw [List.append_nil] at perm
        exact perm
      | cons z rest =>
        show if (!PyData.eqv (.list (.int z :: rest.map PyData.int)) (.list [])) = true then _ else _
        rw [show PyData.eqv (.list (.int z :: rest.map PyData.int)) (.list []) = false by simp [PyData.eqv, PyData.eqvAll]]
        refine iteT ?_
        have len : (found ++ z :: rest).length = ns.length := perm.length_eq
        rw [List.length_append, List.length_cons] at len
        refine ⟨.ref b, rfl, .inl ⟨rfl, _, SqL.of (st _ _ hb)⟩, .ref a, rfl, .inl ⟨rfl, _, SqL.of (st _ _ ha)⟩, .ref p, rfl, .ref a, rfl, a, _, rfl, .inl (SqL.of (st _ _ ha)), p, _, n + rest.length, rfl, (pot.same st).less (by simp; omega), ?_, ?_, fun G2 r kp2 pot2 r0 r1 => ?_⟩
        · rw [List.length_map, List.length_cons]; omega
        · rw [List.length_map, List.length_cons]; omega
        have ha2 := kp2 _ _ apa (st _ _ ha)
        have hb2 := kp2 _ _ bpb (st _ _ hb)
        rw [List.length_map] at r1
        have hi : r.toNat < (z :: rest).length := by omega
        have gi : ((z :: rest).map V.int)[r.toNat]? = some (.int (z :: rest)[r.toNat]) := by
          rw [List.getElem?_map, List.getElem?_eq_getElem hi]
          rfl
        refine ⟨a, _, r, r.toNat, _, rfl, rfl, ha2, by omega, by simp only [List.length_cons] at r1; omega, ?_, gi, ?_⟩
        · rw [List.length_map]
          exact seqIndex_of r0 r1
        · have ha3 : upd G2 a (.lst (((z :: rest).map V.int).eraseIdx r.toNat)) a = some (.lst (((z :: rest).eraseIdx r.toNat).map V.int)) := by
            rw [upd_same, erase_mapI]
          have hb3 : upd G2 a (.lst (((z :: rest).map V.int).eraseIdx r.toNat)) b = some (.lst (found.map V.int)) := by
            rw [upd_ne nba.symm]
            exact hb2
          refine ⟨b, _, _, rfl, rfl, hb3, ?_, ?_⟩
          · rw [List.length_map]
            exact small1000 (by omega)
          have lenE : ((z :: rest).eraseIdx r.toNat).length = rest.length := by
            rw [List.length_eraseIdx_of_lt hi, List.length_cons]
            omega
          refine ⟨⟨(z :: rest).eraseIdx r.toNat, found ++ [(z :: rest)[r.toNat]], rfl, ?_, ?_, ?_, ?_, ?_⟩, ?_⟩
          · rw [upd_ne nba]
            exact ha3
          · rw [upd_same, List.map_append]
            rfl
          · refine List.Perm.trans ?_ perm
            rw [List.append_assoc]
            refine List.Perm.append_left found ?_
            exact take_out _ _ hi
          · obtain ⟨g, m, c, z1, z2⟩ := pot2
            rw [lenE]
            refine ⟨g, m, c, ?_, z2⟩
            rw [upd_ne bpb.symm, upd_ne apa.symm]
            exact z1
          · intro d o nd hd
            have da : d ≠ a := ne_of_none hd na
            have db : d ≠ b := ne_of_none hd kb
            rw [upd_ne db, upd_ne da]
            exact kp2 _ _ nd (st _ _ (kp _ _ nd hd))
          · show lenAt _ (some (some (.ref a))) < lenAt _ (some (some (.ref a)))
            rw [lenAt_of ((upd_ne nba).trans ha3), lenAt_of ha]
            rw [List.length_map, List.length_map, lenE, List.length_cons]
            omega
    · obtain ⟨v, e, z0, f⟩ := h
      refine ⟨v, e, z0, fun t nt => ?_⟩
      obtain ⟨d1, d2, a1, a2, a3, a4, kk, ek, qq⟩ := f t nt
      exact ⟨d1, d2, a1, a2, a3, a4, kk, ek, mono _ _ qq⟩
end
end SL

namespace SL
open PySem PySem.Spec PyProof.Rows L2
theorem rgV_R (n : Nat) : rgV 0 n = (R n).map V.int := by
  unfold rgV R
  rw [List.map_map]
  have e : ((n : Int) - 0).toNat = n := by omega
  rw [e]
  refine List.map_congr_left fun i _ => ?_
  show V.int (0 + (i : Int)) = V.int i
  rw [Int.zero_add]
/-! ### data: tuples and lists (none of them the pot) of None, bools, ints, texts -/
mutual
inductive Dt (p : Addr) (H : Hp) : V → PyData → Prop
  | non : Dt p H .non .none
  | bl (b : Bool) : Dt p H (.bl b) (.bool b)
  | int (i : Int) : Dt p H (.int i) (.int i)
  | str (x : Str) : Dt p H (.str x) (.str x)
  | tup {a : Addr} {xs : List V} {ds : List PyData} : H a = some (.tup xs) → DtAll p H xs ds → Dt p H (.ref a) (.tuple ds)
  | lst {a : Addr} {xs : List V} {ds : List PyData} : H a = some (.lst xs) → a ≠ p → DtAll p H xs ds → Dt p H (.ref a) (.list ds)
inductive DtAll (p : Addr) (H : Hp) : List V → List PyData → Prop
  | nil : DtAll p H [] []
  | cons {v : V} {vs : List V} {d : PyData} {ds : List PyData} : Dt p H v d → DtAll p H vs ds → DtAll p H (v :: vs) (d :: ds)
end
mutual
theorem Dt.dp {K : PySem.W.Frag} {p : Addr} {H : Hp} : ∀ {v : V} {d : PyData}, Dt p H v d → Dp K H v d
  | _, _, .non => .non
  | _, _, .bl b => .bl b
  | _, _, .int i => .int i
  | _, _, .str x => .str x
  | _, _, .tup h a => .tup (SqT.of h) a.dp
  | _, _, .lst h _ a => .lst (SqL.of h) a.dp
theorem DtAll.dp {K : PySem.W.Frag} {p : Addr} {H : Hp} : ∀ {v : List V} {d : List PyData}, DtAll p H v d → DpAll K H v d
  | _, _, .nil => .nil
  | _, _, .cons h t => .cons h.dp t.dp
end
mutual
theorem Dt.plain {p : Addr} {H : Hp} : ∀ {v : V} {d : PyData}, Dt p H v d → d.hasDict = false
  | _, _, .non => by simp [PyData.hasDict]
  | _, _, .bl b => by simp [PyData.hasDict]
  | _, _, .int i => by simp [PyData.hasDict]
  | _, _, .str x => by simp [PyData.hasDict]
  | _, _, .tup h a => by
    have := a.plain
    simpa [PyData.hasDict] using this
  | _, _, .lst h _ a => by
    have := a.plain
    simpa [PyData.hasDict] using this
theorem DtAll.plain {p : Addr} {H : Hp} : ∀ {v : List V} {d : List PyData}, DtAll p H v d → PyData.hasDictAll d = false
  | _, _, .nil => by simp [PyData.hasDictAll]
  | _, _, .cons h t => by
    have h1 := h.plain
    have h2 := t.plain
    simp [PyData.hasDictAll, h1, h2]
end
/-- the tuples stand as they were -/
def Tk (H H' : Hp) : Prop := ∀ b xs, H b = some (.tup xs) → H' b = some (.tup xs)
/-- the tuples, and the lists but the pot -/
def Dk (p : Addr) (H H' : Hp) : Prop := Tk H H' ∧ ∀ b xs, b ≠ p → H b = some (.lst xs) → H' b = some (.lst xs)
theorem Same.tk {H H' : Hp} (s : Same H H') : Tk H H' := fun b xs h => s _ _ h
theorem Same.dk {p : Addr} {H H' : Hp} (s : Same H H') : Dk p H H' := ⟨fun b xs h => s _ _ h, fun b xs _ h => s _ _ h⟩
theorem Kp.tk {p : Addr} {H H' : Hp} {xs : List V} (k : Kp p H H') (h : H p = some (.lst xs)) : Tk H H' := fun b ys e => by
  refine k _ _ (fun z => ?_) e
  rw [z, h] at e
  cases e
theorem Kp.dk {p : Addr} {H H' : Hp} {xs : List V} (k : Kp p H H') (h : H p = some (.lst xs)) : Dk p H H' := ⟨k.tk h, fun b ys n e => k _ _ n e⟩
theorem Dk.trans {p : Addr} {H H1 H2 : Hp} (a : Dk p H H1) (b : Dk p H1 H2) : Dk p H H2 := ⟨fun c xs h => b.1 _ _ (a.1 _ _ h), fun c xs n h => b.2 _ _ n (a.2 _ _ n h)⟩
mutual
theorem Dt.keep {p : Addr} {H H' : Hp} (k : Dk p H H') : ∀ {v : V} {d : PyData}, Dt p H v d → Dt p H' v d
  | _, _, .non => .non
  | _, _, .bl b => .bl b
  | _, _, .int i => .int i
  | _, _, .str x => .str x
  | _, _, .tup h a => .tup (k.1 _ _ h) (a.keep k)
  | _, _, .lst h n a => .lst (k.2 _ _ n h) n (a.keep k)
theorem DtAll.keep {p : Addr} {H H' : Hp} (k : Dk p H H') : ∀ {v : List V} {d : List PyData}, DtAll p H v d → DtAll p H' v d
  | _, _, .nil => .nil
  | _, _, .cons h t => .cons (h.keep k) (t.keep k)
end
theorem DtAll.len {p : Addr} {H : Hp} : ∀ {v : List V} {d : List PyData}, DtAll p H v d → v.length = d.length
  | _, _, .nil => rfl
  | _, _, .cons h t => by rw [List.length_cons, List.length_cons, t.len]
theorem DtAll.get {p : Addr} {H : Hp} : ∀ {v : List V} {d : List PyData}, DtAll p H v d → ∀ (i : Nat) (x : V), v[i]? = some x → ∃ y, d[i]? = some y ∧ Dt p H x y
  | _, _, .nil, i, x, e => by simp at e
  | _, _, .cons h t, 0, x, e => by
    have e' := Option.some.inj e
    subst e'
    exact ⟨_, rfl, h⟩
  | _, _, .cons h t, i + 1, x, e => t.get i x e
theorem DtAll.ints {p : Addr} {H : Hp} : ∀ {ns : List Int} {v : List V}, DtAll p H v (ns.map PyData.int) → v = ns.map V.int
  | [], _, .nil => rfl
  | n :: ns, _, .cons (.int _) t => by
    rw [DtAll.ints t]
    rfl
theorem dt_ints {p : Addr} {H : Hp} : ∀ ns : List Int, DtAll p H (ns.map V.int) (ns.map PyData.int)
  | [] => .nil
  | n :: ns => .cons (.int n) (dt_ints ns)
/-- what is asked about: such data, or an empty dict; none is the pot -/
inductive Th (p : Addr) (H : Hp) : V → PyData → Prop
  | dat {v : V} {d : PyData} : Dt p H v d → Th p H v d
  | dct {a : Addr} : H a = some (.dK []) → a ≠ p → Th p H (.ref a) (.dict [])
theorem Th.da {p : Addr} {K : PySem.W.Frag} {H : Hp} {v : V} {d : PyData} (h : Th p H v d) : Da K H v d := by
  cases h with
  | dat h => exact .inl ⟨h.dp, h.plain⟩
  | dct h _ => exact .inr ⟨_, rfl, h, rfl⟩
theorem Th.same {p : Addr} {H H' : Hp} {v : V} {d : PyData} (h : Th p H v d) (s : Same H H') : Th p H' v d := by
  cases h with
  | dat h => exact .dat (h.keep (Same.dk s))
  | dct h n => exact .dct (s _ _ h) n
theorem Th.kp {p : Addr} {H H' : Hp} {v : V} {d : PyData} {xs : List V} (h : Th p H v d) (k : Kp p H H') (hp : H p = some (.lst xs)) : Th p H' v d := by
  cases h with
  | dat h => exact .dat (h.keep (k.dk hp))
  | dct h n => exact .dct (k _ _ n h) n
def tyN : PyData → String
  | .none => "NoneType" | .bool _ => "bool" | .int _ => "int" | .str _ => "str" | .list _ => "list" | .tuple _ => "tuple" | .dict _ => "dict"
theorem Dt.ty {p : Addr} {K : PySem.W.Frag} {H : Hp} {v : V} {d : PyData} (h : Dt p H v d) : TyX K H v (.type (tyN d)) := by
  cases h with
  | non => exact .base .non
  | bl b => exact .base (.bl b)
  | int i => exact .base (.int i)
  | str x => exact .base (.str x)
  | tup h a => exact .base (.tup h)
  | lst h _ a => exact .base (.lst h)
theorem Th.ty {p : Addr} {K : PySem.W.Frag} {H : Hp} {v : V} {d : PyData} (h : Th p H v d) : TyX K H v (.type (tyN d)) := by
  cases h with
  | dat h => exact h.ty
  | dct h _ => exact .base (.dK h)
def isI : PyData → Bool
  | .int _ => true
  | .bool _ => true
  | _ => false
def isB : PyData → Bool
  | .bool _ => true
  | _ => false
def isT : PyData → Bool
  | .tuple _ => true
  | _ => false
theorem kit_int (d : PyData) : kitB (tyN d) "int" = some (isI d) := by cases d <;> simp only [tyN, isI] <;> decide +kernel
theorem kit_bool (d : PyData) : kitB (tyN d) "bool" = some (isB d) := by cases d <;> simp only [tyN, isB] <;> decide +kernel
theorem kit_tuple (d : PyData) : kitB (tyN d) "tuple" = some (isT d) := by cases d <;> simp only [tyN, isT] <;> decide +kernel
/-- a number from lo to hi -/
def inR (lo hi : Int) : PyData → Bool
  | .int i => decide (lo ≤ i) && decide (i ≤ hi)
  | _ => false
theorem scWithin : FnScope ["value", "low", "high"] ["value", "low", "high"] (defScope sWithin) := ⟨rfl, rfl, rfl, by decide +kernel, rfl, by decide +kernel, by decide +kernel⟩
theorem scNumber : FnScope ["_law_thing", "_law_below"] ["_law_thing", "_law_below"] (defScope sNumber) := ⟨rfl, rfl, rfl, by decide +kernel, rfl, by decide +kernel, by decide +kernel⟩
section
variable {P : Program} {w : World} {K : PySem.W.Frag} {mg : Str → Option Value} {base : Heap}
def spWithin : Sp := fun vs H Q _ => ∃ (p : Addr) (v : V) (d : PyData) (lo hi : Int), vs = [v, .int lo, .int hi] ∧ Dt p H v d ∧ Q (.bl (inR lo hi d)) H
theorem ok_within {f : Addr} {fd : FuncData} {k : Nat} (F : Fun K "is_integer_within" "is_integer_within" sWithin f fd) (mi : mg "isinstance" = none) (mn : mg "int" = none) (mb : mg "bool" = none) :
    FnOk P w K mg base CX0 (k + 1) f fd ["value", "low", "high"] spWithin := by
  refine F.ok scWithin (fun vs H Q E h => ?_) (fun cdv A outer s H vs Q E hr h => ?_)
  · obtain ⟨p, v, d, lo, hi, rfl, _⟩ := h
    rfl
  · obtain ⟨p, v, d, lo, hi, rfl, hd, q⟩ := h
    refine ⟨_, pss_one (ps_ret (pe_and (pe_callB call_isi (by rfl) mi (by decide +kernel) (pa_cons (pv 0) (pa_cons (pe_bltn (v := .ty "int") (by rfl) mn (by decide +kernel) rfl) pa_nil)))
      (pe_and (pe_not (pe_callB call_isi (by rfl) mi (by decide +kernel) (pa_cons (pv 0) (pa_cons (pe_bltn (v := .ty "bool") (by rfl) mb (by decide +kernel) rfl) pa_nil))))
        (pe_one (pe_chain op_le op_le (pv 1) (pv 0) (pv 2)))))), ?_⟩
    refine ⟨v, rfl, v, .ty "int", _, _, _, rfl, .ty "int", hd.ty, kit_ty (kit_int d), _, rfl, ite2 (fun e => ?_) (fun e => ?_)⟩
    · refine ⟨v, rfl, v, .ty "bool", _, _, _, rfl, .ty "bool", hd.ty, kit_ty (kit_bool d), _, rfl, _, rfl, ite2 (fun e2 => ?_) (fun e2 => ?_)⟩
      · cases hd with
        | int i =>
          refine ⟨.int lo, rfl, .int i, rfl, lo, i, rfl, rfl, _, rfl, ite2 (fun e3 => ?_) (fun e3 => ?_)⟩
          · refine ⟨.int hi, rfl, i, hi, rfl, rfl, ?_⟩
            have z : inR lo hi (.int i) = decide (i ≤ hi) := by
              show (decide (lo ≤ i) && decide (i ≤ hi)) = _
              rw [e3, Bool.true_and]
            rw [z] at q
            exact q
          · have z : inR lo hi (.int i) = false := by
              show (decide (lo ≤ i) && decide (i ≤ hi)) = _
              rw [Bool.not_eq_true] at e3
              rw [e3, Bool.false_and]
            rw [z] at q
            exact q
        | non => cases e
        | bl b => cases e2
        | str x => cases e
        | tup h a => cases e
        | lst h _ a => cases e
      · have z : inR lo hi d = false := by
          cases d <;> first | rfl | exact absurd rfl e2
        rw [z] at q
        exact q
    · have z : inR lo hi d = false := by
        cases d <;> first | rfl | exact absurd rfl e
      rw [z] at q
      exact q
def spNumber : Sp := fun vs H Q _ => ∃ (p : Addr) (v : V) (d : PyData) (b : Int), vs = [v, .int b] ∧ Dt p H v d ∧ Q (.bl (inR 0 (b - 1) d)) H
theorem ok_number {f : Addr} {fd : FuncData} {k : Nat} (F : Fun K "_law_is_number" "_law_is_number" sNumber f fd) (mi : mg "isinstance" = none) (mn : mg "int" = none) (mb : mg "bool" = none) :
    FnOk P w K mg base CX0 (k + 1) f fd ["_law_thing", "_law_below"] spNumber := by
  refine F.ok scNumber (fun vs H Q E h => ?_) (fun cdv A outer s H vs Q E hr h => ?_)
  · obtain ⟨p, v, d, b, rfl, _⟩ := h
    rfl
  · obtain ⟨p, v, d, hi, rfl, hd, q⟩ := h
    refine ⟨_, pss_one (ps_ret (pe_and (pe_callB call_isi (by rfl) mi (by decide +kernel) (pa_cons (pv 0) (pa_cons (pe_bltn (v := .ty "int") (by rfl) mn (by decide +kernel) rfl) pa_nil)))
      (pe_and (pe_not (pe_callB call_isi (by rfl) mi (by decide +kernel) (pa_cons (pv 0) (pa_cons (pe_bltn (v := .ty "bool") (by rfl) mb (by decide +kernel) rfl) pa_nil))))
        (pe_one (pe_chain op_le op_lt pe_int (pv 0) (pv 1)))))), ?_⟩
    refine ⟨v, rfl, v, .ty "int", _, _, _, rfl, .ty "int", hd.ty, kit_ty (kit_int d), _, rfl, ite2 (fun e => ?_) (fun e => ?_)⟩
    · refine ⟨v, rfl, v, .ty "bool", _, _, _, rfl, .ty "bool", hd.ty, kit_ty (kit_bool d), _, rfl, _, rfl, ite2 (fun e2 => ?_) (fun e2 => ?_)⟩
      · cases hd with
        | int i =>
          refine ⟨.int i, rfl, 0, i, rfl, rfl, _, rfl, ite2 (fun e3 => ?_) (fun e3 => ?_)⟩
          · refine ⟨.int hi, rfl, i, hi, rfl, rfl, ?_⟩
            have z : inR 0 (hi - 1) (.int i) = decide (i < hi) := by
              show (decide (0 ≤ i) && decide (i ≤ hi - 1)) = _
              rw [e3, Bool.true_and]
              exact decide_eq_decide.mpr (by omega)
            rw [z] at q
            exact q
          · have z : inR 0 (hi - 1) (.int i) = false := by
              show (decide (0 ≤ i) && decide (i ≤ hi - 1)) = _
              rw [Bool.not_eq_true] at e3
              rw [e3, Bool.false_and]
            rw [z] at q
            exact q
        | non => cases e
        | bl b => cases e2
        | str x => cases e
        | tup h a => cases e
        | lst h _ a => cases e
      · have z : inR 0 (hi - 1) d = false := by
          cases d <;> first | rfl | exact absurd rfl e2
        rw [z] at q
        exact q
    · have z : inR 0 (hi - 1) d = false := by
        cases d <;> first | rfl | exact absurd rfl e
      rw [z] at q
      exact q
end
end SL

namespace SL
open PySem PySem.Spec PyProof.Rows L2
theorem all_in {n : Nat} : ∀ {ds : List PyData}, (ds.map (inR 0 ((n : Int) - 1))).all id = true → ∃ ns : List Int, ds = ns.map PyData.int ∧ ∀ x ∈ ns, x ∈ R n
  | [], _ => ⟨[], rfl, fun x hx => by cases hx⟩
  | d :: ds, h => by
    rw [List.map_cons, List.all_cons, Bool.and_eq_true] at h
    obtain ⟨ns, e, hn⟩ := all_in (n := n) h.2
    have h1 : inR 0 ((n : Int) - 1) d = true := h.1
    cases d with
    | int i =>
      have h2 : (decide (0 ≤ i) && decide (i ≤ (n : Int) - 1)) = true := h1
      rw [Bool.and_eq_true, decide_eq_true_eq, decide_eq_true_eq] at h2
      refine ⟨i :: ns, by rw [e]; rfl, fun x hx => ?_⟩
      rcases List.mem_cons.mp hx with z | z
      · rw [z]
        exact R_mem.mpr (by omega)
      · exact hn x z
    | none => cases h1
    | bool b => cases h1
    | str x => cases h1
    | list xs => cases h1
    | tuple xs => cases h1
    | dict xs => cases h1
theorem all_of {n : Nat} : ∀ {ns : List Int}, (∀ x ∈ ns, x ∈ R n) → ((ns.map PyData.int).map (inR 0 ((n : Int) - 1))).all id = true
  | [], _ => rfl
  | i :: ns, h => by
    have z := R_mem.mp (h i List.mem_cons_self)
    rw [List.map_cons, List.map_cons, List.all_cons, Bool.and_eq_true]
    refine ⟨?_, all_of fun x hx => h x (List.mem_cons_of_mem _ hx)⟩
    show (decide (0 ≤ i) && decide (i ≤ (n : Int) - 1)) = true
    rw [Bool.and_eq_true, decide_eq_true_eq, decide_eq_true_eq]
    omega
theorem ints_inj : ∀ {a b : List Int}, a.map PyData.int = b.map PyData.int → a = b
  | [], [], _ => rfl
  | [], _ :: _, h => by cases h
  | _ :: _, [], h => by cases h
  | x :: a, y :: b, h => by
    rw [List.map_cons, List.map_cons] at h
    injection h with h1 h2
    injection h1 with h3
    rw [h3, ints_inj h2]
theorem eqv_ints : ∀ (a b : List Int), PyData.eqvAll (a.map PyData.int) (b.map PyData.int) = decide (a = b)
  | [], [] => by simp [PyData.eqvAll]
  | [], _ :: _ => by simp [PyData.eqvAll]
  | _ :: _, [] => by simp [PyData.eqvAll]
  | x :: a, y :: b => by
    rw [List.map_cons, List.map_cons]
    simp only [PyData.eqvAll, PyData.eqv, eqv_ints a b]
    by_cases h : x = y
    · subst h
      by_cases h2 : a = b
      · simp [h2]
      · simp [h2]
    · simp [h]
end SL

namespace SL
open PySem PySem.Spec PyProof.Rows L2
/-! ### how long data and its text are -/
mutual
def fw : PyData → Bool
  | .tuple xs => decide (xs.length ≤ 200) && fwAll xs
  | .list xs => decide (xs.length ≤ 200) && fwAll xs
  | _ => true
def fwAll : List PyData → Bool
  | [] => true
  | x :: xs => fw x && fwAll xs
end
structure El (k c : Nat) (d : PyData) : Prop where
  sh : d.showable = true
  dp : d.depth ≤ k
  ln : d.shown.length ≤ c
  fw : fw d = true
theorem El.mono {k c k' c' : Nat} {d : PyData} (h : El k c d) (hk : k ≤ k') (hc : c ≤ c') : El k' c' d := ⟨h.sh, Nat.le_trans h.dp hk, Nat.le_trans h.ln hc, h.fw⟩
theorem fw_mem : ∀ {ds : List PyData}, fwAll ds = true → ∀ x ∈ ds, fw x = true
  | [], _, x, hx => by cases hx
  | d :: ds, h, x, hx => by
    simp only [fwAll, Bool.and_eq_true] at h
    rcases List.mem_cons.mp hx with z | z
    · rw [z]
      exact h.1
    · exact fw_mem h.2 x z
theorem fw_tuple {ds : List PyData} (h : fw (.tuple ds) = true) : ds.length ≤ 200 ∧ ∀ x ∈ ds, fw x = true := by
  simp only [fw, Bool.and_eq_true, decide_eq_true_eq] at h
  exact ⟨h.1, fw_mem h.2⟩
theorem el_all {k c : Nat} : ∀ {ds : List PyData}, (∀ x ∈ ds, El k c x) → PyData.showableAll ds = true ∧ PyData.depthAll ds ≤ k ∧ ((PyData.shownAll ds).map (·.length)).sum ≤ ds.length * c ∧ (PyData.shownAll ds).length = ds.length ∧ fwAll ds = true
  | [], _ => by simp [PyData.showableAll, PyData.depthAll, PyData.shownAll, fwAll]
  | d :: ds, h => by
    obtain ⟨a, b, e, f, g⟩ := el_all (ds := ds) fun x hx => h x (List.mem_cons_of_mem _ hx)
    have h1 := h d List.mem_cons_self
    refine ⟨?_, ?_, ?_, ?_, ?_⟩
    · simp only [PyData.showableAll, h1.sh, a, Bool.and_self]
    · simp only [PyData.depthAll]
      have := h1.dp
      omega
    · simp only [PyData.shownAll, List.map_cons, List.sum_cons, List.length_cons]
      have := h1.ln
      rw [Nat.succ_mul]
      omega
    · simp only [PyData.shownAll, List.length_cons, f]
    · simp only [fwAll, h1.fw, g, Bool.and_self]
theorem el_tuple {k c m : Nat} {ds : List PyData} (h : ∀ x ∈ ds, El k c x) (l : ds.length ≤ m) (lm : m ≤ 200) : El (k + 1) (m * (c + 2) + 3) (.tuple ds) := by
  obtain ⟨a, b, e, f, g⟩ := el_all h
  have z := tupleText_len_le (PyData.shownAll ds)
  have z1 : ds.length * c ≤ m * c := Nat.mul_le_mul_right c l
  refine ⟨by simp only [PyData.showable]; exact a, by simp only [PyData.depth]; omega, ?_, ?_⟩
  · simp only [PyData.shown]
    rw [f] at z
    rw [Nat.mul_add]
    omega
  · simp only [SL.fw, g, Bool.and_true]
    exact decide_eq_true (by omega)
theorem el_list {k c m : Nat} {ds : List PyData} (h : ∀ x ∈ ds, El k c x) (l : ds.length ≤ m) (lm : m ≤ 200) : El (k + 1) (m * (c + 2) + 3) (.list ds) := by
  obtain ⟨a, b, e, f, g⟩ := el_all h
  have z := listText_len_le (PyData.shownAll ds)
  have z1 : ds.length * c ≤ m * c := Nat.mul_le_mul_right c l
  refine ⟨by simp only [PyData.showable]; exact a, by simp only [PyData.depth]; omega, ?_, ?_⟩
  · simp only [PyData.shown]
    rw [f] at z
    rw [Nat.mul_add]
    omega
  · simp only [SL.fw, g, Bool.and_true]
    exact decide_eq_true (by omega)
theorem el_none : El 0 20 .none := ⟨by simp [PyData.showable], by simp [PyData.depth], by decide +kernel, by simp [SL.fw]⟩
theorem el_bool (b : Bool) : El 0 20 (.bool b) := ⟨by simp [PyData.showable], by simp [PyData.depth], by cases b <;> decide +kernel, by simp [SL.fw]⟩
theorem el_int {i : Int} (h0 : -10 ≤ i) (h1 : i ≤ 200) : El 0 20 (.int i) := by
  refine ⟨?_, by simp [PyData.depth], ?_, by simp [SL.fw]⟩
  · simp only [PyData.showable]
    refine decide_eq_true ?_
    have z : i.natAbs ≤ 200 := by omega
    have y : i.natAbs.log2 ≤ i.natAbs := Nat.log2_le_self _
    omega
  · have all : ((List.range 211).all fun n => decide ((PyData.shown (.int ((n : Int) - 10))).length ≤ 20)) = true := by decide +kernel
    have z := List.all_eq_true.mp all (i + 10).toNat (List.mem_range.mpr (by omega))
    have e : (((i + 10).toNat : Nat) : Int) - 10 = i := by omega
    rw [e] at z
    exact of_decide_eq_true z
theorem el_digits {i : Int} (h0 : 0 ≤ i) (h1 : i ≤ 100) : El 0 20 (.str (toString i)) := by
  refine ⟨by simp [PyData.showable], by simp [PyData.depth], ?_, by simp [SL.fw]⟩
  have all : ((List.range 101).all fun n => decide ((PyData.shown (.str (toString ((n : Int))))).length ≤ 20)) = true := by decide +kernel
  have z := List.all_eq_true.mp all i.toNat (List.mem_range.mpr (by omega))
  have e : ((i.toNat : Nat) : Int) = i := by omega
  rw [e] at z
  exact of_decide_eq_true z
theorem el_text {x : Str} (h : (PyData.shown (.str x)).length ≤ 20) : El 0 20 (.str x) := ⟨by simp [PyData.showable], by simp [PyData.depth], h, by simp [SL.fw]⟩
/-- what repr, and the defs that judge any value, may be asked of -/
def Good (d : PyData) : Prop := El 20 10000000 d
/-- a value that is such data -/
def Nd (p : Addr) (k c : Nat) (H : Hp) (v : V) : Prop := ∃ d, Dt p H v d ∧ El k c d
theorem Nd.keep {p : Addr} {k c : Nat} {H H' : Hp} {v : V} (h : Nd p k c H v) (t : Dk p H H') : Nd p k c H' v := by
  obtain ⟨d, a, b⟩ := h
  exact ⟨d, a.keep t, b⟩
theorem Nd.mono {p : Addr} {k c k' c' : Nat} {H : Hp} {v : V} (h : Nd p k c H v) (hk : k ≤ k') (hc : c ≤ c') : Nd p k' c' H v := by
  obtain ⟨d, a, b⟩ := h
  exact ⟨d, a, b.mono hk hc⟩
/-- each item is such data -/
def Ek (p : Addr) (k c : Nat) (H : Hp) (xs : List V) : Prop := ∀ y ∈ xs, Nd p k c H y
theorem Ek.sub {p : Addr} {k c : Nat} {H : Hp} {xs ys : List V} (h : Ek p k c H xs) (s : ys.Sublist xs) : Ek p k c H ys := fun y hy => h y (s.subset hy)
theorem Ek.keep {p : Addr} {k c : Nat} {H H' : Hp} {xs : List V} (h : Ek p k c H xs) (t : Dk p H H') : Ek p k c H' xs := fun y hy => (h y hy).keep t
theorem Ek.app {p : Addr} {k c : Nat} {H : Hp} {xs ys : List V} (h : Ek p k c H xs) (g : Ek p k c H ys) : Ek p k c H (xs ++ ys) := fun y hy => by
  rcases List.mem_append.mp hy with z | z
  · exact h y z
  · exact g y z
theorem Ek.mono {p : Addr} {k c k' c' : Nat} {H : Hp} {xs : List V} (h : Ek p k c H xs) (hk : k ≤ k') (hc : c ≤ c') : Ek p k' c' H xs := fun y hy => (h y hy).mono hk hc
theorem Ek.one {p : Addr} {k c : Nat} {H : Hp} {v : V} (h : Nd p k c H v) : Ek p k c H [v] := fun y hy => by
  rw [List.mem_singleton.mp hy]
  exact h
theorem Ek.nil {p : Addr} {k c : Nat} {H : Hp} : Ek p k c H [] := fun y hy => by cases hy
theorem Ek.data {p : Addr} {k c : Nat} {H : Hp} : ∀ {xs : List V}, Ek p k c H xs → ∃ ds, DtAll p H xs ds ∧ ∀ d ∈ ds, El k c d
  | [], _ => ⟨[], .nil, fun d hd => by cases hd⟩
  | v :: xs, h => by
    obtain ⟨d, a, b⟩ := h v List.mem_cons_self
    obtain ⟨ds, e, f⟩ := Ek.data (xs := xs) fun y hy => h y (List.mem_cons_of_mem _ hy)
    refine ⟨d :: ds, .cons a e, fun x hx => ?_⟩
    rcases List.mem_cons.mp hx with z | z
    · rw [z]
      exact b
    · exact f x z
theorem Ek.tuple {p : Addr} {k c m : Nat} {H : Hp} {xs : List V} {t : Addr} (h : Ek p k c H xs) (ht : H t = some (.tup xs)) (l : xs.length ≤ m) (lm : m ≤ 200) : Nd p (k + 1) (m * (c + 2) + 3) H (.ref t) := by
  obtain ⟨ds, e, f⟩ := h.data
  exact ⟨.tuple ds, .tup ht e, el_tuple f (by rw [← e.len]; exact l) lm⟩
theorem Ek.list {p : Addr} {k c m : Nat} {H : Hp} {xs : List V} {t : Addr} (h : Ek p k c H xs) (ht : H t = some (.lst xs)) (n : t ≠ p) (l : xs.length ≤ m) (lm : m ≤ 200) : Nd p (k + 1) (m * (c + 2) + 3) H (.ref t) := by
  obtain ⟨ds, e, f⟩ := h.data
  exact ⟨.list ds, .lst ht n e, el_list f (by rw [← e.len]; exact l) lm⟩
theorem nd_int {p : Addr} {H : Hp} {i : Int} (h0 : -10 ≤ i) (h1 : i ≤ 200) : Nd p 0 20 H (.int i) := ⟨.int i, .int i, el_int h0 h1⟩
theorem nd_bool {p : Addr} {H : Hp} (b : Bool) : Nd p 0 20 H (.bl b) := ⟨.bool b, .bl b, el_bool b⟩
theorem nd_none {p : Addr} {H : Hp} : Nd p 0 20 H .non := ⟨.none, .non, el_none⟩
theorem nd_text {p : Addr} {H : Hp} {x : Str} (h : (PyData.shown (.str x)).length ≤ 20) : Nd p 0 20 H (.str x) := ⟨.str x, .str x, el_text h⟩
theorem ek_ints {p : Addr} {H : Hp} {ns : List Int} (h : ∀ x ∈ ns, 0 ≤ x ∧ x ≤ 100) : Ek p 0 20 H (ns.map V.int) := fun y hy => by
  obtain ⟨x, hx, rfl⟩ := List.mem_map.mp hy
  have := h x hx
  exact nd_int (by omega) (by omega)
/-! ### nested tuples of small numbers -/
inductive Nt (H : Hp) : Nat → V → Prop
  | int {n : Nat} {i : Int} : 0 ≤ i → i ≤ 100 → Nt H n (.int i)
  | tup {n : Nat} {t : Addr} {xs : List V} : H t = some (.tup xs) → xs.length ≤ 16 → (∀ x ∈ xs, Nt H n x) → Nt H (n + 1) (.ref t)
theorem Nt.keep {H H' : Hp} (k : Tk H H') {n : Nat} {v : V} (h : Nt H n v) : Nt H' n v := by
  induction h with
  | int a b => exact .int a b
  | tup a b _ ih => exact .tup (k _ _ a) b ih
/-- lengths of their texts; of what is made of them -/
def cb : Nat → Nat
  | 0 => 20
  | n + 1 => 16 * (cb n + 2) + 3
def bb : Nat → Nat
  | 0 => 100
  | n + 1 => 34 * (bb n + 2) + 30
theorem cb_bb : ∀ n, cb n ≤ bb n
  | 0 => by decide
  | n + 1 => by
    have := cb_bb n
    show 16 * (cb n + 2) + 3 ≤ 34 * (bb n + 2) + 30
    omega
theorem cb_20 : ∀ n, 20 ≤ cb n
  | 0 => by decide
  | n + 1 => by
    have := cb_20 n
    show 20 ≤ 16 * (cb n + 2) + 3
    omega
theorem Nt.nd {p : Addr} {H : Hp} {n : Nat} {v : V} (h : Nt H n v) : Nd p n (cb n) H v := by
  induction h with
  | int a b => exact (nd_int (by omega) (by omega)).mono (by omega) (cb_20 _)
  | tup a b _ ih => exact Ek.tuple (m := 16) ih a b (by omega)
/-! ### == of such tuples is known -/
theorem Nt.full {p : Addr} {H : Hp} {n : Nat} {v : V} (h : Nt H n v) : ∃ d, Dt p H v d ∧ d.depth ≤ n ∧ d.canLay0 = true := by
  induction h with
  | int a b => exact ⟨_, .int _, by simp [PyData.depth], by simp [PyData.canLay0]⟩
  | @tup n t xs a b _ ih =>
    have all : ∀ ys : List V, (∀ x ∈ ys, ∃ d, Dt p H x d ∧ d.depth ≤ n ∧ d.canLay0 = true) → ∃ ds, DtAll p H ys ds ∧ PyData.depthAll ds ≤ n ∧ PyData.canLayAll0 ds = true := by
      intro ys
      induction ys with
      | nil => intro _; exact ⟨[], .nil, by simp [PyData.depthAll], by simp [PyData.canLayAll0]⟩
      | cons y ys ih2 =>
        intro hy
        obtain ⟨d, d1, d2, d3⟩ := hy y List.mem_cons_self
        obtain ⟨ds, e1, e2, e3⟩ := ih2 fun x hx => hy x (List.mem_cons_of_mem _ hx)
        refine ⟨d :: ds, .cons d1 e1, by simp only [PyData.depthAll]; omega, by simp [PyData.canLayAll0, d3, e3]⟩
    obtain ⟨ds, e1, e2, e3⟩ := all xs ih
    refine ⟨.tuple ds, .tup a e1, by simp only [PyData.depth]; omega, by simp only [PyData.canLay0]; exact e3⟩
theorem shaped_of {d : PyData} (h : d.canLay0 = true) (l : d.depth ≤ 64) : SeqAt.shaped d = true := by
  show (d.canLay0 && decide (d.depth ≤ 64)) = true
  rw [h, decide_eq_true l]
  rfl
/-! ### slices and sums of tracked tuples -/
theorem cut_sub (xs : List V) (lo hi : Option Int) : (cutV xs lo hi).Sublist xs := (List.take_sublist _ _).trans (List.drop_sublist _ _)
def rSlW : V → Option Int → Option Int → Hp → VK → Prop := fun x lo hi H Q => ∃ a xs, x = .ref a ∧ H a = some (.tup xs) ∧ ∀ (H' : Hp) (t : Addr) (ys : List V), Same H H' → H' t = some (.tup ys) → ys.Sublist xs → ys = cutV xs lo hi ∨ ys = xs → Q (.ref t) H'
theorem sl_tupW {X : Cx} : SlR X rSlW := by
  intro pins s σ H x v vl vu lo hi sl Q I rx hs pl pu h
  obtain ⟨a, xs, rfl, ha, q⟩ := h
  refine sl_tupA pins s σ H _ v vl vu lo hi sl Q I rx hs pl pu ⟨a, xs, rfl, SqT.of ha, fun _ => ?_, fun _ p np => ?_⟩
  · exact q H a xs (Same.refl H) ha (List.Sublist.refl _) (.inr rfl)
  · exact q _ p _ (same_new np) upd_same (cut_sub xs lo hi) (.inl rfl)
def rCatW : R2 := fun x y H Q => ∃ a b xs ys, x = .ref a ∧ y = .ref b ∧ H a = some (.tup xs) ∧ H b = some (.tup ys) ∧ xs.length + ys.length ≤ 1000 ∧ ∀ (H' : Hp) (t : Addr), Same H H' → H' t = some (.tup (xs ++ ys)) → Q (.ref t) H'
theorem op_catW {X : Cx} : OpR X (binaryOp .Add) rCatW := by
  intro pins s σ H x y v u Q I rx ry h
  obtain ⟨a, b, xs, ys, rfl, rfl, ha, hb, l, q⟩ := h
  refine op_catA pins s σ H _ _ v u Q I rx ry ⟨a, b, xs, ys, rfl, rfl, SqT.of ha, SqT.of hb, Nat.le_of_lt (small1000 l), fun e => ?_, fun _ e => ?_, fun _ _ p np => ?_⟩
  · subst e
    exact q H b (Same.refl H) hb
  · subst e
    exact q H a (Same.refl H) (by rw [List.append_nil]; exact ha)
  · exact q _ p (same_new np) upd_same
end SL

namespace SL
open PySem PySem.Spec PyProof.Rows L2
theorem scOdd : FnScope ["_law_pot_here", "_law_part", "_law_some", "_law_changed"] ["_law_pot_here", "_law_part"] (defScope sOdd) := ⟨rfl, rfl, rfl, by decide +kernel, rfl, by decide +kernel, by decide +kernel⟩
theorem flat2 (xs : List V) : (List.replicate (2 : Int).toNat xs).flatten = xs ++ xs := by
  show (List.replicate 2 xs).flatten = xs ++ xs
  simp [List.replicate]
theorem pot_ne {H : Hp} {p t : Addr} {n : Nat} (hp : Pot H p n) (h : H t = none) : t ≠ p := fun e => by
  obtain ⟨xs, hx⟩ := hp.lst
  rw [e, hx] at h
  cases h
section
variable {P : Program} {w : World} {K : PySem.W.Frag} {mg : Str → Option Value} {base : Heap}
def spOdd : Sp := fun vs H Q _ => ∃ (p : Addr) (v : V) (n k c : Nat), vs = [.ref p, v] ∧ Pot H p (n + 1) ∧
  ((∃ i : Int, v = .int i ∧ 0 ≤ i ∧ i ≤ 100) ∨ (∃ t xs, v = .ref t ∧ H t = some (.tup xs) ∧ Ek p k c H xs ∧ xs.length ≤ 16)) ∧ 20 ≤ c ∧
  ∀ (H' : Hp) (x : V), Kp p H H' → Pot H' p n → Nd p (k + 2) (34 * (c + 2) + 30) H' x → ((∃ i : Int, v = .int i) → Nd p 1 100 H' x) → Q x H'
theorem ok_odd {f fP fT : Addr} {fd fdP fdT : FuncData} {k : Nat} (F : Fun K "_law_odd" "_law_odd" sOdd f fd)
    (FP : Fun K "_law_pick" "_law_pick" sPick fP fdP) (bP : Binds K fdP ["_law_pot_here", "_law_some"] []) (gP : mg "_law_pick" = some (.ref fP))
    (FT : Fun K "_law_take" "_law_take" sTake fT fdT) (bT : Binds K fdT ["_law_pot_here", "_law_size"] []) (gT : mg "_law_take" = some (.ref fT))
    (mi : mg "isinstance" = none) (mn : mg "int" = none) (mt : mg "tuple" = none) (mli : mg "list" = none) (mst : mg "str" = none) (ml : mg "len" = none) :
    FnOk P w K mg base CX0 (k + 3) f fd ["_law_pot_here", "_law_part"] spOdd := by
  have GP : FnOk P w K mg base CX0 (k + 2) fP fdP ["_law_pot_here", "_law_some"] spPick := ok_pick FP FT bT gT ml
  refine F.ok scOdd (fun vs H Q E h => ?_) (fun cdv A outer s H vs Q E hr h => ?_)
  · obtain ⟨p, v, n, k, c, rfl, _⟩ := h
    rfl
  · obtain ⟨p, v, n, kk, c, rfl, hp, part, c0, q⟩ := h
    refine ⟨_, pss_cons (ps_set (i := 2) scOdd.nd rfl (.inl rfl) (pe_lst (pa_cons pe_non (pa_cons pe_bl (pa_cons pe_bl (pa_cons pe_int (pa_cons pe_int (pa_cons (pe_un un_neg pe_int) (pa_cons pe_int (pa_cons pe_int
          (pa_cons pe_str (pa_cons pe_str (pa_cons (pe_tup pa_nil) (pa_cons (pe_lst pa_nil) (pa_cons pe_dnewK (pa_cons (pe_tup (pa_cons pe_int pa_nil)) (pa_cons (pe_tup (pa_cons pe_int (pa_cons pe_int pa_nil)))
          (pa_cons (pe_tup (pa_cons pe_int (pa_cons pe_int pa_nil))) (pa_cons (pe_tup (pa_cons (pe_tup pa_nil) (pa_cons (pe_tup pa_nil) pa_nil))) pa_nil)))))))))))))))))))
      (pss_cons (ps_if (pt_val (pe_callB call_isi (by rfl) mi (by decide +kernel) (pa_cons (pv 1) (pa_cons (pe_bltn (v := .ty "tuple") (by rfl) mt (by decide +kernel) rfl) pa_nil))))
        (pss_cons (ps_set (i := 3) scOdd.nd rfl (.inl rfl) (pe_lst (pa_cons (pe_callTy call_list_of (by rfl) mli (by decide +kernel) (pa_cons (pv 1) pa_nil))
            (pa_cons (pe_slice sl_tupW (pv 1) po_none (po_some (pe_un un_neg pe_int))) (pa_cons (pe_slice sl_tupW (pv 1) (po_some pe_int) po_none)
            (pa_cons (pe_op op_catW (pv 1) (pe_slice sl_tupW (pv 1) (po_some (pe_un un_neg pe_int)) po_none)) (pa_cons (pe_revT (pv 1)) (pa_cons (pe_tup (pa_cons (pv 1) pa_nil))
            (pa_cons (pe_op op_catW (pv 1) (pe_tup (pa_cons pe_int pa_nil))) pa_nil)))))))))
          (pss_one (ps_set (i := 2) scOdd.nd rfl (.inl rfl) (pe_op op_cat (pe_slice sl_list (pv 2) po_none (po_some pe_int)) (pe_op op_rep (pv 3) pe_int)))))
        (pss_one (ps_if (pt_val (pe_callB call_isi (by rfl) mi (by decide +kernel) (pa_cons (pv 1) (pa_cons (pe_bltn (v := .ty "int") (by rfl) mn (by decide +kernel) rfl) pa_nil))))
          (pss_one (ps_set (i := 2) scOdd.nd rfl (.inl rfl) (pe_op op_cat (pe_slice sl_list (pv 2) po_none (po_some pe_int)) (pe_op op_rep (pe_lst (pa_cons (pe_op op_add (pv 1) pe_int) (pa_cons (pe_op op_sub (pv 1) pe_int)
            (pa_cons (pe_callTy call_str_int (by rfl) mst (by decide +kernel) (pa_cons (pv 1) pa_nil)) (pa_cons (pe_cmpR op_eq (pv 1) pe_int (nomark _)) (pa_cons (pe_tup (pa_cons (pv 1) pa_nil)) (pa_cons (pe_op op_add (pv 1) pe_int) pa_nil))))))) pe_int)))) pss_nil)))
      (pss_one (ps_ret (pe_call GP hr (by rfl) gP FP.kp bP .nil pass0 (pa_cons (pv 0) (pa_cons (pv 2) pa_nil)))))), ?_⟩
    -- the first list
    refine ⟨1, rfl, Nat.zero_le _, fun a1 n1 => ?_⟩
    refine ⟨Nat.zero_le _, fun a2 n2 a3 n3 => ?_⟩
    refine ⟨Nat.le_of_lt (small1000 (by show 1 ≤ 1000; decide)), fun a4 n4 => ?_⟩
    refine ⟨Nat.le_of_lt (small1000 (by show 2 ≤ 1000; decide)), fun a5 n5 => ?_⟩
    refine ⟨Nat.le_of_lt (small1000 (by show 2 ≤ 1000; decide)), fun a6 n6 => ?_⟩
    refine ⟨Nat.zero_le _, fun a7 n7 => ?_⟩
    refine ⟨Nat.zero_le _, fun a8 n8 => ?_⟩
    refine ⟨Nat.le_of_lt (small1000 (by show 2 ≤ 1000; decide)), fun a9 n9 => ?_⟩
    refine ⟨Nat.le_of_lt (small1000 (by show 17 ≤ 1000; decide)), fun l nl => ?_⟩
    have sm9 : Same H ((upd (upd (upd (upd (upd (upd (upd (upd (upd H a1 (.tup [])) a2 (.lst [])) a3 (.dK [])) a4 (.tup [.int 0])) a5 (.tup [.int 0, .int 1])) a6 (.tup [.int 1, .int 0])) a7 (.tup [])) a8 (.tup [])) a9 (.tup [.ref a7, .ref a8]))) := ((((((((same_new n1).trans (same_new n2)).trans (same_new n3)).trans (same_new n4)).trans (same_new n5)).trans (same_new n6)).trans (same_new n7)).trans (same_new n8)).trans (same_new n9)
    have sm : Same H (upd (upd (upd (upd (upd (upd (upd (upd (upd (upd H a1 (.tup [])) a2 (.lst [])) a3 (.dK [])) a4 (.tup [.int 0])) a5 (.tup [.int 0, .int 1])) a6 (.tup [.int 1, .int 0])) a7 (.tup [])) a8 (.tup [])) a9 (.tup [.ref a7, .ref a8])) l (.lst [.non, .bl true, .bl false, .int 0, .int 1, .int (-1), .int 15, .int 16, .str "", .str "a", .ref a1, .ref a2, .ref a3, .ref a4, .ref a5, .ref a6, .ref a9])) := sm9.trans (same_new nl)
    have hl : (upd (upd (upd (upd (upd (upd (upd (upd (upd (upd H a1 (.tup [])) a2 (.lst [])) a3 (.dK [])) a4 (.tup [.int 0])) a5 (.tup [.int 0, .int 1])) a6 (.tup [.int 1, .int 0])) a7 (.tup [])) a8 (.tup [])) a9 (.tup [.ref a7, .ref a8])) l (.lst [.non, .bl true, .bl false, .int 0, .int 1, .int (-1), .int 15, .int 16, .str "", .str "a", .ref a1, .ref a2, .ref a3, .ref a4, .ref a5, .ref a6, .ref a9])) l = some (.lst [.non, .bl true, .bl false, .int 0, .int 1, .int (-1), .int 15, .int 16, .str "", .str "a", .ref a1, .ref a2, .ref a3, .ref a4, .ref a5, .ref a6, .ref a9]) := upd_same
    have nlp : l ≠ p := pot_ne hp (sm9.free nl)
    generalize upd (upd (upd (upd (upd (upd (upd (upd (upd (upd H a1 (.tup [])) a2 (.lst [])) a3 (.dK [])) a4 (.tup [.int 0])) a5 (.tup [.int 0, .int 1])) a6 (.tup [.int 1, .int 0])) a7 (.tup [])) a8 (.tup [])) a9 (.tup [.ref a7, .ref a8])) l (.lst [.non, .bl true, .bl false, .int 0, .int 1, .int (-1), .int 15, .int 16, .str "", .str "a", .ref a1, .ref a2, .ref a3, .ref a4, .ref a5, .ref a6, .ref a9]) = G at sm hl ⊢
    have hpG : Pot G p (n + 1) := hp.same sm
    clear sm9
    rcases part with ⟨i, rfl, i0, i1⟩ | ⟨t, xs, rfl, ht, ek, few⟩
    · -- a number
      refine ⟨.int i, rfl, .int i, .ty "tuple", _, _, _, rfl, .ty "tuple", (Dt.int (p := p) i).ty, kit_ty (kit_tuple (.int i)), _, rfl, ?_⟩
      refine ⟨.int i, rfl, .int i, .ty "int", _, _, _, rfl, .ty "int", (Dt.int (p := p) i).ty, kit_ty (kit_int (.int i)), _, rfl, ?_⟩
      refine ⟨.ref l, rfl, 9, rfl, l, _, rfl, SqL.of hl, fun sl nsl => ?_⟩
      have e9 : cutV [.non, .bl true, .bl false, .int 0, .int 1, .int (-1), .int 15, .int 16, .str "", .str "a", .ref a1, .ref a2, .ref a3, .ref a4, .ref a5, .ref a6, .ref a9] none (some 9) = [.non, .bl true, .bl false, .int 0, .int 1, .int (-1), .int 15, .int 16, .str ""] := rfl
      rw [e9]
      refine ⟨.int i, rfl, i, 1, rfl, rfl, .int i, rfl, i, 1, rfl, rfl, .int i, rfl, i, rfl, ?_, .int i, rfl, rfl, .int i, rfl, Nat.le_of_lt (small1000 (by show 1 ≤ 1000; decide)), fun tt ntt => ?_⟩
      · have y : i.natAbs.log2 ≤ i.natAbs := Nat.log2_le_self _
        omega
      refine ⟨.int i, rfl, i, 16, rfl, rfl, Nat.le_of_lt (small1000 (by show 6 ≤ 1000; decide)), fun m nm => ?_⟩
      refine ⟨m, 2, _, rfl, rfl, upd_same, by decide, by decide, ?_, fun r nr => ?_⟩
      · show 6 * 2 ≤ sizeLine
        decide
      rw [flat2]
      have s1 := same_new (o := .lst [.non, .bl true, .bl false, .int 0, .int 1, .int (-1), .int 15, .int 16, .str ""]) nsl
      have s2 := same_new (o := .tup [.int i]) ntt
      have s3 := same_new (o := .lst [.int (i + 1), .int (i - 1), .str (toString i), .bl (decide (V.int i = V.int 1)), .ref tt, .int (i + 16)]) nm
      have s4 := same_new (o := .lst ([.int (i + 1), .int (i - 1), .str (toString i), .bl (decide (V.int i = V.int 1)), .ref tt, .int (i + 16)] ++ [.int (i + 1), .int (i - 1), .str (toString i), .bl (decide (V.int i = V.int 1)), .ref tt, .int (i + 16)])) nr
      refine ⟨sl, r, _, _, rfl, rfl, s4 _ _ (s3 _ _ (s2 _ _ upd_same)), upd_same, ?_, fun u nu => ?_⟩
      · show 9 + 12 ≤ sizeLine
        decide
      have s5 := same_new (o := .lst ([.non, .bl true, .bl false, .int 0, .int 1, .int (-1), .int 15, .int 16, .str ""] ++ ([.int (i + 1), .int (i - 1), .str (toString i), .bl (decide (V.int i = V.int 1)), .ref tt, .int (i + 16)] ++ [.int (i + 1), .int (i - 1), .str (toString i), .bl (decide (V.int i = V.int 1)), .ref tt, .int (i + 16)]))) nu
      have s15 := (((s1.trans s2).trans s3).trans s4).trans s5
      have nup : u ≠ p := pot_ne (hpG.same (((s1.trans s2).trans s3).trans s4)) nu
      have ntp : tt ≠ p := pot_ne (hpG.same s1) ntt
      refine ⟨.ref p, rfl, .ref u, rfl, p, u, _, n, rfl, hpG.same s15, upd_same, nup, by show 0 < 21; decide, by show 21 ≤ 1000; decide, fun H' j x kp pot' hx => ?_⟩
      have htt : H' tt = some (.tup [.int i]) := kp _ _ ntp (s5 _ _ (s4 _ _ (s3 _ _ upd_same)))
      have kpH : Kp p H H' := (Kp.same (sm.trans s15)).trans kp
      have mem := List.mem_of_getElem? hx
      have fine : Nd p 1 100 H' x := by
        have flat : Nd p 0 20 H' x → Nd p 1 100 H' x := fun h => h.mono (by omega) (by omega)
        simp only [List.mem_append, List.mem_cons, List.not_mem_nil, or_false] at mem
        have six : (x = .int (i + 1) ∨ x = .int (i - 1) ∨ x = .str (toString i) ∨ x = .bl (decide (V.int i = V.int 1)) ∨ x = .ref tt ∨ x = .int (i + 16)) → Nd p 1 100 H' x := by
          rintro (rfl | rfl | rfl | rfl | rfl | rfl)
          · exact flat (nd_int (by omega) (by omega))
          · exact flat (nd_int (by omega) (by omega))
          · exact flat ⟨_, .str _, el_digits i0 i1⟩
          · exact flat (nd_bool _)
          · exact (Ek.tuple (m := 1) (Ek.one (nd_int (by omega) (by omega))) htt (by simp) (by omega)).mono (by omega) (by omega)
          · exact flat (nd_int (by omega) (by omega))
        rcases mem with (rfl | rfl | rfl | rfl | rfl | rfl | rfl | rfl | rfl) | (h6 | h6)
        · exact flat nd_none
        · exact flat (nd_bool _)
        · exact flat (nd_bool _)
        · exact flat (nd_int (by omega) (by omega))
        · exact flat (nd_int (by omega) (by omega))
        · exact flat (nd_int (by omega) (by omega))
        · exact flat (nd_int (by omega) (by omega))
        · exact flat (nd_int (by omega) (by omega))
        · exact flat (nd_text (by decide +kernel))
        · exact six h6
        · exact six h6
      exact q H' x kpH pot' (fine.mono (by omega) (by omega)) (fun _ => fine)
    · -- a tuple
      have ht0 := sm _ _ ht
      refine ⟨.ref t, rfl, .ref t, .ty "tuple", _, _, true, rfl, .ty "tuple", .base (.tup ht0), kit_ty (by decide +kernel), _, rfl, ?_⟩
      refine ⟨.ref t, rfl, t, xs, rfl, .inr (SqT.of ht0), fun b1 m1 => ?_⟩
      have s1 := same_new (o := .lst xs) m1
      refine ⟨.ref t, rfl, 1, rfl, -1, rfl, t, xs, rfl, s1 _ _ ht0, fun G2 b2 ys2 s2 h2 sub2 _ => ?_⟩
      refine ⟨.ref t, rfl, 1, rfl, t, xs, rfl, s2 _ _ (s1 _ _ ht0), fun G3 b3 ys3 s3 h3 sub3 _ => ?_⟩
      refine ⟨.ref t, rfl, .ref t, rfl, 1, rfl, -1, rfl, t, xs, rfl, s3 _ _ (s2 _ _ (s1 _ _ ht0)), fun G4 b4 ys4 s4 h4 sub4 _ => ?_⟩
      have l4 := sub4.length_le
      refine ⟨t, b4, xs, ys4, rfl, rfl, s4 _ _ (s3 _ _ (s2 _ _ (s1 _ _ ht0))), h4, by omega, fun G5 b5 s5 h5 => ?_⟩
      have ht5 := s5 _ _ (s4 _ _ (s3 _ _ (s2 _ _ (s1 _ _ ht0))))
      refine ⟨.ref t, rfl, t, xs, rfl, SqT.of ht5, fun b6 m6 => ?_⟩
      have s6 := same_new (o := .tup xs.reverse) m6
      refine ⟨.ref t, rfl, Nat.le_of_lt (small1000 (by show 1 ≤ 1000; decide)), fun b7 m7 => ?_⟩
      have s7 := same_new (o := .tup [.ref t]) m7
      refine ⟨.ref t, rfl, Nat.le_of_lt (small1000 (by show 1 ≤ 1000; decide)), fun b8 m8 => ?_⟩
      have s8 := same_new (o := .tup [.int 0]) m8
      refine ⟨t, b8, xs, [.int 0], rfl, rfl, s8 _ _ (s7 _ _ (s6 _ _ ht5)), upd_same, by show xs.length + 1 ≤ 1000; omega, fun G9 b9 s9 h9 => ?_⟩
      refine ⟨Nat.le_of_lt (small1000 (by show 7 ≤ 1000; decide)), fun ch mch => ?_⟩
      have s10 := same_new (o := .lst [.ref b1, .ref b2, .ref b3, .ref b5, .ref b6, .ref b7, .ref b9]) mch
      have s19 := (((((((s1.trans s2).trans s3).trans s4).trans s5).trans s6).trans s7).trans s8).trans s9
      refine ⟨.ref l, rfl, 6, rfl, l, _, rfl, SqL.of (s10 _ _ (s19 _ _ hl)), fun sl nsl => ?_⟩
      have e6 : cutV [.non, .bl true, .bl false, .int 0, .int 1, .int (-1), .int 15, .int 16, .str "", .str "a", .ref a1, .ref a2, .ref a3, .ref a4, .ref a5, .ref a6, .ref a9] none (some 6) = [.non, .bl true, .bl false, .int 0, .int 1, .int (-1)] := rfl
      rw [e6]
      have s11 := same_new (o := .lst [.non, .bl true, .bl false, .int 0, .int 1, .int (-1)]) nsl
      refine ⟨.ref ch, rfl, ch, 2, _, rfl, rfl, s11 _ _ upd_same, by decide, by decide, ?_, fun r nr => ?_⟩
      · show 7 * 2 ≤ sizeLine
        decide
      rw [flat2]
      have s12 := same_new (o := .lst ([.ref b1, .ref b2, .ref b3, .ref b5, .ref b6, .ref b7, .ref b9] ++ [.ref b1, .ref b2, .ref b3, .ref b5, .ref b6, .ref b7, .ref b9])) nr
      refine ⟨sl, r, _, _, rfl, rfl, s12 _ _ upd_same, upd_same, ?_, fun u nu => ?_⟩
      · show 6 + 14 ≤ sizeLine
        decide
      have s13 := same_new (o := .lst ([.non, .bl true, .bl false, .int 0, .int 1, .int (-1)] ++ ([.ref b1, .ref b2, .ref b3, .ref b5, .ref b6, .ref b7, .ref b9] ++ [.ref b1, .ref b2, .ref b3, .ref b5, .ref b6, .ref b7, .ref b9]))) nu
      have s9d := ((s10.trans s11).trans s12).trans s13
      have nup : u ≠ p := pot_ne (hpG.same (s19.trans ((s10.trans s11).trans s12))) nu
      have nb1 : b1 ≠ p := pot_ne hpG m1
      refine ⟨.ref p, rfl, .ref u, rfl, p, u, _, n, rfl, hpG.same (s19.trans s9d), upd_same, nup, by show 0 < 20; decide, by show 20 ≤ 1000; decide, fun H' j x kp pot' hx => ?_⟩
      have kpH : Kp p H H' := (Kp.same (sm.trans (s19.trans s9d))).trans kp
      obtain ⟨px, hpx⟩ := (hpG.same (s19.trans s9d)).lst
      have dk9 : Dk p G9 H' := (Same.dk s9d).trans (kp.dk hpx)
      have tk9 : Tk G9 H' := dk9.1
      have dk : Dk p H H' := (Same.dk (sm.trans s19)).trans dk9
      have tk : Tk H H' := dk.1
      have ek' : Ek p kk c H' xs := ek.keep dk
      have tup : ∀ (b : Addr) (ys : List V), H' b = some (.tup ys) → Ek p kk c H' ys → ys.length ≤ 33 → Nd p (kk + 2) (34 * (c + 2) + 30) H' (.ref b) := by
        intro b ys hb he hlen
        exact (he.tuple hb hlen (by omega)).mono (by omega) (by omega)
      have h2' : H' b2 = some (.tup ys2) := tk9 _ _ (s9 _ _ (s8 _ _ (s7 _ _ (s6 _ _ (s5 _ _ (s4 _ _ (s3 _ _ h2)))))))
      have h3' : H' b3 = some (.tup ys3) := tk9 _ _ (s9 _ _ (s8 _ _ (s7 _ _ (s6 _ _ (s5 _ _ (s4 _ _ h3))))))
      have h5' : H' b5 = some (.tup (xs ++ ys4)) := tk9 _ _ (s9 _ _ (s8 _ _ (s7 _ _ (s6 _ _ h5))))
      have h6' : H' b6 = some (.tup xs.reverse) := tk9 _ _ (s9 _ _ (s8 _ _ (s7 _ _ upd_same)))
      have h7' : H' b7 = some (.tup [.ref t]) := tk9 _ _ (s9 _ _ (s8 _ _ upd_same))
      have h9' : H' b9 = some (.tup (xs ++ [.int 0])) := tk9 _ _ h9
      have h1' : H' b1 = some (.lst xs) := kp _ _ nb1 (s9d _ _ (s9 _ _ (s8 _ _ (s7 _ _ (s6 _ _ (s5 _ _ (s4 _ _ (s3 _ _ (s2 _ _ upd_same)))))))))
      have ht' : H' t = some (.tup xs) := tk _ _ ht
      have mem := List.mem_of_getElem? hx
      have flat : Nd p 0 20 H' x → Nd p (kk + 2) (34 * (c + 2) + 30) H' x := fun h => h.mono (by omega) (by omega)
      have fine : Nd p (kk + 2) (34 * (c + 2) + 30) H' x := by
        simp only [List.mem_append, List.mem_cons, List.not_mem_nil, or_false] at mem
        have seven : (x = .ref b1 ∨ x = .ref b2 ∨ x = .ref b3 ∨ x = .ref b5 ∨ x = .ref b6 ∨ x = .ref b7 ∨ x = .ref b9) → Nd p (kk + 2) (34 * (c + 2) + 30) H' x := by
          rintro (rfl | rfl | rfl | rfl | rfl | rfl | rfl)
          · exact (ek'.list h1' nb1 (show xs.length ≤ 33 by omega) (by omega)).mono (by omega) (by omega)
          · exact tup _ _ h2' (ek'.sub sub2) (by have := sub2.length_le; omega)
          · exact tup _ _ h3' (ek'.sub sub3) (by have := sub3.length_le; omega)
          · exact tup _ _ h5' (ek'.app (ek'.sub sub4)) (by rw [List.length_append]; omega)
          · exact tup _ _ h6' (fun y hy => ek' y (List.mem_reverse.mp hy)) (by rw [List.length_reverse]; omega)
          · exact (Ek.tuple (m := 1) (Ek.one (ek'.tuple ht' (show xs.length ≤ 33 by omega) (by omega))) h7' (by simp) (by omega)).mono (by omega) (by omega)
          · exact tup _ _ h9' (ek'.app (Ek.one ((nd_int (by omega) (by omega)).mono (by omega) c0))) (by rw [List.length_append]; simp; omega)
        rcases mem with (rfl | rfl | rfl | rfl | rfl | rfl) | (h6 | h6)
        · exact flat nd_none
        · exact flat (nd_bool _)
        · exact flat (nd_bool _)
        · exact flat (nd_int (by omega) (by omega))
        · exact flat (nd_int (by omega) (by omega))
        · exact flat (nd_int (by omega) (by omega))
        · exact seven h6
        · exact seven h6
      exact q H' x kpH pot' fine (fun ⟨_, z⟩ => by cases z)
end
end SL

namespace SL
open PySem PySem.Spec PyProof.Rows L2
theorem scBent : FnScope ["_law_pot_here", "_law_thing", "_law_depth", "_law_at"] ["_law_pot_here", "_law_thing", "_law_depth"] (defScope sBent) := ⟨rfl, rfl, rfl, by decide +kernel, rfl, by decide +kernel, by decide +kernel⟩
section
variable {P : Program} {w : World} {K : PySem.W.Frag} {mg : Str → Option Value} {base : Heap}
/-- of nested tuples of small numbers -/
def spBent (n : Nat) : Sp := fun vs H Q _ => ∃ (p : Addr) (v : V) (dep : Int) (m : Nat), vs = [.ref p, v, .int dep] ∧ Nt H n v ∧ Pot H p (m + 3 * n + 1) ∧
  ∀ (H' : Hp) (x : V), Kp p H H' → Pot H' p m → Nd p (n + 2) (bb n) H' x → Q x H'
structure BentK (K : PySem.W.Frag) (mg : Str → Option Value) : Prop where
  mi : mg "isinstance" = none
  mn : mg "int" = none
  mt : mg "tuple" = none
  mli : mg "list" = none
  mst : mg "str" = none
  ml : mg "len" = none
theorem ok_bent {f fO fP fT : Addr} {fd fdO fdP fdT : FuncData} {k : Nat} (F : Fun K "_law_bent" "_law_bent" sBent f fd) (bF : Binds K fd ["_law_pot_here", "_law_thing", "_law_depth"] []) (gF : mg "_law_bent" = some (.ref f)) (M : BentK K mg)
    (FO : Fun K "_law_odd" "_law_odd" sOdd fO fdO) (bO : Binds K fdO ["_law_pot_here", "_law_part"] []) (gO : mg "_law_odd" = some (.ref fO))
    (FP : Fun K "_law_pick" "_law_pick" sPick fP fdP) (bP : Binds K fdP ["_law_pot_here", "_law_some"] []) (gP : mg "_law_pick" = some (.ref fP))
    (FT : Fun K "_law_take" "_law_take" sTake fT fdT) (bT : Binds K fdT ["_law_pot_here", "_law_size"] []) (gT : mg "_law_take" = some (.ref fT)) :
    ∀ n : Nat, n ≤ 10 → FnOk P w K mg base CX0 (k + 4 + n) f fd ["_law_pot_here", "_law_thing", "_law_depth"] (spBent n) := by
  have GO : FnOk P w K mg base CX0 (k + 3) fO fdO ["_law_pot_here", "_law_part"] spOdd := ok_odd FO FP bP gP FT bT gT M.mi M.mn M.mt M.mli M.mst M.ml
  have GT : FnOk P w K mg base CX0 (k + 1) fT fdT ["_law_pot_here", "_law_size"] spTake := ok_take FT
  intro n
  induction n with
  | zero =>
    intro _
    refine F.ok scBent (fun vs H Q E h => ?_) (fun cdv A outer s H vs Q E hr h => ?_)
    · obtain ⟨p, v, dep, m, rfl, _⟩ := h
      rfl
    · obtain ⟨p, v, dep, m, rfl, nt, hp, q⟩ := h
      refine ⟨_, pss_cons (ps_if (PW.pt (pw_or (pt_not (pt_val (pe_callB call_isi (by rfl) M.mi (by decide +kernel) (pa_cons (pv 1) (pa_cons (pe_bltn (v := .ty "tuple") (by rfl) M.mt (by decide +kernel) rfl) pa_nil)))))
            (pw_or (pt_cmpR (op_eqD hr.units) (pv 1) (pe_tup pa_nil) (nomark _)) (pw_or (pt_cmpR op_eq (pv 2) pe_int (nomark _))
              (pw_or1 (pt_cmpR op_eq (pe_call GT (hr.mono (by omega)) (by rfl) gT FT.kp bT .nil pass0 (pa_cons (pv 0) (pa_cons pe_int pa_nil))) pe_int (nomark _)))))))
          (pss_one (ps_ret (pe_call GO hr (by rfl) gO FO.kp bO .nil pass0 (pa_cons (pv 0) (pa_cons (pv 1) pa_nil))))) pss_nil)
        pss_never, ?_⟩
      cases nt with
      | @int _ i i0 i1 =>
        refine ⟨.int i, rfl, .int i, .ty "tuple", _, _, _, rfl, .ty "tuple", (Dt.int (p := p) i).ty, kit_ty (kit_tuple (.int i)), _, rfl, ?_⟩
        refine ⟨.ref p, rfl, .int i, rfl, p, .int i, m, 0, 20, rfl, hp, .inl ⟨i, rfl, i0, i1⟩, by omega, fun H' x kp pot' _ nd => ?_⟩
        exact q H' x kp pot' ((nd ⟨i, rfl⟩).mono (by omega) (by decide))
  | succ n IH0 =>
    intro n10
    have IH := IH0 (by omega)
    refine F.ok (k := k + 4 + n) scBent (fun vs H Q E h => ?_) (fun cdv A outer s H vs Q E hr h => ?_)
    · obtain ⟨p, v, dep, m, rfl, _⟩ := h
      rfl
    · obtain ⟨p, v, dep, m, rfl, nt, hp, q⟩ := h
      refine ⟨_, pss_cons (ps_if (PW.pt (pw_or (pt_not (pt_val (pe_callB call_isi (by rfl) M.mi (by decide +kernel) (pa_cons (pv 1) (pa_cons (pe_bltn (v := .ty "tuple") (by rfl) M.mt (by decide +kernel) rfl) pa_nil)))))
            (pw_or (pt_cmpR (op_eqD hr.units) (pv 1) (pe_tup pa_nil) (nomark _)) (pw_or (pt_cmpR op_eq (pv 2) pe_int (nomark _))
              (pw_or1 (pt_cmpR op_eq (pe_call GT (hr.mono (by omega)) (by rfl) gT FT.kp bT .nil pass0 (pa_cons (pv 0) (pa_cons pe_int pa_nil))) pe_int (nomark _)))))))
          (pss_one (ps_ret (pe_call GO (hr.mono (by omega)) (by rfl) gO FO.kp bO .nil pass0 (pa_cons (pv 0) (pa_cons (pv 1) pa_nil))))) pss_nil)
        (pss_cons (ps_set (i := 3) scBent.nd rfl (.inl rfl) (pe_call GT (hr.mono (by omega)) (by rfl) gT FT.kp bT .nil pass0 (pa_cons (pv 0) (pa_cons (pe_callB call_len_seq (by rfl) M.ml PySem.boot_len (pa_cons (pv 1) pa_nil)) pa_nil))))
        (pss_one (ps_ret (pe_op op_catW (pe_op op_catW (pe_slice sl_tupW (pv 1) po_none (po_some (pv 3)))
            (pe_tup (pa_cons (pe_call IH hr (by rfl) gF F.kp bF .nil pass0 (pa_cons (pv 0) (pa_cons (pe_ix ix_tup (pv 1) (pv 3) (fun _ _ => rfl)) (pa_cons (pe_op op_sub (pv 2) pe_int) pa_nil)))) pa_nil)))
          (pe_slice sl_tupW (pv 1) (po_some (pe_op op_add (pv 3) pe_int)) po_none))))), ?_⟩
      have c20 := cb_20 n
      have cbb := cb_bb n
      have b1 : bb (n + 1) = 34 * (bb n + 2) + 30 := rfl
      cases nt with
      | @int _ i i0 i1 =>
        refine ⟨.int i, rfl, .int i, .ty "tuple", _, _, _, rfl, .ty "tuple", (Dt.int (p := p) i).ty, kit_ty (kit_tuple (.int i)), _, rfl, ?_⟩
        refine ⟨.ref p, rfl, .int i, rfl, p, .int i, m, 0, 20, rfl, hp.less (by omega), .inl ⟨i, rfl, i0, i1⟩, by omega, fun H' x kp pot' _ nd => ?_⟩
        exact q H' x kp pot' ((nd ⟨i, rfl⟩).mono (by omega) (by omega))
      | @tup _ t xs ht l1 items =>
        have ek : ∀ G : Hp, Tk H G → Ek p n (cb n) G xs := fun G tk y hy => ((items y hy).keep tk).nd
        -- something odd, where it stands
        have oddly : ∀ (G : Hp) (j : Nat), Kp p H G → Pot G p (m + j + 1) → ∀ Q' : VK, Q' = Q → spOdd [.ref p, .ref t] G Q' E0 := by
          intro G j kp pot Q' eQ
          obtain ⟨px, hpx⟩ := hp.lst
          have tk : Tk H G := kp.tk hpx
          refine ⟨p, .ref t, m + j, n, cb n, rfl, pot, .inr ⟨t, xs, rfl, tk _ _ ht, ek G tk, l1⟩, c20, fun H' x kp' pot' nd _ => ?_⟩
          rw [eQ]
          exact q H' x (kp.trans kp') (pot'.less (by omega)) (nd.mono (by omega) (by omega))
        refine ⟨.ref t, rfl, .ref t, .ty "tuple", _, _, true, rfl, .ty "tuple", .base (.tup ht), kit_ty (by decide +kernel), _, rfl, ?_⟩
        -- thing == ()
        refine ⟨.ref t, rfl, Nat.zero_le _, fun e0 ne0 => ?_⟩
        have s1 := same_new (o := .tup []) ne0
        obtain ⟨dT, dT1, dT2, dT3⟩ := (Nt.tup (n := n) (s1 _ _ ht) l1 (fun x hx => (items x hx).keep (Same.tk s1))).full (p := p)
        refine ⟨dT, .tuple [], dT1.dp, .tup (SqT.of upd_same) .nil, shaped_of dT3 (by omega), shaped_of (by simp [PyData.canLay0, PyData.canLayAll0]) (by simp [PyData.depth, PyData.depthAll]), _, rfl, ite2 (fun _ => ?_) (fun ne => ?_)⟩
        · exact ⟨.ref p, rfl, .ref t, rfl, oddly _ (3 * n + 3) (Kp.same s1) (((hp.same s1)).less (by omega)) _ rfl⟩
        have pos : 0 < xs.length := by
          cases xs with
          | cons y ys => simp
          | nil =>
            exfalso
            cases dT1 with
            | tup h al =>
              rw [s1 _ _ ht] at h
              cases h
              cases al
              exact ne (by simp [PyData.eqv, PyData.eqvAll])
            | lst h _ _ =>
              rw [s1 _ _ ht] at h
              cases h
        refine ⟨.int dep, rfl, rfl, _, rfl, ite2 (fun _ => ?_) (fun _ => ?_)⟩
        · exact ⟨.ref p, rfl, .ref t, rfl, oddly _ (3 * n + 3) (Kp.same s1) (((hp.same s1)).less (by omega)) _ rfl⟩
        refine ⟨.ref p, rfl, p, 6, m + 3 * n + 3, rfl, (hp.same s1).less (by omega), by decide, by decide, fun H2 r kp2 pot2 r0 r1 => ⟨rfl, _, rfl, ite2 (fun e => ?_) (fun _ => ?_)⟩⟩
        · exact ⟨.ref p, rfl, .ref t, rfl, oddly _ (3 * n + 2) ((Kp.same s1).trans kp2) (pot2.less (by omega)) _ rfl⟩
        obtain ⟨px, hpx⟩ := hp.lst
        have ht2 : H2 t = some (.tup xs) := ((Kp.same s1).trans kp2).tk hpx _ _ ht
        refine ⟨.ref p, rfl, .ref t, rfl, t, _, rfl, .inr (SqT.of ht2), p, _, m + 3 * n + 2, rfl, pot2, by omega, by omega, fun H3 a kp3 pot3 a0 a1 => ?_⟩
        have kp13 := ((Kp.same s1).trans kp2).trans kp3
        have tk3 : Tk H H3 := kp13.tk hpx
        have ht3 : H3 t = some (.tup xs) := tk3 _ _ ht
        have hi : a.toNat < xs.length := by omega
        have gi : xs[a.toNat]? = some xs[a.toNat] := List.getElem?_eq_getElem hi
        refine ⟨.ref t, rfl, .int a, rfl, a, rfl, t, _, rfl, ht3, fun G1 b1 ys1 g1 h1 sub1 _ => ?_⟩
        refine ⟨.ref p, rfl, .ref t, rfl, .int a, rfl, t, _, a, _, rfl, rfl, SqT.of (g1 _ _ ht3), at_of (j := a.toNat) (by omega) gi, .int dep, rfl, dep, 1, rfl, rfl, p, _, _, m + 1, rfl, (items _ (List.getElem_mem hi)).keep (fun b ys e => g1 _ _ (tk3 _ _ e)), (pot3.same g1).less (by omega), fun H4 x kp4 pot4 nd => ?_⟩
        obtain ⟨pz, hpz⟩ := (pot3.same g1).lst
        have tk4 : Tk G1 H4 := kp4.tk hpz
        refine ⟨Nat.le_of_lt (small1000 (by show 1 ≤ 1000; decide)), fun b2 nb2 => ?_⟩
        have g2 := same_new (o := .tup [x]) nb2
        have len1 := sub1.length_le
        refine ⟨b1, b2, ys1, [x], rfl, rfl, g2 _ _ (tk4 _ _ h1), upd_same, by show ys1.length + 1 ≤ 1000; omega, fun G5 b5 g5 h5 => ?_⟩
        refine ⟨.ref t, rfl, .int a, rfl, a, 1, rfl, rfl, a + 1, rfl, t, _, rfl, g5 _ _ (g2 _ _ (tk4 _ _ (g1 _ _ ht3))), fun G6 b6 ys6 g6 h6 sub6 _ => ?_⟩
        have len6 := sub6.length_le
        refine ⟨b5, b6, _, ys6, rfl, rfl, g6 _ _ h5, h6, by rw [List.length_append]; show ys1.length + 1 + ys6.length ≤ 1000; omega, fun G7 b7 g7 h7 => ?_⟩
        have s47 := ((g2.trans g5).trans g6).trans g7
        have kp : Kp p H G7 := ((kp13.trans (Kp.same g1)).trans kp4).trans (Kp.same s47)
        have ek7 : Ek p n (cb n) G7 xs := ek G7 (kp.tk hpx)
        have e7 : Ek p (n + 2) (bb n) G7 (ys1 ++ [x] ++ ys6) := by
          refine (Ek.app (Ek.app ?_ ?_) ?_)
          · exact (ek7.sub sub1).mono (by omega) cbb
          · exact Ek.one (nd.keep (Same.dk s47))
          · exact (ek7.sub sub6).mono (by omega) cbb
        have few7 : (ys1 ++ [x] ++ ys6).length ≤ 34 := by
          rw [List.length_append, List.length_append]
          show ys1.length + 1 + ys6.length ≤ 34
          omega
        exact q G7 _ kp ((pot4.same s47).less (by omega)) ((e7.tuple h7 few7 (by omega)).mono (by omega) (by omega))
end
end SL

namespace SL
open PySem PySem.Spec PyProof.Rows L2
/-! ### tables -/
def tupI (ns : List Int) : PyData := .tuple (ns.map PyData.int)
def Row (n : Nat) (ns : List Int) : Prop := ns.Pairwise (· < ·) ∧ ∀ y ∈ ns, y ∈ R n
def IsAsc (n : Nat) (d : PyData) : Prop := ∃ ns, d = tupI ns ∧ Row n ns
def Dec (nss : List (List Int)) (a b : Nat) : Prop := if a = b then (a : Int) ∉ nss.getD a [] else ((b : Int) ∈ nss.getD a [] ↔ ¬ (a : Int) ∈ nss.getD b [])
instance (nss : List (List Int)) (a b : Nat) : Decidable (Dec nss a b) := by unfold Dec; infer_instance
def Tb (n : Nat) (nss : List (List Int)) : Prop := nss.length = n ∧ (∀ ns ∈ nss, Row n ns) ∧ ∀ a b : Nat, a < n → b ≤ a → Dec nss a b
def IsTb (n : Nat) (d : PyData) : Prop := ∃ nss, d = .tuple (nss.map tupI) ∧ Tb n nss
def IsR (d : PyData) : Prop := ∃ ds es, d = .tuple ds ∧ ds.length ≤ 16 ∧ ds[0]? = some (.tuple es) ∧ 1 ≤ es.length ∧ es.length ≤ 16 ∧ ∀ x ∈ ds, IsTb es.length x
theorem tupI_inj {a b : List Int} (h : tupI a = tupI b) : a = b := by
  injection h with h1
  exact ints_inj h1
theorem tupIs_inj : ∀ {a b : List (List Int)}, a.map tupI = b.map tupI → a = b
  | [], [], _ => rfl
  | [], _ :: _, h => by cases h
  | _ :: _, [], h => by cases h
  | x :: a, y :: b, h => by
    rw [List.map_cons, List.map_cons] at h
    injection h with h1 h2
    rw [tupI_inj h1, tupIs_inj h2]
theorem IsAsc.iff {n : Nat} {ns : List Int} : IsAsc n (tupI ns) ↔ Row n ns := by
  constructor
  · rintro ⟨ms, e, r⟩
    rw [tupI_inj e]
    exact r
  · intro r
    exact ⟨ns, rfl, r⟩
theorem IsTb.iff {n : Nat} {nss : List (List Int)} : IsTb n (.tuple (nss.map tupI)) ↔ Tb n nss := by
  constructor
  · rintro ⟨mss, e, r⟩
    injection e with e1
    rw [tupIs_inj e1]
    exact r
  · intro r
    exact ⟨nss, rfl, r⟩
theorem rows_of {n : Nat} : ∀ {ds : List PyData}, (∀ x ∈ ds, IsAsc n x) → ∃ nss : List (List Int), ds = nss.map tupI ∧ ∀ ns ∈ nss, Row n ns
  | [], _ => ⟨[], rfl, fun ns h => by cases h⟩
  | d :: ds, h => by
    obtain ⟨ns, e, r⟩ := h d List.mem_cons_self
    obtain ⟨nss, e2, r2⟩ := rows_of (ds := ds) fun x hx => h x (List.mem_cons_of_mem _ hx)
    refine ⟨ns :: nss, by rw [e, e2]; rfl, fun ms hm => ?_⟩
    rcases List.mem_cons.mp hm with z | z
    · rw [z]
      exact r
    · exact r2 ms z
/-- one below the next -/
def adj (ns : List Int) : List Bool := (ns.zip (ns.drop 1)).map fun p => decide (p.1 < p.2)
theorem adj_all : ∀ ns : List Int, (adj ns).all id = true ↔ ns.Pairwise (· < ·)
  | [] => by simp [adj]
  | [a] => by simp [adj]
  | a :: b :: r => by
    have ih := adj_all (b :: r)
    have e : adj (a :: b :: r) = decide (a < b) :: adj (b :: r) := rfl
    rw [e, List.all_cons, Bool.and_eq_true, ih]
    show (decide (a < b) = true ∧ _) ↔ _
    rw [decide_eq_true_eq, List.pairwise_cons (a := a)]
    constructor
    · rintro ⟨h1, h2⟩
      refine ⟨fun x hx => ?_, h2⟩
      rcases List.mem_cons.mp hx with z | z
      · rw [z]
        exact h1
      · rw [List.pairwise_cons] at h2
        exact Int.lt_trans h1 (h2.1 x z)
    · rintro ⟨h1, h2⟩
      exact ⟨h1 b List.mem_cons_self, h2⟩
theorem strict_nodup {l : List Int} (h : l.Pairwise (· < ·)) : l.Nodup := by
  rw [List.nodup_iff_pairwise_ne]
  exact h.imp (fun h e => by omega)
theorem strict_one {a b : List Int} (ha : a.Pairwise (· < ·)) (hb : b.Pairwise (· < ·)) (m : ∀ x, x ∈ a ↔ x ∈ b) : a = b := by
  have l1 := len_of_sub a b (strict_nodup ha) fun x hx => (m x).mp hx
  have l2 := len_of_sub b a (strict_nodup hb) fun x hx => (m x).mpr hx
  have p := perm_of_sub a b (strict_nodup ha) (fun x hx => (m x).mp hx) l2
  exact sorted_one p (ha.imp (fun h => by omega)) (hb.imp (fun h => by omega))
/-! ### rows in the heap -/
inductive RowsAt (H : Hp) : List V → List (List Int) → Prop
  | nil : RowsAt H [] []
  | cons {t : Addr} {vs : List V} {ns : List Int} {nss : List (List Int)} : H t = some (.tup (ns.map V.int)) → RowsAt H vs nss → RowsAt H (.ref t :: vs) (ns :: nss)
theorem RowsAt.keep {H H' : Hp} (k : Tk H H') : ∀ {vs : List V} {nss : List (List Int)}, RowsAt H vs nss → RowsAt H' vs nss
  | _, _, .nil => .nil
  | _, _, .cons h r => .cons (k _ _ h) (r.keep k)
theorem RowsAt.len {H : Hp} : ∀ {vs : List V} {nss : List (List Int)}, RowsAt H vs nss → vs.length = nss.length
  | _, _, .nil => rfl
  | _, _, .cons h r => by rw [List.length_cons, List.length_cons, r.len]
theorem RowsAt.get {H : Hp} : ∀ {vs : List V} {nss : List (List Int)}, RowsAt H vs nss → ∀ i : Nat, i < nss.length → ∃ t, vs[i]? = some (.ref t) ∧ H t = some (.tup ((nss.getD i []).map V.int))
  | _, _, .nil, i, h => by simp at h
  | _, _, .cons h r, 0, _ => ⟨_, rfl, h⟩
  | _, _, .cons h r, i + 1, hi => r.get i (by simpa using hi)
theorem rows_dt {p : Addr} {H : Hp} : ∀ {nss : List (List Int)} {vs : List V}, DtAll p H vs (nss.map tupI) → RowsAt H vs nss
  | [], _, .nil => .nil
  | ns :: nss, _, .cons (.tup h a) t => by
    rw [DtAll.ints a] at h
    exact .cons h (rows_dt t)
theorem RowsAt.dt {p : Addr} {H : Hp} : ∀ {vs : List V} {nss : List (List Int)}, RowsAt H vs nss → DtAll p H vs (nss.map tupI)
  | _, _, .nil => .nil
  | _, _, .cons h r => .cons (.tup h (dt_ints _)) r.dt
theorem RowsAt.snoc {H : Hp} {t : Addr} {ns : List Int} (h : H t = some (.tup (ns.map V.int))) : ∀ {vs : List V} {nss : List (List Int)}, RowsAt H vs nss → RowsAt H (vs ++ [.ref t]) (nss ++ [ns])
  | _, _, .nil => .cons h .nil
  | _, _, .cons a r => .cons a (r.snoc h)
theorem in_ints (a : Int) : ∀ ns : List Int, inV (.int a) (ns.map V.int) = decide (a ∈ ns)
  | [] => by simp [inV]
  | n :: ns => by
    have ih := in_ints a ns
    have e : inV (.int a) ((n :: ns).map V.int) = (eqV (.int n) (.int a) || inV (.int a) (ns.map V.int)) := rfl
    rw [e, ih]
    have e2 : eqV (.int n) (.int a) = decide (n = a) := by
      show (n == a) = decide (n = a)
      by_cases h : n = a <;> simp [h]
    rw [e2]
    by_cases h : n = a
    · subst h
      simp
    · have h' : a ≠ n := fun z => h z.symm
      simp [h, h']
theorem flat_ints (ns : List Int) : (ns.map V.int).all flatV = true := by
  rw [List.all_map]
  exact List.all_eq_true.mpr fun _ _ => rfl
/-! ### answers one by one -/
inductive Told (F : PyData → Prop) : List Bool → List PyData → Prop
  | nil : Told F [] []
  | cons {b : Bool} {y : PyData} {bs : List Bool} {ys : List PyData} : (b = true ↔ F y) → Told F bs ys → Told F (b :: bs) (y :: ys)
theorem Told.snoc {F : PyData → Prop} {b : Bool} {y : PyData} (h : b = true ↔ F y) : ∀ {bs : List Bool} {ys : List PyData}, Told F bs ys → Told F (bs ++ [b]) (ys ++ [y])
  | _, _, .nil => .cons h .nil
  | _, _, .cons a r => .cons a (r.snoc h)
theorem Told.all {F : PyData → Prop} : ∀ {bs : List Bool} {ys : List PyData}, Told F bs ys → (bs.all id = true ↔ ∀ y ∈ ys, F y)
  | _, _, .nil => by simp
  | _, _, .cons (b := b) (y := y) a r => by
    rw [List.all_cons, Bool.and_eq_true, r.all, List.forall_mem_cons]
    show (b = true ∧ _) ↔ _
    rw [a]
theorem Told.len {F : PyData → Prop} : ∀ {bs : List Bool} {ys : List PyData}, Told F bs ys → bs.length = ys.length
  | _, _, .nil => rfl
  | _, _, .cons _ r => by rw [List.length_cons, List.length_cons, r.len]
theorem dt_tuple {p : Addr} {H : Hp} {v : V} {d : PyData} (th : Th p H v d) (h : isT d = true) : ∃ (a : Addr) (xs : List V) (ds : List PyData), v = .ref a ∧ d = .tuple ds ∧ H a = some (.tup xs) ∧ DtAll p H xs ds := by
  cases th with
  | dat z =>
    cases z with
    | tup h1 a1 => exact ⟨_, _, _, rfl, rfl, h1, a1⟩
    | non => cases h
    | bl b => cases h
    | int i => cases h
    | str x => cases h
    | lst _ _ _ => cases h
  | dct _ _ => cases h
/-- all([f(.., x) for x in t]): a def that tells F of each item -/
theorem lc_told {K : PySem.W.Frag} {a D : Addr} {xs : List V} {p : Addr} {H : Hp} {ds : List PyData} {F : PyData → Prop} {te : TE} {σ : L2.St} {i0 : Nat} {Qd : Hp → Prop} (ha : H a = some (.tup xs)) (al : DtAll p H xs ds) (few : ds.length ≤ 1000) (nD : H D = none)
    (hw : ∀ x, wipe ((wipe σ [i0]).set i0 (some x)) [i0] = wipe σ [i0])
    (step : ∀ (x : V) (y : PyData) (G : Hp) (Q' : VK), y ∈ ds → Dt p G x y → Same H G → (∀ b G1, Same G G1 → (b = true ↔ F y) → Q' (.bl b) G1) → te ((wipe σ [i0]).set i0 (some x)) G Q')
    (hd : ∀ bs G, Same H G → Told F bs ds → G D = some (.lst (bs.map V.bl)) → Qd G) :
    ∃ W : Nat → Nat → Hp → Prop, (∃ m, W 0 m (upd H D (.lst []))) ∧ ∀ i m H, W i m H →
      ((Itt K a).stop i H ∧ Qd H) ∨ ((Itt K a).go i H ∧ ∃ Nx : Hp → Prop, (∀ H', Nx H' → ∃ m', m' < m ∧ W (i + 1) m' H') ∧ ∀ x H', (Itt K a).yld i H x H' → gName i0 x (wipe σ [i0]) H' fun σ2 H2 => wipe σ2 [i0] = wipe σ [i0] ∧ tYes σ2 H2 fun b H3 =>
        if b = true then te σ2 H3 fun y H4 => ∃ acc, H4 D = some (.lst acc) ∧ acc.length < sizeLine ∧ Nx (upd H4 D (.lst (acc ++ [y]))) else Nx H3) := by
  have lenx := al.len
  refine lc_tup (K := K) (a := a) (xs := xs) (fun i G => Same H G ∧ ∃ bs : List Bool, Told F bs (ds.take i) ∧ G D = some (.lst (bs.map V.bl))) ⟨same_new nD, [], .nil, upd_same⟩ (fun i G _ h => SqT.of (h.1 _ _ ha)) ?_ ?_
  · rintro i x G hx ⟨sm, bs, told, gd⟩
    obtain ⟨y, hy, dy⟩ := al.get i x hx
    have hlt : i < xs.length := (List.getElem?_eq_some_iff.mp hx).1
    have tl := told.len
    rw [List.length_take] at tl
    refine ⟨hw x, ?_⟩
    refine step x y G _ (List.mem_of_getElem? hy) (dy.keep (Same.dk sm)) sm fun b G1 sm1 ib => ?_
    refine ⟨_, sm1 _ _ gd, ?_, fun c o hc => ?_, bs ++ [b], ?_, ?_⟩
    · rw [List.length_map]
      exact small1000 (by omega)
    · rw [upd_ne (ne_of_none hc nD)]
      exact sm1 _ _ (sm _ _ hc)
    · rw [List.take_add_one, hy]
      exact told.snoc ib
    · rw [upd_same, List.map_append]
      rfl
  · rintro G ⟨sm, bs, told, gd⟩
    rw [List.take_of_length_le (by omega)] at told
    exact hd bs G sm told gd
/-- [.. for x, y in zip(t, u)], tuples -/
theorem lc_zipT {K : PySem.W.Frag} {a b D : Addr} {xs ys : List V} {g : TG} {tt : TT} {te : TE} {vs : List Nat} {σ : L2.St} {H1 : Hp} {Qd : Hp → Prop} (Pv : Nat → Hp → Prop) (h0 : Pv 0 (upd H1 D (.lst [])))
    (hl : ∀ i H, Pv i H → SqT K H a xs ∧ SqT K H b ys)
    (hs : ∀ (i : Nat) (x y : V) (T : Addr) (H : Hp), xs[i]? = some x → ys[i]? = some y → Pv i H → H T = none → g (.ref T) (wipe σ vs) (upd H T (.tup [x, y])) fun σ2 H2 => wipe σ2 vs = wipe σ vs ∧ tt σ2 H2 fun b H3 =>
      if b = true then te σ2 H3 fun y H4 => ∃ acc, H4 D = some (.lst acc) ∧ acc.length < sizeLine ∧ Pv (i + 1) (upd H4 D (.lst (acc ++ [y]))) else Pv (i + 1) H3)
    (hd : ∀ H, Pv (min xs.length ys.length) H → Qd H) :
    ∃ W : Nat → Nat → Hp → Prop, (∃ m, W 0 m (upd H1 D (.lst []))) ∧ ∀ i m H, W i m H →
      ((RZ.ItzT K a b).stop i H ∧ Qd H) ∨ ((RZ.ItzT K a b).go i H ∧ ∃ Nx : Hp → Prop, (∀ H', Nx H' → ∃ m', m' < m ∧ W (i + 1) m' H') ∧ ∀ x H', (RZ.ItzT K a b).yld i H x H' → g x (wipe σ vs) H' fun σ2 H2 => wipe σ2 vs = wipe σ vs ∧ tt σ2 H2 fun b H3 =>
        if b = true then te σ2 H3 fun y H4 => ∃ acc, H4 D = some (.lst acc) ∧ acc.length < sizeLine ∧ Nx (upd H4 D (.lst (acc ++ [y]))) else Nx H3) := by
  refine ⟨fun i m H => m = min xs.length ys.length - i ∧ i ≤ min xs.length ys.length ∧ Pv i H, ⟨_, rfl, Nat.zero_le _, h0⟩, ?_⟩
  rintro i m H ⟨rfl, hi, pv⟩
  obtain ⟨q1, q2⟩ := hl i H pv
  by_cases lt : i < min xs.length ys.length
  · have l1 : i < xs.length := by omega
    have l2 : i < ys.length := by omega
    refine Or.inr ⟨⟨xs, ys, _, _, q1, q2, List.getElem?_eq_getElem l1, List.getElem?_eq_getElem l2⟩, Pv (i + 1), fun H' h => ⟨_, by omega, rfl, by omega, h⟩, ?_⟩
    rintro x H' ⟨T, x1, y1, rfl, nT, rfl, f1, f2⟩
    exact hs i x1 y1 T H (f1 xs q1) (f2 ys q2) pv nT
  · have e : i = min xs.length ys.length := by omega
    refine Or.inl ⟨⟨xs, ys, q1, q2, by omega⟩, hd H ?_⟩
    rw [← e]
    exact pv
/-- t[1:] -/
def rSl1 : V → Option Int → Option Int → Hp → VK → Prop := fun x lo hi H Q => lo = some 1 ∧ hi = none ∧ ∃ a xs, x = .ref a ∧ H a = some (.tup xs) ∧ ∀ (H' : Hp) (t : Addr), Same H H' → H' t = some (.tup (xs.drop 1)) → Q (.ref t) H'
theorem cut1 (xs : List V) : cutV xs (some 1) none = xs.drop 1 := by
  unfold cutV
  rw [show HT.sIx xs.length 0 (some 1) = min 1 xs.length from HT.sIx_nat xs.length 0 1, HT.sIx_none]
  cases xs with
  | nil => rfl
  | cons x r =>
    rw [show min 1 (x :: r).length = 1 by rw [List.length_cons]; omega]
    show List.take ((x :: r).length - 1) r = r
    rw [List.length_cons, Nat.add_sub_cancel]
    exact List.take_length
theorem sl_tup1 {X : Cx} : SlR X rSl1 := by
  intro pins s σ H x v vl vu lo hi sl Q I rx hs pl pu h
  obtain ⟨rfl, rfl, a, xs, rfl, ha, q⟩ := h
  refine sl_tupA pins s σ H _ v vl vu _ _ sl Q I rx hs pl pu ⟨a, xs, rfl, SqT.of ha, fun whole => ?_, fun _ p np => ?_⟩
  · have e : xs = [] := by
      have z := whole.1
      rw [show HT.sIx xs.length 0 (some 1) = min 1 xs.length from HT.sIx_nat xs.length 0 1] at z
      cases xs with
      | nil => rfl
      | cons x r =>
        rw [List.length_cons] at z
        omega
    subst e
    exact q H a (Same.refl H) ha
  · rw [cut1]
    exact q _ p (same_new np) upd_same
/-- sorted(set(t)), a tuple of ints of at most 60 kinds -/
def tSortSet (K : PySem.W.Frag) (ta : TE) : TE := fun σ H Q => ta σ H fun x H1 => ∃ (l : Addr) (ns : List Int), x = .ref l ∧ SqT K H1 l (ns.map V.int) ∧ ns.length ≤ 4000 ∧ (∀ y ∈ ns, y ∈ R 60) ∧
  ∀ (ks : List Int) (q : Addr), ks.Pairwise (· < ·) → (∀ k, k ∈ ks ↔ k ∈ ns) → H1 q = none → Q (.ref q) (upd H1 q (.lst (ks.map V.int)))
theorem pe_sortSet {X : Cx} {a : Expr} {ta : TE} {p p2 q pos : Pos} (g1 : Gl X "sorted") (m1 : X.mg "sorted" = none) (g2 : Gl X "set") (m2 : X.mg "set" = none) (ha : PE X a ta)
    (calm : X.calm = true := by rfl) (one : starEach [a] X.env = (false, eval a X.env) :: starEach [] X.env := by rfl) :
    PE X (.Call (.Name "sorted" p) [.Call (.Name "set" p2) [a] [] q] [] pos) (tSortSet X.K ta) := by
  constructor
  intro pins s σ H Q I h
  refine Call_ (ld_blt I g1 m1 (show bootBuiltins "sorted" = some (.builtin "sorted") by decide +kernel) ?_)
  refine callWith_builtin1 (args_cons ?_ rfl) rfl rfl
  refine Call_ (ld_blt I g2 m2 boot_set ?_)
  refine callWith_type1 (args_cons (thn (ha.run pins s σ H _ I h) ?_) one) one rfl
  rintro v s1 ⟨x, H1, I1, r1, l, ns, rfl, seq, few, inR, q1⟩
  refine args_nil ?_
  cases r1
  obtain ⟨its, rv, ht, hz⟩ := I1.tuple seq
  refine call_set_tupI ns (I1.ok.hd calm) ht (by simpa using rv.ints) (by unfold scanBound; omega) fun h' tk c hS hc kept => ?_
  refine args_nil ?_
  have I2 : Inv X pins σ H1 { s1 with heap := h', toks := tk } := I1.kept kept
  have c60 : c ≤ 60 := by
    obtain ⟨o, es, ep, t, ho, ex, dt, _, nd, mem, lt, fits, siz, _⟩ := hS
    have z := len_of_sub (es.toList.map keyOf) (R 60) nd fun k hk => inR k (by have := (mem k).mpr hk; simpa using this)
    rw [R_len, List.length_map, Array.length_toList, siz] at z
    exact z
  refine sorted_set hS (I2.ok.hd calm) (by omega) fun s' u out c2 ks k g o hp hg hi hs hm hl => ?_
  have hlen : (ks.map V.int).length ≤ sizeLine := by rw [List.length_map, hl, sizeLine_eq]; omega
  have hn : H1 u = none := I2.hok.fresh hp
  have J : Inv X pins σ (upd H1 u (.lst (ks.map V.int))) { ({ s1 with heap := h', toks := tk } : Shared) with heap := s'.heap, gens := s'.gens, drawn := s'.drawn, toks := s'.toks } :=
    I2.call (ch := []) (Un.laid k hp hn) (I2.hok.laid k hp ⟨hlen, out.toList, c2, vals_of_ints hi, hg⟩) (by rw [g]; exact I2.bare) (fun _ z => nomatch z)
  have e : s' = { ({ s1 with heap := h', toks := tk } : Shared) with heap := s'.heap, gens := s'.gens, drawn := s'.drawn, toks := s'.toks } := by
    cases s'
    cases s1
    cases o
    rfl
  rw [e]
  exact ⟨.ref u, _, J, rfl, q1 ks u hs (fun k => by rw [hm k]; simp) hn⟩
end SL

namespace SL
open PySem PySem.Spec PyProof.Rows L2
theorem scSized : FnScope ["value"] ["value"] (defScope sSized) := ⟨rfl, rfl, rfl, by decide +kernel, rfl, by decide +kernel, by decide +kernel⟩
abbrev nAllIn : List Str := ["value", "low", "high", "item"]
theorem scAllIn : FnScope nAllIn ["value", "low", "high"] (defScope sAllIn) := ⟨rfl, rfl, rfl, by decide +kernel, rfl, by decide +kernel, by decide +kernel⟩
abbrev nAsc : List Str := ["keys", "value", "key", "after"]
theorem scAsc : FnScope nAsc ["keys", "value"] (defScope sAscending) := ⟨rfl, rfl, rfl, by decide +kernel, rfl, by decide +kernel, by decide +kernel⟩
theorem scDec : FnScope ["table", "a", "b"] ["table", "a", "b"] (defScope sDecided) := ⟨rfl, rfl, rfl, by decide +kernel, rfl, by decide +kernel, by decide +kernel⟩
abbrev nTab : List Str := ["keys", "value", "beaten", "a", "b"]
theorem scTab : FnScope nTab ["keys", "value"] (defScope sTable) := ⟨rfl, rfl, rfl, by decide +kernel, rfl, by decide +kernel, by decide +kernel⟩
abbrev nRule : List Str := ["value", "keys", "table"]
theorem scRule : FnScope nRule ["value"] (defScope sRule) := ⟨rfl, rfl, rfl, by decide +kernel, rfl, by decide +kernel, by decide +kernel⟩
/-- of 1 to 16 items -/
def sized : PyData → Bool
  | .tuple ds => decide (1 ≤ ds.length) && decide (ds.length ≤ 16)
  | _ => false
section
variable {P : Program} {w : World} {K : PySem.W.Frag} {mg : Str → Option Value} {base : Heap}
/-- all that the text's defs are -/
structure Defs (K : PySem.W.Frag) (mg : Str → Option Value) : Prop where
  within : ∃ f fd, Fun K "is_integer_within" "is_integer_within" sWithin f fd ∧ Binds K fd ["value", "low", "high"] [] ∧ mg "is_integer_within" = some (.ref f)
  allIn : ∃ f fd, Fun K "are_integers_within" "are_integers_within" sAllIn f fd ∧ Binds K fd ["value", "low", "high"] [] ∧ mg "are_integers_within" = some (.ref f)
  rule : ∃ f fd, Fun K "is_rule" "is_rule" sRule f fd ∧ Binds K fd ["value"] [] ∧ mg "is_rule" = some (.ref f)
  sized : ∃ f fd, Fun K "is_sized" "is_sized" sSized f fd ∧ Binds K fd ["value"] [] ∧ mg "is_sized" = some (.ref f)
  table : ∃ f fd, Fun K "is_table" "is_table" sTable f fd ∧ Binds K fd ["keys", "value"] [] ∧ mg "is_table" = some (.ref f)
  ascending : ∃ f fd, Fun K "is_ascending" "is_ascending" sAscending f fd ∧ Binds K fd ["keys", "value"] [] ∧ mg "is_ascending" = some (.ref f)
  decided : ∃ f fd, Fun K "is_decided" "is_decided" sDecided f fd ∧ Binds K fd ["table", "a", "b"] [] ∧ mg "is_decided" = some (.ref f)
  pot : ∃ f fd, Fun K "_law_pot" "_law_pot" sPot f fd ∧ Binds K fd ["_law_script", "_law_k"] [] ∧ mg "_law_pot" = some (.ref f)
  take : ∃ f fd, Fun K "_law_take" "_law_take" sTake f fd ∧ Binds K fd ["_law_pot_here", "_law_size"] [] ∧ mg "_law_take" = some (.ref f)
  pick : ∃ f fd, Fun K "_law_pick" "_law_pick" sPick f fd ∧ Binds K fd ["_law_pot_here", "_law_some"] [] ∧ mg "_law_pick" = some (.ref f)
  mixed : ∃ f fd, Fun K "_law_mixed" "_law_mixed" sMixed f fd ∧ Binds K fd ["_law_pot_here", "_law_some"] [] ∧ mg "_law_mixed" = some (.ref f)
  ordTable : ∃ f fd, Fun K "_law_ordered_table" "_law_ordered_table" sOrdTable f fd ∧ Binds K fd ["_law_order"] [] ∧ mg "_law_ordered_table" = some (.ref f)
  anyTable : ∃ f fd, Fun K "_law_any_table" "_law_any_table" sAnyTable f fd ∧ Binds K fd ["_law_pot_here", "_law_size"] [] ∧ mg "_law_any_table" = some (.ref f)
  turned : ∃ f fd, Fun K "_law_turned" "_law_turned" sTurned f fd ∧ Binds K fd ["_law_pot_here", "_law_table_here"] [] ∧ mg "_law_turned" = some (.ref f)
  lawTable : ∃ f fd, Fun K "_law_table" "_law_table" sLawTable f fd ∧ Binds K fd ["_law_pot_here", "_law_size"] [] ∧ mg "_law_table" = some (.ref f)
  odd : ∃ f fd, Fun K "_law_odd" "_law_odd" sOdd f fd ∧ Binds K fd ["_law_pot_here", "_law_part"] [] ∧ mg "_law_odd" = some (.ref f)
  bent : ∃ f fd, Fun K "_law_bent" "_law_bent" sBent f fd ∧ Binds K fd ["_law_pot_here", "_law_thing", "_law_depth"] [] ∧ mg "_law_bent" = some (.ref f)
  number : ∃ f fd, Fun K "_law_is_number" "_law_is_number" sNumber f fd ∧ Binds K fd ["_law_thing", "_law_below"] [] ∧ mg "_law_is_number" = some (.ref f)
  areKeys : ∃ f fd, Fun K "_law_are_keys" "_law_are_keys" sAreKeys f fd ∧ Binds K fd ["_law_size", "_law_thing"] [] ∧ mg "_law_are_keys" = some (.ref f)
  isTable : ∃ f fd, Fun K "_law_is_table" "_law_is_table" sIsTable f fd ∧ Binds K fd ["_law_size", "_law_thing"] [] ∧ mg "_law_is_table" = some (.ref f)
  due : ∃ f fd, Fun K "_law_due" "_law_due" sDue f fd ∧ Binds K fd ["_law_thing"] [] ∧ mg "_law_due" = some (.ref f)
  asked : ∃ f fd, Fun K "_law_asked" "_law_asked" sAsked f fd ∧ Binds K fd ["_law_thing"] [] ∧ mg "_law_asked" = some (.ref f)
  byHand : ∃ f fd, Fun K "_law_by_hand" "_law_by_hand" sByHand f fd ∧ Binds K fd [] [] ∧ mg "_law_by_hand" = some (.ref f)
  right : ∃ f fd, Fun K "_law_right" "_law_right" sRight f fd ∧ Binds K fd ["_law_pot_here"] [] ∧ mg "_law_right" = some (.ref f)
  zMost : ∃ t, mg "MOST" = some (.int 16 t)
  zIsinstance : mg "isinstance" = none
  zInt : mg "int" = none
  zBool : mg "bool" = none
  zTuple : mg "tuple" = none
  zLen : mg "len" = none
  zAll : mg "all" = none
  zSet : mg "set" = none
  zAbs : mg "abs" = none
  zList : mg "list" = none
  zRange : mg "range" = none
  zStr : mg "str" = none
  zSorted : mg "sorted" = none
  zRepr : mg "repr" = none
  zMax : mg "max" = none
  zMin : mg "min" = none
  zZip : mg "zip" = none
  zEnumerate : mg "enumerate" = none
/-! ### is_sized, are_probes, due -/
def spSized : Sp := fun vs H Q _ => ∃ (p : Addr) (v : V) (d : PyData), vs = [v] ∧ Th p H v d ∧ Q (.bl (sized d)) H
theorem ok_sized {f : Addr} {fd : FuncData} {k : Nat} (F : Fun K "is_sized" "is_sized" sSized f fd) (T : Defs K mg) : FnOk P w K mg base CX0 (k + 1) f fd ["value"] spSized := by
  obtain ⟨tM, gM⟩ := T.zMost
  refine F.ok scSized (fun vs H Q E h => ?_) (fun cdv A outer s H vs Q E hr h => ?_)
  · obtain ⟨p, v, d, rfl, _⟩ := h
    rfl
  · obtain ⟨p, v, d, rfl, th, q⟩ := h
    refine ⟨_, pss_one (ps_ret (pe_and (pe_callB call_isi (by rfl) T.zIsinstance (by decide +kernel) (pa_cons (pv 0) (pa_cons (pe_bltn (v := .ty "tuple") (by rfl) T.zTuple (by decide +kernel) rfl) pa_nil)))
      (pe_one (pe_chain op_le op_le pe_int (pe_callB call_len_seq (by rfl) T.zLen PySem.boot_len (pa_cons (pv 0) pa_nil)) (pe_glob (v := .int 16) rfl gM ⟨_, rfl⟩))))), ?_⟩
    refine ⟨v, rfl, v, .ty "tuple", _, _, _, rfl, .ty "tuple", th.ty, kit_ty (kit_tuple d), _, rfl, ?_⟩
    by_cases isTu : isT d = true
    · rw [isTu]
      obtain ⟨a, xs, ds, rfl, rfl, ha, al⟩ := dt_tuple th isTu
      have lenx := al.len
      refine iteT ?_
      refine ⟨.ref a, rfl, a, xs, rfl, .inr (SqT.of ha), 1, _, rfl, rfl, _, rfl, ite2 (fun e => ?_) (fun e => ?_)⟩
      · refine ⟨_, 16, rfl, rfl, ?_⟩
        have z : sized (.tuple ds) = decide ((xs.length : Int) ≤ 16) := by
          show (decide (1 ≤ ds.length) && decide (ds.length ≤ 16)) = _
          have e' := of_decide_eq_true e
          rw [decide_eq_true (show 1 ≤ ds.length by omega), Bool.true_and]
          exact decide_eq_decide.mpr (by omega)
        rw [z] at q
        exact q
      · have z : sized (.tuple ds) = false := by
          show (decide (1 ≤ ds.length) && decide (ds.length ≤ 16)) = _
          have e' : ¬ (1 ≤ ds.length) := fun w => e (decide_eq_true (by omega))
          rw [decide_eq_false e', Bool.false_and]
        rw [z] at q
        exact q
    · rw [Bool.not_eq_true] at isTu
      rw [isTu]
      refine iteF ?_
      have z : sized d = false := by
        cases d <;> first | rfl | cases isTu
      rw [z] at q
      exact q
/-! ### is_ascending -/
def spAsc : Sp := fun vs H Q _ => ∃ (p : Addr) (n : Nat) (v : V) (d : PyData), vs = [.int n, v] ∧ Th p H v d ∧ fw d = true ∧ n ≤ 60 ∧ ∀ (b : Bool) (H' : Hp), Same H H' → (b = true ↔ IsAsc n d) → Q (.bl b) H'
theorem IsAsc.all {n : Nat} {ds : List PyData} (h : IsAsc n (.tuple ds)) : (ds.map (inR 0 ((n : Int) - 1))).all id = true := by
  obtain ⟨ns, e, r⟩ := h
  injection e with e1
  subst e1
  exact all_of r.2
theorem told_in {lo hi : Int} : ∀ {ds : List PyData} {bs : List Bool}, Told (fun y => inR lo hi y = true) bs ds → (bs.all id = true ↔ (ds.map (inR lo hi)).all id = true) := fun {ds bs} t => by
  rw [t.all, List.all_map]
  constructor
  · intro h
    exact List.all_eq_true.mpr h
  · intro h
    exact List.all_eq_true.mp h
/-! ### are_integers_within -/
def InAll (lo hi : Int) (d : PyData) : Prop := ∃ ds, d = .tuple ds ∧ (ds.map (inR lo hi)).all id = true
def spAllIn : Sp := fun vs H Q _ => ∃ (p : Addr) (v : V) (d : PyData) (lo hi : Int), vs = [v, .int lo, .int hi] ∧ Th p H v d ∧ fw d = true ∧ ∀ (b : Bool) (H' : Hp), Same H H' → (b = true ↔ InAll lo hi d) → Q (.bl b) H'
theorem ok_allIn {f : Addr} {fd : FuncData} {k : Nat} (F : Fun K "are_integers_within" "are_integers_within" sAllIn f fd) (T : Defs K mg) : FnOk P w K mg base CX0 (k + 2) f fd ["value", "low", "high"] spAllIn := by
  obtain ⟨fW, fdW, FW, bW, gW⟩ := T.within
  have GW : FnOk P w K mg base CX0 (k + 1) fW fdW ["value", "low", "high"] spWithin := ok_within FW T.zIsinstance T.zInt T.zBool
  refine F.ok scAllIn (fun vs H Q E h => ?_) (fun cdv A outer s H vs Q E hr h => ?_)
  · obtain ⟨p, v, d, lo, hi, rfl, _⟩ := h
    rfl
  · obtain ⟨p, v, d, lo, hi, rfl, th, hfw, q⟩ := h
    refine ⟨_, pss_one (ps_ret (pe_and (pe_callB call_isi (by rfl) T.zIsinstance (by decide +kernel) (pa_cons (pv 0) (pa_cons (pe_bltn (v := .ty "tuple") (by rfl) T.zTuple (by decide +kernel) rfl) pa_nil)))
      (pe_one (pe_callB (cr_all rfl) (by rfl) T.zAll (by decide +kernel) (pa_cons (pe_lc (own := [("item", 3)]) (g := gName 3) (tt := tYes) rfl scAllIn.nd (pi_tup (pv 0))
            (blkOk_by (own := [("item", 3)]) (N := nAllIn) (sc := defScope sAllIn) (by decide +kernel)) (fun _ _ _ _ _ => pg_name (i := 3) scAllIn.nd rfl (Or.inl rfl)) (fun _ _ _ _ _ => pts_nil)
            (fun _ _ _ _ _ => pe_call GW hr (by rfl) gW FW.kp bW .nil pass0 (pa_cons (pv 3) (pa_cons (pv 1) (pa_cons (pv 2) pa_nil))))) pa_nil))))), ?_⟩
    refine ⟨v, rfl, v, .ty "tuple", _, _, _, rfl, .ty "tuple", th.ty, kit_ty (kit_tuple d), _, rfl, ?_⟩
    by_cases isTu : isT d = true
    · rw [isTu]
      obtain ⟨a, xs, ds, rfl, rfl, ha, al⟩ := dt_tuple th isTu
      have few := (fw_tuple hfw).1
      refine iteT ?_
      refine ⟨.ref a, rfl, a, rfl, ⟨_, SqT.of ha⟩, fun D nD => ?_⟩
      refine lc_told (K := K) (F := fun y => inR lo hi y = true) ha al (by omega) nD (fun _ => rfl) (fun x y G Q' hy dy sm q' => ?_) (fun bs G sm told gd => ?_)
      · exact ⟨x, rfl, .int lo, rfl, .int hi, rfl, p, x, y, lo, hi, rfl, dy, q' _ G (Same.refl G) Iff.rfl⟩
      · refine ⟨D, _, rfl, SqL.of gd, ?_⟩
        refine q _ G sm ((told_in told).trans ⟨fun z => ⟨ds, rfl, z⟩, ?_⟩)
        rintro ⟨es, e, z⟩
        injection e with e1
        rw [e1]
        exact z
    · rw [Bool.not_eq_true] at isTu
      rw [isTu]
      refine iteF ?_
      refine q false H (Same.refl H) ⟨(fun z => by cases z), ?_⟩
      rintro ⟨ns, rfl, _⟩
      cases isTu
theorem ok_ascending {f : Addr} {fd : FuncData} {k : Nat} (F : Fun K "is_ascending" "is_ascending" sAscending f fd) (T : Defs K mg) : FnOk P w K mg base CX0 (k + 3) f fd ["keys", "value"] spAsc := by
  obtain ⟨fW, fdW, FW, bW, gW⟩ := T.allIn
  have GW : FnOk P w K mg base CX0 (k + 2) fW fdW ["value", "low", "high"] spAllIn := ok_allIn FW T
  refine F.ok scAsc (fun vs H Q E h => ?_) (fun cdv A outer s H vs Q E hr h => ?_)
  · obtain ⟨p, n, v, d, rfl, _⟩ := h
    rfl
  · obtain ⟨p, n, v, d, rfl, th, hfw, n60, q⟩ := h
    refine ⟨_, pss_cons (ps_if (pt_not (pt_val (pe_call GW hr (by rfl) gW FW.kp bW .nil pass0 (pa_cons (pv 1) (pa_cons pe_int (pa_cons (pe_op op_sub (pv 0) pe_int) pa_nil)))))) (pss_one (ps_ret pe_bl)) pss_nil)
      (pss_one (ps_ret (pe_callB (cr_all rfl) (by rfl) T.zAll (by decide +kernel) (pa_cons (pe_lc (own := [("key", 2), ("after", 3)]) (g := gTup K 2 (gCons (gName 2) (gCons (gName 3) gNil))) (tt := tYes) rfl scAsc.nd
          (RZ.pi_zipA (by rfl) T.zZip (pa_cons (pv 1) (pa_cons (pe_slice sl_tup1 (pv 1) (po_some pe_int) po_none) pa_nil)))
          (blkOk_by (own := [("key", 2), ("after", 3)]) (N := nAsc) (sc := defScope sAscending) (by decide +kernel))
          (fun _ _ _ _ _ => pg_tup rfl (pgs_cons (pg_name (i := 2) scAsc.nd rfl (Or.inl rfl)) (pgs_cons (pg_name (i := 3) scAsc.nd rfl (Or.inl rfl)) pgs_nil))) (fun _ _ _ _ _ => pts_nil)
          (fun _ _ _ _ _ => pe_cmpR op_lt (pv 2) (pv 3) (nomark _))) pa_nil)))), ?_⟩
    refine ⟨v, rfl, .int n, rfl, n, 1, rfl, rfl, p, v, d, 0, (n : Int) - 1, rfl, th, hfw, fun b G sm told => ⟨_, rfl, ?_⟩⟩
    by_cases e1 : b = true
    · rw [e1]
      obtain ⟨ds, rfl, e2⟩ := told.mp e1
      obtain ⟨a, xs, ds', rfl, ed, ha, al⟩ := dt_tuple th rfl
      injection ed with ed1
      subst ed1
      have few := (fw_tuple hfw).1
      obtain ⟨ns, rfl, inside⟩ := all_in e2
      have ex : xs = ns.map V.int := al.ints
      subst ex
      rw [List.length_map] at few
      refine ⟨.ref a, rfl, .ref a, rfl, 1, rfl, rfl, rfl, a, _, rfl, sm _ _ ha, fun G2 t2 sm2 ht2 => ?_⟩
      refine ⟨a, t2, _, _, rfl, .inr ⟨SqT.of (sm2 _ _ (sm _ _ ha)), SqT.of ht2, fun D2 nD2 => ?_⟩⟩
      refine lc_zipT (K := K) (xs := ns.map V.int) (ys := (ns.map V.int).drop 1) (fun i G3 => Same G2 G3 ∧ G3 D2 = some (.lst (((adj ns).take i).map V.bl))) ⟨same_new nD2, upd_same⟩ (fun i G3 h => ⟨SqT.of (h.1 _ _ (sm2 _ _ (sm _ _ ha))), SqT.of (h.1 _ _ ht2)⟩) ?_ ?_
      · rintro i x y T2 G3 hx hy ⟨sm3, gd3⟩ nT
        have hx2 := hx
        have hy2 := hy
        rw [List.getElem?_map] at hx2
        rw [List.getElem?_drop, List.getElem?_map] at hy2
        obtain ⟨x', ex', rfl⟩ := Option.map_eq_some_iff.mp hx2
        obtain ⟨y', ey', rfl⟩ := Option.map_eq_some_iff.mp hy2
        have s4 := same_new (o := .tup [V.int x', V.int y']) nT
        refine ⟨T2, _, rfl, SqT.of upd_same, rfl, _, _, rfl, _, _, rfl, rfl, rfl, ?_⟩
        refine ⟨_, rfl, _, rfl, x', y', rfl, rfl, _, s4 _ _ gd3, ?_, fun c o hc => ?_, ?_⟩
        · rw [List.length_map, List.length_take]
          have : (adj ns).length ≤ ns.length := by simp [adj]
          exact small1000 (by omega)
        · rw [upd_ne (ne_of_none hc nD2)]
          exact s4 _ _ (sm3 _ _ hc)
        · have gi : (adj ns)[i]? = some (decide (x' < y')) := by
            unfold adj
            rw [List.getElem?_map, (List.getElem?_zip_eq_some (z := (x', y'))).mpr ⟨ex', by rw [List.getElem?_drop]; exact ey'⟩]
            rfl
          rw [upd_same, List.take_add_one, gi, List.map_append]
          rfl
      · rintro G3 ⟨sm3, gd3⟩
        rw [List.take_of_length_le (by simp [adj])] at gd3
        refine ⟨D2, _, rfl, SqL.of gd3, ?_⟩
        refine q _ G3 ((sm.trans sm2).trans sm3) ?_
        rw [adj_all, show PyData.tuple (ns.map PyData.int) = tupI ns from rfl, IsAsc.iff]
        exact ⟨fun h => ⟨h, inside⟩, fun h => h.1⟩
    · rw [Bool.not_eq_true] at e1
      rw [e1]
      refine q false G sm ⟨(fun z => by cases z), fun z => ?_⟩
      have zz := z
      obtain ⟨ns, ez, _⟩ := zz
      subst ez
      rw [told.mpr ⟨_, rfl, z.all⟩] at e1
      cases e1
/-! ### is_decided -/
def spDec : Sp := fun vs H Q _ => ∃ (t : Addr) (xs : List V) (nss : List (List Int)) (a b : Nat), vs = [.ref t, .int a, .int b] ∧ H t = some (.tup xs) ∧ RowsAt H xs nss ∧ a < nss.length ∧ b < nss.length ∧ Q (.bl (decide (Dec nss a b))) H
theorem ok_decided {f : Addr} {fd : FuncData} {k : Nat} (F : Fun K "is_decided" "is_decided" sDecided f fd) (T : Defs K mg) : FnOk P w K mg base CX0 (k + 1) f fd ["table", "a", "b"] spDec := by
  refine F.ok scDec (fun vs H Q E h => ?_) (fun cdv A outer s H vs Q E hr h => ?_)
  · obtain ⟨t, xs, nss, a, b, rfl, _⟩ := h
    rfl
  · obtain ⟨t, xs, nss, a, b, rfl, ht, rows, la, lb, q⟩ := h
    refine ⟨_, pss_cons (ps_if (pt_cmpR op_eq (pv 1) (pv 2) (nomark _)) (pss_one (ps_ret (pe_cmpR op_notIn_seq (pv 1) (pe_ix ix_tup (pv 0) (pv 1) (fun _ _ => rfl)) (by rfl)))) pss_nil)
      (pss_one (ps_ret (pe_cmpR op_ne (pe_cmpR op_in_seq (pv 2) (pe_ix ix_tup (pv 0) (pv 1) (fun _ _ => rfl)) (by rfl)) (pe_cmpR op_in_seq (pv 1) (pe_ix ix_tup (pv 0) (pv 2) (fun _ _ => rfl)) (by rfl)) (nomark _)))), ?_⟩
    obtain ⟨ta, xa, hta⟩ := rows.get a la
    obtain ⟨tb, xb, htb⟩ := rows.get b lb
    refine ⟨.int a, rfl, .int b, rfl, rfl, _, rfl, ite2 (fun e => ?_) (fun e => ?_)⟩
    · have eab : a = b := by
        have z := V.int.inj (of_decide_eq_true e)
        omega
      refine ⟨.int a, rfl, .ref t, rfl, .int a, rfl, t, xs, a, _, rfl, rfl, SqT.of ht, atI_nat xa, ta, _, rfl, .inr (SqT.of hta), rfl, flat_ints _, ?_⟩
      rw [in_ints]
      have z : (if true = true then !decide ((a : Int) ∈ nss.getD a []) else decide ((a : Int) ∈ nss.getD a [])) = decide (Dec nss a b) := by
        rw [if_pos rfl, ← decide_not]
        refine decide_eq_decide.mpr ?_
        unfold Dec
        rw [if_pos eab]
      rw [z]
      exact q
    · have eab : a ≠ b := fun z => e (decide_eq_true (by rw [z]))
      refine ⟨.int b, rfl, .ref t, rfl, .int a, rfl, t, xs, a, _, rfl, rfl, SqT.of ht, atI_nat xa, ta, _, rfl, .inr (SqT.of hta), rfl, flat_ints _, ?_⟩
      refine ⟨.int a, rfl, .ref t, rfl, .int b, rfl, t, xs, b, _, rfl, rfl, SqT.of ht, atI_nat xb, tb, _, rfl, .inr (SqT.of htb), rfl, flat_ints _, ?_⟩
      rw [in_ints, in_ints, if_neg (by decide), if_neg (by decide)]
      refine ⟨rfl, ?_⟩
      have z : (!decide (V.bl (decide ((b : Int) ∈ nss.getD a [])) = V.bl (decide ((a : Int) ∈ nss.getD b [])))) = decide (Dec nss a b) := by
        rw [← decide_not]
        refine decide_eq_decide.mpr ?_
        unfold Dec
        rw [if_neg eab]
        by_cases h1 : (b : Int) ∈ nss.getD a []
        · by_cases h2 : (a : Int) ∈ nss.getD b []
          · rw [decide_eq_true h1, decide_eq_true h2]
            exact ⟨fun z => absurd rfl z, fun z => absurd h2 (z.mp h1)⟩
          · rw [decide_eq_true h1, decide_eq_false h2]
            exact ⟨fun _ => ⟨fun _ => h2, fun _ => h1⟩, fun _ z => by cases z⟩
        · by_cases h2 : (a : Int) ∈ nss.getD b []
          · rw [decide_eq_false h1, decide_eq_true h2]
            exact ⟨fun _ => ⟨fun z => absurd z h1, fun z => absurd h2 z⟩, fun _ z => by cases z⟩
          · rw [decide_eq_false h1, decide_eq_false h2]
            exact ⟨fun z => absurd rfl z, fun z => absurd (z.mpr h2) h1⟩
      rw [z]
      exact q
end
end SL

namespace SL
open PySem PySem.Spec PyProof.Rows L2
abbrev nKeys : List Str := ["_law_size", "_law_thing", "_law_one"]
theorem scKeys : FnScope nKeys ["_law_size", "_law_thing"] (defScope sAreKeys) := ⟨rfl, rfl, rfl, by decide +kernel, rfl, by decide +kernel, by decide +kernel⟩
abbrev nIsT : List Str := ["_law_size", "_law_thing", "_law_one", "_law_two", "_law_row"]
theorem scIsT : FnScope nIsT ["_law_size", "_law_thing"] (defScope sIsTable) := ⟨rfl, rfl, rfl, by decide +kernel, rfl, by decide +kernel, by decide +kernel⟩
theorem all_snoc (bs : List Bool) (b : Bool) : (bs ++ [b]).all id = true ↔ bs.all id = true ∧ b = true := by
  rw [List.all_append, Bool.and_eq_true]
  simp
section
variable {P : Program} {w : World} {K : PySem.W.Frag} {mg : Str → Option Value} {base : Heap}
/-! ### is_table -/
def spTable : Sp := fun vs H Q _ => ∃ (p : Addr) (n : Nat) (v : V) (d : PyData), vs = [.int n, v] ∧ Th p H v d ∧ fw d = true ∧ n ≤ 16 ∧ ∀ (b : Bool) (H' : Hp), Same H H' → (b = true ↔ IsTb n d) → Q (.bl b) H'
theorem ok_table {f : Addr} {fd : FuncData} {k : Nat} (F : Fun K "is_table" "is_table" sTable f fd) (T : Defs K mg) : FnOk P w K mg base CX0 (k + 4) f fd ["keys", "value"] spTable := by
  obtain ⟨fA, fdA, FA, bA, gA⟩ := T.ascending
  obtain ⟨fD, fdD, FD, bD, gD⟩ := T.decided
  have GA : FnOk P w K mg base CX0 (k + 3) fA fdA ["keys", "value"] spAsc := ok_ascending FA T
  have GD : FnOk P w K mg base CX0 (k + 1) fD fdD ["table", "a", "b"] spDec := ok_decided FD T
  refine F.ok scTab (fun vs H Q E h => ?_) (fun cdv A outer s H vs Q E hr h => ?_)
  · obtain ⟨p, n, v, d, rfl, _⟩ := h
    rfl
  · obtain ⟨p, n, v, d, rfl, th, hfw, n16, q⟩ := h
    have hr1 : Room (k + 1) _ := hr.mono (by omega)
    refine ⟨_, pss_cons (ps_if (PW.pt (pw_or (pt_not (pt_val (pe_callB call_isi (by rfl) T.zIsinstance (by decide +kernel) (pa_cons (pv 1) (pa_cons (pe_bltn (v := .ty "tuple") (by rfl) T.zTuple (by decide +kernel) rfl) pa_nil)))))
          (pw_or1 (pt_cmpR op_ne (pe_callB call_len_seq (by rfl) T.zLen PySem.boot_len (pa_cons (pv 1) pa_nil)) (pv 0) (nomark _))))) (pss_one (ps_ret pe_bl)) pss_nil)
      (pss_cons (ps_if (pt_not (pt_val (pe_callB (cr_all rfl) (by rfl) T.zAll (by decide +kernel) (pa_cons (pe_lc (own := [("beaten", 2)]) (g := gName 2) (tt := tYes) rfl scTab.nd (pi_tup (pv 1))
            (blkOk_by (own := [("beaten", 2)]) (N := nTab) (sc := defScope sTable) (by decide +kernel)) (fun _ _ _ _ _ => pg_name (i := 2) scTab.nd rfl (Or.inl rfl)) (fun _ _ _ _ _ => pts_nil)
            (fun _ _ _ _ _ => pe_call GA hr (by rfl) gA FA.kp bA .nil pass0 (pa_cons (pv 0) (pa_cons (pv 2) pa_nil)))) pa_nil)))) (pss_one (ps_ret pe_bl)) pss_nil)
      (pss_one (ps_ret (pe_callB (cr_all rfl) (by rfl) T.zAll (by decide +kernel) (pa_cons (pe_lc2 (own := [("a", 3), ("b", 4)]) (vs1 := [4]) (g := gName 3) (tt := tYes) (g1 := gName 4) (tt1 := tYes) rfl scTab.nd
            (pi_range1 rfl T.zRange (pa_cons (pv 0) pa_nil)) (blkOk_by (own := [("a", 3), ("b", 4)]) (N := nTab) (sc := defScope sTable) (by decide +kernel)) (by decide)
            (fun _ _ _ _ _ => pg_name (i := 3) scTab.nd rfl (Or.inl rfl)) (fun _ _ _ _ _ => pts_nil) (fun _ _ _ _ _ => pi_range1 rfl T.zRange (pa_cons (pe_op op_add (pv 3) pe_int) pa_nil))
            (fun _ _ _ _ _ => pg_name (i := 4) scTab.nd rfl (Or.inl rfl)) (fun _ _ _ _ _ => pts_nil)
            (fun _ _ _ _ _ => pe_call GD hr1 (by rfl) gD FD.kp bD .nil pass0 (pa_cons (pv 1) (pa_cons (pv 3) (pa_cons (pv 4) pa_nil))))) pa_nil))))), ?_⟩
    refine ⟨v, rfl, v, .ty "tuple", _, _, _, rfl, .ty "tuple", th.ty, kit_ty (kit_tuple d), _, rfl, ?_⟩
    by_cases isTu : isT d = true
    · rw [isTu]
      obtain ⟨a, xs, ds, rfl, rfl, ha, al⟩ := dt_tuple th isTu
      have lenx := al.len
      have few := (fw_tuple hfw).1
      refine ⟨.ref a, rfl, a, xs, rfl, .inr (SqT.of ha), .int n, rfl, rfl, _, rfl, ite2 (fun e => ?_) (fun e => ?_)⟩
      · refine q false H (Same.refl H) ⟨(fun z => by cases z), ?_⟩
        rintro ⟨nss, ez, tb⟩
        injection ez with ez1
        have ne : ¬ ((xs.length : Int) = n) := fun w => by
          rw [w] at e
          simp at e
        refine absurd ?_ ne
        rw [lenx, ez1, List.length_map, tb.1]
      · have eq : (xs.length : Int) = n := by
          by_cases w : (xs.length : Int) = n
          · exact w
          · refine absurd ?_ e
            simp [w]
        refine ⟨.ref a, rfl, a, rfl, ⟨_, SqT.of ha⟩, fun D nD => ?_⟩
        refine lc_told (K := K) (F := IsAsc n) ha al (by omega) nD (fun _ => rfl) (fun x y G Q' hy dy sm q' => ?_) (fun bs G sm told gd => ?_)
        · exact ⟨.int n, rfl, x, rfl, p, n, x, y, rfl, .dat dy, (fw_tuple hfw).2 y hy, by omega, fun b G1 sm1 ib => q' b G1 sm1 ib⟩
        · refine ⟨D, _, rfl, SqL.of gd, _, rfl, ?_⟩
          by_cases e1 : bs.all id = true
          · rw [e1]
            obtain ⟨nss, rfl, rws⟩ := rows_of (told.all.mp e1)
            have rows : RowsAt H xs nss := rows_dt al
            rw [List.length_map] at lenx
            have ln : nss.length = n := by omega
            refine ⟨.int n, rfl, n, rfl, by omega, by omega, fun D2 nD2 => ?_⟩
            have en : ((n : Int)).toNat = n := by omega
            refine ⟨fun i m G2 => m = n - i ∧ i ≤ n ∧ Same G G2 ∧ ∃ cs : List Bool, G2 D2 = some (.lst (cs.map V.bl)) ∧ cs.length ≤ 20 * i ∧ (cs.all id = true ↔ ∀ a b : Nat, a < i → b ≤ a → Dec nss a b), ⟨n, rfl, by omega, same_new nD2, [], upd_same, by simp, by simp⟩, ?_⟩
            rintro i m G2 ⟨rfl, hi, sm2, cs, gd2, lcs, iff2⟩
            by_cases lt : i < n
            · refine Or.inr ⟨by show i < ((n : Int)).toNat; omega, fun G3 => Same G G3 ∧ ∃ cs : List Bool, G3 D2 = some (.lst (cs.map V.bl)) ∧ cs.length ≤ 20 * (i + 1) ∧ (cs.all id = true ↔ ∀ a b : Nat, a < i + 1 → b ≤ a → Dec nss a b), fun G3 h3 => ⟨n - (i + 1), by omega, rfl, by omega, h3⟩, ?_⟩
              rintro x G3 ⟨rfl, rfl⟩
              refine ⟨rfl, ?_⟩
              refine ⟨_, rfl, _, 1, rfl, rfl, _, rfl, by omega, by omega, ?_⟩
              refine ⟨fun j m G4 => m = (i + 1) - j ∧ j ≤ i + 1 ∧ Same G G4 ∧ ∃ cs : List Bool, G4 D2 = some (.lst (cs.map V.bl)) ∧ cs.length ≤ 20 * i + j ∧ (cs.all id = true ↔ (∀ a b : Nat, a < i → b ≤ a → Dec nss a b) ∧ ∀ b : Nat, b < j → Dec nss i b), ⟨i + 1, rfl, by omega, sm2, cs, gd2, by omega, by rw [iff2]; simp⟩, ?_⟩
              rintro j m G4 ⟨rfl, hj, sm4, cs4, gd4, lcs4, iff4⟩
              by_cases ltj : j < i + 1
              · refine Or.inr ⟨by show j < ((0 + (i : Int)) + 1).toNat; omega, fun G5 => Same G G5 ∧ ∃ cs : List Bool, G5 D2 = some (.lst (cs.map V.bl)) ∧ cs.length ≤ 20 * i + (j + 1) ∧ (cs.all id = true ↔ (∀ a b : Nat, a < i → b ≤ a → Dec nss a b) ∧ ∀ b : Nat, b < j + 1 → Dec nss i b), fun G5 h5 => ⟨(i + 1) - (j + 1), by omega, rfl, by omega, h5⟩, ?_⟩
                rintro x G5 ⟨rfl, rfl⟩
                refine ⟨rfl, ?_⟩
                refine ⟨.ref a, rfl, _, rfl, _, rfl, a, xs, nss, 0 + i, 0 + j, rfl, sm4 _ _ (sm _ _ ha), rows.keep (Same.tk (sm.trans sm4)), by omega, by omega, ?_⟩
                refine ⟨_, gd4, ?_, fun c o hc => ?_, cs4 ++ [decide (Dec nss (0 + i) (0 + j))], ?_, ?_, ?_⟩
                · rw [List.length_map]
                  exact small1000 (by omega)
                · rw [upd_ne (ne_of_none hc nD2)]
                  exact sm4 _ _ hc
                · rw [upd_same, List.map_append]
                  rfl
                · rw [List.length_append]
                  show cs4.length + 1 ≤ _
                  omega
                · rw [all_snoc, iff4, decide_eq_true_eq, Nat.zero_add, Nat.zero_add]
                  constructor
                  · rintro ⟨⟨h1, h2⟩, h3⟩
                    refine ⟨h1, fun b hb => ?_⟩
                    by_cases z : b = j
                    · rw [z]
                      exact h3
                    · exact h2 b (by omega)
                  · rintro ⟨h1, h2⟩
                    exact ⟨⟨h1, fun b hb => h2 b (by omega)⟩, h2 j (by omega)⟩
              · have ej : j = i + 1 := by omega
                subst ej
                refine Or.inl ⟨by show ((0 + (i : Int)) + 1).toNat ≤ i + 1; omega, sm4, cs4, gd4, by omega, ?_⟩
                rw [iff4]
                constructor
                · rintro ⟨h1, h2⟩ a' b' l1 l2
                  by_cases z : a' = i
                  · rw [z]
                    exact h2 b' (by omega)
                  · exact h1 a' b' (by omega) l2
                · intro h
                  exact ⟨fun a' b' l1 l2 => h a' b' (by omega) l2, fun b' l => h i b' (by omega) (by omega)⟩
            · have ei : i = n := by omega
              refine Or.inl ⟨by show ((n : Int)).toNat ≤ i; omega, ?_⟩
              refine ⟨D2, _, rfl, SqL.of gd2, ?_⟩
              refine q _ G2 (sm.trans sm2) ?_
              rw [iff2, IsTb.iff, ei]
              exact ⟨fun h => ⟨ln, rws, h⟩, fun h => h.2.2⟩
          · rw [Bool.not_eq_true] at e1
            rw [e1]
            refine q false G sm ⟨(fun z => by cases z), ?_⟩
            rintro ⟨nss, ez, tb⟩
            injection ez with ez1
            have z : bs.all id = true := told.all.mpr fun y hy => by
              rw [ez1] at hy
              obtain ⟨ns, hn, rfl⟩ := List.mem_map.mp hy
              exact ⟨ns, rfl, tb.2.1 ns hn⟩
            rw [z] at e1
            cases e1
    · rw [Bool.not_eq_true] at isTu
      rw [isTu]
      refine q false H (Same.refl H) ⟨(fun z => by cases z), ?_⟩
      rintro ⟨ns, rfl, _⟩
      cases isTu
/-! ### are_keys -/
def spKeys : Sp := spAsc
theorem ok_areKeys {f : Addr} {fd : FuncData} {k : Nat} (F : Fun K "_law_are_keys" "_law_are_keys" sAreKeys f fd) (T : Defs K mg) : FnOk P w K mg base CX0 (k + 2) f fd ["_law_size", "_law_thing"] spKeys := by
  obtain ⟨fW, fdW, FW, bW, gW⟩ := T.number
  have GW : FnOk P w K mg base CX0 (k + 1) fW fdW ["_law_thing", "_law_below"] spNumber := ok_number FW T.zIsinstance T.zInt T.zBool
  refine F.ok scKeys (fun vs H Q E h => ?_) (fun cdv A outer s H vs Q E hr h => ?_)
  · obtain ⟨p, n, v, d, rfl, _⟩ := h
    rfl
  · obtain ⟨p, n, v, d, rfl, th, hfw, n60, q⟩ := h
    refine ⟨_, pss_cons (ps_if (PW.pt (pw_or (pt_not (pt_val (pe_callB call_isi (by rfl) T.zIsinstance (by decide +kernel) (pa_cons (pv 1) (pa_cons (pe_bltn (v := .ty "tuple") (by rfl) T.zTuple (by decide +kernel) rfl) pa_nil)))))
          (pw_or1 (pt_not (pt_val (pe_callB (cr_all rfl) (by rfl) T.zAll (by decide +kernel) (pa_cons (pe_lc (own := [("_law_one", 2)]) (g := gName 2) (tt := tYes) rfl scKeys.nd (pi_tup (pv 1))
            (blkOk_by (own := [("_law_one", 2)]) (N := nKeys) (sc := defScope sAreKeys) (by decide +kernel)) (fun _ _ _ _ _ => pg_name (i := 2) scKeys.nd rfl (Or.inl rfl)) (fun _ _ _ _ _ => pts_nil)
            (fun _ _ _ _ _ => pe_call GW hr (by rfl) gW FW.kp bW .nil pass0 (pa_cons (pv 2) (pa_cons (pv 0) pa_nil)))) pa_nil))))))) (pss_one (ps_ret pe_bl)) pss_nil)
      (pss_one (ps_ret (pe_cmpR (op_eqD hr.units) (pe_callTy call_list_of (by rfl) T.zList (by decide +kernel) (pa_cons (pv 1) pa_nil)) (pe_sortSet (by rfl) T.zSorted (by rfl) T.zSet (pv 1)) (nomark _)))), ?_⟩
    refine ⟨v, rfl, v, .ty "tuple", _, _, _, rfl, .ty "tuple", th.ty, kit_ty (kit_tuple d), _, rfl, ?_⟩
    by_cases isTu : isT d = true
    · rw [isTu]
      obtain ⟨a, xs, ds, rfl, rfl, ha, al⟩ := dt_tuple th isTu
      have few := (fw_tuple hfw).1
      refine ⟨.ref a, rfl, a, rfl, ⟨_, SqT.of ha⟩, fun D nD => ?_⟩
      refine lc_told (K := K) (F := fun y => inR 0 ((n : Int) - 1) y = true) ha al (by omega) nD (fun _ => rfl) (fun x y G Q' hy dy sm q' => ?_) (fun bs G sm told gd => ?_)
      · exact ⟨x, rfl, .int n, rfl, p, x, y, n, rfl, dy, q' _ G (Same.refl G) Iff.rfl⟩
      · refine ⟨D, _, rfl, SqL.of gd, _, rfl, ?_⟩
        have ti := told_in told
        by_cases e1 : bs.all id = true
        · rw [e1]
          obtain ⟨ns, rfl, inside⟩ := all_in (ti.mp e1)
          have ex : xs = ns.map V.int := al.ints
          subst ex
          rw [List.length_map] at few
          refine ⟨.ref a, rfl, a, _, rfl, .inr (SqT.of (sm _ _ ha)), fun l nl => ?_⟩
          have s2 := same_new (o := .lst (ns.map V.int)) nl
          refine ⟨.ref a, rfl, a, ns, rfl, SqT.of (s2 _ _ (sm _ _ ha)), by omega, fun y hy => ?_, fun ks u rise mem nu => ?_⟩
          · have := R_mem.mp (inside y hy)
            exact R_mem.mpr (by omega)
          have s3 := same_new (o := .lst (ks.map V.int)) nu
          refine ⟨_, _, .lst (SqL.of (s3 _ _ upd_same)) (dp_ints K _ ns), .lst (SqL.of upd_same) (dp_ints K _ ks), shaped_ints ns, shaped_ints ks, ?_⟩
          refine q _ _ ((sm.trans s2).trans s3) ?_
          rw [show PyData.tuple (ns.map PyData.int) = tupI ns from rfl, IsAsc.iff]
          show PyData.eqv (.list (ns.map PyData.int)) (.list (ks.map PyData.int)) = true ↔ _
          simp only [PyData.eqv, eqv_ints, decide_eq_true_eq]
          constructor
          · intro e
            rw [e]
            exact ⟨rise, fun y hy => inside y ((mem y).mp hy)⟩
          · intro r
            exact strict_one r.1 rise fun x => (mem x).symm
        · rw [Bool.not_eq_true] at e1
          rw [e1]
          refine q false G sm ⟨(fun z => by cases z), fun z => ?_⟩
          rw [ti.mpr z.all] at e1
          cases e1
    · rw [Bool.not_eq_true] at isTu
      rw [isTu]
      refine q false H (Same.refl H) ⟨(fun z => by cases z), ?_⟩
      rintro ⟨ns, rfl, _⟩
      cases isTu
end
end SL

namespace SL
open PySem PySem.Spec PyProof.Rows L2
theorem scDue : FnScope ["_law_thing", "_law_size", "_law_one"] ["_law_thing"] (defScope sDue) := ⟨rfl, rfl, rfl, by decide +kernel, rfl, by decide +kernel, by decide +kernel⟩
theorem scAsked : FnScope ["_law_thing", "_law_kept", "_law_due_here"] ["_law_thing"] (defScope sAsked) := ⟨rfl, rfl, rfl, by decide +kernel, rfl, by decide +kernel, by decide +kernel⟩
section
variable {P : Program} {w : World} {K : PySem.W.Frag} {mg : Str → Option Value} {base : Heap}
/-! ### the law's own look at a table -/
def spIsT : Sp := spTable
theorem ok_isTable {f : Addr} {fd : FuncData} {k : Nat} (F : Fun K "_law_is_table" "_law_is_table" sIsTable f fd) (T : Defs K mg) : FnOk P w K mg base CX0 (k + 3) f fd ["_law_size", "_law_thing"] spIsT := by
  obtain ⟨fA, fdA, FA, bA, gA⟩ := T.areKeys
  have GA : FnOk P w K mg base CX0 (k + 2) fA fdA ["_law_size", "_law_thing"] spKeys := ok_areKeys FA T
  refine F.ok scIsT (fun vs H Q E h => ?_) (fun cdv A outer s H vs Q E hr h => ?_)
  · obtain ⟨p, n, v, d, rfl, _⟩ := h
    rfl
  · obtain ⟨p, n, v, d, rfl, th, hfw, n16, q⟩ := h
    refine ⟨_, pss_cons (ps_if (PW.pt (pw_or (pt_not (pt_val (pe_callB call_isi (by rfl) T.zIsinstance (by decide +kernel) (pa_cons (pv 1) (pa_cons (pe_bltn (v := .ty "tuple") (by rfl) T.zTuple (by decide +kernel) rfl) pa_nil)))))
          (pw_or1 (pt_cmpR op_ne (pe_callB call_len_seq (by rfl) T.zLen PySem.boot_len (pa_cons (pv 1) pa_nil)) (pv 0) (nomark _))))) (pss_one (ps_ret pe_bl)) pss_nil)
      (pss_cons (ps_if (pt_not (pt_val (pe_callB (cr_all rfl) (by rfl) T.zAll (by decide +kernel) (pa_cons (pe_lc (own := [("_law_row", 4)]) (g := gName 4) (tt := tYes) rfl scIsT.nd (pi_tup (pv 1))
            (blkOk_by (own := [("_law_row", 4)]) (N := nIsT) (sc := defScope sIsTable) (by decide +kernel)) (fun _ _ _ _ _ => pg_name (i := 4) scIsT.nd rfl (Or.inl rfl)) (fun _ _ _ _ _ => pts_nil)
            (fun _ _ _ _ _ => pe_call GA hr (by rfl) gA FA.kp bA .nil pass0 (pa_cons (pv 0) (pa_cons (pv 4) pa_nil)))) pa_nil)))) (pss_one (ps_ret pe_bl)) pss_nil)
      (pss_cons (ps_for PassesOwn.never rfl (pi_range1 rfl T.zRange (pa_cons (pv 0) pa_nil)) (pg_name (i := 2) scIsT.nd rfl (Or.inl rfl))
          (pss_cons (ps_for PassesOwn.never rfl (pi_range1 rfl T.zRange (pa_cons (pv 2) pa_nil)) (pg_name (i := 3) scIsT.nd rfl (Or.inl rfl))
              (pss_one (ps_if (pt_cmpR op_eq (pe_cmpR op_in_seq (pv 2) (pe_ix ix_tup (pv 1) (pv 3) (fun _ _ => rfl)) (by rfl)) (pe_cmpR op_in_seq (pv 3) (pe_ix ix_tup (pv 1) (pv 2) (fun _ _ => rfl)) (by rfl)) (nomark _)) (pss_one (ps_ret pe_bl)) pss_nil)))
            (pss_one (ps_if (pt_cmpR op_in_seq (pv 2) (pe_ix ix_tup (pv 1) (pv 2) (fun _ _ => rfl)) (by rfl)) (pss_one (ps_ret pe_bl)) pss_nil))))
      (pss_one (ps_ret pe_bl)))), ?_⟩
    refine ⟨v, rfl, v, .ty "tuple", _, _, _, rfl, .ty "tuple", th.ty, kit_ty (kit_tuple d), _, rfl, ?_⟩
    by_cases isTu : isT d = true
    · rw [isTu]
      obtain ⟨a, xs, ds, rfl, rfl, ha, al⟩ := dt_tuple th isTu
      have lenx := al.len
      have few := (fw_tuple hfw).1
      refine ⟨.ref a, rfl, a, xs, rfl, .inr (SqT.of ha), .int n, rfl, rfl, _, rfl, ite2 (fun e => ?_) (fun e => ?_)⟩
      · refine q false H (Same.refl H) ⟨(fun z => by cases z), ?_⟩
        rintro ⟨nss, ez, tb⟩
        injection ez with ez1
        have ne : ¬ ((xs.length : Int) = n) := fun w => by
          rw [w] at e
          simp at e
        refine absurd ?_ ne
        rw [lenx, ez1, List.length_map, tb.1]
      · have eq : (xs.length : Int) = n := by
          by_cases w : (xs.length : Int) = n
          · exact w
          · refine absurd ?_ e
            simp [w]
        refine ⟨.ref a, rfl, a, rfl, ⟨_, SqT.of ha⟩, fun D nD => ?_⟩
        refine lc_told (K := K) (F := IsAsc n) ha al (by omega) nD (fun _ => rfl) (fun x y G Q' hy dy sm q' => ?_) (fun bs G sm told gd => ?_)
        · exact ⟨.int n, rfl, x, rfl, p, n, x, y, rfl, .dat dy, (fw_tuple hfw).2 y hy, by omega, fun b G1 sm1 ib => q' b G1 sm1 ib⟩
        · refine ⟨D, _, rfl, SqL.of gd, _, rfl, ?_⟩
          by_cases e1 : bs.all id = true
          · rw [e1]
            obtain ⟨nss, rfl, rws⟩ := rows_of (told.all.mp e1)
            have rows : RowsAt G xs nss := (rows_dt al).keep (Same.tk sm)
            rw [List.length_map] at lenx
            have ln : nss.length = n := by omega
            have haG := sm _ _ ha
            have en : ((n : Int)).toNat = n := by omega
            refine ⟨.int n, rfl, n, rfl, by omega, by omega, for_range (lo := 0) (n := ((n : Int)).toNat) (fun i σ G2 => (∃ y2 y3 y4, σ = [some (.int n), some (.ref a), y2, y3, y4]) ∧ G2 = G ∧ ∀ a b : Nat, a < i → b ≤ a → Dec nss a b) ⟨⟨_, _, _, rfl⟩, rfl, fun a b l => by omega⟩ ?_ ?_⟩
            · rintro i σ G2 hi ⟨⟨y2, y3, y4, rfl⟩, rfl, sofar⟩
              have lti : i < n := by omega
              obtain ⟨ti, xi, hti⟩ := rows.get i (by omega)
              refine ⟨_, rfl, _, rfl, by omega, by omega, for_range (lo := 0) (n := (0 + (i : Int)).toNat) (fun j σ G3 => (∃ y3 y4, σ = [some (.int n), some (.ref a), some (.int (0 + (i : Int))), y3, y4]) ∧ G3 = G2 ∧ ∀ b : Nat, b < j → Dec nss i b) ⟨⟨_, _, rfl⟩, rfl, fun b l => by omega⟩ ?_ ?_⟩
              · rintro j σ G3 hj ⟨⟨y3, y4, rfl⟩, rfl, sofar2⟩
                have ltj : j < i := by omega
                obtain ⟨tj, xj, htj⟩ := rows.get j (by omega)
                refine ⟨_, rfl, .ref a, rfl, _, rfl, a, xs, _, _, rfl, rfl, SqT.of haG, at_of (j := j) (by omega) xj, tj, _, rfl, .inr (SqT.of htj), rfl, flat_ints _, ?_⟩
                refine ⟨_, rfl, .ref a, rfl, _, rfl, a, xs, _, _, rfl, rfl, SqT.of haG, at_of (j := i) (by omega) xi, ti, _, rfl, .inr (SqT.of hti), rfl, flat_ints _, ?_⟩
                rw [in_ints, in_ints, if_neg (by decide), if_neg (by decide), Int.zero_add, Int.zero_add]
                refine ⟨rfl, _, rfl, ite2 (fun e2 => ?_) (fun e2 => ?_)⟩
                · refine q false _ sm ⟨(fun z => by cases z), fun z => ?_⟩
                  have tb := IsTb.iff.mp z
                  have dec := tb.2.2 i j lti (by omega)
                  unfold Dec at dec
                  rw [if_neg (by omega)] at dec
                  have e3 := V.bl.inj (of_decide_eq_true e2)
                  have e4 := decide_eq_decide.mp e3
                  by_cases h1 : (j : Int) ∈ nss.getD i []
                  · exact absurd (e4.mpr h1) (dec.mp h1)
                  · exact absurd (dec.mpr fun h2 => h1 (e4.mp h2)) h1
                · refine ⟨⟨_, _, rfl⟩, rfl, fun b l => ?_⟩
                  by_cases z : b = j
                  · rw [z]
                    unfold Dec
                    rw [if_neg (by omega)]
                    have ne : ¬ ((i : Int) ∈ nss.getD j [] ↔ (j : Int) ∈ nss.getD i []) := fun w => e2 (decide_eq_true (by rw [decide_eq_decide.mpr w]))
                    constructor
                    · intro h1 h2
                      exact ne ⟨fun _ => h1, fun _ => h2⟩
                    · intro h2
                      refine Classical.byContradiction fun h1 => ?_
                      exact ne ⟨fun w => absurd w h2, fun w => absurd w h1⟩
                  · exact sofar2 b (by omega)
              · rintro σ G3 ⟨⟨y3, y4, rfl⟩, rfl, sofar2⟩
                refine ⟨_, rfl, .ref a, rfl, _, rfl, a, xs, _, _, rfl, rfl, SqT.of haG, at_of (j := i) (by omega) xi, ti, _, rfl, .inr (SqT.of hti), rfl, flat_ints _, ?_⟩
                rw [in_ints, if_neg (by decide), Int.zero_add]
                refine ⟨_, rfl, ite2 (fun e2 => ?_) (fun e2 => ?_)⟩
                · refine q false _ sm ⟨(fun z => by cases z), fun z => ?_⟩
                  have tb := IsTb.iff.mp z
                  have dec := tb.2.2 i i lti (by omega)
                  unfold Dec at dec
                  rw [if_pos rfl] at dec
                  exact absurd (of_decide_eq_true e2) dec
                · refine ⟨⟨_, _, _, rfl⟩, rfl, fun a' b' l1 l2 => ?_⟩
                  by_cases z : a' = i
                  · rw [z]
                    by_cases y : b' = i
                    · rw [y]
                      unfold Dec
                      rw [if_pos rfl]
                      exact fun w => e2 (decide_eq_true w)
                    · exact sofar2 b' (by omega)
                  · exact sofar a' b' (by omega) l2
            · rintro σ G2 ⟨⟨y2, y3, y4, rfl⟩, rfl, sofar⟩
              refine q true _ sm ⟨fun _ => IsTb.iff.mpr ⟨ln, rws, fun a' b' l1 l2 => sofar a' b' (by omega) l2⟩, fun _ => rfl⟩
          · rw [Bool.not_eq_true] at e1
            rw [e1]
            refine q false G sm ⟨(fun z => by cases z), ?_⟩
            rintro ⟨nss, ez, tb⟩
            injection ez with ez1
            have z : bs.all id = true := told.all.mpr fun y hy => by
              rw [ez1] at hy
              obtain ⟨ns, hn, rfl⟩ := List.mem_map.mp hy
              exact ⟨ns, rfl, tb.2.1 ns hn⟩
            rw [z] at e1
            cases e1
    · rw [Bool.not_eq_true] at isTu
      rw [isTu]
      refine q false H (Same.refl H) ⟨(fun z => by cases z), ?_⟩
      rintro ⟨ns, rfl, _⟩
      cases isTu
def spRule : Sp := fun vs H Q _ => ∃ (p : Addr) (v : V) (d : PyData), vs = [v] ∧ Th p H v d ∧ fw d = true ∧ ∀ (b : Bool) (H' : Hp), Same H H' → (b = true ↔ IsR d) → Q (.bl b) H'
theorem ok_rule {f : Addr} {fd : FuncData} {k : Nat} (F : Fun K "is_rule" "is_rule" sRule f fd) (T : Defs K mg) : FnOk P w K mg base CX0 (k + 5) f fd ["value"] spRule := by
  obtain ⟨fO, fdO, FO, bO, gO⟩ := T.table
  obtain ⟨fS, fdS, FS, bS, gS⟩ := T.sized
  have GO : FnOk P w K mg base CX0 (k + 4) fO fdO ["keys", "value"] spTable := ok_table FO T
  have GS : FnOk P w K mg base CX0 (k + 1) fS fdS ["value"] spSized := ok_sized FS T
  refine F.ok scRule (fun vs H Q E h => ?_) (fun cdv A outer s H vs Q E hr h => ?_)
  · obtain ⟨p, v, d, rfl, _⟩ := h
    rfl
  · obtain ⟨p, v, d, rfl, th, hfw, q⟩ := h
    have hr1 : Room (k + 1) _ := hr.mono (by omega)
    refine ⟨_, pss_cons (ps_if (PW.pt (pw_or (pt_not (pt_val (pe_call GS hr1 (by rfl) gS FS.kp bS .nil pass0 (pa_cons (pv 0) pa_nil))))
          (pw_or1 (pt_not (pt_val (pe_call GS hr1 (by rfl) gS FS.kp bS .nil pass0 (pa_cons (pe_ix ix_tup (pv 0) pe_int (fun _ _ => rfl)) pa_nil))))))) (pss_one (ps_ret pe_bl)) pss_nil)
      (pss_cons (ps_set (i := 1) scRule.nd rfl (.inr rfl) (pe_callB call_len_seq (by rfl) T.zLen PySem.boot_len (pa_cons (pe_ix ix_tup (pv 0) pe_int (fun _ _ => rfl)) pa_nil)))
      (pss_one (ps_ret (pe_callB (cr_all rfl) (by rfl) T.zAll (by decide +kernel) (pa_cons (pe_lc (own := [("table", 2)]) (g := gName 2) (tt := tYes) rfl scRule.nd (pi_tup (pv 0))
          (blkOk_by (own := [("table", 2)]) (N := nRule) (sc := defScope sRule) (by decide +kernel)) (fun _ _ _ _ _ => pg_name (i := 2) scRule.nd rfl (Or.inl rfl)) (fun _ _ _ _ _ => pts_nil)
          (fun _ _ _ _ _ => pe_call GO hr (by rfl) gO FO.kp bO .nil pass0 (pa_cons (pv 1) (pa_cons (pv 2) pa_nil)))) pa_nil))))), ?_⟩
    refine ⟨v, rfl, p, v, d, rfl, th, _, rfl, ?_⟩
    by_cases sz : sized d = true
    · rw [sz]
      obtain ⟨a, xs, ds, rfl, rfl, ha, al⟩ := dt_tuple th (by cases d <;> first | rfl | cases sz)
      have lenx := al.len
      have sz' : (decide (1 ≤ ds.length) && decide (ds.length ≤ 16)) = true := sz
      rw [Bool.and_eq_true, decide_eq_true_eq, decide_eq_true_eq] at sz'
      obtain ⟨x0, hx0⟩ : ∃ x0, xs[0]? = some x0 := ⟨xs[0], List.getElem?_eq_getElem (by omega)⟩
      obtain ⟨d0, hd0, dt0⟩ := al.get 0 x0 hx0
      refine ⟨.ref a, rfl, a, xs, 0, x0, rfl, rfl, SqT.of ha, atI_nat (j := 0) hx0, p, x0, d0, rfl, .dat dt0, _, rfl, ?_⟩
      by_cases sz0 : sized d0 = true
      · rw [sz0]
        obtain ⟨a0, xs0, es, rfl, rfl, ha0, al0⟩ := dt_tuple (.dat dt0) (by cases d0 <;> first | rfl | cases sz0)
        have len0 := al0.len
        have sz0' : (decide (1 ≤ es.length) && decide (es.length ≤ 16)) = true := sz0
        rw [Bool.and_eq_true, decide_eq_true_eq, decide_eq_true_eq] at sz0'
        refine ⟨.ref a, rfl, a, xs, 0, .ref a0, rfl, rfl, SqT.of ha, atI_nat (j := 0) hx0, a0, xs0, rfl, .inr (SqT.of ha0), ?_⟩
        refine ⟨.ref a, rfl, a, rfl, ⟨_, SqT.of ha⟩, fun D nD => ?_⟩
        refine lc_told (K := K) (F := IsTb es.length) ha al (by omega) nD (fun _ => rfl) (fun x y G Q' hy dy sm q' => ?_) (fun bs G sm told gd => ?_)
        · refine ⟨_, rfl, x, rfl, p, es.length, x, y, ?_, .dat dy, (fw_tuple hfw).2 y hy, by omega, fun b G1 sm1 ib => q' b G1 sm1 ib⟩
          show [V.int (xs0.length : Int), x] = [V.int (es.length : Int), x]
          rw [len0]
        · refine ⟨D, _, rfl, SqL.of gd, ?_⟩
          refine q _ G sm ?_
          rw [told.all]
          constructor
          · intro h
            exact ⟨ds, es, rfl, sz'.2, hd0, sz0'.1, sz0'.2, h⟩
          · rintro ⟨ds', es', e1, _, e2, _, _, h⟩
            cases e1
            rw [hd0] at e2
            cases e2
            exact h
      · rw [Bool.not_eq_true] at sz0
        rw [sz0]
        refine q false H (Same.refl H) ⟨(fun z => by cases z), ?_⟩
        rintro ⟨ds', es', e1, _, e2, e3, e4, _⟩
        cases e1
        rw [hd0] at e2
        cases e2
        have z : (decide (1 ≤ es'.length) && decide (es'.length ≤ 16)) = false := sz0
        rw [decide_eq_true e3, decide_eq_true e4] at z
        cases z
    · rw [Bool.not_eq_true] at sz
      rw [sz]
      refine q false H (Same.refl H) ⟨(fun z => by cases z), ?_⟩
      rintro ⟨ds', es', rfl, e1, e2, _⟩
      have z : (decide (1 ≤ ds'.length) && decide (ds'.length ≤ 16)) = false := sz
      have pos : 1 ≤ ds'.length := by
        have := (List.getElem?_eq_some_iff.mp e2).1
        omega
      rw [decide_eq_true pos, decide_eq_true e1] at z
      cases z
def spDue : Sp := spRule
theorem ok_due {f : Addr} {fd : FuncData} {k : Nat} (F : Fun K "_law_due" "_law_due" sDue f fd) (T : Defs K mg) : FnOk P w K mg base CX0 (k + 4) f fd ["_law_thing"] spDue := by
  obtain ⟨fI, fdI, FI, bI, gI⟩ := T.isTable
  have GI : FnOk P w K mg base CX0 (k + 3) fI fdI ["_law_size", "_law_thing"] spIsT := ok_isTable FI T
  refine F.ok scDue (fun vs H Q E h => ?_) (fun cdv A outer s H vs Q E hr h => ?_)
  · obtain ⟨p, v, d, rfl, _⟩ := h
    rfl
  · obtain ⟨p, v, d, rfl, th, hfw, q⟩ := h
    refine ⟨_, pss_cons (ps_if (PW.pt (pw_or (pt_not (pt_val (pe_callB call_isi (by rfl) T.zIsinstance (by decide +kernel) (pa_cons (pv 0) (pa_cons (pe_bltn (v := .ty "tuple") (by rfl) T.zTuple (by decide +kernel) rfl) pa_nil)))))
          (pw_or (pt_not (pt_chain op_lt op_lt pe_int (pe_callB call_len_seq (by rfl) T.zLen PySem.boot_len (pa_cons (pv 0) pa_nil)) pe_int))
            (pw_or1 (pt_not (pt_val (pe_callB call_isi (by rfl) T.zIsinstance (by decide +kernel) (pa_cons (pe_ix ix_tup (pv 0) pe_int (fun _ _ => rfl)) (pa_cons (pe_bltn (v := .ty "tuple") (by rfl) T.zTuple (by decide +kernel) rfl) pa_nil))))))))) (pss_one (ps_ret pe_bl)) pss_nil)
      (pss_cons (ps_set (i := 1) scDue.nd rfl (.inr rfl) (pe_callB call_len_seq (by rfl) T.zLen PySem.boot_len (pa_cons (pe_ix ix_tup (pv 0) pe_int (fun _ _ => rfl)) pa_nil)))
      (pss_one (ps_ret (pe_and (pe_chain op_lt op_lt pe_int (pv 1) pe_int) (pe_one (pe_callB (cr_all rfl) (by rfl) T.zAll (by decide +kernel) (pa_cons (pe_lc (own := [("_law_one", 2)]) (g := gName 2) (tt := tYes) rfl scDue.nd (pi_tup (pv 0))
          (blkOk_by (own := [("_law_one", 2)]) (N := ["_law_thing", "_law_size", "_law_one"]) (sc := defScope sDue) (by decide +kernel)) (fun _ _ _ _ _ => pg_name (i := 2) scDue.nd rfl (Or.inl rfl)) (fun _ _ _ _ _ => pts_nil)
          (fun _ _ _ _ _ => pe_call GI hr (by rfl) gI FI.kp bI .nil pass0 (pa_cons (pv 1) (pa_cons (pv 2) pa_nil)))) pa_nil))))))), ?_⟩
    have no : (∀ ds es, d = .tuple ds → ds.length ≤ 16 → ds[0]? = some (.tuple es) → 1 ≤ es.length → es.length ≤ 16 → False) → IsR d → (false = true) := by
      rintro h ⟨ds, es, e1, e2, e3, e4, e5, _⟩
      exact (h ds es e1 e2 e3 e4 e5).elim
    refine ⟨v, rfl, v, .ty "tuple", _, _, _, rfl, .ty "tuple", th.ty, kit_ty (kit_tuple d), _, rfl, ?_⟩
    by_cases isTu : isT d = true
    · rw [isTu]
      obtain ⟨a, xs, ds, rfl, rfl, ha, al⟩ := dt_tuple th isTu
      have lenx := al.len
      refine ⟨.ref a, rfl, a, xs, rfl, .inr (SqT.of ha), 0, _, rfl, rfl, _, rfl, ite2 (fun e1 => ?_) (fun e1 => ?_)⟩
      · have l1 := of_decide_eq_true e1
        refine ⟨_, 17, rfl, rfl, _, rfl, ?_⟩
        by_cases l2 : (xs.length : Int) < 17
        · rw [decide_eq_true l2]
          obtain ⟨x0, hx0⟩ : ∃ x0, xs[0]? = some x0 := ⟨xs[0]'(by omega), List.getElem?_eq_getElem (by omega)⟩
          obtain ⟨d0, hd0, dt0⟩ := al.get 0 x0 hx0
          refine ⟨.ref a, rfl, a, xs, 0, x0, rfl, rfl, SqT.of ha, atI_nat (j := 0) hx0, x0, .ty "tuple", _, _, _, rfl, .ty "tuple", dt0.ty, kit_ty (kit_tuple d0), _, rfl, ?_⟩
          by_cases isT0 : isT d0 = true
          · rw [isT0]
            obtain ⟨a0, xs0, es, rfl, rfl, ha0, al0⟩ := dt_tuple (.dat dt0) isT0
            have len0 := al0.len
            refine ⟨.ref a, rfl, a, xs, 0, .ref a0, rfl, rfl, SqT.of ha, atI_nat (j := 0) hx0, a0, xs0, rfl, .inr (SqT.of ha0), ?_⟩
            refine ⟨_, rfl, 0, _, rfl, rfl, _, rfl, ite2 (fun e2 => ?_) (fun e2 => ?_)⟩
            · have l3 := of_decide_eq_true e2
              refine ⟨_, 17, rfl, rfl, _, rfl, ?_⟩
              by_cases l4 : (xs0.length : Int) < 17
              · rw [decide_eq_true l4]
                refine iteT ?_
                refine ⟨.ref a, rfl, a, rfl, ⟨_, SqT.of ha⟩, fun D nD => ?_⟩
                refine lc_told (K := K) (F := IsTb es.length) ha al (by omega) nD (fun _ => rfl) (fun x y G Q' hy dy sm q' => ?_) (fun bs G sm told gd => ?_)
                · refine ⟨_, rfl, x, rfl, p, es.length, x, y, ?_, .dat dy, (fw_tuple hfw).2 y hy, by omega, fun b G1 sm1 ib => q' b G1 sm1 ib⟩
                  show [V.int (xs0.length : Int), x] = [V.int (es.length : Int), x]
                  rw [len0]
                · refine ⟨D, _, rfl, SqL.of gd, ?_⟩
                  refine q _ G sm ?_
                  rw [told.all]
                  constructor
                  · intro h
                    exact ⟨ds, es, rfl, by omega, hd0, by omega, by omega, h⟩
                  · rintro ⟨ds', es', e1, _, e2, _, _, h⟩
                    cases e1
                    rw [hd0] at e2
                    cases e2
                    exact h
              · rw [decide_eq_false l4]
                refine iteF ?_
                refine q false H (Same.refl H) ⟨(fun z => by cases z), no fun ds' es' z1 z2 z3 z4 z5 => ?_⟩
                cases z1
                rw [hd0] at z3
                cases z3
                omega
            · refine ⟨_, rfl, ?_⟩
              refine q false H (Same.refl H) ⟨(fun z => by cases z), no fun ds' es' z1 z2 z3 z4 z5 => ?_⟩
              cases z1
              rw [hd0] at z3
              cases z3
              exact e2 (decide_eq_true (by omega))
          · rw [Bool.not_eq_true] at isT0
            rw [isT0]
            refine q false H (Same.refl H) ⟨(fun z => by cases z), no fun ds' es' z1 z2 z3 z4 z5 => ?_⟩
            cases z1
            rw [hd0] at z3
            cases z3
            cases isT0
        · rw [decide_eq_false l2]
          refine q false H (Same.refl H) ⟨(fun z => by cases z), no fun ds' es' z1 z2 z3 z4 z5 => ?_⟩
          cases z1
          omega
      · refine ⟨_, rfl, ?_⟩
        refine q false H (Same.refl H) ⟨(fun z => by cases z), no fun ds' es' z1 z2 z3 z4 z5 => ?_⟩
        cases z1
        have := (List.getElem?_eq_some_iff.mp z3).1
        exact e1 (decide_eq_true (by omega))
    · rw [Bool.not_eq_true] at isTu
      rw [isTu]
      refine q false H (Same.refl H) ⟨(fun z => by cases z), no fun ds' es' z1 z2 z3 z4 z5 => ?_⟩
      cases z1
      cases isTu
end
end SL

namespace SL
open PySem PySem.Spec PyProof.Rows L2
/-- f(k = v, ..), nothing by place -/
theorem pe_callK0 {X : Cx} {CX : CXT} {k : Nat} {f : Addr} {fd : FuncData} {ps ks : List Str} {sp : Sp} {E : XK} {x : Str} {p pos : Pos} {kws : List Keyword} {tk : TA} {g : List Value → List Value → List Value} {gV : List V → List V → List V}
    (F : FnOk X.prog X.w X.K X.mg X.base CX k f fd ps sp) (room : Room k X.A) (gl : Gl X x) (at_ : X.mg x = some (.ref f)) (keep : PySem.W.keepIn X.K (.ref f) = true) (kb : KBinds X.K fd ps ks g gV) (ps_ : Passes CX X E) (kw : PK X kws tk)
    (h1 : (backToKw pos (keywordEach kws X.env)).all (·.1.isSome) = true := by rfl) (h2 : (backToKw pos (keywordEach kws X.env)).filterMap (·.1) = ks := by rfl)
    (h3 : ((backTo pos (starEach [] X.env)).any (·.1) || (backToKw pos (keywordEach kws X.env)).any (·.1.isNone)) = false := by rfl) (h4 : (x == ("__debug__" : Str)) = false := by decide) :
    PE X (.Call (.Name x p) [] kws pos) (tCallK sp gV E tNil tk) := by
  constructor
  intro pins s σ H Q I h
  refine wpAny_Call_Name_kw (ld_glob I gl at_ ?_ h4)
  refine PySem.W.callWith_KW0 (h₀ := X.base) I.ok.mod.kin keep h1 (thn (kw.run pos pins s σ H _ I h) ?_) h3
  rintro ws s2 ⟨zs, H2, I2, rz, q2⟩
  refine ⟨I2.kIn, ?_⟩
  rw [h2]
  exact run_fnk (us := []) (vs := []) F room kb ps_ I2 .nil rz q2
/-- f(k = v) of a def of one parameter -/
def oneK {α : Type} : List α → List α → List α
  | [], [a] => [a]
  | _, _ => []
theorem kb_one {K : PySem.W.Frag} {fd : FuncData} {x : Str} (h : ∀ a : Value, bindArgs fd ⟨[], [(x, a)]⟩ = pure [(x, a)]) : KBinds K fd [x] [x] oneK oneK := by
  constructor
  · intro s us ws _ hl
    match us, ws, hl with
    | [], [a], _ => exact .of_eq (h a)
    | [], [], hl => cases hl
    | [], _ :: _ :: _, hl => cases hl
    | _ :: _, _, hl => cases hl
  · intro vs us zs ws r rz
    cases r with
    | nil =>
      cases rz with
      | nil => exact .nil
      | cons r1 t1 =>
        cases t1 with
        | nil => exact .cons r1 .nil
        | cons _ _ => exact .nil
    | cons _ _ => exact .nil
theorem Good.fits {d : PyData} (h : Good d) : d.showable = true ∧ d.depth ≤ 50 ∧ d.shown.length ≤ sizeLine := by
  obtain ⟨a, b, c, _⟩ := h
  refine ⟨a, by omega, ?_⟩
  rw [sizeLine_eq]
  omega
/-- what may be asked about -/
def Fine (p : Addr) (H : Hp) (x : V) : Prop := ∃ d, Th p H x d ∧ Good d
theorem Fine.same {p : Addr} {H H' : Hp} {x : V} (h : Fine p H x) (s : Same H H') : Fine p H' x := by
  obtain ⟨d, a, b⟩ := h
  exact ⟨d, a.same s, b⟩
theorem Nd.fine {p : Addr} {k c : Nat} {H : Hp} {x : V} (h : Nd p k c H x) (hk : k ≤ 20) (hc : c ≤ 10000000) : Fine p H x := by
  obtain ⟨d, a, b⟩ := h
  exact ⟨d, .dat a, b.mono hk hc⟩
section
variable {P : Program} {w : World} {K : PySem.W.Frag} {mg : Str → Option Value} {base : Heap}
/-! ### asked -/
def spAsked : Sp := fun vs H Q _ => ∃ (p : Addr) (v : V), vs = [v] ∧ Fine p H v ∧ ∀ H' : Hp, Same H H' → Q (.bl true) H'
theorem ok_asked {f : Addr} {fd : FuncData} {k : Nat} (F : Fun K "_law_asked" "_law_asked" sAsked f fd) (T : Defs K mg) : FnG P w K mg base (k + 6) f fd ["_law_thing"] spAsked := by
  obtain ⟨fO, fdO, FO, bO, gO⟩ := T.rule
  obtain ⟨fI, fdI, FI, bI, gI⟩ := T.due
  have GO : FnOk P w K mg base CX0 (k + 5) fO fdO ["value"] spRule := ok_rule FO T
  have GI : FnOk P w K mg base CX0 (k + 5) fI fdI ["_law_thing"] spDue := ok_due (k := k + 1) FI T
  refine fnG_mk F scAsked (fun vs H Q E h => ?_) (fun cdv A outer s H vs Q E hgd hr h => ?_)
  · obtain ⟨p, v, rfl, _⟩ := h
    rfl
  · obtain ⟨p, v, rfl, ⟨d, th, good⟩, q⟩ := h
    have gd : (cxOf CX0 P w K mg base ["_law_thing", "_law_kept", "_law_due_here"] "_law_asked" (defScope sAsked) f cdv A outer s H E).nox.A.guards = some [] := hgd
    refine ⟨_, pss_cons (ps_par (i := 1) (j := 2) (by rfl) scAsked.nd rfl rfl (by decide) rfl rfl (pa_cons (pe_callB (call_reprD gd hr.units) (by rfl) T.zRepr (by decide +kernel) (pa_cons (pv 0) pa_nil))
        (pa_cons (pe_callB (call_reprD gd hr.units) (by rfl) T.zRepr (by decide +kernel) (pa_cons (pe_call GI hr (by rfl) gI FI.kp bI .nil pass0 (pa_cons (pv 0) pa_nil)) pa_nil)) pa_nil)) (by rfl))
      (pss_one (ps_ret (pe_and (pe_cmpR op_eq (pe_callB (call_reprD gd hr.units) (by rfl) T.zRepr (by decide +kernel) (pa_cons (pe_call GO hr (by rfl) gO FO.kp bO .nil pass0 (pa_cons (pv 0) pa_nil)) pa_nil)) (pv 2) (nomark _))
        (pe_one (pe_cmpR op_eq (pe_callB (call_reprD gd hr.units) (by rfl) T.zRepr (by decide +kernel) (pa_cons (pv 0) pa_nil)) (pv 1) (nomark _)))))), ?_⟩
    obtain ⟨g1, g2, g3⟩ := good.fits
    have boolFits : ∀ b : Bool, (PyData.bool b).showable = true ∧ (PyData.bool b).depth ≤ 50 ∧ (PyData.bool b).shown.length ≤ sizeLine := fun b => by
      have z := el_bool b
      refine ⟨z.sh, Nat.le_trans z.dp (by omega), ?_⟩
      have := z.ln
      rw [sizeLine_eq]
      omega
    refine ⟨v, rfl, v, d, rfl, th.da, g1, g2, g3, ?_⟩
    refine ⟨v, rfl, p, v, d, rfl, th, good.fw, fun b H1 s1 ib => ?_⟩
    refine ⟨.bl b, .bool b, rfl, (Th.dat (p := p) (.bl b)).da, (boolFits b).1, (boolFits b).2.1, (boolFits b).2.2, ?_⟩
    refine ⟨_, _, rfl, ?_⟩
    refine ⟨v, rfl, p, v, d, rfl, th.same s1, good.fw, fun b2 H2 s2 ib2 => ?_⟩
    refine ⟨.bl b2, .bool b2, rfl, (Th.dat (p := p) (.bl b2)).da, (boolFits b2).1, (boolFits b2).2.1, (boolFits b2).2.2, ?_⟩
    have eb : b2 = b := by
      cases b <;> cases b2 <;> simp_all
    subst eb
    refine ⟨_, rfl, rfl, _, rfl, ?_⟩
    rw [decide_eq_true rfl]
    refine iteT ?_
    refine ⟨v, rfl, v, d, rfl, ((th.same s1).same s2).da, g1, g2, g3, _, rfl, rfl, ?_⟩
    rw [decide_eq_true rfl]
    exact q H2 (s1.trans s2)
end
/-! ### displays, by what they give -/
/-- evaluated where all of H0 stands, it gives such data and leaves all as it was -/
def EvD (p : Addr) (k c : Nat) (te : TE) (σ : L2.St) (H0 : Hp) : Prop := ∀ (H : Hp) (Q : VK), Same H0 H → (∀ G x, Same H G → Nd p k c G x → Q x G) → te σ H Q
def EvL (p : Addr) (k c n : Nat) (ta : TA) (σ : L2.St) (H0 : Hp) : Prop := ∀ (H : Hp) (Q : List V → Hp → Prop), Same H0 H → (∀ G xs, Same H G → Ek p k c G xs → xs.length = n → Q xs G) → ta σ H Q
/-- .. gives what may be asked about -/
def EvF (p : Addr) (te : TE) (σ : L2.St) (H0 : Hp) : Prop := ∀ (H : Hp) (Q : VK), Same H0 H → (∀ G x, Same H G → Fine p G x → Q x G) → te σ H Q
def EvFL (p : Addr) (n : Nat) (ta : TA) (σ : L2.St) (H0 : Hp) : Prop := ∀ (H : Hp) (Q : List V → Hp → Prop), Same H0 H → (∀ G xs, Same H G → (∀ x ∈ xs, Fine p G x) → xs.length = n → Q xs G) → ta σ H Q
section
variable {p : Addr} {k c k' c' n m : Nat} {te : TE} {ta : TA} {σ : L2.St} {H0 : Hp}
theorem EvD.mono (h : EvD p k c te σ H0) (hk : k ≤ k') (hc : c ≤ c') : EvD p k' c' te σ H0 := fun H Q s q => h H Q s fun G x sg nd => q G x sg (nd.mono hk hc)
theorem ev_int {i : Int} (h0 : -10 ≤ i) (h1 : i ≤ 200) : EvD p 0 20 (tC (.int i)) σ H0 := fun H Q _ q => q H _ (Same.refl H) (nd_int h0 h1)
theorem ev_bool {b : Bool} : EvD p 0 20 (tC (.bl b)) σ H0 := fun H Q _ q => q H _ (Same.refl H) (nd_bool b)
theorem ev_none : EvD p 0 20 (tC .non) σ H0 := fun H Q _ q => q H _ (Same.refl H) nd_none
theorem ev_text {x : Str} (h : (PyData.shown (.str x)).length ≤ 20) : EvD p 0 20 (tC (.str x)) σ H0 := fun H Q _ q => q H _ (Same.refl H) (nd_text h)
theorem evl_nil : EvL p k c 0 tNil σ H0 := fun H Q _ q => q H [] (Same.refl H) Ek.nil rfl
theorem evl_cons (h : EvD p k c te σ H0) (r : EvL p k c n ta σ H0) : EvL p k c (n + 1) (tCons te ta) σ H0 := fun H Q s q =>
  h H _ s fun G x sg nd => r G _ (s.trans sg) fun G2 xs sg2 ek l => q G2 (x :: xs) (sg.trans sg2) ((Ek.one (nd.keep (Same.dk sg2))).app ek) (by rw [List.length_cons, l])
theorem ev_tup (h : EvL p k c n ta σ H0) (l : n ≤ 200) : EvD p (k + 1) (n * (c + 2) + 3) (tTup ta) σ H0 := fun H Q s q =>
  h H _ s fun G xs sg ek e => ⟨by rw [e, sizeLine_eq]; omega, fun t nt => q _ _ (sg.trans (same_new nt)) ((ek.keep (Same.dk (same_new nt))).tuple upd_same (by omega) l)⟩
theorem ev_lst (hp : H0 p ≠ none) (h : EvL p k c n ta σ H0) (l : n ≤ 200) : EvD p (k + 1) (n * (c + 2) + 3) (tLst ta) σ H0 := fun H Q s q =>
  h H _ s fun G xs sg ek e => ⟨by rw [e, sizeLine_eq]; omega, fun t nt => q _ _ (sg.trans (same_new nt)) ((ek.keep (Same.dk (same_new nt))).list upd_same (fun z => by
    cases hh : H0 p with
    | none => exact hp hh
    | some o =>
      rw [z, (s.trans sg) _ _ hh] at nt
      cases nt) (by omega) l)⟩
/-- a tuple of one item, again and again -/
theorem ev_rep {K : PySem.W.Frag} {j : Int} (h : EvD p k c te σ H0) (hj : 2 ≤ j) (hj2 : j ≤ 17) : EvD p (k + 1) (17 * (c + 2) + 3) (tOp (rRepT K) (tTup (tCons te tNil)) (tC (.int j))) σ H0 := fun H Q s q =>
  h H _ s fun G x sg nd => ⟨by show 1 ≤ sizeLine; decide, fun t nt => ⟨t, j, [x], rfl, rfl, SqT.of upd_same, by simp, hj, by omega, by simp, fun u nu => by
    have e : (List.replicate j.toNat [x]).flatten = List.replicate j.toNat x := by simp
    have s2 := (same_new (o := .tup [x]) nt)
    have s3 := (same_new (o := .tup (List.replicate j.toNat [x]).flatten) nu)
    refine q _ _ ((sg.trans s2).trans s3) ?_
    have nd3 := nd.keep (Same.dk (p := p) (s2.trans s3))
    refine Ek.tuple (xs := (List.replicate j.toNat [x]).flatten) (m := 17) (fun y hy => ?_) upd_same ?_ (by omega)
    · rw [e] at hy
      rw [List.eq_of_mem_replicate hy]
      exact nd3
    · rw [e, List.length_replicate]
      omega⟩⟩
theorem EvD.fine (h : EvD p k c te σ H0) (hk : k ≤ 20) (hc : c ≤ 10000000) : EvF p te σ H0 := fun H Q s q => h H Q s fun G x sg nd => q G x sg (nd.fine hk hc)
theorem ev_var {i : Nat} {v : V} (e : σ[i]? = some (some v)) (h : Nd p k c H0 v) : EvD p k c (tVar i) σ H0 := fun H Q s q => ⟨v, e, q H v (Same.refl H) (h.keep (Same.dk s))⟩
theorem ev_dict (hp : H0 p ≠ none) : EvF p tDNewK σ H0 := fun H Q s q => fun t nt => by
  refine q _ _ (same_new nt) ⟨.dict [], .dct upd_same (fun z => ?_), ⟨by decide +kernel, by decide +kernel, by decide +kernel, by decide +kernel⟩⟩
  cases hh : H0 p with
  | none => exact hp hh
  | some o =>
    rw [z, s _ _ hh] at nt
    cases nt
/-- x = [..], a list of what may be asked about -/
theorem use_set {i : Nat} {U : TS} {D : Ends} {H : Hp} (h : EvFL p n ta σ H0) (s : Same H0 H) (ln : n ≤ 1000)
    (q : ∀ (G : Hp) (xs : List V) (l : Addr), Same H G → (∀ x ∈ xs, Fine p G x) → xs.length = n → G l = some (.lst xs) → U D (σ.set i (some (.ref l))) G) :
    tSeq (tAsg (tLst ta) (gName i)) U D σ H :=
  h H _ s fun G xs sg fine e => ⟨by rw [e, sizeLine_eq]; omega, fun l nl => q _ xs l (sg.trans (same_new nl)) (fun x hx => (fine x hx).same (same_new nl)) e upd_same⟩
/-- x + [..] -/
theorem use_cat {j : Nat} {H : Hp} {l0 : Addr} {xs0 : List V} {Q : VK} (h : EvFL p n ta σ H0) (s : Same H0 H) (ln : n ≤ 1000) (hx : σ[j]? = some (some (.ref l0))) (hl : H l0 = some (.lst xs0)) (l0n : xs0.length ≤ 1000) (f0 : ∀ x ∈ xs0, Fine p H x)
    (q : ∀ (G : Hp) (xs : List V) (l : Addr), Same H G → (∀ x ∈ xs, Fine p G x) → xs.length = xs0.length + n → G l = some (.lst xs) → Q (.ref l) G) :
    tOp rCat (tVar j) (tLst ta) σ H Q :=
  ⟨_, hx, h H _ s fun G xs sg fine e => ⟨by rw [e, sizeLine_eq]; omega, fun l nl => ⟨l0, l, xs0, xs, rfl, rfl, (sg.trans (same_new nl)) _ _ hl, upd_same, by rw [e, sizeLine_eq]; omega, fun u nu =>
    q _ (xs0 ++ xs) u ((sg.trans (same_new nl)).trans (same_new nu)) (fun x hx => by
      rcases List.mem_append.mp hx with z | z
      · exact ((f0 x z).same (sg.trans (same_new nl))).same (same_new nu)
      · exact ((fine x z).same (same_new nl)).same (same_new nu)) (by rw [List.length_append, e]) upd_same⟩⟩⟩
theorem use_setcat {i j : Nat} {U : TS} {D : Ends} {H : Hp} {l0 : Addr} {xs0 : List V} (h : EvFL p n ta σ H0) (s : Same H0 H) (ln : n ≤ 1000) (hx : σ[j]? = some (some (.ref l0))) (hl : H l0 = some (.lst xs0)) (l0n : xs0.length ≤ 1000) (f0 : ∀ x ∈ xs0, Fine p H x)
    (q : ∀ (G : Hp) (xs : List V) (l : Addr), Same H G → (∀ x ∈ xs, Fine p G x) → xs.length = xs0.length + n → G l = some (.lst xs) → U D (σ.set i (some (.ref l))) G) :
    tSeq (tAsg (tOp rCat (tVar j) (tLst ta)) (gName i)) U D σ H := use_cat (Q := fun x H1 => gName i x σ H1 (U D)) h s ln hx hl l0n f0 q
theorem use_retcat {j : Nat} {D : Ends} {H : Hp} {l0 : Addr} {xs0 : List V} (h : EvFL p n ta σ H0) (s : Same H0 H) (ln : n ≤ 1000) (hx : σ[j]? = some (some (.ref l0))) (hl : H l0 = some (.lst xs0)) (l0n : xs0.length ≤ 1000) (f0 : ∀ x ∈ xs0, Fine p H x)
    (q : ∀ (G : Hp) (xs : List V) (l : Addr), Same H G → (∀ x ∈ xs, Fine p G x) → xs.length = xs0.length + n → G l = some (.lst xs) → D.rt (.ref l) G) :
    tRet (tOp rCat (tVar j) (tLst ta)) D σ H := use_cat (Q := D.rt) h s ln hx hl l0n f0 q
theorem evf_nil : EvFL p 0 tNil σ H0 := fun H Q _ q => q H [] (Same.refl H) (fun _ h => by cases h) rfl
theorem evf_cons (h : EvF p te σ H0) (r : EvFL p n ta σ H0) : EvFL p (n + 1) (tCons te ta) σ H0 := fun H Q s q =>
  h H _ s fun G x sg nd => r G _ (s.trans sg) fun G2 xs sg2 ek l => q G2 (x :: xs) (sg.trans sg2) (fun y hy => by
    rcases List.mem_cons.mp hy with z | z
    · rw [z]
      exact nd.same sg2
    · exact ek y z) (by rw [List.length_cons, l])
end
end SL

namespace SL
open PySem PySem.Spec PyProof.Rows L2
abbrev nOrdT : List Str := ["_law_order", "_law_one"]
theorem scOrdT : FnScope nOrdT ["_law_order"] (defScope sOrdTable) := ⟨rfl, rfl, rfl, by decide +kernel, rfl, by decide +kernel, by decide +kernel⟩
theorem cutFrom (xs : List V) (k : Nat) : cutV xs (some (k : Int)) none = xs.drop k := by
  unfold cutV
  rw [show HT.sIx xs.length 0 (some (k : Int)) = min k xs.length from HT.sIx_nat xs.length 0 k, HT.sIx_none]
  by_cases h : k ≤ xs.length
  · rw [Nat.min_eq_left h]
    exact List.take_of_length_le (by rw [List.length_drop]; omega)
  · rw [Nat.min_eq_right (by omega), List.drop_length, List.drop_eq_nil_of_le (by omega)]
    simp
/-- x stands behind a in an order -/
def Behind (ns : List Int) (a x : Int) : Prop := ∃ j m : Nat, ns[j]? = some a ∧ ns[m]? = some x ∧ j < m
theorem behind_drop {ns : List Int} (nd : ns.Nodup) {a x : Int} {j : Nat} (hj : ns[j]? = some a) : x ∈ ns.drop (j + 1) ↔ Behind ns a x := by
  rw [List.mem_iff_getElem?]
  constructor
  · rintro ⟨i, hi⟩
    rw [List.getElem?_drop] at hi
    exact ⟨j, j + 1 + i, hj, hi, by omega⟩
  · rintro ⟨j', m, h1, h2, lt⟩
    have e := nd_ix nd hj h1
    subst e
    refine ⟨m - (j + 1), ?_⟩
    rw [List.getElem?_drop]
    rw [show j + 1 + (m - (j + 1)) = m by omega]
    exact h2
theorem order_table {n : Nat} {ns : List Int} {nss : List (List Int)} (perm : ns.Perm (R n)) (len : nss.length = n) (rows : ∀ a : Nat, a < n → (nss.getD a []).Pairwise (· < ·) ∧ ∀ x, x ∈ nss.getD a [] ↔ Behind ns a x) : Tb n nss := by
  have nd : ns.Nodup := perm.nodup_iff.mpr (R_nodup n)
  have at_ : ∀ a : Nat, a < n → ∃ j : Nat, ns[j]? = some (a : Int) := fun a ha => by
    have m : (a : Int) ∈ ns := perm.mem_iff.mpr (R_mem.mpr (by omega))
    exact List.mem_iff_getElem?.mp m
  refine ⟨len, fun ms hm => ?_, fun a b la lb => ?_⟩
  · obtain ⟨i, hi⟩ := List.mem_iff_getElem?.mp hm
    have li : i < nss.length := (List.getElem?_eq_some_iff.mp hi).1
    have e : nss.getD i [] = ms := by rw [List.getD_eq_getElem?_getD, hi]; rfl
    have r := rows i (by omega)
    rw [e] at r
    refine ⟨r.1, fun y hy => ?_⟩
    obtain ⟨_, m, _, h2, _⟩ := (r.2 y).mp hy
    exact perm.mem_iff.mp (List.mem_of_getElem? h2)
  · obtain ⟨ja, ha⟩ := at_ a la
    obtain ⟨jb, hb⟩ := at_ b (by omega)
    unfold Dec
    by_cases e : a = b
    · rw [if_pos e]
      intro h
      obtain ⟨j, m, h1, h2, lt⟩ := ((rows a la).2 a).mp h
      have := nd_ix nd h1 h2
      omega
    · rw [if_neg e, (rows a la).2, (rows b (by omega)).2]
      have ne : ja ≠ jb := fun z => by
        rw [z, hb] at ha
        have := Option.some.inj ha
        omega
      constructor
      · rintro ⟨j, m, h1, h2, lt⟩ ⟨j', m', h1', h2', lt'⟩
        have e1 := nd_ix nd h1 h2'
        have e2 := nd_ix nd h2 h1'
        omega
      · intro h
        refine ⟨ja, jb, ha, hb, ?_⟩
        rcases Nat.lt_or_ge ja jb with z | z
        · exact z
        · exact absurd ⟨jb, ja, hb, ha, by omega⟩ h
/-- tuple(xs), by a name -/
def rTupOf (K : PySem.W.Frag) : List V → Hp → VK → Prop := fun xs H Q => ∃ p ys, xs = [.ref p] ∧ ((SqL K H p ys ∧ ∀ l, H l = none → Q (.ref l) (upd H l (.tup ys))) ∨ (SqT K H p ys ∧ Q (.ref p) H))
theorem call_tupOf {X : Cx} : CallR X (.type "tuple") (rTupOf X.K) := call_tuple_of
section
variable {P : Program} {w : World} {K : PySem.W.Frag} {mg : Str → Option Value} {base : Heap}
def spOrdT : Sp := fun vs H Q _ => ∃ (l : Addr) (ns : List Int) (n : Nat), vs = [.ref l] ∧ H l = some (.lst (ns.map V.int)) ∧ ns.Perm (R n) ∧ n ≤ 60 ∧
  ∀ (H' : Hp) (t : Addr) (xs : List V) (nss : List (List Int)), Same H H' → H t = none → H' t = some (.tup xs) → RowsAt H' xs nss → Tb n nss → Q (.ref t) H'
theorem ok_ordT {f : Addr} {fd : FuncData} {k : Nat} (F : Fun K "_law_ordered_table" "_law_ordered_table" sOrdTable f fd) (T : Defs K mg) : FnOk P w K mg base CX0 (k + 1) f fd ["_law_order"] spOrdT := by
  refine F.ok scOrdT (fun vs H Q E h => ?_) (fun cdv A outer s H vs Q E hr h => ?_)
  · obtain ⟨l, ns, n, rfl, _⟩ := h
    rfl
  · obtain ⟨l, ns, n, rfl, hl, perm, n60, q⟩ := h
    refine ⟨_, pss_one (ps_ret (pe_callTy call_tuple_of (by rfl) T.zTuple (by decide +kernel) (pa_cons (pe_lc (own := [("_law_one", 1)]) (g := gName 1) (tt := tYes)
      (te := tCB (rTupOf K) (tCons (tCB (rSortedI K) (tCons (L2.tSl (rSlL K) (tVar 0) (tPart (tOp (rI0 fun i j => .int (i + j)) (tBM K "list" (rIndex K) (tVar 0) (tCons (tVar 1) tNil)) (tC (.int 1)))) tNoPart) tNil)) tNil)) rfl scOrdT.nd
      (pi_range1 rfl T.zRange (pa_cons (pe_callB call_len_seq (by rfl) T.zLen PySem.boot_len (pa_cons (pv 0) pa_nil)) pa_nil))
      (blkOk_by (own := [("_law_one", 1)]) (N := nOrdT) (sc := defScope sOrdTable) (by decide +kernel)) (fun _ _ _ _ _ => pg_name (i := 1) scOrdT.nd rfl (Or.inl rfl)) (fun _ _ _ _ _ => pts_nil)
      (fun _ _ _ _ _ => pe_callTy call_tupOf (by rfl) T.zTuple (by decide +kernel) (pa_cons (pe_callB cr_sortedI (by rfl) T.zSorted (by decide +kernel) (pa_cons
        (pe_slice sl_list (pv 0) (po_some (pe_op op_add (pe_bm PySem.F.plainAttrs_list PySem.F.slot_list_index PySem.F.type_list_index mt_index (pv 0) (pa_cons (pv 1) pa_nil)) pe_int)) po_none) pa_nil)) pa_nil))) pa_nil))), ?_⟩
    have nd : ns.Nodup := perm.nodup_iff.mpr (R_nodup n)
    have len : ns.length = n := by rw [perm.length_eq, R_len]
    refine ⟨.ref l, rfl, l, _, rfl, .inl (SqL.of hl), _, rfl, by omega, by rw [List.length_map]; omega, fun D nD => ?_⟩
    have eN : (((ns.map V.int).length : Nat) : Int).toNat = n := by rw [List.length_map]; omega
    refine lc_range (lo := 0) (n := _) (fun i G => Same H G ∧ ∃ xs nss, G D = some (.lst xs) ∧ RowsAt G xs nss ∧ nss.length = i ∧ ∀ a : Nat, a < i → (nss.getD a []).Pairwise (· < ·) ∧ ∀ x, x ∈ nss.getD a [] ↔ Behind ns a x) ⟨same_new nD, [], [], upd_same, .nil, rfl, fun a l => by omega⟩ ?_ ?_
    · rintro i G hi ⟨sm, xs, nss, hD, rows, ln, ok⟩
      have li : i < n := by rw [eN] at hi; exact hi
      have mi : (i : Int) ∈ ns := perm.mem_iff.mpr (R_mem.mpr (by omega))
      obtain ⟨j, hj⟩ := List.mem_iff_getElem?.mp mi
      have hlG := sm _ _ hl
      refine ⟨rfl, .ref l, rfl, .ref l, rfl, .inl ⟨rfl, _, SqL.of hlG⟩, _, rfl, l, _, _, j, .int (i : Int), rfl, rfl, SqL.of hlG, rfl, flat_ints ns, ?_, ?_, ?_, ?_⟩
      · rw [List.getElem?_map, hj]
        rfl
      · show ((i : Int) == (0 + (i : Int))) = true
        rw [Int.zero_add]
        exact beq_self_eq_true _
      · intro m z' lt hm
        rw [List.getElem?_map] at hm
        obtain ⟨y, hy, rfl⟩ := Option.map_eq_some_iff.mp hm
        show (y == (0 + (i : Int))) = false
        rw [Int.zero_add]
        refine beq_eq_false_iff_ne.mpr fun e => ?_
        rw [e] at hy
        have := nd_ix nd hy hj
        omega
      · refine ⟨j, 1, rfl, rfl, ((j + 1 : Nat) : Int), rfl, l, _, rfl, SqL.of hlG, fun u nu => ?_⟩
        rw [cutFrom, ← List.map_drop]
        have s1 := same_new (o := .lst ((ns.drop (j + 1)).map V.int)) nu
        refine ⟨u, ns.drop (j + 1), rfl, SqL.of upd_same, fun ks v pk sk nv => ?_⟩
        have s2 := same_new (o := .lst (ks.map V.int)) nv
        refine ⟨v, _, rfl, .inl ⟨SqL.of upd_same, fun t nt => ?_⟩⟩
        have s3 := same_new (o := .tup (ks.map V.int)) nt
        have s13 := (s1.trans s2).trans s3
        have hD3 := s13 _ _ hD
        have ndk : ks.Nodup := pk.nodup_iff.mpr (nd.sublist (List.drop_sublist _ _))
        have strict : ks.Pairwise (· < ·) := by
          have z := sk.and (List.nodup_iff_pairwise_ne.mp ndk)
          exact z.imp (fun h => by omega)
        refine ⟨_, hD3, ?_, fun b o hb => ?_, xs ++ [.ref t], nss ++ [ks], upd_same, ?_, ?_, fun a la => ?_⟩
        · have := rows.len
          exact small1000 (by omega)
        · rw [upd_ne (ne_of_none hb nD)]
          exact s13 _ _ (sm _ _ hb)
        · have tkD : Tk (upd (upd (upd G u (.lst ((ns.drop (j + 1)).map V.int))) v (.lst (ks.map V.int))) t (.tup (ks.map V.int))) (upd (upd (upd (upd G u (.lst ((ns.drop (j + 1)).map V.int))) v (.lst (ks.map V.int))) t (.tup (ks.map V.int))) D (.lst (xs ++ [.ref t]))) := fun c zs e => by
            rw [upd_ne (fun z => by rw [z, hD3] at e; cases e)]
            exact e
          exact ((rows.keep (Same.tk s13)).snoc upd_same).keep tkD
        · rw [List.length_append, ln]
          rfl
        · by_cases z : a = i
          · subst z
            have e : (nss ++ [ks]).getD a [] = ks := by
              rw [List.getD_eq_getElem?_getD, ← ln, List.getElem?_concat_length]
              rfl
            rw [e]
            refine ⟨strict, fun x => ?_⟩
            rw [pk.mem_iff, behind_drop nd hj]
          · have e : (nss ++ [ks]).getD a [] = nss.getD a [] := by
              rw [List.getD_eq_getElem?_getD, List.getD_eq_getElem?_getD, List.getElem?_append_left (by omega)]
            rw [e]
            exact ok a (by omega)
    · rintro G ⟨sm, xs, nss, hD, rows, ln, ok⟩
      rw [eN] at ln ok
      refine ⟨D, _, rfl, .inl ⟨SqL.of hD, fun t nt => ?_⟩⟩
      have s1 := same_new (o := .tup xs) nt
      exact q _ t xs nss (sm.trans s1) (sm.free nt) upd_same (rows.keep (Same.tk s1)) (order_table perm ln ok)
end
end SL

namespace SL
open PySem PySem.Spec PyProof.Rows L2
/-! ### lists of numbers in the heap -/
inductive LsAt (H : Hp) : List V → List (List Int) → Prop
  | nil : LsAt H [] []
  | cons {t : Addr} {vs : List V} {ns : List Int} {nss : List (List Int)} : H t = some (.lst (ns.map V.int)) → LsAt H vs nss → LsAt H (.ref t :: vs) (ns :: nss)
theorem LsAt.len {H : Hp} : ∀ {vs : List V} {nss : List (List Int)}, LsAt H vs nss → vs.length = nss.length
  | _, _, .nil => rfl
  | _, _, .cons h r => by rw [List.length_cons, List.length_cons, r.len]
theorem LsAt.get {H : Hp} : ∀ {vs : List V} {nss : List (List Int)}, LsAt H vs nss → ∀ i : Nat, i < nss.length → ∃ t, vs[i]? = some (.ref t) ∧ H t = some (.lst ((nss.getD i []).map V.int))
  | _, _, .nil, i, h => by simp at h
  | _, _, .cons h r, 0, _ => ⟨_, rfl, h⟩
  | _, _, .cons h r, i + 1, hi => r.get i (by simpa using hi)
theorem LsAt.mem {H : Hp} : ∀ {vs : List V} {nss : List (List Int)}, LsAt H vs nss → ∀ v ∈ vs, ∃ (t : Addr) (ns : List Int), v = .ref t ∧ H t = some (.lst (ns.map V.int))
  | _, _, .nil, v, hv => by cases hv
  | _, _, .cons h r, v, hv => by
    rcases List.mem_cons.mp hv with z | z
    · exact ⟨_, _, z, h⟩
    · exact r.mem v z
theorem LsAt.kept {H H' : Hp} : ∀ {vs : List V} {nss : List (List Int)}, LsAt H vs nss → (∀ t ns, V.ref t ∈ vs → H t = some (.lst ns) → H' t = some (.lst ns)) → LsAt H' vs nss
  | _, _, .nil, _ => .nil
  | _, _, .cons h r, k => .cons (k _ _ List.mem_cons_self h) (r.kept fun t ns m e => k t ns (List.mem_cons_of_mem _ m) e)
theorem LsAt.snoc {H : Hp} {t : Addr} {ns : List Int} (h : H t = some (.lst (ns.map V.int))) : ∀ {vs : List V} {nss : List (List Int)}, LsAt H vs nss → LsAt H (vs ++ [.ref t]) (nss ++ [ns])
  | _, _, .nil => .cons h .nil
  | _, _, .cons a r => .cons a (r.snoc h)
/-- one of them grows -/
theorem LsAt.grow {H : Hp} {u : Addr} {x : Int} : ∀ {vs : List V} {nss : List (List Int)} {i : Nat}, LsAt H vs nss → vs.Nodup → vs[i]? = some (.ref u) → LsAt (upd H u (.lst ((nss.getD i []).map V.int ++ [.int x]))) vs (nss.set i (nss.getD i [] ++ [x]))
  | _, _, i, .nil, _, e => by simp at e
  | _, _, 0, .cons (t := t) (vs := vs) (ns := ns) h r, nd, e => by
    have e1 : V.ref t = V.ref u := Option.some.inj e
    cases e1
    rw [List.nodup_cons] at nd
    refine .cons (by rw [upd_same]; show _ = some (HO.lst ((ns ++ [x]).map V.int)); rw [List.map_append]; rfl) (r.kept fun t' ms m e2 => ?_)
    rw [upd_ne (fun z => nd.1 (by rw [← z]; exact m))]
    exact e2
  | _, _, i + 1, .cons (t := t) (vs := vs) h r, nd, e => by
    rw [List.nodup_cons] at nd
    have m : V.ref u ∈ vs := List.mem_of_getElem? (show vs[i]? = some (.ref u) from e)
    refine .cons ?_ (r.grow (i := i) nd.2 e)
    rw [upd_ne (fun z => nd.1 (by rw [z]; exact m))]
    exact h
/-- tuple(sorted(row)) of each of them -/
theorem lc_sorted {K : PySem.W.Frag} {a D : Addr} {vs : List V} {mss : List (List Int)} {H : Hp} {σ : L2.St} {i0 : Nat} {Qd : Hp → Prop} (ha : H a = some (.lst vs)) (la : LsAt H vs mss) (nd : ∀ ms ∈ mss, ms.Nodup) (few : vs.length ≤ 100) (nD : H D = none)
    (hw : ∀ x, wipe ((wipe σ [i0]).set i0 (some x)) [i0] = wipe σ [i0]) (hx0 : ∀ x : V, ((wipe σ [i0]).set i0 (some x))[i0]? = some (some x))
    (hd : ∀ G xs nss, Same H G → G D = some (.lst xs) → RowsAt G xs nss → nss.length = mss.length → (∀ b : Nat, b < mss.length → (nss.getD b []).Pairwise (· < ·) ∧ ∀ x, x ∈ nss.getD b [] ↔ x ∈ mss.getD b []) → Qd G) :
    ∃ W : Nat → Nat → Hp → Prop, (∃ m, W 0 m (upd H D (.lst []))) ∧ ∀ i m H, W i m H →
      ((Itl K a).stop i H ∧ Qd H) ∨ ((Itl K a).go i H ∧ ∃ Nx : Hp → Prop, (∀ H', Nx H' → ∃ m', m' < m ∧ W (i + 1) m' H') ∧ ∀ x H', (Itl K a).yld i H x H' → gName i0 x (wipe σ [i0]) H' fun σ2 H2 => wipe σ2 [i0] = wipe σ [i0] ∧ tYes σ2 H2 fun b H3 =>
        if b = true then tCB (rTupOf K) (tCons (tCB (rSortedI K) (tCons (tVar i0) tNil)) tNil) σ2 H3 fun y H4 => ∃ acc, H4 D = some (.lst acc) ∧ acc.length < sizeLine ∧ Nx (upd H4 D (.lst (acc ++ [y]))) else Nx H3) := by
  have lenv := la.len
  refine lc_list (K := K) (a := a) (xs := vs) (fun i G => Same H G ∧ ∃ xs nss, G D = some (.lst xs) ∧ RowsAt G xs nss ∧ nss.length = i ∧ ∀ b : Nat, b < i → (nss.getD b []).Pairwise (· < ·) ∧ ∀ x, x ∈ nss.getD b [] ↔ x ∈ mss.getD b [])
    ⟨same_new nD, [], [], upd_same, .nil, rfl, fun a l => by omega⟩ (fun i G _ h => SqL.of (h.1 _ _ ha)) ?_ ?_
  · rintro i x G hx ⟨sm, xs, nss, hD, rows, ln, ok⟩
    have li : i < vs.length := (List.getElem?_eq_some_iff.mp hx).1
    obtain ⟨t, ht, hms⟩ := la.get i (by omega)
    rw [hx] at ht
    cases ht
    have ndi : (mss.getD i []).Nodup := nd _ (by
      rw [List.getD_eq_getElem?_getD, List.getElem?_eq_getElem (by omega)]
      exact List.getElem_mem _)
    refine ⟨hw _, ?_⟩
    refine ⟨.ref t, hx0 _, t, mss.getD i [], rfl, SqL.of (sm _ _ hms), fun ks v pk sk nv => ?_⟩
    have s2 := same_new (o := .lst (ks.map V.int)) nv
    refine ⟨v, _, rfl, .inl ⟨SqL.of upd_same, fun u nu => ?_⟩⟩
    have s3 := same_new (o := .tup (ks.map V.int)) nu
    have s13 := s2.trans s3
    have hD3 := s13 _ _ hD
    have ndk : ks.Nodup := pk.nodup_iff.mpr ndi
    have strict : ks.Pairwise (· < ·) := by
      have z := sk.and (List.nodup_iff_pairwise_ne.mp ndk)
      exact z.imp (fun h => by omega)
    refine ⟨_, hD3, ?_, fun b o hb => ?_, xs ++ [.ref u], nss ++ [ks], upd_same, ?_, ?_, fun b lb => ?_⟩
    · have := rows.len
      exact small1000 (by omega)
    · rw [upd_ne (ne_of_none hb nD)]
      exact s13 _ _ (sm _ _ hb)
    · have tkD : Tk (upd (upd G v (.lst (ks.map V.int))) u (.tup (ks.map V.int))) (upd (upd (upd G v (.lst (ks.map V.int))) u (.tup (ks.map V.int))) D (.lst (xs ++ [.ref u]))) := fun c zs e => by
        rw [upd_ne (fun z => by rw [z, hD3] at e; cases e)]
        exact e
      exact ((rows.keep (Same.tk s13)).snoc upd_same).keep tkD
    · rw [List.length_append, ln]
      rfl
    · by_cases z : b = i
      · subst z
        have e : (nss ++ [ks]).getD b [] = ks := by
          rw [List.getD_eq_getElem?_getD, ← ln, List.getElem?_concat_length]
          rfl
        rw [e]
        exact ⟨strict, fun x => pk.mem_iff⟩
      · have e : (nss ++ [ks]).getD b [] = nss.getD b [] := by
          rw [List.getD_eq_getElem?_getD, List.getD_eq_getElem?_getD, List.getElem?_append_left (by omega)]
        rw [e]
        exact ok b (by omega)
  · rintro G ⟨sm, xs, nss, hD, rows, ln, ok⟩
    exact hd G xs nss sm hD rows (by omega) (by rw [← lenv]; exact ok)
/-! ### any table -/
def Dn (i j a b : Nat) : Prop := max a b < i ∨ (max a b = i ∧ min a b < j)
structure Part (n i j : Nat) (mss : List (List Int)) : Prop where
  len : mss.length = n
  nd : ∀ a : Nat, a < n → (mss.getD a []).Nodup
  ins : ∀ (a : Nat) (x : Int), a < n → x ∈ mss.getD a [] → ∃ b : Nat, b < n ∧ x = b ∧ a ≠ b ∧ Dn i j a b
  one : ∀ a b : Nat, a < n → b < n → a ≠ b → Dn i j a b → ((b : Int) ∈ mss.getD a [] ↔ ¬ (a : Int) ∈ mss.getD b [])
theorem getD_set {mss : List (List Int)} {i a : Nat} {x : List Int} (hi : i < mss.length) : (mss.set i x).getD a [] = if a = i then x else mss.getD a [] := by
  rw [List.getD_eq_getElem?_getD, List.getD_eq_getElem?_getD, List.getElem?_set]
  by_cases h : a = i
  · subst h
    rw [if_pos rfl, if_pos rfl, if_pos hi]
    rfl
  · rw [if_neg (Ne.symm h), if_neg h]
theorem Part.step {n i j w l : Nat} {mss : List (List Int)} (h : Part n i j mss) (hi : i < n) (hj : j < i) (hwl : (w = i ∧ l = j) ∨ (w = j ∧ l = i)) : Part n i (j + 1) (mss.set w (mss.getD w [] ++ [(l : Int)])) := by
  have hw : w < mss.length := by rw [h.len]; omega
  have e : ∀ a : Nat, (mss.set w (mss.getD w [] ++ [(l : Int)])).getD a [] = if a = w then mss.getD w [] ++ [(l : Int)] else mss.getD a [] := fun a => getD_set hw
  have notin : (l : Int) ∉ mss.getD w [] := fun hm => by
    obtain ⟨b, hb, e1, ne, dn⟩ := h.ins w l (by omega) hm
    have : b = l := by omega
    subst this
    unfold Dn at dn
    omega
  have mem : ∀ (a : Nat) (x : Int), x ∈ (mss.set w (mss.getD w [] ++ [(l : Int)])).getD a [] ↔ x ∈ mss.getD a [] ∨ (a = w ∧ x = l) := fun a x => by
    rw [e a]
    by_cases z : a = w
    · subst z
      rw [if_pos rfl, List.mem_append, List.mem_singleton]
      simp
    · rw [if_neg z]
      simp [z]
  refine ⟨by rw [List.length_set]; exact h.len, fun a ha => ?_, fun a x ha hx => ?_, fun a b ha hb ne dn => ?_⟩
  · rw [e a]
    by_cases z : a = w
    · subst z
      rw [if_pos rfl, List.nodup_append]
      refine ⟨h.nd a ha, by simp, fun x hx y hy => ?_⟩
      rw [List.mem_singleton] at hy
      intro exy
      rw [exy, hy] at hx
      exact notin hx
    · rw [if_neg z]
      exact h.nd a ha
  · rcases (mem a x).mp hx with z | ⟨z1, z2⟩
    · obtain ⟨b, hb, e1, ne, dn⟩ := h.ins a x ha z
      refine ⟨b, hb, e1, ne, ?_⟩
      unfold Dn at dn ⊢
      omega
    · refine ⟨l, by omega, z2, by omega, ?_⟩
      unfold Dn
      omega
  · rw [mem a b, mem b a]
    by_cases old : Dn i j a b
    · have o := h.one a b ha hb ne old
      have n1 : ¬ (a = w ∧ (b : Int) = l) := by
        rintro ⟨z1, z2⟩
        unfold Dn at old
        omega
      have n2 : ¬ (b = w ∧ (a : Int) = l) := by
        rintro ⟨z1, z2⟩
        unfold Dn at old
        omega
      constructor
      · rintro (z | z) y
        · rcases y with y | y
          · exact (o.mp z) y
          · exact n2 y
        · exact n1 z
      · intro y
        exact Or.inl (o.mpr fun z => y (Or.inl z))
    · have pair : (a = w ∧ b = l) ∨ (a = l ∧ b = w) := by
        unfold Dn at dn old
        omega
      have m1 : (b : Int) ∉ mss.getD a [] := fun hm => by
        obtain ⟨b', _, e1, _, dn'⟩ := h.ins a b ha hm
        have : b' = b := by omega
        subst this
        exact old dn'
      have m2 : (a : Int) ∉ mss.getD b [] := fun hm => by
        obtain ⟨a', _, e1, _, dn'⟩ := h.ins b a hb hm
        have : a' = a := by omega
        subst this
        apply old
        unfold Dn at dn' ⊢
        omega
      rcases pair with ⟨z1, z2⟩ | ⟨z1, z2⟩
      · constructor
        · rintro _ (y | ⟨y1, y2⟩)
          · exact m2 y
          · omega
        · intro _
          exact Or.inr ⟨z1, by omega⟩
      · constructor
        · rintro (y | ⟨y1, y2⟩)
          · exact absurd y m1
          · omega
        · intro y
          exact absurd (Or.inr ⟨z2, by omega⟩) y
theorem Part.next {n i : Nat} {mss : List (List Int)} (h : Part n i i mss) : Part n (i + 1) 0 mss := by
  refine ⟨h.len, h.nd, fun a x ha hx => ?_, fun a b ha hb ne dn => ?_⟩
  · obtain ⟨b, hb, e1, ne, dn⟩ := h.ins a x ha hx
    refine ⟨b, hb, e1, ne, ?_⟩
    unfold Dn at dn ⊢
    omega
  · refine h.one a b ha hb ne ?_
    unfold Dn at dn ⊢
    omega
theorem Part.tb {n : Nat} {mss nss : List (List Int)} (h : Part n n 0 mss) (len : nss.length = mss.length) (ok : ∀ b : Nat, b < mss.length → (nss.getD b []).Pairwise (· < ·) ∧ ∀ x, x ∈ nss.getD b [] ↔ x ∈ mss.getD b []) : Tb n nss := by
  have hl := h.len
  refine ⟨by omega, fun ms hm => ?_, fun a b la lb => ?_⟩
  · obtain ⟨i, hi⟩ := List.mem_iff_getElem?.mp hm
    have li : i < nss.length := (List.getElem?_eq_some_iff.mp hi).1
    have e : nss.getD i [] = ms := by rw [List.getD_eq_getElem?_getD, hi]; rfl
    have r := ok i (by omega)
    rw [e] at r
    refine ⟨r.1, fun y hy => ?_⟩
    obtain ⟨b, hb, e1, _, _⟩ := h.ins i y (by omega) ((r.2 y).mp hy)
    rw [e1]
    exact R_mem.mpr (by omega)
  · unfold Dec
    by_cases e : a = b
    · rw [if_pos e, (ok a (by omega)).2]
      intro hm
      obtain ⟨b', _, e1, ne, _⟩ := h.ins a a la hm
      omega
    · rw [if_neg e, (ok a (by omega)).2, (ok b (by omega)).2]
      refine h.one a b la (by omega) e ?_
      unfold Dn
      omega
end SL

namespace SL
open PySem PySem.Spec PyProof.Rows L2
abbrev nAnyT : List Str := ["_law_pot_here", "_law_size", "_law_one", "_law_rows", "_law_two", "_law_winner", "_law_beaten", "_law_row"]
theorem scAnyT : FnScope nAnyT ["_law_pot_here", "_law_size"] (defScope sAnyTable) := ⟨rfl, rfl, rfl, by decide +kernel, rfl, by decide +kernel, by decide +kernel⟩
section
variable {P : Program} {w : World} {K : PySem.W.Frag} {mg : Str → Option Value} {base : Heap}
/-- what makes a table -/
def TabQ (n m : Nat) (p : Addr) (H : Hp) (Q : VK) : Prop := ∀ (H' : Hp) (t : Addr) (xs : List V) (nss : List (List Int)), Kp p H H' → Pot H' p m → H t = none → H' t = some (.tup xs) → RowsAt H' xs nss → Tb n nss → Q (.ref t) H'
def spAnyT : Sp := fun vs H Q _ => ∃ (p : Addr) (n m : Nat), vs = [.ref p, .int n] ∧ Pot H p (m + 300) ∧ n ≤ 16 ∧ TabQ n m p H Q
theorem ok_anyT {f : Addr} {fd : FuncData} {k : Nat} (F : Fun K "_law_any_table" "_law_any_table" sAnyTable f fd) (T : Defs K mg) : FnOk P w K mg base CX0 (k + 3) f fd ["_law_pot_here", "_law_size"] spAnyT := by
  obtain ⟨fT, fdT, FT, bT, gT⟩ := T.take
  obtain ⟨fP, fdP, FP, bP, gP⟩ := T.pick
  have GP : FnOk P w K mg base CX0 (k + 2) fP fdP ["_law_pot_here", "_law_some"] spPick := ok_pick FP FT bT gT T.zLen
  refine F.ok scAnyT (fun vs H Q E h => ?_) (fun cdv A outer s H vs Q E hr h => ?_)
  · obtain ⟨p, n, m, rfl, _⟩ := h
    rfl
  · obtain ⟨p, n, m, rfl, hp, n16, q⟩ := h
    refine ⟨_, pss_cons (ps_setLc (i := 3) (own := [("_law_one", 2)]) (g := gName 2) (tt := tYes) rfl scAnyT.nd rfl rfl (sw_true rfl rfl rfl (by decide +kernel)) (pi_range1 rfl T.zRange (pa_cons (pv 1) pa_nil))
          (blkOk_by (own := [("_law_one", 2)]) (N := nAnyT) (sc := defScope sAnyTable) (by decide +kernel)) (fun _ _ _ _ _ => pg_name (i := 2) scAnyT.nd rfl (Or.inl rfl)) (fun _ _ _ _ _ => pts_nil) (fun _ _ _ _ _ => pe_lst pa_nil))
      (pss_cons (ps_for PassesOwn.never rfl (pi_range1 rfl T.zRange (pa_cons (pv 1) pa_nil)) (pg_name (i := 2) scAnyT.nd rfl (Or.inl rfl))
        (pss_one (ps_for PassesOwn.never rfl (pi_range1 rfl T.zRange (pa_cons (pv 2) pa_nil)) (pg_name (i := 4) scAnyT.nd rfl (Or.inl rfl))
          (pss_cons (ps_set (i := 5) scAnyT.nd rfl (.inl rfl) (pe_call GP hr (by rfl) gP FP.kp bP .nil pass0 (pa_cons (pv 0) (pa_cons (pe_lst (pa_cons (pv 2) (pa_cons (pv 4) pa_nil))) pa_nil))))
          (pss_cons (ps_set (i := 6) scAnyT.nd rfl (.inl rfl) (pe_ix ix_list (pv 3) (pv 5) (fun _ _ => rfl)))
          (pss_one (ps_expr (pe_bm PySem.F.plainAttrs_list PySem.F.slot_list_append PySem.F.type_list_append mt_append (pv 6) (pa_cons (pe_op op_sub (pe_op op_add (pv 2) (pv 4)) (pv 5)) pa_nil)))))))))
      (pss_one (ps_ret (pe_callTy call_tuple_of (by rfl) T.zTuple (by decide +kernel) (pa_cons (pe_lc (own := [("_law_row", 7)]) (g := gName 7) (tt := tYes)
          (te := tCB (rTupOf K) (tCons (tCB (rSortedI K) (tCons (tVar 7) tNil)) tNil)) rfl scAnyT.nd (pi_list (pv 3))
          (blkOk_by (own := [("_law_row", 7)]) (N := nAnyT) (sc := defScope sAnyTable) (by decide +kernel)) (fun _ _ _ _ _ => pg_name (i := 7) scAnyT.nd rfl (Or.inl rfl)) (fun _ _ _ _ _ => pts_nil)
          (fun _ _ _ _ _ => pe_callTy call_tupOf (by rfl) T.zTuple (by decide +kernel) (pa_cons (pe_callB cr_sortedI (by rfl) T.zSorted (by decide +kernel) (pa_cons (pv 7) pa_nil)) pa_nil))) pa_nil))))), ?_⟩
    have eN : ((n : Int)).toNat = n := by omega
    -- the rows
    refine ⟨.int n, rfl, n, rfl, by omega, by omega, fun D nD => ?_⟩
    have nDp : D ≠ p := pot_ne hp nD
    refine lc_range (lo := 0) (n := ((n : Int)).toNat) (fun i G => Same H G ∧ ∃ vs : List V, G D = some (.lst vs) ∧ vs.Nodup ∧ vs.length = i ∧ LsAt G vs (List.replicate i []) ∧ ∀ t, V.ref t ∈ vs → t ≠ p ∧ t ≠ D ∧ H t = none) ⟨same_new nD, [], upd_same, List.nodup_nil, rfl, .nil, fun t h => by cases h⟩ ?_ ?_
    · rintro i G hi ⟨sm, vs, hD, nd, lv, ls, ap⟩
      refine ⟨rfl, Nat.zero_le _, fun t nt => ?_⟩
      have s1 := same_new (o := .lst []) nt
      have hD1 := s1 _ _ hD
      have tD : t ≠ D := fun z => by
        rw [z, hD] at nt
        cases nt
      refine ⟨_, hD1, ?_, fun b o hb => ?_, vs ++ [.ref t], upd_same, ?_, ?_, ?_, fun u hu => ?_⟩
      · exact small1000 (by omega)
      · rw [upd_ne (ne_of_none hb nD)]
        exact s1 _ _ (sm _ _ hb)
      · rw [List.nodup_append]
        refine ⟨nd, by simp, fun x hx y hy => ?_⟩
        rw [List.mem_singleton] at hy
        intro exy
        rw [exy, hy] at hx
        obtain ⟨t', ns', e', h'⟩ := ls.mem _ hx
        cases e'
        rw [nt] at h'
        cases h'
      · rw [List.length_append, lv]
        rfl
      · rw [List.replicate_succ']
        refine LsAt.snoc (ns := []) ?_ (ls.kept fun t' ns' m' e' => ?_)
        · rw [upd_ne tD]
          exact upd_same
        · rw [upd_ne (ap t' m').2.1]
          exact s1 _ _ e'
      · rcases List.mem_append.mp hu with z | z
        · exact ap u z
        · rw [List.mem_singleton] at z
          cases z
          exact ⟨pot_ne (hp.same sm) nt, tD, sm.free nt⟩
    rintro G0 ⟨sm0, vs, hD0, nd, lv, ls0, ap⟩
    rw [eN] at lv ls0
    have part0 : Part n 0 0 (List.replicate n []) := by
      have e : ∀ a : Nat, (List.replicate n ([] : List Int)).getD a [] = [] := fun a => by
        rw [List.getD_eq_getElem?_getD, List.getElem?_replicate]
        split <;> rfl
      refine ⟨List.length_replicate, fun a _ => by rw [e a]; exact List.nodup_nil, fun a x _ hx => ?_, fun a b _ _ ne dn => ?_⟩
      · rw [e a] at hx
        cases hx
      · unfold Dn at dn
        omega
    -- the pairs
    refine ⟨.int n, rfl, n, rfl, by omega, by omega, for_range (lo := 0) (n := ((n : Int)).toNat) (fun i σ G => i ≤ n ∧ (∃ y2 y4 y5 y6 y7, σ = [some (.ref p), some (.int n), y2, some (.ref D), y4, y5, y6, y7]) ∧ Kp p H G ∧ G D = some (.lst vs) ∧ Pot G p (m + 17 * (n - i)) ∧ ∃ mss, LsAt G vs mss ∧ Part n i 0 mss)
      ⟨by omega, ⟨_, _, _, _, _, rfl⟩, Kp.same sm0, hD0, (hp.same sm0).less (by omega), _, ls0, part0⟩ ?_ ?_⟩
    · rintro i σ G hi ⟨_, ⟨y2, y4, y5, y6, y7, rfl⟩, kp, hD, pot, mss, ls, part⟩
      have li : i < n := by omega
      refine ⟨_, rfl, _, rfl, by omega, by omega, for_range (lo := 0) (n := (0 + (i : Int)).toNat) (fun j σ G => j ≤ i ∧ (∃ y4 y5 y6 y7, σ = [some (.ref p), some (.int n), some (.int (0 + (i : Int))), some (.ref D), y4, y5, y6, y7]) ∧ Kp p H G ∧ G D = some (.lst vs) ∧ Pot G p (m + 17 * (n - (i + 1)) + (17 - j)) ∧ ∃ mss, LsAt G vs mss ∧ Part n i j mss)
        ⟨by omega, ⟨_, _, _, _, rfl⟩, kp, hD, pot.less (by omega), mss, ls, part⟩ ?_ ?_⟩
      · rintro j σ G1 hj ⟨_, ⟨y4, y5, y6, y7, rfl⟩, kp1, hD1, pot1, mss1, ls1, part1⟩
        have lj : j < i := by omega
        refine ⟨.ref p, rfl, _, rfl, _, rfl, Nat.le_of_lt (small1000 (by show 2 ≤ 1000; decide)), fun c nc => ?_⟩
        have s1 := same_new (o := .lst [.int (0 + (i : Int)), .int (0 + (j : Int))]) nc
        refine ⟨p, c, _, m + 17 * (n - (i + 1)) + (17 - (j + 1)), rfl, (pot1.same s1).less (by omega), upd_same, pot_ne pot1 nc, by show 0 < 2; decide, by show 2 ≤ 1000; decide, fun G2 z x kp2 pot2 hx => ?_⟩
        have lenm := part1.len
        obtain ⟨ww, ll, rfl, hwl⟩ : ∃ ww ll : Nat, x = .int (ww : Int) ∧ ((ww = i ∧ ll = j) ∨ (ww = j ∧ ll = i)) := by
          have mem := List.mem_of_getElem? hx
          simp only [List.mem_cons, List.not_mem_nil, or_false] at mem
          rcases mem with e | e
          · exact ⟨i, j, by rw [e, Int.zero_add], .inl ⟨rfl, rfl⟩⟩
          · exact ⟨j, i, by rw [e, Int.zero_add], .inr ⟨rfl, rfl⟩⟩
        have hD2 : G2 D = some (.lst vs) := kp2 _ _ nDp (s1 _ _ hD1)
        have ls2 : LsAt G2 vs mss1 := ls1.kept fun t ns m' e => kp2 _ _ (ap t m').1 (s1 _ _ e)
        obtain ⟨t, ht, hms⟩ := ls2.get ww (by omega)
        have apt := ap t (List.mem_of_getElem? ht)
        refine ⟨.ref D, rfl, _, rfl, D, vs, ww, .ref t, rfl, rfl, SqL.of hD2, atI_nat ht, ?_⟩
        refine ⟨.ref t, rfl, .inl ⟨rfl, _, SqL.of hms⟩, _, rfl, _, rfl, _, _, rfl, rfl, _, rfl, _, _, rfl, rfl, t, _, _, rfl, rfl, hms, ?_, ?_⟩
        · rw [List.length_map]
          have := len_of_sub (mss1.getD ww []) (R n) (part1.nd ww (by omega)) fun y hy => by
            obtain ⟨b, hb, e1, _, _⟩ := part1.ins ww y (by omega) hy
            rw [e1]
            exact R_mem.mpr (by omega)
          rw [R_len] at this
          exact small1000 (by omega)
        · have eL : (0 + (i : Int)) + (0 + (j : Int)) - (ww : Int) = (ll : Int) := by omega
          refine ⟨by omega, ⟨_, _, _, _, rfl⟩, fun b o nb hb => ?_, ?_, ?_, mss1.set ww (mss1.getD ww [] ++ [(ll : Int)]), ?_, part1.step li lj hwl⟩
          · have bt : b ≠ t := ne_of_none hb apt.2.2
            rw [upd_ne bt]
            exact kp2 _ _ nb (s1 _ _ (kp1 _ _ nb hb))
          · rw [upd_ne apt.2.1.symm]
            exact hD2
          · obtain ⟨a1, a2, a3, z1, z2⟩ := pot2
            exact ⟨a1, a2, a3, by rw [upd_ne apt.1.symm]; exact z1, z2⟩
          · show LsAt (upd G2 t (.lst ((mss1.getD ww []).map V.int ++ [.int ((0 + (i : Int)) + (0 + (j : Int)) - (ww : Int))]))) vs _
            rw [eL]
            exact ls2.grow nd ht
      · rintro σ G1 ⟨_, ⟨y4, y5, y6, y7, rfl⟩, kp1, hD1, pot1, mss1, ls1, part1⟩
        have eI : (0 + (i : Int)).toNat = i := by omega
        rw [eI] at part1 pot1
        exact ⟨by omega, ⟨_, _, _, _, _, rfl⟩, kp1, hD1, pot1.less (by omega), mss1, ls1, part1.next⟩
    · rintro σ G ⟨_, ⟨y2, y4, y5, y6, y7, rfl⟩, kp, hD, pot, mss, ls, part⟩
      rw [eN] at part pot
      have lenm := part.len
      refine ⟨.ref D, rfl, D, rfl, ⟨_, SqL.of hD⟩, fun D2 nD2 => ?_⟩
      refine lc_sorted (K := K) hD ls (fun ms hm => ?_) (by omega) nD2 (fun _ => rfl) (fun _ => rfl) (fun G2 xs nss sm2 hD2 rows len ok => ?_)
      · obtain ⟨i, hi⟩ := List.mem_iff_getElem?.mp hm
        have e : mss.getD i [] = ms := by rw [List.getD_eq_getElem?_getD, hi]; rfl
        rw [← e]
        exact part.nd i (by have := (List.getElem?_eq_some_iff.mp hi).1; omega)
      · refine ⟨D2, _, rfl, .inl ⟨SqL.of hD2, fun t nt => ?_⟩⟩
        have s3 := same_new (o := .tup xs) nt
        have kpT : Kp p H (upd G2 t (.tup xs)) := (kp.trans (Kp.same sm2)).trans (Kp.same s3)
        refine q _ t xs nss kpT ((pot.same (sm2.trans s3)).less (by omega)) ?_ upd_same (rows.keep (Same.tk s3)) (part.tb len ok)
        cases hh : H t with
        | none => rfl
        | some o =>
          by_cases etp : t = p
          · obtain ⟨ys, hy⟩ := (pot.same sm2).lst
            rw [etp, hy] at nt
            cases nt
          · rw [(kp.trans (Kp.same sm2)) _ _ etp hh] at nt
            cases nt
end
end SL

namespace SL
open PySem PySem.Spec PyProof.Rows L2
/-! ### enumerate(t), a tuple -/
section
open PySem.AutoSeq1 (wpAny_loadPart')
set_option maxHeartbeats 1000000 in
theorem enum_new (l : Addr) (items : Array Value) : Meets (Builtin.«enumerate.__new__» ⟨[.type "enumerate", .ref l], []⟩) (fun _ R s => s.heap.IsTuple l items ∧
      R (.ok (.ret (.ref (s.heap.push { cls := .type "tuple_iterator", data := .fields #[.ref l, .int 0 0] }).objs.size)))
        { s with heap := (s.heap.push { cls := .type "tuple_iterator", data := .fields #[.ref l, .int 0 0] }).push { cls := .type "enumerate", data := .fields #[.none, .bool false, .ref s.heap.objs.size, rawInt 0, .none, .none] } }) :=
  .of_wp fun prog w A R s hyp => by
    obtain ⟨hp, gens, dr, tk, os⟩ := s
    obtain ⟨isT, goal⟩ := hyp
    have sub := sub_enumerate
    have iter : ∀ {A' : Around} {E : Value → Shared → Prop} {Q : Value → Shared → Prop}, Q (.ref hp.objs.size) ⟨hp.push { cls := .type "tuple_iterator", data := .fields #[.ref l, .int 0 0] }, gens, dr, tk, os⟩ → wpAny (model prog w) A' (pyIter (.ref l)) Q E ⟨hp, gens, dr, tk, os⟩ :=
      fun q => wpAny_pyIter_tuple isT q
    wp_walk using iter
    refine wpAny_stack_any fun st => wpAny_pure ?_
    split
    · rename_i c _ _ _ _ _
      cases (c == Value.type "enumerate") <;> (wp_walk using iter; exact ⟨_, rfl, goal⟩)
    · wp_walk using iter
      exact ⟨_, rfl, goal⟩
end
section
variable {prog : Program} {w : World} {A : Around} {E : Value → Shared → Prop} {s : Shared}
theorem enum_call {l : Addr} {items : Array Value} {Q : Value → Shared → Prop} (isT : s.heap.IsTuple l items)
    (h : ∀ h', IsEnum h' (s.heap.objs.size + 1) s.heap.objs.size 0 .none → h'.IsTupleIter s.heap.objs.size l 0 →
      (∀ b o, s.heap.get? b = some o → h'.get? b = some o) → Q (.ref (s.heap.objs.size + 1)) { s with heap := h' }) :
    wpAny (model prog w) A (call (.type "enumerate") [.ref l]) Q E s := by
  refine callType_new F.called_enumerate (by decide) (F.typeCall_enumerate_1 _) (F.newCall_enumerate_1 _) (fun obj => F.args_object_init_2 obj _) F.entry_enumerate_new (enum_new l items) ⟨isT, ?_⟩
  have hz : (s.heap.push { cls := .type "tuple_iterator", data := .fields #[.ref l, .int 0 0] }).objs.size = s.heap.objs.size + 1 := Heap.size_push ..
  show _ ∧ _
  rw [hz]
  have he : IsEnum ((s.heap.push { cls := .type "tuple_iterator", data := .fields #[.ref l, .int 0 0] }).push
      { cls := .type "enumerate", data := .fields #[.none, .bool false, .ref s.heap.objs.size, rawInt 0, .none, .none] }) (s.heap.objs.size + 1) s.heap.objs.size 0 .none := by
    have z := Heap.get?_push_size (s.heap.push { cls := .type "tuple_iterator", data := .fields #[.ref l, .int 0 0] })
      (o := { cls := .type "enumerate", data := .fields #[.none, .bool false, .ref s.heap.objs.size, rawInt 0, .none, .none] }) rfl
    rw [hz] at z
    exact z
  exact ⟨⟨_, he, rfl⟩, h _ he ⟨_, Heap.get?_push_of_some _ (Heap.get?_push_size _ rfl), rfl, rfl⟩ fun b o x => Heap.get?_push_of_some _ (Heap.get?_push_of_some _ x)⟩
end
def IteT (K : PySem.W.Frag) (a : Addr) : It :=
  ⟨fun i H => ∃ (xs : List V) (x : V), SqT K H a xs ∧ xs[i]? = some x, fun i H v H' => ∃ T x, v = .ref T ∧ H T = none ∧ H' = upd H T (.tup [.int (i : Nat), x]) ∧ ∀ xs, SqT K H a xs → xs[i]? = some x,
    fun i H => ∃ xs : List V, SqT K H a xs ∧ xs.length = i⟩
theorem turn_enumT {P : Program} {w : World} {K : PySem.W.Frag} {elts : List Expr} {kk : Nat} {tpos : Pos} (a e it : Addr) :
    Turn P w K (.Tuple elts kk tpos) (IteT K a) [e, it] e (fun i h => (∃ old, IsEnum h e it ((i : Nat) : Int) old) ∧ h.IsTupleIter it a i ∧ e ≠ it ∧ a ≠ it ∧ a ≠ e) where
  mem := by simp
  obj := by
    rintro i h ⟨⟨old, he⟩, ⟨o, ho, hc, hd⟩, _⟩ b hb
    have cs : b = e ∨ b = it := by simpa using hb
    rcases cs with z | z
    · rw [z]
      exact ⟨_, he, fun v q => nomatch q⟩
    · rw [z]
      exact ⟨o, ho, fun v q => by rw [hd] at q; cases q⟩
  keep := by
    rintro i h h' ⟨⟨old, he⟩, hi, r⟩ k
    exact ⟨⟨old, k e (by simp) _ he⟩, hi.at fun o q => k it (by simp) o q, r⟩
  item := by
    rintro X rfl rfl rfl calm i pins s σ H E I hf ⟨⟨old, he⟩, hit, hne, ai, ae⟩ ⟨xs, x, hq, hx⟩
    obtain ⟨its, rv, ht, hz⟩ := I.tuple hq
    obtain ⟨u, hu, ru⟩ := rv.get hx
    have hel : e < s.heap.objs.size := Heap.lt_size he
    have hil : it < s.heap.objs.size := by
      obtain ⟨_, q, _⟩ := hit
      exact Heap.lt_size q
    have li : i < its.toArray.size := by
      rw [List.size_toArray]
      exact (List.getElem?_eq_some_iff.mp hu).1
    have dr := Draws.tuple (prog := X.prog) (w := X.w) (A := X.A.in1) (show X.A.in1.handled = none from I.ok.hd calm) it a ai its.toArray
    refine wpAny_pyNext_enum_itemD dr he ⟨hit, ht⟩ li hne (by simp [hne, Ne.symm ae]) fun y h' tk hy ho st' hT hsz hk => ?_
    have ey : y = u := by
      have z : its[i]? = some y := by simpa using hy
      rw [hu] at z
      exact (Option.some.inj z).symm
    subst ey
    refine ⟨_, rfl, wpAny_letOwnedTupleGo_enum (s := { s with heap := h', toks := tk + 1 }) ho fun h'' he' sb => ?_⟩
    have hT2 : h''.get? s.heap.objs.size = some { cls := .type "tuple", data := .seq #[.int i tk, y] } := (sb.2 _ (Nat.ne_of_gt hel)).trans hT
    have fresh : ObjOk X.prog X.w (upd H s.heap.objs.size (.tup [.int (i : Nat), x])) h'' s.heap.objs.size (.tup [.int (i : Nat), x]) :=
      ⟨by show 2 ≤ sizeLine; decide, [.int i tk, y], .cons ⟨_, rfl⟩ (.cons ru .nil), ⟨_, hT2, rfl, _, rfl⟩⟩
    have I1 : Inv X pins σ (upd H s.heap.objs.size (.tup [.int (i : Nat), x])) { s with heap := h'', toks := tk + 1 } :=
      I.turnedNew (ch := [e, it]) (fun b ob hb q => (sb.2 b (fun z => hb (by simp [z]))).trans (hk b ob (fun z => hb (by simp [z])) (fun z => hb (by simp [z])) q)) hf (Nat.le_refl _) fresh
    refine ⟨.ref s.heap.objs.size, _, I1, rfl, ⟨_, x, rfl, I.hok.fresh (Nat.le_refl _), rfl, fun ys hy => by rw [I.tuple_inj hy hq]; exact hx⟩, ⟨⟨y, ?_⟩, st'.1.at fun o q => (sb.2 it (Ne.symm hne)).trans q, hne, ai, ae⟩, fun b hb => ?_⟩
    · rw [show ((i + 1 : Nat) : Int) = (i : Int) + 1 by omega]
      exact he'
    · have hb' : b < s.heap.objs.size := by
        have cs : b = e ∨ b = it := by simpa using hb
        rcases cs with z | z
        · rw [z]
          exact hel
        · rw [z]
          exact hil
      rw [upd_ne (Nat.ne_of_lt hb')]
      exact (hf b hb).1
  done := by
    rintro X rfl rfl rfl calm i pins s σ H E I hf ⟨⟨old, he⟩, hit, hne, ai, ae⟩ ⟨xs, hq, hx⟩
    obtain ⟨its, rv, ht, hz⟩ := I.tuple hq
    obtain ⟨f0, f1, f2, f3, f4, f5⟩ := hf it (by simp)
    have si : its.toArray.size = i := by rw [List.size_toArray, ← rv.length]; exact hx
    have dr := Draws.tuple (prog := X.prog) (w := X.w) (A := X.A.in1) (show X.A.in1.handled = none from I.ok.hd calm) it a ai its.toArray
    exact wpAny_pyNext_enum_endD dr he ⟨by rw [si]; exact hit, ht⟩ fun h' eb => ⟨rfl, I.turned (t' := s.toks) (fun b o hb q => eb b o hb q) f0 f1 f3 f4 f5⟩
  self := fun A i s Q E st h => let ⟨⟨_, he⟩, _⟩ := st; wpAny_pyIter_enum he h
def iEnumT (K : PySem.W.Frag) (ta : TA) : TI := fun σ H R => ta σ H fun vs H1 => ∃ a xs, vs = [.ref a] ∧ H1 a = some (.tup xs) ∧ R (IteT K a) H1
theorem pi_enumT {X : Cx} {e : Expr} {ta : TA} {p pos tpos : Pos} {elts : List Expr} {kk : Nat} (g1 : Gl X "enumerate") (m1 : X.mg "enumerate" = none) (ha : PA X [e] ta) (one : starEach [e] X.env = [(false, eval e X.env)] := by rfl) :
    PI X (.Tuple elts kk tpos) (.Call (.Name "enumerate" p) [e] [] pos) (iEnumT X.K ta) := by
  constructor
  intro pins s σ H R I h
  refine Call_ (ld_blt I g1 m1 boot_enumerate (callWith_type1 (thn (ha.run pos pins s σ H _ I h) ?_) one rfl))
  rintro us s1 ⟨vs, H1, I1, r1, a, xs, rfl, hq, q⟩
  cases r1 with
  | cons r rr =>
    cases rr
    cases r
    obtain ⟨its, rv, ht, hz⟩ := I1.tuple (SqT.of (K := X.K) hq)
    have al : a < s1.heap.objs.size := I1.hok.lt hq
    refine enum_call (show s1.heap.IsTuple a its.toArray from ht) fun h' he hit kept => wpAny_pyIter_enum he ?_
    have I2 : Inv X pins σ H1 { s1 with heap := h' } := I1.kept (t' := s1.toks) kept
    refine ⟨s1.heap.objs.size + 1, [s1.heap.objs.size + 1, s1.heap.objs.size], _, _, H1, rfl, I2, turn_enumT a (s1.heap.objs.size + 1) s1.heap.objs.size, ⟨⟨.none, he⟩, hit, Nat.succ_ne_self _, Nat.ne_of_lt al, Nat.ne_of_lt (Nat.lt_succ_of_lt al)⟩, fun b hb => ?_, q⟩
    have cs : b = s1.heap.objs.size + 1 ∨ b = s1.heap.objs.size := by simpa using hb
    have hle : s1.heap.objs.size ≤ b := by
      rcases cs with z | z
      · rw [z]
        exact Nat.le_succ _
      · rw [z]
        exact Nat.le_refl _
    exact I1.fpOk hle (I1.hok.fresh hle)
/-- a loop over enumerate(t) -/
theorem for_enumT {K : PySem.W.Frag} {a : Addr} {xs : List V} {g : TG} {tb : TS} {D : Ends} {σ : L2.St} {H : Hp} (Pv : Nat → L2.St → Hp → Prop) (h0 : Pv 0 σ H) (hq : ∀ i σ H, Pv i σ H → SqT K H a xs)
    (hs : ∀ (i : Nat) (x : V) (T : Addr) (σ : L2.St) (H : Hp), xs[i]? = some x → Pv i σ H → H T = none → g (.ref T) σ (upd H T (.tup [.int (i : Nat), x])) fun σ2 H2 => tb { D with nx := Pv (i + 1), ct := Pv (i + 1), bk := D.nx } σ2 H2) (hd : ∀ σ H, Pv xs.length σ H → D.nx σ H) :
    ∃ W : Nat → Nat → L2.St → Hp → Prop, (∃ m, W 0 m σ H) ∧ ∀ i m σ H, W i m σ H →
      ((IteT K a).stop i H ∧ D.nx σ H) ∨ ((IteT K a).go i H ∧ ∃ N : L2.St → Hp → Prop, (∀ σ' H', N σ' H' → ∃ m', m' < m ∧ W (i + 1) m' σ' H') ∧ ∀ v H', (IteT K a).yld i H v H' → g v σ H' fun σ2 H2 => tb { D with nx := N, ct := N, bk := D.nx } σ2 H2) := by
  refine ⟨fun i m σ H => m = xs.length - i ∧ i ≤ xs.length ∧ Pv i σ H, ⟨_, rfl, Nat.zero_le _, h0⟩, ?_⟩
  rintro i m σ H ⟨rfl, hi, pv⟩
  have q := hq i σ H pv
  by_cases lt : i < xs.length
  · refine Or.inr ⟨⟨xs, _, q, List.getElem?_eq_getElem lt⟩, Pv (i + 1), fun σ' H' p' => ⟨_, by omega, rfl, by omega, p'⟩, ?_⟩
    rintro v H' ⟨T, x, rfl, nT, rfl, f1⟩
    exact hs i x T σ H (f1 xs q) pv nT
  · have e : i = xs.length := by omega
    refine Or.inl ⟨⟨xs, q, e.symm⟩, hd σ H ?_⟩
    rw [← e]
    exact pv
end SL

namespace SL
open PySem PySem.Spec PyProof.Rows L2
abbrev nTurn : List Str := ["_law_pot_here", "_law_table_here", "_law_one", "_law_two", "_law_pair", "_law_rows", "_law_at", "_law_row", "_law_winner", "_law_loser", "_law_beaten", "_law_near"]
theorem scTurn : FnScope nTurn ["_law_pot_here", "_law_table_here"] (defScope sTurned) := ⟨rfl, rfl, rfl, by decide +kernel, rfl, by decide +kernel, by decide +kernel⟩
theorem Tb.part {n : Nat} {nss : List (List Int)} (h : Tb n nss) : Part n n 0 nss := by
  have row : ∀ a : Nat, a < n → Row n (nss.getD a []) := fun a ha => h.2.1 _ (by
    rw [List.getD_eq_getElem?_getD, List.getElem?_eq_getElem (by rw [h.1]; exact ha)]
    exact List.getElem_mem _)
  refine ⟨h.1, fun a ha => strict_nodup (row a ha).1, fun a x ha hx => ?_, fun a b ha hb ne _ => ?_⟩
  · have z := R_mem.mp ((row a ha).2 x hx)
    refine ⟨x.toNat, by omega, by omega, fun e => ?_, ?_⟩
    · have d := h.2.2 a a ha (Nat.le_refl _)
      unfold Dec at d
      rw [if_pos rfl] at d
      exact d (by rw [show (a : Int) = x by omega]; exact hx)
    · unfold Dn
      omega
  · rcases Nat.lt_or_ge b a with lt | ge
    · have d := h.2.2 a b ha (by omega)
      unfold Dec at d
      rw [if_neg ne] at d
      exact d
    · have d := h.2.2 b a hb ge
      unfold Dec at d
      rw [if_neg (Ne.symm ne)] at d
      constructor
      · intro h1 h2
        exact (d.mp h2) h1
      · intro h2
        exact Classical.byContradiction fun h1 => h2 (d.mpr h1)
/-- a pair is turned -/
def kept (o t : Nat) (a : Nat) (x : Int) : Bool := !((decide (a = o) && decide (x = (t : Int))) || (decide (a = t) && decide (x = (o : Int))))
theorem kept_iff {o t a : Nat} {x : Int} : kept o t a x = true ↔ ¬ ((a = o ∧ x = t) ∨ (a = t ∧ x = o)) := by
  unfold kept
  by_cases h1 : (a = o ∧ x = (t : Int)) ∨ (a = t ∧ x = (o : Int))
  · have z : ((decide (a = o) && decide (x = (t : Int))) || (decide (a = t) && decide (x = (o : Int)))) = true := by
      rw [Bool.or_eq_true, Bool.and_eq_true, Bool.and_eq_true, decide_eq_true_eq, decide_eq_true_eq, decide_eq_true_eq, decide_eq_true_eq]
      exact h1
    rw [z]
    exact ⟨fun y => (by cases y), fun y => absurd h1 y⟩
  · have z : ((decide (a = o) && decide (x = (t : Int))) || (decide (a = t) && decide (x = (o : Int)))) = false := by
      rw [← Bool.not_eq_true, Bool.or_eq_true, Bool.and_eq_true, Bool.and_eq_true, decide_eq_true_eq, decide_eq_true_eq, decide_eq_true_eq, decide_eq_true_eq]
      exact h1
    rw [z]
    exact ⟨fun _ => h1, fun _ => rfl⟩
theorem cutTo (xs : List V) (k : Nat) (h : k ≤ xs.length) : cutV xs none (some (k : Int)) = xs.take k := by
  unfold cutV
  rw [show HT.sIx xs.length xs.length (some (k : Int)) = min k xs.length from HT.sIx_nat xs.length xs.length k, HT.sIx_none, Nat.min_eq_left h]
  rfl
theorem Part.turn {n o t w l : Nat} {nss fss : List (List Int)} (h : Part n n 0 nss) (ho : o < n) (ht : t < n) (ne : o ≠ t) (len : fss.length = n) (hf : ∀ a : Nat, a < n → fss.getD a [] = (nss.getD a []).filter (kept o t a))
    (hwl : (w = o ∧ l = t) ∨ (w = t ∧ l = o)) : Part n n 0 (fss.set w (fss.getD w [] ++ [(l : Int)])) := by
  have hw : w < fss.length := by omega
  have memf : ∀ (a : Nat) (x : Int), a < n → (x ∈ fss.getD a [] ↔ x ∈ nss.getD a [] ∧ ¬ ((a = o ∧ x = t) ∨ (a = t ∧ x = o))) := fun a x ha => by
    rw [hf a ha, List.mem_filter, kept_iff]
  have notin : (l : Int) ∉ fss.getD w [] := fun hm => by
    have z := ((memf w l (by omega)).mp hm).2
    omega
  have e : ∀ a : Nat, (fss.set w (fss.getD w [] ++ [(l : Int)])).getD a [] = if a = w then fss.getD w [] ++ [(l : Int)] else fss.getD a [] := fun a => getD_set hw
  have mem : ∀ (a : Nat) (x : Int), a < n → (x ∈ (fss.set w (fss.getD w [] ++ [(l : Int)])).getD a [] ↔ (x ∈ nss.getD a [] ∧ ¬ ((a = o ∧ x = t) ∨ (a = t ∧ x = o))) ∨ (a = w ∧ x = l)) := fun a x ha => by
    rw [e a]
    by_cases z : a = w
    · subst z
      rw [if_pos rfl, List.mem_append, List.mem_singleton, memf a x ha]
      simp
    · rw [if_neg z, memf a x ha]
      simp [z]
  have all : ∀ a b : Nat, a < n → b < n → a ≠ b → Dn n 0 a b := fun a b ha hb _ => by
    unfold Dn
    omega
  refine ⟨by rw [List.length_set]; exact len, fun a ha => ?_, fun a x ha hx => ?_, fun a b ha hb neab dn => ?_⟩
  · rw [e a]
    have ndf : (fss.getD a []).Nodup := by
      rw [hf a ha]
      exact (h.nd a ha).sublist List.filter_sublist
    by_cases z : a = w
    · subst z
      rw [if_pos rfl, List.nodup_append]
      refine ⟨ndf, by simp, fun x hx y hy => ?_⟩
      rw [List.mem_singleton] at hy
      intro exy
      rw [exy, hy] at hx
      exact notin hx
    · rw [if_neg z]
      exact ndf
  · rcases (mem a x ha).mp hx with ⟨z, _⟩ | ⟨z1, z2⟩
    · exact h.ins a x ha z
    · exact ⟨l, by omega, z2, by omega, all a l ha (by omega) (by omega)⟩
  · rw [mem a b ha, mem b a hb]
    have o1 := h.one a b ha hb neab (all a b ha hb neab)
    by_cases pr : (a = o ∧ b = t) ∨ (a = t ∧ b = o)
    · constructor
      · rintro (⟨_, z⟩ | ⟨z1, z2⟩) (⟨_, y⟩ | ⟨y1, y2⟩)
        · omega
        · omega
        · omega
        · omega
      · intro y
        refine Or.inr ?_
        have y2 : ¬ (b = w ∧ (a : Int) = l) := fun z => y (Or.inr z)
        omega
    · have n1 : ¬ (a = w ∧ (b : Int) = l) := by omega
      have n2 : ¬ (b = w ∧ (a : Int) = l) := by omega
      have p1 : ¬ ((a = o ∧ (b : Int) = t) ∨ (a = t ∧ (b : Int) = o)) := by omega
      have p2 : ¬ ((b = o ∧ (a : Int) = t) ∨ (b = t ∧ (a : Int) = o)) := by omega
      constructor
      · rintro (⟨z, _⟩ | z) (⟨y, _⟩ | y)
        · exact (o1.mp z) y
        · exact n2 y
        · exact n1 z
        · exact n1 z
      · intro y
        exact Or.inl ⟨o1.mpr fun z => y (Or.inl ⟨z, p2⟩), p1⟩
/-- sorted([a, x]) is the pair -/
theorem pair_iff {a o t : Nat} {x : Int} {p q : List Int} (pp : p.Perm [(o : Int), (t : Int)]) (sp : p.Pairwise (· ≤ ·)) (pq : q.Perm [(a : Int), x]) (sq : q.Pairwise (· ≤ ·)) (ne : o ≠ t) :
    q = p ↔ ((a = o ∧ x = t) ∨ (a = t ∧ x = o)) := by
  constructor
  · intro e
    subst e
    have z : [(a : Int), x].Perm [(o : Int), (t : Int)] := pq.symm.trans pp
    have m1 : (a : Int) ∈ [(o : Int), (t : Int)] := z.mem_iff.mp (by simp)
    have m2 : x ∈ [(o : Int), (t : Int)] := z.mem_iff.mp (by simp)
    have m3 : (o : Int) ∈ [(a : Int), x] := z.mem_iff.mpr (by simp)
    have m4 : (t : Int) ∈ [(a : Int), x] := z.mem_iff.mpr (by simp)
    simp only [List.mem_cons, List.not_mem_nil, or_false] at m1 m2 m3 m4
    omega
  · intro h
    have z : [(a : Int), x].Perm [(o : Int), (t : Int)] := by
      rcases h with ⟨h1, h2⟩ | ⟨h1, h2⟩
      · rw [h1, h2]
      · rw [h1, h2]
        exact List.Perm.swap _ _ _
    exact sorted_one (pq.trans (z.trans pp.symm)) sq sp
section
variable {P : Program} {w : World} {K : PySem.W.Frag} {mg : Str → Option Value} {base : Heap}
def spTurn : Sp := fun vs H Q _ => ∃ (p t : Addr) (n m : Nat) (xs : List V) (nss : List (List Int)), vs = [.ref p, .ref t] ∧ Pot H p (m + 100) ∧ n ≤ 16 ∧ H t = some (.tup xs) ∧ RowsAt H xs nss ∧ Tb n nss ∧
  ∀ (H' : Hp) (t' : Addr) (xs' : List V) (nss' : List (List Int)), Kp p H H' → Pot H' p m → H' t' = some (.tup xs') → RowsAt H' xs' nss' → Tb n nss' → Q (.ref t') H'
theorem ok_turn {f : Addr} {fd : FuncData} {k : Nat} (F : Fun K "_law_turned" "_law_turned" sTurned f fd) (T : Defs K mg) : FnOk P w K mg base CX0 (k + 3) f fd ["_law_pot_here", "_law_table_here"] spTurn := by
  obtain ⟨fT, fdT, FT, bT, gT⟩ := T.take
  obtain ⟨fM, fdM, FM, bM, gM⟩ := T.mixed
  have GM : FnOk P w K mg base CX0 (k + 2) fM fdM ["_law_pot_here", "_law_some"] spMixed := ok_mixed FM FT bT gT T.zLen T.zList
  refine F.ok scTurn (fun vs H Q E h => ?_) (fun cdv A outer s H vs Q E hr h => ?_)
  · obtain ⟨p, t, n, m, xs, nss, rfl, _⟩ := h
    rfl
  · obtain ⟨p, t, n, m, xs, nss, rfl, hp, n16, ht, rows, tb, q⟩ := h
    refine ⟨_, pss_cons (ps_if (pt_cmpR op_lt (pe_callB call_len_seq (by rfl) T.zLen PySem.boot_len (pa_cons (pv 1) pa_nil)) pe_int (nomark _)) (pss_one (ps_ret (pv 1))) pss_nil)
      (pss_cons (ps_asg (pe_slice sl_list (pe_call GM hr (by rfl) gM FM.kp bM .nil pass0 (pa_cons (pv 0) (pa_cons (pe_listRg rfl (by rfl) T.zList (prg_1 (by rfl) T.zRange (pe_callB call_len_seq (by rfl) T.zLen PySem.boot_len (pa_cons (pv 1) pa_nil)))) pa_nil))) po_none (po_some pe_int))
          (pg_unl rfl (pgs_cons (pg_name (i := 2) scTurn.nd rfl (Or.inl rfl)) (pgs_cons (pg_name (i := 3) scTurn.nd rfl (Or.inl rfl)) pgs_nil))))
      (pss_cons (ps_asg (pe_tup (pa_cons (pe_callB cr_sortedI (by rfl) T.zSorted (by decide +kernel) (pa_cons (pe_lst (pa_cons (pv 2) (pa_cons (pv 3) pa_nil))) pa_nil)) (pa_cons (pe_lst pa_nil) pa_nil)))
          (pg_tup rfl (pgs_cons (pg_name (i := 4) scTurn.nd rfl (Or.inr rfl)) (pgs_cons (pg_name (i := 5) scTurn.nd rfl (Or.inl rfl)) pgs_nil))))
      (pss_cons (ps_for PassesOwn.never rfl (pi_enumT (by rfl) T.zEnumerate (pa_cons (pv 1) pa_nil)) (pg_tup rfl (pgs_cons (pg_name (i := 6) scTurn.nd rfl (Or.inr rfl)) (pgs_cons (pg_name (i := 7) scTurn.nd rfl (Or.inl rfl)) pgs_nil)))
        (pss_one (ps_expr (pe_bm PySem.F.plainAttrs_list PySem.F.slot_list_append PySem.F.type_list_append mt_append (pv 5) (pa_cons (pe_lc (own := [("_law_near", 11)]) (g := gName 11)
            (tt := tTest (tOp (rNeD K) (tCB (rSortedI K) (tCons (tLst (tCons (tVar 6) (tCons (tVar 11) tNil))) tNil)) (tVar 4))) (te := tVar 11) rfl scTurn.nd (pi_tup (pv 7))
            (blkOk_by (own := [("_law_near", 11)]) (N := nTurn) (sc := defScope sTurned) (by decide +kernel)) (fun _ _ _ _ _ => pg_name (i := 11) scTurn.nd rfl (Or.inl rfl))
            (fun _ _ _ _ _ => pts_one (pt_cmpR (op_neD hr.units) (pe_callB cr_sortedI (by rfl) T.zSorted (by decide +kernel) (pa_cons (pe_lst (pa_cons (pv 6) (pa_cons (pv 11) pa_nil))) pa_nil)) (pv 4) (nomark _))) (fun _ _ _ _ _ => pv 11)) pa_nil)))))
      (pss_cons (ps_asg (pe_ifExp (pt_cmpR op_in_seq (pv 3) (pe_ix ix_tup (pv 1) (pv 2) (fun _ _ => rfl)) (by rfl)) (pe_tup (pa_cons (pv 3) (pa_cons (pv 2) pa_nil))) (pe_tup (pa_cons (pv 2) (pa_cons (pv 3) pa_nil))))
          (pg_tup rfl (pgs_cons (pg_name (i := 8) scTurn.nd rfl (Or.inl rfl)) (pgs_cons (pg_name (i := 9) scTurn.nd rfl (Or.inl rfl)) pgs_nil))))
      (pss_cons (ps_set (i := 10) scTurn.nd rfl (.inl rfl) (pe_ix ix_list (pv 5) (pv 8) (fun _ _ => rfl)))
      (pss_cons (ps_expr (pe_bm PySem.F.plainAttrs_list PySem.F.slot_list_append PySem.F.type_list_append mt_append (pv 10) (pa_cons (pv 9) pa_nil)))
      (pss_one (ps_ret (pe_callTy call_tuple_of (by rfl) T.zTuple (by decide +kernel) (pa_cons (pe_lc (own := [("_law_row", 7)]) (g := gName 7) (tt := tYes)
          (te := tCB (rTupOf K) (tCons (tCB (rSortedI K) (tCons (tVar 7) tNil)) tNil)) rfl scTurn.nd (pi_list (pv 5))
          (blkOk_by (own := [("_law_row", 7)]) (N := nTurn) (sc := defScope sTurned) (by decide +kernel)) (fun _ _ _ _ _ => pg_name (i := 7) scTurn.nd rfl (Or.inl rfl)) (fun _ _ _ _ _ => pts_nil)
          (fun _ _ _ _ _ => pe_callTy call_tupOf (by rfl) T.zTuple (by decide +kernel) (pa_cons (pe_callB cr_sortedI (by rfl) T.zSorted (by decide +kernel) (pa_cons (pv 7) pa_nil)) pa_nil))) pa_nil)))))))))), ?_⟩
    have lenx := rows.len
    have ln := tb.1
    refine ⟨.ref t, rfl, t, xs, rfl, .inr (SqT.of ht), _, _, rfl, rfl, _, rfl, ite2 (fun e => ?_) (fun e => ?_)⟩
    · exact ⟨.ref t, rfl, q H t xs nss (Kp.refl p H) (hp.less (by omega)) ht rows tb⟩
    have n2 : 2 ≤ n := by
      rcases Nat.lt_or_ge n 2 with z | z
      · exact absurd (decide_eq_true (by omega)) e
      · exact z
    -- one, two
    refine ⟨.ref p, rfl, .ref t, rfl, t, xs, rfl, .inr (SqT.of ht), _, rfl, RgOk.of_le (by omega) (by omega) (by omega) (by omega), fun l nl => ?_⟩
    rw [rgV_R]
    have s1 := same_new (o := .lst ((R xs.length).map V.int)) nl
    refine ⟨p, l, R xs.length, m + 50, rfl, (hp.same s1).less (by rw [R_len]; omega), upd_same, by rw [R_len]; omega, fun H1 u out kp1 pot1 nu hu perm => ?_⟩
    have lo : out.length = n := by rw [perm.length_eq, R_len]; omega
    obtain ⟨o', t', rest, rfl⟩ : ∃ o' t' rest, out = o' :: t' :: rest := by
      match out, lo with
      | [], lo => simp at lo; omega
      | [_], lo => simp at lo; omega
      | a :: b :: r, _ => exact ⟨a, b, r, rfl⟩
    have mo := R_mem.mp (perm.mem_iff.mp (show o' ∈ o' :: t' :: rest by simp))
    have mt := R_mem.mp (perm.mem_iff.mp (show t' ∈ o' :: t' :: rest by simp))
    have ndo : (o' :: t' :: rest).Nodup := perm.nodup_iff.mpr (R_nodup _)
    have neI : o' ≠ t' := fun z => by
      rw [List.nodup_cons] at ndo
      exact ndo.1 (by rw [z]; simp)
    obtain ⟨o, rfl⟩ : ∃ o : Nat, o' = o := ⟨o'.toNat, by omega⟩
    obtain ⟨tw, rfl⟩ : ∃ tw : Nat, t' = tw := ⟨t'.toNat, by omega⟩
    have on : o < n := by omega
    have tn : tw < n := by omega
    have ne : o ≠ tw := fun z => neI (by rw [z])
    refine ⟨2, rfl, u, _, rfl, SqL.of hu, fun v nv => ?_⟩
    have ec : cutV (((o : Int) :: (tw : Int) :: rest).map V.int) none (some 2) = [.int (o : Int), .int (tw : Int)] := cutTo _ 2 (by simp)
    rw [ec]
    have s2 := same_new (o := .lst [.int (o : Int), .int (tw : Int)]) nv
    refine ⟨v, _, rfl, SqL.of upd_same, rfl, _, _, rfl, _, _, rfl, rfl, ?_⟩
    -- pair, rows
    refine ⟨_, rfl, _, rfl, Nat.le_of_lt (small1000 (by show 2 ≤ 1000; decide)), fun c nc => ⟨c, [(o : Int), (tw : Int)], rfl, SqL.of upd_same, fun pr pa pp sp npa => ?_⟩⟩
    have s3 := same_new (o := .lst [.int (o : Int), .int (tw : Int)]) nc
    have s4 := same_new (o := .lst (pr.map V.int)) npa
    refine ⟨Nat.zero_le _, fun D nD => ?_⟩
    have s5 := same_new (o := .lst []) nD
    refine ⟨Nat.le_of_lt (small1000 (by show 2 ≤ 1000; decide)), fun tt ntt => ?_⟩
    have s6 := same_new (o := .tup [.ref pa, .ref D]) ntt
    refine ⟨tt, _, rfl, SqT.of upd_same, rfl, _, _, rfl, _, _, rfl, rfl, ?_⟩
    have hpa := (s5.trans s6) _ _ (upd_same (a := pa) (o := HO.lst (pr.map V.int)) (H := upd (upd H1 v (.lst [.int (o : Int), .int (tw : Int)])) c (.lst [.int (o : Int), .int (tw : Int)])))
    have hD := s6 _ _ (upd_same (a := D) (o := HO.lst []) (H := upd (upd (upd H1 v (.lst [.int (o : Int), .int (tw : Int)])) c (.lst [.int (o : Int), .int (tw : Int)])) pa (.lst (pr.map V.int))))
    have s26 := (((s2.trans s3).trans s4).trans s5).trans s6
    have kp6 := ((Kp.same s1).trans kp1).trans (Kp.same s26)
    have pot6 := pot1.same s26
    have npaH : H pa = none := by
      cases hh : H pa with
      | none => rfl
      | some ob =>
        by_cases ep : pa = p
        · obtain ⟨ys, hy⟩ := (pot1.same (s2.trans s3)).lst
          rw [ep, hy] at npa
          cases npa
        · rw [(((Kp.same s1).trans kp1).trans (Kp.same (s2.trans s3))) _ _ ep hh] at npa
          cases npa
    have nDH : H D = none := by
      cases hh : H D with
      | none => rfl
      | some ob =>
        by_cases ep : D = p
        · obtain ⟨ys, hy⟩ := (pot1.same ((s2.trans s3).trans s4)).lst
          rw [ep, hy] at nD
          cases nD
        · rw [(((Kp.same s1).trans kp1).trans (Kp.same ((s2.trans s3).trans s4))) _ _ ep hh] at nD
          cases nD
    have nDp : D ≠ p := pot_ne (pot1.same ((s2.trans s3).trans s4)) nD
    have nDpa : D ≠ pa := fun z => by
      rw [z, upd_same] at nD
      cases nD
    generalize upd (upd (upd (upd (upd H1 v (.lst [.int (o : Int), .int (tw : Int)])) c (.lst [.int (o : Int), .int (tw : Int)])) pa (.lst (pr.map V.int))) D (.lst [])) tt (.tup [.ref pa, .ref D]) = G6 at hpa hD kp6 pot6 ⊢
    obtain ⟨px, hpx⟩ := hp.lst
    have tkH : ∀ {G : Hp}, Kp p H G → Tk H G := fun kp => kp.tk hpx
    refine ⟨.ref t, rfl, t, xs, rfl, tkH kp6 _ _ ht, for_enumT (K := K) (a := t) (xs := xs) (fun i σ G => (∃ y6 y7 y8 y9 y10 y11, σ = [some (.ref p), some (.ref t), some (.int (o : Int)), some (.int (tw : Int)), some (.ref pa), some (.ref D), y6, y7, y8, y9, y10, y11]) ∧ i ≤ n ∧ Kp p H G ∧ Pot G p (m + 50) ∧ G pa = some (.lst (pr.map V.int)) ∧
        ∃ (vs : List V) (fss : List (List Int)), G D = some (.lst vs) ∧ vs.Nodup ∧ vs.length = i ∧ LsAt G vs fss ∧ (∀ a : Nat, a < i → fss.getD a [] = (nss.getD a []).filter (kept o tw a)) ∧ ∀ z, V.ref z ∈ vs → z ≠ p ∧ z ≠ D ∧ z ≠ pa ∧ H z = none)
      ⟨⟨_, _, _, _, _, _, rfl⟩, by omega, kp6, pot6, hpa, [], [], hD, List.nodup_nil, rfl, .nil, fun a l => by omega, fun z h => by cases h⟩ (fun i σ G h => SqT.of (tkH h.2.2.1 _ _ ht)) ?_ ?_⟩
    · rintro i x T2 σ G hx ⟨⟨y6, y7, y8, y9, y10, y11, rfl⟩, i1, kpG, potG, hpaG, vs, fss, hDG, ndv, lv, ls, ok, ap⟩ nT2
      have li : i < xs.length := (List.getElem?_eq_some_iff.mp hx).1
      obtain ⟨r, hr_, hrow⟩ := rows.get i (by omega)
      rw [hx] at hr_
      cases hr_
      have g1 := same_new (o := .tup [.int (i : Nat), .ref r]) nT2
      refine ⟨T2, _, rfl, SqT.of upd_same, rfl, _, _, rfl, _, _, rfl, rfl, ?_⟩
      have hrow1 := g1 _ _ (tkH kpG _ _ hrow)
      have hD1 := g1 _ _ hDG
      have hpa1 := g1 _ _ hpaG
      have kpG1 := kpG.trans (Kp.same g1)
      have pot1' := potG.same g1
      have ls1 : LsAt (upd G T2 (.tup [.int (i : Nat), .ref r])) vs fss := ls.kept fun z ns' _ e' => g1 _ _ e'
      generalize upd G T2 (.tup [.int (i : Nat), .ref r]) = G1 at hrow1 hD1 hpa1 kpG1 pot1' ls1 ⊢
      refine ⟨.ref D, rfl, .inl ⟨rfl, _, SqL.of hD1⟩, .ref r, rfl, r, rfl, ⟨_, SqT.of hrow1⟩, fun D2 nD2 => ?_⟩
      have part := tb.part
      have lrow : (nss.getD i []).length ≤ 16 := by
        have z2 := len_of_sub (nss.getD i []) (R n) (part.nd i (by omega)) fun y hy => by
          obtain ⟨b, hb, e1, _, _⟩ := part.ins i y (by omega) hy
          rw [e1]
          exact R_mem.mpr (by omega)
        rw [R_len] at z2
        omega
      refine lc_tup (K := K) (a := r) (xs := (nss.getD i []).map V.int) (fun j G2 => Same G1 G2 ∧ G2 D2 = some (.lst ((((nss.getD i []).take j).filter (kept o tw i)).map V.int))) ⟨same_new nD2, upd_same⟩ (fun j G2 _ h => SqT.of (h.1 _ _ hrow1)) ?_ ?_
      · rintro j y' G2 hy ⟨sm, gd⟩
        rw [List.getElem?_map] at hy
        obtain ⟨y, hy1, rfl⟩ := Option.map_eq_some_iff.mp hy
        refine ⟨rfl, _, rfl, _, rfl, Nat.le_of_lt (small1000 (by show 2 ≤ 1000; decide)), fun cc ncc => ⟨cc, [(i : Int), y], rfl, SqL.of upd_same, fun ks u' pk sk nu' => ?_⟩⟩
        have g2 := same_new (o := .lst [.int (i : Int), .int y]) ncc
        have g3 := same_new (o := .lst (ks.map V.int)) nu'
        have g23 := g2.trans g3
        refine ⟨_, rfl, _, _, .lst (SqL.of upd_same) (dp_ints K _ ks), .lst (SqL.of (g23 _ _ (sm _ _ hpa1))) (dp_ints K _ pr), shaped_ints ks, shaped_ints pr, _, rfl, ?_⟩
        have ek : PyData.eqv (.list (ks.map PyData.int)) (.list (pr.map PyData.int)) = decide (ks = pr) := by simp only [PyData.eqv, eqv_ints]
        rw [ek]
        have pi := pair_iff (a := i) (x := y) pp sp pk sk ne
        have nx : (nss.getD i []).take (j + 1) = (nss.getD i []).take j ++ [y] := by rw [List.take_add_one, hy1]; rfl
        by_cases hk : ks = pr
        · have kf : kept o tw i y = false := by
            rw [← Bool.not_eq_true, kept_iff]
            exact fun z => z (pi.mp hk)
          rw [decide_eq_true hk]
          refine ⟨fun b ob hb => g23 _ _ (sm _ _ hb), ?_⟩
          rw [nx, List.filter_append]
          have e0 : [y].filter (kept o tw i) = [] := by simp [kf]
          rw [e0, List.append_nil]
          exact g23 _ _ gd
        · have kt : kept o tw i y = true := kept_iff.mpr fun z => hk (pi.mpr z)
          rw [decide_eq_false hk]
          refine ⟨_, rfl, _, g23 _ _ gd, ?_, fun b ob hb => ?_, ?_⟩
          · rw [List.length_map]
            have z1 : (((nss.getD i []).take j).filter (kept o tw i)).length ≤ ((nss.getD i []).take j).length := List.length_filter_le _ _
            rw [List.length_take] at z1
            exact small1000 (by omega)
          · rw [upd_ne (ne_of_none hb nD2)]
            exact g23 _ _ (sm _ _ hb)
          · rw [upd_same, nx, List.filter_append]
            have e0 : [y].filter (kept o tw i) = [y] := by simp [kt]
            rw [e0, List.map_append]
            rfl
      · rintro G2 ⟨sm, gd⟩
        rw [List.take_of_length_le (by rw [List.length_map]; exact Nat.le_refl _)] at gd
        have d2D : D2 ≠ D := fun z => by
          rw [z, hD1] at nD2
          cases nD2
        have d2pa : D2 ≠ pa := fun z => by
          rw [z, hpa1] at nD2
          cases nD2
        have d2p : D2 ≠ p := pot_ne pot1' nD2
        have d2H : H D2 = none := by
          cases hh : H D2 with
          | none => rfl
          | some ob =>
            rw [kpG1 _ _ d2p hh] at nD2
            cases nD2
        refine ⟨D, vs, _, rfl, rfl, sm _ _ hD1, small1000 (by omega), ⟨_, _, _, _, _, _, rfl⟩, by omega, fun b ob nb hb => ?_, ?_, ?_, vs ++ [.ref D2], fss ++ [(nss.getD i []).filter (kept o tw i)], upd_same, ?_, ?_, ?_, fun a la => ?_, fun z hz => ?_⟩
        · rw [upd_ne (ne_of_none hb nDH)]
          exact sm _ _ (kpG1 _ _ nb hb)
        · obtain ⟨a1, a2, a3, z1, z2⟩ := pot1'.same sm
          exact ⟨a1, a2, a3, by rw [upd_ne nDp.symm]; exact z1, z2⟩
        · rw [upd_ne nDpa.symm]
          exact sm _ _ hpa1
        · rw [List.nodup_append]
          refine ⟨ndv, by simp, fun a ha b hb => ?_⟩
          rw [List.mem_singleton] at hb
          intro exy
          rw [exy, hb] at ha
          obtain ⟨z', ns', e', h'⟩ := ls1.mem _ ha
          cases e'
          rw [nD2] at h'
          cases h'
        · rw [List.length_append, lv]
          rfl
        · refine LsAt.snoc ?_ (ls1.kept fun z' ns' m' e' => ?_)
          · rw [upd_ne d2D]
            exact gd
          · rw [upd_ne (ap z' m').2.1]
            exact sm _ _ e'
        · have lf : fss.length = i := by rw [← ls.len, lv]
          by_cases z : a = i
          · subst z
            rw [List.getD_eq_getElem?_getD, ← lf, List.getElem?_concat_length]
            rfl
          · rw [List.getD_eq_getElem?_getD, List.getElem?_append_left (by omega), ← List.getD_eq_getElem?_getD]
            exact ok a (by omega)
        · rcases List.mem_append.mp hz with y | y
          · exact ap z y
          · rw [List.mem_singleton] at y
            cases y
            exact ⟨d2p, d2D, d2pa, d2H⟩
    · rintro σ G ⟨⟨y6, y7, y8, y9, y10, y11, rfl⟩, _, kpG, potG, hpaG, vs, fss, hDG, ndv, lv, ls, ok, ap⟩
      have part := tb.part
      have lf : fss.length = n := by rw [← ls.len]; omega
      have htG := tkH kpG _ _ ht
      obtain ⟨ro, xo, hro⟩ := rows.get o (by omega)
      have hroG := tkH kpG _ _ hro
      refine ⟨_, rfl, .ref t, rfl, _, rfl, t, xs, _, _, rfl, rfl, SqT.of htG, atI_nat xo, ro, _, rfl, .inr (SqT.of hroG), rfl, flat_ints _, _, rfl, ite2 (fun e2 => ?_) (fun e2 => ?_)⟩
      · refine ⟨_, rfl, _, rfl, Nat.le_of_lt (small1000 (by show 2 ≤ 1000; decide)), fun t3 nt3 => ?_⟩
        have s7 := same_new (o := .tup [.int (tw : Int), .int (o : Int)]) nt3
        refine ⟨t3, _, rfl, SqT.of upd_same, rfl, _, _, rfl, _, _, rfl, rfl, ?_⟩
        obtain ⟨bt, hbt, hbl⟩ := ls.get tw (by omega)
        have apb := ap bt (List.mem_of_getElem? hbt)
        have ls7 : LsAt (upd G t3 (.tup [.int (tw : Int), .int (o : Int)])) vs fss := ls.kept fun z ns' _ e' => s7 _ _ e'
        refine ⟨.ref D, rfl, _, rfl, D, vs, _, .ref bt, rfl, rfl, SqL.of (s7 _ _ hDG), atI_nat hbt, ?_⟩
        refine ⟨.ref bt, rfl, .inl ⟨rfl, _, SqL.of (s7 _ _ hbl)⟩, _, rfl, bt, _, _, rfl, rfl, s7 _ _ hbl, ?_, ?_⟩
        · rw [List.length_map, ok tw (by omega)]
          have z1 : ((nss.getD tw []).filter (kept o tw tw)).length ≤ (nss.getD tw []).length := List.length_filter_le _ _
          have z2 := len_of_sub (nss.getD tw []) (R n) (part.nd tw (by omega)) fun y hy => by
            obtain ⟨b, hb, e1, _, _⟩ := part.ins tw y (by omega) hy
            rw [e1]
            exact R_mem.mpr (by omega)
          rw [R_len] at z2
          exact small1000 (by omega)
        have ls8 : LsAt (upd (upd G t3 (.tup [.int (tw : Int), .int (o : Int)])) bt (.lst ((fss.getD tw []).map V.int ++ [.int (o : Int)]))) vs (fss.set tw (fss.getD tw [] ++ [(o : Int)])) := ls7.grow ndv hbt
        have part8 := part.turn on tn ne lf (fun a ha => ok a (by omega)) (Or.inr ⟨rfl, rfl⟩)
        have hD8 : upd (upd G t3 (.tup [.int (tw : Int), .int (o : Int)])) bt (.lst ((fss.getD tw []).map V.int ++ [.int (o : Int)])) D = some (.lst vs) := by
          rw [upd_ne apb.2.1.symm]
          exact s7 _ _ hDG
        have kp8 : Kp p H (upd (upd G t3 (.tup [.int (tw : Int), .int (o : Int)])) bt (.lst ((fss.getD tw []).map V.int ++ [.int (o : Int)]))) := fun b ob nb hb => by
          rw [upd_ne (ne_of_none hb apb.2.2.2)]
          exact s7 _ _ (kpG _ _ nb hb)
        have pot8 : Pot (upd (upd G t3 (.tup [.int (tw : Int), .int (o : Int)])) bt (.lst ((fss.getD tw []).map V.int ++ [.int (o : Int)]))) p (m + 50) := by
          obtain ⟨a1, a2, a3, z1, z2⟩ := potG.same s7
          exact ⟨a1, a2, a3, by rw [upd_ne apb.1.symm]; exact z1, z2⟩
        generalize upd (upd G t3 (.tup [.int (tw : Int), .int (o : Int)])) bt (.lst ((fss.getD tw []).map V.int ++ [.int (o : Int)])) = G8 at ls8 hD8 kp8 pot8 ⊢
        have len8 := part8.len
        refine ⟨.ref D, rfl, D, rfl, ⟨_, SqL.of hD8⟩, fun D2 nD2 => ?_⟩
        refine lc_sorted (K := K) hD8 ls8 (fun ms hm => ?_) (by omega) nD2 (fun _ => rfl) (fun _ => rfl) (fun G9 xs9 nss9 sm9 hD9 rows9 len9 ok9 => ?_)
        · obtain ⟨i, hi⟩ := List.mem_iff_getElem?.mp hm
          have e' : (fss.set tw (fss.getD tw [] ++ [(o : Int)])).getD i [] = ms := by rw [List.getD_eq_getElem?_getD, hi]; rfl
          rw [← e']
          exact part8.nd i (by have := (List.getElem?_eq_some_iff.mp hi).1; omega)
        · refine ⟨D2, _, rfl, .inl ⟨SqL.of hD9, fun tR ntR => ?_⟩⟩
          have s10 := same_new (o := .tup xs9) ntR
          exact q _ tR xs9 nss9 (kp8.trans (Kp.same (sm9.trans s10))) ((pot8.same (sm9.trans s10)).less (by omega)) upd_same (rows9.keep (Same.tk s10)) (part8.tb len9 ok9)
      · refine ⟨_, rfl, _, rfl, Nat.le_of_lt (small1000 (by show 2 ≤ 1000; decide)), fun t3 nt3 => ?_⟩
        have s7 := same_new (o := .tup [.int (o : Int), .int (tw : Int)]) nt3
        refine ⟨t3, _, rfl, SqT.of upd_same, rfl, _, _, rfl, _, _, rfl, rfl, ?_⟩
        obtain ⟨bt, hbt, hbl⟩ := ls.get o (by omega)
        have apb := ap bt (List.mem_of_getElem? hbt)
        have ls7 : LsAt (upd G t3 (.tup [.int (o : Int), .int (tw : Int)])) vs fss := ls.kept fun z ns' _ e' => s7 _ _ e'
        refine ⟨.ref D, rfl, _, rfl, D, vs, _, .ref bt, rfl, rfl, SqL.of (s7 _ _ hDG), atI_nat hbt, ?_⟩
        refine ⟨.ref bt, rfl, .inl ⟨rfl, _, SqL.of (s7 _ _ hbl)⟩, _, rfl, bt, _, _, rfl, rfl, s7 _ _ hbl, ?_, ?_⟩
        · rw [List.length_map, ok o (by omega)]
          have z1 : ((nss.getD o []).filter (kept o tw o)).length ≤ (nss.getD o []).length := List.length_filter_le _ _
          have z2 := len_of_sub (nss.getD o []) (R n) (part.nd o (by omega)) fun y hy => by
            obtain ⟨b, hb, e1, _, _⟩ := part.ins o y (by omega) hy
            rw [e1]
            exact R_mem.mpr (by omega)
          rw [R_len] at z2
          exact small1000 (by omega)
        have ls8 : LsAt (upd (upd G t3 (.tup [.int (o : Int), .int (tw : Int)])) bt (.lst ((fss.getD o []).map V.int ++ [.int (tw : Int)]))) vs (fss.set o (fss.getD o [] ++ [(tw : Int)])) := ls7.grow ndv hbt
        have part8 := part.turn on tn ne lf (fun a ha => ok a (by omega)) (Or.inl ⟨rfl, rfl⟩)
        have hD8 : upd (upd G t3 (.tup [.int (o : Int), .int (tw : Int)])) bt (.lst ((fss.getD o []).map V.int ++ [.int (tw : Int)])) D = some (.lst vs) := by
          rw [upd_ne apb.2.1.symm]
          exact s7 _ _ hDG
        have kp8 : Kp p H (upd (upd G t3 (.tup [.int (o : Int), .int (tw : Int)])) bt (.lst ((fss.getD o []).map V.int ++ [.int (tw : Int)]))) := fun b ob nb hb => by
          rw [upd_ne (ne_of_none hb apb.2.2.2)]
          exact s7 _ _ (kpG _ _ nb hb)
        have pot8 : Pot (upd (upd G t3 (.tup [.int (o : Int), .int (tw : Int)])) bt (.lst ((fss.getD o []).map V.int ++ [.int (tw : Int)]))) p (m + 50) := by
          obtain ⟨a1, a2, a3, z1, z2⟩ := potG.same s7
          exact ⟨a1, a2, a3, by rw [upd_ne apb.1.symm]; exact z1, z2⟩
        generalize upd (upd G t3 (.tup [.int (o : Int), .int (tw : Int)])) bt (.lst ((fss.getD o []).map V.int ++ [.int (tw : Int)])) = G8 at ls8 hD8 kp8 pot8 ⊢
        have len8 := part8.len
        refine ⟨.ref D, rfl, D, rfl, ⟨_, SqL.of hD8⟩, fun D2 nD2 => ?_⟩
        refine lc_sorted (K := K) hD8 ls8 (fun ms hm => ?_) (by omega) nD2 (fun _ => rfl) (fun _ => rfl) (fun G9 xs9 nss9 sm9 hD9 rows9 len9 ok9 => ?_)
        · obtain ⟨i, hi⟩ := List.mem_iff_getElem?.mp hm
          have e' : (fss.set o (fss.getD o [] ++ [(tw : Int)])).getD i [] = ms := by rw [List.getD_eq_getElem?_getD, hi]; rfl
          rw [← e']
          exact part8.nd i (by have := (List.getElem?_eq_some_iff.mp hi).1; omega)
        · refine ⟨D2, _, rfl, .inl ⟨SqL.of hD9, fun tR ntR => ?_⟩⟩
          have s10 := same_new (o := .tup xs9) ntR
          exact q _ tR xs9 nss9 (kp8.trans (Kp.same (sm9.trans s10))) ((pot8.same (sm9.trans s10)).less (by omega)) upd_same (rows9.keep (Same.tk s10)) (part8.tb len9 ok9)
end
end SL

namespace SL
open PySem PySem.Spec PyProof.Rows L2
abbrev nLawT : List Str := ["_law_pot_here", "_law_size", "_law_way", "_law_table_here"]
theorem scLawT : FnScope nLawT ["_law_pot_here", "_law_size"] (defScope sLawTable) := ⟨rfl, rfl, rfl, by decide +kernel, rfl, by decide +kernel, by decide +kernel⟩
section
variable {P : Program} {w : World} {K : PySem.W.Frag} {mg : Str → Option Value} {base : Heap}
def spLawT : Sp := fun vs H Q _ => ∃ (p : Addr) (n m : Nat), vs = [.ref p, .int n] ∧ Pot H p (m + 400) ∧ n ≤ 16 ∧
  ∀ (H' : Hp) (t : Addr) (xs : List V) (nss : List (List Int)), Kp p H H' → Pot H' p m → H' t = some (.tup xs) → RowsAt H' xs nss → Tb n nss → Q (.ref t) H'
theorem ok_lawT {f : Addr} {fd : FuncData} {k : Nat} (F : Fun K "_law_table" "_law_table" sLawTable f fd) (T : Defs K mg) : FnOk P w K mg base CX0 (k + 4) f fd ["_law_pot_here", "_law_size"] spLawT := by
  obtain ⟨fT, fdT, FT, bT, gT⟩ := T.take
  obtain ⟨fM, fdM, FM, bM, gM⟩ := T.mixed
  obtain ⟨fA, fdA, FA, bA, gA⟩ := T.anyTable
  obtain ⟨fO, fdO, FO, bO, gO⟩ := T.ordTable
  obtain ⟨fU, fdU, FU, bU, gU⟩ := T.turned
  have GT : FnOk P w K mg base CX0 (k + 1) fT fdT ["_law_pot_here", "_law_size"] spTake := ok_take FT
  have GM : FnOk P w K mg base CX0 (k + 2) fM fdM ["_law_pot_here", "_law_some"] spMixed := ok_mixed FM FT bT gT T.zLen T.zList
  have GA : FnOk P w K mg base CX0 (k + 3) fA fdA ["_law_pot_here", "_law_size"] spAnyT := ok_anyT FA T
  have GO : FnOk P w K mg base CX0 (k + 1) fO fdO ["_law_order"] spOrdT := ok_ordT FO T
  have GU : FnOk P w K mg base CX0 (k + 3) fU fdU ["_law_pot_here", "_law_table_here"] spTurn := ok_turn FU T
  refine F.ok scLawT (fun vs H Q E h => ?_) (fun cdv A outer s H vs Q E hr h => ?_)
  · obtain ⟨p, n, m, rfl, _⟩ := h
    rfl
  · obtain ⟨p, n, m, rfl, hp, n16, q⟩ := h
    refine ⟨_, pss_cons (ps_set (i := 2) scLawT.nd rfl (.inl rfl) (pe_call GT (hr.mono (by omega)) (by rfl) gT FT.kp bT .nil pass0 (pa_cons (pv 0) (pa_cons pe_int pa_nil))))
      (pss_cons (ps_if (pt_cmpR op_eq (pv 2) pe_int (nomark _)) (pss_one (ps_ret (pe_call GA (hr.mono (by omega)) (by rfl) gA FA.kp bA .nil pass0 (pa_cons (pv 0) (pa_cons (pv 1) pa_nil))))) pss_nil)
      (pss_cons (ps_set (i := 3) scLawT.nd rfl (.inl rfl) (pe_call GO (hr.mono (by omega)) (by rfl) gO FO.kp bO .nil pass0 (pa_cons (pe_call GM (hr.mono (by omega)) (by rfl) gM FM.kp bM .nil pass0 (pa_cons (pv 0) (pa_cons (pe_listRg rfl (by rfl) T.zList (prg_1 (by rfl) T.zRange (pv 1))) pa_nil))) pa_nil)))
      (pss_one (ps_ret (pe_ifExp (pt_cmpR op_eq (pv 2) pe_int (nomark _)) (pe_call GU (hr.mono (by omega)) (by rfl) gU FU.kp bU .nil pass0 (pa_cons (pv 0) (pa_cons (pv 3) pa_nil))) (pv 3)))))), ?_⟩
    refine ⟨.ref p, rfl, p, 4, m + 399, rfl, hp.less (by omega), by decide, by decide, fun H1 r kp1 hp1 r0 r1 => ?_⟩
    refine ⟨.int r, rfl, rfl, _, rfl, ite2 (fun e => ?_) (fun e => ?_)⟩
    · exact ⟨.ref p, rfl, .int n, rfl, p, n, m, rfl, hp1.less (by omega), n16, fun H2 t xs nss kp2 hp2 _ ht rows tb => q H2 t xs nss (kp1.trans kp2) hp2 ht rows tb⟩
    · refine ⟨.ref p, rfl, .int n, rfl, n, rfl, RgOk.of_le (by omega) (by omega) (by omega) (by omega), fun l nl => ?_⟩
      rw [rgV_R]
      have s1 : Same H1 (upd H1 l (.lst ((R n).map V.int))) := same_new nl
      refine ⟨p, l, R n, m + 150, rfl, (hp1.same s1).less (by rw [R_len]; omega), upd_same, by rw [R_len]; omega, fun H2 u out kp2 hp2 nu hu perm => ?_⟩
      refine ⟨u, out, n, rfl, hu, perm, by omega, fun H3 t xs nss sm3 nt ht rows tb => ?_⟩
      have kp3 : Kp p H H3 := ((kp1.trans (Kp.same s1)).trans kp2).trans (Kp.same sm3)
      have pot3 := hp2.same sm3
      refine ⟨.int r, rfl, rfl, _, rfl, ite2 (fun e => ?_) (fun e => ?_)⟩
      · exact ⟨.ref p, rfl, .ref t, rfl, p, t, n, m, xs, nss, rfl, pot3.less (by omega), n16, ht, rows, tb, fun H4 t' xs' nss' kp4 hp4 ht' rows' tb' => q H4 t' xs' nss' (kp3.trans kp4) hp4 ht' rows' tb'⟩
      · exact ⟨.ref t, rfl, q H3 t xs nss kp3 (pot3.less (by omega)) ht rows tb⟩
end
end SL

namespace SL
open PySem PySem.Spec PyProof.Rows L2
theorem scByHand : FnScope ["_law_whole", "_law_more", "_law_some"] [] (defScope sByHand) := ⟨rfl, rfl, rfl, by decide +kernel, rfl, by decide +kernel, by decide +kernel⟩
theorem ev_neg {p : Addr} {σ : L2.St} {H0 : Hp} {i : Int} (h0 : -10 ≤ -i) (h1 : -i ≤ 200) : EvD p 0 20 (tUn (rU fun i => .int (-i)) (tC (.int i))) σ H0 := fun H Q _ q => ⟨i, rfl, q H _ (Same.refl H) (nd_int h0 h1)⟩
theorem Row.len {n : Nat} {ns : List Int} (h : Row n ns) : ns.length ≤ n := by
  have z := len_of_sub ns (R n) (strict_nodup h.1) h.2
  rw [R_len] at z
  exact z
theorem RowsAt.ek {p : Addr} {H : Hp} {n : Nat} (hn : n ≤ 17) : ∀ {vs : List V} {nss : List (List Int)}, RowsAt H vs nss → (∀ ns ∈ nss, Row n ns) → Ek p 1 377 H vs
  | _, _, .nil, _ => Ek.nil
  | _, _, .cons (ns := ns) h r, a => by
    refine (Ek.one ?_).app (r.ek hn fun x hx => a x (List.mem_cons_of_mem _ hx))
    have row := a ns List.mem_cons_self
    exact Ek.tuple (m := 17) (c := 20) (k := 0) (ek_ints fun x hx => by
      have := R_mem.mp (row.2 x hx)
      omega) h (by rw [List.length_map]; exact Nat.le_trans row.len hn) (by omega)
theorem tab_nd {p t : Addr} {H : Hp} {n : Nat} {xs : List V} {nss : List (List Int)} (hn : n ≤ 17) (ht : H t = some (.tup xs)) (rows : RowsAt H xs nss) (tb : Tb n nss) : Nd p 2 6446 H (.ref t) :=
  Ek.tuple (m := 17) (c := 377) (k := 1) (rows.ek hn tb.2.1) ht (by rw [rows.len, tb.1]; exact hn) (by omega)
section
variable {P : Program} {w : World} {K : PySem.W.Frag} {mg : Str → Option Value} {base : Heap}
def spByHand : Sp := fun vs H Q _ => vs = [] ∧ ∀ (H' : Hp) (l p : Addr) (xs : List V), Same H H' → H' l = some (.lst xs) → (∀ x ∈ xs, Fine p H' x) → xs.length ≤ 100 → Q (.ref l) H'
theorem ok_byHand {f : Addr} {fd : FuncData} {k : Nat} (F : Fun K "_law_by_hand" "_law_by_hand" sByHand f fd) (T : Defs K mg) : FnOk P w K mg base CX0 (k + 2) f fd [] spByHand := by
  obtain ⟨fO, fdO, FO, bO, gO⟩ := T.ordTable
  have GO : FnOk P w K mg base CX0 (k + 1) fO fdO ["_law_order"] spOrdT := ok_ordT FO T
  refine F.ok scByHand (fun vs H Q E h => ?_) (fun cdv A outer s H vs Q E hr h => ?_)
  · obtain ⟨rfl, _⟩ := h
    rfl
  · obtain ⟨rfl, q⟩ := h
    refine ⟨_, pss_cons (ps_par (i := 0) (j := 1) (by rfl) scByHand.nd rfl rfl (by decide) rfl rfl (pa_cons (pe_call GO (hr.mono (by omega)) (by rfl) gO FO.kp bO .nil pass0 (pa_cons (pe_listRg rfl (by rfl) T.zList (prg_1 (by rfl) T.zRange pe_int)) pa_nil)) (pa_cons (pe_call GO (hr.mono (by omega)) (by rfl) gO FO.kp bO .nil pass0 (pa_cons (pe_listRg rfl (by rfl) T.zList (prg_1 (by rfl) T.zRange pe_int)) pa_nil)) pa_nil)) (by rfl))
      (pss_cons (ps_set (i := 2) scByHand.nd rfl (.inl rfl) (pe_lst (pa_cons (pe_op op_repT (pe_tup (pa_cons (pv 0) pa_nil)) pe_int) (pa_cons (pe_op op_repT (pe_tup (pa_cons (pv 0) pa_nil)) pe_int) (pa_cons (pe_tup (pa_cons (pv 1) pa_nil)) (pa_cons (pe_op op_repT (pe_tup (pa_cons (pe_tup (pa_cons (pe_tup pa_nil) pa_nil)) pa_nil)) pe_int) (pa_cons (pe_op op_repT (pe_tup (pa_cons (pe_tup (pa_cons (pe_tup pa_nil) pa_nil)) pa_nil)) pe_int) (pa_cons (pe_tup (pa_cons (pe_tup pa_nil) pa_nil)) (pa_cons (pe_tup pa_nil) pa_nil)))))))))
      (pss_cons (ps_set (i := 2) scByHand.nd rfl (.inl rfl) (pe_op op_cat (pv 2) (pe_lst (pa_cons (pe_tup (pa_cons (pe_tup (pa_cons (pe_tup (pa_cons pe_int pa_nil)) (pa_cons (pe_tup pa_nil) pa_nil))) (pa_cons (pe_tup (pa_cons (pe_tup pa_nil) pa_nil)) pa_nil))) (pa_cons (pe_tup (pa_cons (pe_tup (pa_cons (pe_tup (pa_cons pe_int pa_nil)) (pa_cons (pe_tup (pa_cons pe_int pa_nil)) pa_nil))) pa_nil)) (pa_cons (pe_tup (pa_cons (pe_tup (pa_cons (pe_tup pa_nil) (pa_cons (pe_tup pa_nil) pa_nil))) pa_nil)) (pa_cons (pe_tup (pa_cons (pe_tup (pa_cons (pe_tup (pa_cons pe_int pa_nil)) pa_nil)) pa_nil)) (pa_cons (pe_tup (pa_cons (pe_tup (pa_cons (pe_tup (pa_cons pe_int pa_nil)) (pa_cons (pe_tup pa_nil) pa_nil))) (pa_cons (pe_tup (pa_cons (pe_tup pa_nil) (pa_cons (pe_tup (pa_cons pe_int pa_nil)) pa_nil))) pa_nil))) pa_nil))))))))
      (pss_cons (ps_set (i := 2) scByHand.nd rfl (.inl rfl) (pe_op op_cat (pv 2) (pe_lst (pa_cons (pe_tup (pa_cons (pe_tup (pa_cons (pe_tup (pa_cons pe_int (pa_cons pe_int pa_nil))) (pa_cons (pe_tup (pa_cons pe_int pa_nil)) (pa_cons (pe_tup pa_nil) pa_nil)))) pa_nil)) (pa_cons (pe_tup (pa_cons (pe_tup (pa_cons (pe_tup (pa_cons pe_int (pa_cons pe_int pa_nil))) (pa_cons (pe_tup (pa_cons pe_int pa_nil)) (pa_cons (pe_tup pa_nil) pa_nil)))) pa_nil)) (pa_cons (pe_tup (pa_cons (pe_tup (pa_cons (pe_tup (pa_cons pe_int pa_nil)) (pa_cons (pe_tup (pa_cons pe_int pa_nil)) (pa_cons (pe_tup (pa_cons pe_int pa_nil)) pa_nil)))) pa_nil)) (pa_cons (pe_tup (pa_cons (pe_tup (pa_cons (pe_tup (pa_cons pe_int (pa_cons pe_int pa_nil))) (pa_cons (pe_tup pa_nil) pa_nil))) pa_nil)) pa_nil)))))))
      (pss_cons (ps_set (i := 2) scByHand.nd rfl (.inl rfl) (pe_op op_cat (pv 2) (pe_lst (pa_cons (pe_tup (pa_cons (pe_tup (pa_cons (pe_tup (pa_cons pe_bl pa_nil)) (pa_cons (pe_tup pa_nil) pa_nil))) pa_nil)) (pa_cons (pe_tup (pa_cons (pe_lst (pa_cons (pe_tup (pa_cons pe_int pa_nil)) (pa_cons (pe_tup pa_nil) pa_nil))) pa_nil)) (pa_cons pe_non (pa_cons pe_bl (pa_cons pe_int (pa_cons pe_str (pa_cons (pe_lst pa_nil) (pa_cons pe_dnewK (pa_cons (pe_op op_repT (pe_tup (pa_cons (pe_tup pa_nil) pa_nil)) pe_int) (pa_cons (pe_tup (pa_cons (pe_tup (pa_cons (pe_tup (pa_cons pe_int pa_nil)) (pa_cons (pe_lst pa_nil) pa_nil))) pa_nil)) pa_nil)))))))))))))
      (pss_one (ps_ret (pe_op op_cat (pv 2) (pe_lst (pa_cons (pe_tup (pa_cons (pe_tup (pa_cons (pe_tup (pa_cons pe_int pa_nil)) (pa_cons (pe_tup pa_nil) pa_nil))) (pa_cons pe_non pa_nil))) (pa_cons (pe_tup (pa_cons (pe_tup (pa_cons (pe_tup (pa_cons (pe_un un_neg pe_int) pa_nil)) (pa_cons (pe_tup pa_nil) pa_nil))) pa_nil)) pa_nil)))))))))), ?_⟩
    refine ⟨16, rfl, RgOk.of_le (by decide) (by decide) (by decide) (by decide), fun l1 nl1 => ?_⟩
    rw [show rgV 0 16 = (R 16).map V.int from rgV_R 16]
    refine ⟨l1, R 16, 16, rfl, upd_same, List.Perm.refl _, by omega, fun G1 tw ws wss sm1 ntw htw wrows wtb => ?_⟩
    refine ⟨17, rfl, RgOk.of_le (by decide) (by decide) (by decide) (by decide), fun l2 nl2 => ?_⟩
    rw [show rgV 0 17 = (R 17).map V.int from rgV_R 17]
    refine ⟨l2, R 17, 17, rfl, upd_same, List.Perm.refl _, by omega, fun G tm ms mss sm2 ntm htm mrows mtb => ?_⟩
    refine ⟨_, _, rfl, ?_⟩
    have s1 := same_new (o := .lst ((R 16).map V.int)) nl1
    have s2 := same_new (o := .lst ((R 17).map V.int)) nl2
    have sg := s2.trans sm2
    have hw := sg _ _ htw
    have sm := (s1.trans sm1).trans sg
    have ndW : Nd tw 2 6446 G (.ref tw) := tab_nd (by omega) hw (wrows.keep (Same.tk sg)) wtb
    have ndM : Nd tw 2 6446 G (.ref tm) := tab_nd (by omega) htm mrows mtb
    have hpw : G tw ≠ none := by
      rw [hw]
      intro z
      cases z
    clear s1 s2 nl1 nl2 ntw ntm wrows mrows htw htm
    have e0 : EvFL tw 7 _ [some (.ref tw), some (.ref tm), none] G := (evf_cons (EvD.fine (k := 3) (c := 109619) (ev_rep (K := K) (j := 16) (k := 2) (c := 6446) (ev_var (i := 0) (v := .ref tw) rfl ndW) (by decide) (by decide)) (by omega) (by omega))
      (evf_cons (EvD.fine (k := 3) (c := 109619) (ev_rep (K := K) (j := 17) (k := 2) (c := 6446) (ev_var (i := 0) (v := .ref tw) rfl ndW) (by decide) (by decide)) (by omega) (by omega))
      (evf_cons (EvD.fine (k := 3) (c := 6451) (ev_tup (k := 2) (c := 6446) (n := 1) (evl_cons (ev_var (i := 1) (v := .ref tm) rfl ndM) evl_nil) (by omega)) (by omega) (by omega))
      (evf_cons (EvD.fine (k := 3) (c := 173) (ev_rep (K := K) (j := 16) (k := 2) (c := 8) (ev_tup (k := 1) (c := 3) (n := 1) (evl_cons (ev_tup (k := 0) (c := 20) evl_nil (by omega)) evl_nil) (by omega)) (by decide) (by decide)) (by omega) (by omega))
      (evf_cons (EvD.fine (k := 3) (c := 173) (ev_rep (K := K) (j := 17) (k := 2) (c := 8) (ev_tup (k := 1) (c := 3) (n := 1) (evl_cons (ev_tup (k := 0) (c := 20) evl_nil (by omega)) evl_nil) (by omega)) (by decide) (by decide)) (by omega) (by omega))
      (evf_cons (EvD.fine (k := 2) (c := 8) (ev_tup (k := 1) (c := 3) (n := 1) (evl_cons (ev_tup (k := 0) (c := 20) evl_nil (by omega)) evl_nil) (by omega)) (by omega) (by omega))
      (evf_cons (EvD.fine (k := 1) (c := 3) (ev_tup (k := 0) (c := 20) evl_nil (by omega)) (by omega) (by omega))
      evf_nil)))))))
    refine use_set e0 (Same.refl G) (by omega) (fun H0 xs0 la sg0 fine0 len0 hla => ?_)
    have e1 : EvFL tw 5 _ [some (.ref tw), some (.ref tm), some (.ref la)] G := (evf_cons (EvD.fine (k := 3) (c := 121) (ev_tup (k := 2) (c := 57) (n := 2) (evl_cons (ev_tup (k := 1) (c := 25) (n := 2) (evl_cons (ev_tup (k := 0) (c := 20) (n := 1) (evl_cons (ev_int (i := 1) (by decide) (by decide)) evl_nil) (by omega)) (evl_cons (EvD.mono (k := 1) (c := 3) (k' := 1) (c' := 25) (ev_tup (k := 0) (c := 20) evl_nil (by omega)) (by omega) (by omega)) evl_nil)) (by omega)) (evl_cons (EvD.mono (k := 2) (c := 8) (k' := 2) (c' := 57) (ev_tup (k := 1) (c := 3) (n := 1) (evl_cons (ev_tup (k := 0) (c := 20) evl_nil (by omega)) evl_nil) (by omega)) (by omega) (by omega)) evl_nil)) (by omega)) (by omega) (by omega))
      (evf_cons (EvD.fine (k := 3) (c := 62) (ev_tup (k := 2) (c := 57) (n := 1) (evl_cons (ev_tup (k := 1) (c := 25) (n := 2) (evl_cons (ev_tup (k := 0) (c := 20) (n := 1) (evl_cons (ev_int (i := 1) (by decide) (by decide)) evl_nil) (by omega)) (evl_cons (ev_tup (k := 0) (c := 20) (n := 1) (evl_cons (ev_int (i := 0) (by decide) (by decide)) evl_nil) (by omega)) evl_nil)) (by omega)) evl_nil) (by omega)) (by omega) (by omega))
      (evf_cons (EvD.fine (k := 3) (c := 18) (ev_tup (k := 2) (c := 13) (n := 1) (evl_cons (ev_tup (k := 1) (c := 3) (n := 2) (evl_cons (ev_tup (k := 0) (c := 20) evl_nil (by omega)) (evl_cons (ev_tup (k := 0) (c := 20) evl_nil (by omega)) evl_nil)) (by omega)) evl_nil) (by omega)) (by omega) (by omega))
      (evf_cons (EvD.fine (k := 3) (c := 35) (ev_tup (k := 2) (c := 30) (n := 1) (evl_cons (ev_tup (k := 1) (c := 25) (n := 1) (evl_cons (ev_tup (k := 0) (c := 20) (n := 1) (evl_cons (ev_int (i := 0) (by decide) (by decide)) evl_nil) (by omega)) evl_nil) (by omega)) evl_nil) (by omega)) (by omega) (by omega))
      (evf_cons (EvD.fine (k := 3) (c := 121) (ev_tup (k := 2) (c := 57) (n := 2) (evl_cons (ev_tup (k := 1) (c := 25) (n := 2) (evl_cons (ev_tup (k := 0) (c := 20) (n := 1) (evl_cons (ev_int (i := 1) (by decide) (by decide)) evl_nil) (by omega)) (evl_cons (EvD.mono (k := 1) (c := 3) (k' := 1) (c' := 25) (ev_tup (k := 0) (c := 20) evl_nil (by omega)) (by omega) (by omega)) evl_nil)) (by omega)) (evl_cons (ev_tup (k := 1) (c := 25) (n := 2) (evl_cons (EvD.mono (k := 1) (c := 3) (k' := 1) (c' := 25) (ev_tup (k := 0) (c := 20) evl_nil (by omega)) (by omega) (by omega)) (evl_cons (ev_tup (k := 0) (c := 20) (n := 1) (evl_cons (ev_int (i := 0) (by decide) (by decide)) evl_nil) (by omega)) evl_nil)) (by omega)) evl_nil)) (by omega)) (by omega) (by omega))
      evf_nil)))))
    refine use_setcat e1 sg0 (by omega) rfl hla (by omega) fine0 (fun H1 xs1 lb sg1 fine1 len1 hlb => ?_)
    have e2 : EvFL tw 4 _ [some (.ref tw), some (.ref tm), some (.ref lb)] G := (evf_cons (EvD.fine (k := 3) (c := 155) (ev_tup (k := 2) (c := 150) (n := 1) (evl_cons (ev_tup (k := 1) (c := 47) (n := 3) (evl_cons (ev_tup (k := 0) (c := 20) (n := 2) (evl_cons (ev_int (i := 1) (by decide) (by decide)) (evl_cons (ev_int (i := 2) (by decide) (by decide)) evl_nil)) (by omega)) (evl_cons (EvD.mono (k := 1) (c := 25) (k' := 1) (c' := 47) (ev_tup (k := 0) (c := 20) (n := 1) (evl_cons (ev_int (i := 2) (by decide) (by decide)) evl_nil) (by omega)) (by omega) (by omega)) (evl_cons (EvD.mono (k := 1) (c := 3) (k' := 1) (c' := 47) (ev_tup (k := 0) (c := 20) evl_nil (by omega)) (by omega) (by omega)) evl_nil))) (by omega)) evl_nil) (by omega)) (by omega) (by omega))
      (evf_cons (EvD.fine (k := 3) (c := 155) (ev_tup (k := 2) (c := 150) (n := 1) (evl_cons (ev_tup (k := 1) (c := 47) (n := 3) (evl_cons (ev_tup (k := 0) (c := 20) (n := 2) (evl_cons (ev_int (i := 2) (by decide) (by decide)) (evl_cons (ev_int (i := 1) (by decide) (by decide)) evl_nil)) (by omega)) (evl_cons (EvD.mono (k := 1) (c := 25) (k' := 1) (c' := 47) (ev_tup (k := 0) (c := 20) (n := 1) (evl_cons (ev_int (i := 2) (by decide) (by decide)) evl_nil) (by omega)) (by omega) (by omega)) (evl_cons (EvD.mono (k := 1) (c := 3) (k' := 1) (c' := 47) (ev_tup (k := 0) (c := 20) evl_nil (by omega)) (by omega) (by omega)) evl_nil))) (by omega)) evl_nil) (by omega)) (by omega) (by omega))
      (evf_cons (EvD.fine (k := 3) (c := 89) (ev_tup (k := 2) (c := 84) (n := 1) (evl_cons (ev_tup (k := 1) (c := 25) (n := 3) (evl_cons (ev_tup (k := 0) (c := 20) (n := 1) (evl_cons (ev_int (i := 1) (by decide) (by decide)) evl_nil) (by omega)) (evl_cons (ev_tup (k := 0) (c := 20) (n := 1) (evl_cons (ev_int (i := 2) (by decide) (by decide)) evl_nil) (by omega)) (evl_cons (ev_tup (k := 0) (c := 20) (n := 1) (evl_cons (ev_int (i := 0) (by decide) (by decide)) evl_nil) (by omega)) evl_nil))) (by omega)) evl_nil) (by omega)) (by omega) (by omega))
      (evf_cons (EvD.fine (k := 3) (c := 106) (ev_tup (k := 2) (c := 101) (n := 1) (evl_cons (ev_tup (k := 1) (c := 47) (n := 2) (evl_cons (ev_tup (k := 0) (c := 20) (n := 2) (evl_cons (ev_int (i := 1) (by decide) (by decide)) (evl_cons (ev_int (i := 1) (by decide) (by decide)) evl_nil)) (by omega)) (evl_cons (EvD.mono (k := 1) (c := 3) (k' := 1) (c' := 47) (ev_tup (k := 0) (c := 20) evl_nil (by omega)) (by omega) (by omega)) evl_nil)) (by omega)) evl_nil) (by omega)) (by omega) (by omega))
      evf_nil))))
    refine use_setcat e2 (Same.trans sg0 sg1) (by omega) rfl hlb (by omega) fine1 (fun H2 xs2 lc sg2 fine2 len2 hlc => ?_)
    have e3 : EvFL tw 10 _ [some (.ref tw), some (.ref tm), some (.ref lc)] G := (evf_cons (EvD.fine (k := 3) (c := 62) (ev_tup (k := 2) (c := 57) (n := 1) (evl_cons (ev_tup (k := 1) (c := 25) (n := 2) (evl_cons (ev_tup (k := 0) (c := 20) (n := 1) (evl_cons (ev_bool (b := true)) evl_nil) (by omega)) (evl_cons (EvD.mono (k := 1) (c := 3) (k' := 1) (c' := 25) (ev_tup (k := 0) (c := 20) evl_nil (by omega)) (by omega) (by omega)) evl_nil)) (by omega)) evl_nil) (by omega)) (by omega) (by omega))
      (evf_cons (EvD.fine (k := 3) (c := 62) (ev_tup (k := 2) (c := 57) (n := 1) (evl_cons (ev_lst (k := 1) (c := 25) (n := 2) hpw (evl_cons (ev_tup (k := 0) (c := 20) (n := 1) (evl_cons (ev_int (i := 1) (by decide) (by decide)) evl_nil) (by omega)) (evl_cons (EvD.mono (k := 1) (c := 3) (k' := 1) (c' := 25) (ev_tup (k := 0) (c := 20) evl_nil (by omega)) (by omega) (by omega)) evl_nil)) (by omega)) evl_nil) (by omega)) (by omega) (by omega))
      (evf_cons (EvD.fine (k := 0) (c := 20) ev_none (by omega) (by omega))
      (evf_cons (EvD.fine (k := 0) (c := 20) (ev_bool (b := true)) (by omega) (by omega))
      (evf_cons (EvD.fine (k := 0) (c := 20) (ev_int (i := 0) (by decide) (by decide)) (by omega) (by omega))
      (evf_cons (EvD.fine (k := 0) (c := 20) (ev_text (x := "") (by decide +kernel)) (by omega) (by omega))
      (evf_cons (EvD.fine (k := 1) (c := 3) (ev_lst (k := 0) (c := 20) hpw evl_nil (by omega)) (by omega) (by omega))
      (evf_cons (ev_dict hpw)
      (evf_cons (EvD.fine (k := 2) (c := 88) (ev_rep (K := K) (j := 2) (k := 1) (c := 3) (ev_tup (k := 0) (c := 20) evl_nil (by omega)) (by decide) (by decide)) (by omega) (by omega))
      (evf_cons (EvD.fine (k := 3) (c := 62) (ev_tup (k := 2) (c := 57) (n := 1) (evl_cons (ev_tup (k := 1) (c := 25) (n := 2) (evl_cons (ev_tup (k := 0) (c := 20) (n := 1) (evl_cons (ev_int (i := 1) (by decide) (by decide)) evl_nil) (by omega)) (evl_cons (EvD.mono (k := 1) (c := 3) (k' := 1) (c' := 25) (ev_lst (k := 0) (c := 20) hpw evl_nil (by omega)) (by omega) (by omega)) evl_nil)) (by omega)) evl_nil) (by omega)) (by omega) (by omega))
      evf_nil))))))))))
    refine use_setcat e3 (Same.trans (Same.trans sg0 sg1) sg2) (by omega) rfl hlc (by omega) fine2 (fun H3 xs3 ld sg3 fine3 len3 hld => ?_)
    have e4 : EvFL tw 2 _ [some (.ref tw), some (.ref tm), some (.ref ld)] G := (evf_cons (EvD.fine (k := 3) (c := 121) (ev_tup (k := 2) (c := 57) (n := 2) (evl_cons (ev_tup (k := 1) (c := 25) (n := 2) (evl_cons (ev_tup (k := 0) (c := 20) (n := 1) (evl_cons (ev_int (i := 1) (by decide) (by decide)) evl_nil) (by omega)) (evl_cons (EvD.mono (k := 1) (c := 3) (k' := 1) (c' := 25) (ev_tup (k := 0) (c := 20) evl_nil (by omega)) (by omega) (by omega)) evl_nil)) (by omega)) (evl_cons (EvD.mono (k := 0) (c := 20) (k' := 2) (c' := 57) ev_none (by omega) (by omega)) evl_nil)) (by omega)) (by omega) (by omega))
      (evf_cons (EvD.fine (k := 3) (c := 62) (ev_tup (k := 2) (c := 57) (n := 1) (evl_cons (ev_tup (k := 1) (c := 25) (n := 2) (evl_cons (ev_tup (k := 0) (c := 20) (n := 1) (evl_cons (ev_neg (i := 1) (by decide) (by decide)) evl_nil) (by omega)) (evl_cons (EvD.mono (k := 1) (c := 3) (k' := 1) (c' := 25) (ev_tup (k := 0) (c := 20) evl_nil (by omega)) (by omega) (by omega)) evl_nil)) (by omega)) evl_nil) (by omega)) (by omega) (by omega))
      evf_nil))
    refine use_retcat e4 (Same.trans (Same.trans (Same.trans sg0 sg1) sg2) sg3) (by omega) rfl hld (by omega) fine3 (fun H4 xs4 le sg4 fine4 len4 hle => ?_)
    exact q H4 le tw xs4 (sm.trans (Same.trans (Same.trans (Same.trans (Same.trans sg0 sg1) sg2) sg3) sg4)) hle fine4 (by omega)
end
end SL

namespace SL
open PySem PySem.Spec PyProof.Rows L2
abbrev nRight : List Str := ["_law_pot_here", "_law_most", "_law_many", "_law_size", "_law_thing", "_law_spot", "_law_again"]
theorem scRight : FnScope nRight ["_law_pot_here"] (defScope sRight) := ⟨rfl, rfl, rfl, by decide +kernel, rfl, by decide +kernel, by decide +kernel⟩
/-- tables at these addresses -/
def Tbs (n : Nat) (H : Hp) (ts : List Addr) : Prop := ∀ t ∈ ts, ∃ (xs : List V) (nss : List (List Int)), H t = some (.tup xs) ∧ RowsAt H xs nss ∧ Tb n nss
theorem Tbs.keep {n : Nat} {H H' : Hp} {ts : List Addr} (h : Tbs n H ts) (k : Tk H H') : Tbs n H' ts := fun t ht => by
  obtain ⟨xs, nss, a, b, c⟩ := h t ht
  exact ⟨xs, nss, k _ _ a, b.keep k, c⟩
theorem fw_flat : ∀ ms : List Int, fwAll (ms.map PyData.int) = true := fun ms => by
  induction ms with
  | nil => simp [fwAll]
  | cons m ms ih => simp [fwAll, fw, ih]
theorem fw_rows {n : Nat} (n1 : n ≤ 16) : ∀ {nss : List (List Int)}, (∀ ns ∈ nss, Row n ns) → fwAll (nss.map tupI) = true
  | [], _ => by simp [fwAll]
  | ns :: nss, h => by
    have ih := fw_rows n1 (nss := nss) fun x hx => h x (List.mem_cons_of_mem _ hx)
    have l := (h ns List.mem_cons_self).len
    show (fw (tupI ns) && fwAll (nss.map tupI)) = true
    rw [ih, Bool.and_true]
    show (decide ((ns.map PyData.int).length ≤ 200) && fwAll (ns.map PyData.int)) = true
    rw [fw_flat, Bool.and_true]
    refine decide_eq_true ?_
    rw [List.length_map]
    omega
theorem Tbs.data {p : Addr} {n : Nat} {H : Hp} (n1 : n ≤ 16) : ∀ {ts : List Addr}, Tbs n H ts → ∃ ds, DtAll p H (ts.map V.ref) ds ∧ (∀ x ∈ ds, IsTb n x) ∧ fwAll ds = true
  | [], _ => ⟨[], .nil, fun x hx => (by cases hx), by simp [fwAll]⟩
  | t :: ts, h => by
    obtain ⟨xs, nss, a, b, c⟩ := h t List.mem_cons_self
    obtain ⟨ds, e, f, g⟩ := Tbs.data (p := p) n1 (ts := ts) fun u hu => h u (List.mem_cons_of_mem _ hu)
    refine ⟨.tuple (nss.map tupI) :: ds, .cons (.tup a b.dt) e, fun x hx => ?_, ?_⟩
    · rcases List.mem_cons.mp hx with z | z
      · rw [z]
        exact ⟨nss, rfl, c⟩
      · exact f x z
    · have l := c.1
      show (fw (.tuple (nss.map tupI)) && fwAll ds) = true
      rw [g, Bool.and_true]
      show (decide ((nss.map tupI).length ≤ 200) && fwAll (nss.map tupI)) = true
      rw [fw_rows n1 c.2.1, Bool.and_true]
      refine decide_eq_true ?_
      rw [List.length_map]
      omega
theorem RowsAt.nt {H : Hp} {n : Nat} (n1 : n ≤ 16) : ∀ {vs : List V} {nss : List (List Int)}, RowsAt H vs nss → (∀ ns ∈ nss, Row n ns) → ∀ x ∈ vs, Nt H 1 x
  | _, _, .nil, _, x, hx => by cases hx
  | _, _, .cons (ns := ns) h r, a, x, hx => by
    rcases List.mem_cons.mp hx with z | z
    · rw [z]
      have row := a ns List.mem_cons_self
      refine .tup h (by rw [List.length_map]; exact Nat.le_trans row.len n1) fun y hy => ?_
      obtain ⟨i, hi, rfl⟩ := List.mem_map.mp hy
      have := R_mem.mp (row.2 i hi)
      exact .int (by omega) (by omega)
    · exact r.nt n1 (fun ns hn => a ns (List.mem_cons_of_mem _ hn)) x z
theorem Tbs.nt {n : Nat} {H : Hp} {ts : List Addr} {T : Addr} (n1 : n ≤ 16) (h : Tbs n H ts) (hT : H T = some (.tup (ts.map V.ref))) (l : ts.length ≤ 16) : Nt H 3 (.ref T) := by
  refine .tup hT (by rw [List.length_map]; exact l) fun x hx => ?_
  obtain ⟨t, ht, rfl⟩ := List.mem_map.mp hx
  obtain ⟨xs, nss, a, b, c⟩ := h t ht
  exact .tup a (by rw [b.len, c.1]; exact n1) (b.nt n1 c.2.1)
section
variable {P : Program} {w : World} {K : PySem.W.Frag} {mg : Str → Option Value} {base : Heap}
def spRight : Sp := fun vs H Q _ => ∃ p : Addr, vs = [.ref p] ∧ Pot H p 40000 ∧ ∀ H' : Hp, Kp p H H' → Q (.bl true) H'
theorem ok_right {f : Addr} {fd : FuncData} {k : Nat} (F : Fun K "_law_right" "_law_right" sRight f fd) (T : Defs K mg) : FnG P w K mg base (k + 8) f fd ["_law_pot_here"] spRight := by
  obtain ⟨fA, fdA, FA, bA, gA⟩ := T.asked
  obtain ⟨fT, fdT, FT, bT, gT⟩ := T.take
  obtain ⟨fP, fdP, FP, bP, gP⟩ := T.pick
  obtain ⟨fR, fdR, FR, bR, gR⟩ := T.lawTable
  obtain ⟨fO, fdO, FO, bO, gO⟩ := T.odd
  obtain ⟨fB, fdB, FB, bB, gB⟩ := T.bent
  obtain ⟨fC, fdC, FC, bC, gC⟩ := T.rule
  have GA : FnG P w K mg base (k + 6) fA fdA ["_law_thing"] spAsked := ok_asked FA T
  have GT : FnOk P w K mg base CX0 (k + 1) fT fdT ["_law_pot_here", "_law_size"] spTake := ok_take FT
  have GR : FnOk P w K mg base CX0 (k + 4) fR fdR ["_law_pot_here", "_law_size"] spLawT := ok_lawT FR T
  have GB : FnOk P w K mg base CX0 (k + 7) fB fdB ["_law_pot_here", "_law_thing", "_law_depth"] (spBent 3) := ok_bent (k := k) FB bB gB ⟨T.zIsinstance, T.zInt, T.zTuple, T.zList, T.zStr, T.zLen⟩ FO bO gO FP bP gP FT bT gT 3 (by decide)
  have GC : FnOk P w K mg base CX0 (k + 5) fC fdC ["value"] spRule := ok_rule FC T
  have kbC : KBinds K fdC ["value"] ["value"] oneK oneK := by
    obtain ⟨oc, od, kV, doc, pm, an, cdv, ct, osl, e, look, code⟩ := FC.ex
    exact kb_one (x := "value") (fun a => by rw [e]; rfl)
  refine fnG_mk F scRight (fun vs H Q E h => ?_) (fun cdv A outer s H vs Q E hgd hr h => ?_)
  · obtain ⟨p, rfl, _⟩ := h
    rfl
  · obtain ⟨p, rfl, hp, q⟩ := h
    have hr6 : Room (k + 6) _ := hr.mono (by omega)
    have hr5 : Room (k + 5) _ := hr.mono (by omega)
    have hr4 : Room (k + 4) _ := hr.mono (by omega)
    have hr1 : Room (k + 1) _ := hr.mono (by omega)
    refine ⟨_, pss_cons (ps_for PassesOwn.never rfl (pi_tup (pe_tup (pa_cons (pe_tup (pa_cons pe_int (pa_cons pe_int pa_nil))) (pa_cons (pe_tup (pa_cons pe_int (pa_cons pe_int pa_nil))) (pa_cons (pe_tup (pa_cons pe_int (pa_cons pe_int pa_nil))) pa_nil)))))
          (pg_tup rfl (pgs_cons (pg_name (i := 1) scRight.nd rfl (Or.inl rfl)) (pgs_cons (pg_name (i := 2) scRight.nd rfl (Or.inl rfl)) pgs_nil)))
        (pss_cons (ps_set (i := 3) scRight.nd rfl (.inr rfl) (pe_op op_add pe_int (pe_call GT hr1 (by rfl) gT FT.kp bT .nil pass0 (pa_cons (pv 0) (pa_cons (pv 1) pa_nil)))))
        (pss_cons (ps_set (i := 4) scRight.nd rfl (.inr rfl) (pe_callTy call_tuple_of (by rfl) T.zTuple (by decide +kernel) (pa_cons
            (pe_lc (own := [("_law_spot", 5)]) (g := gName 5) (tt := tYes) rfl scRight.nd (pi_range1 rfl T.zRange (pa_cons (pe_op op_add pe_int (pe_call GT hr1 (by rfl) gT FT.kp bT .nil pass0 (pa_cons (pv 0) (pa_cons (pv 1) pa_nil)))) pa_nil))
              (blkOk_by (own := [("_law_spot", 5)]) (N := nRight) (sc := defScope sRight) (by decide +kernel))
              (fun _ _ _ _ _ => pg_name (i := 5) scRight.nd rfl (Or.inl rfl)) (fun _ _ _ _ _ => pts_nil) (fun _ _ _ _ _ => pe_call GR hr4 (by rfl) gR FR.kp bR .nil pass0 (pa_cons (pv 0) (pa_cons (pv 3) pa_nil)))) pa_nil)))
        (pss_cons (ps_if (PW.pt (pw_or (pt_cmpR op_notBl (pe_callK0 GC hr5 (by rfl) gC FC.kp kbC pass0 (pk_cons (pv 4) pk_nil)) pe_bl (nomark _))
            (pw_or1 (pt_not (pt_val (pe_callG GA hgd hr6 (by rfl) gA FA.kp bA (pa_cons (pv 4) pa_nil))))))) (pss_one (ps_ret pe_bl)) pss_nil)
        (pss_one (ps_if (pt_not (pt_val (pe_callB (cr_all rfl) (by rfl) T.zAll (by decide +kernel) (pa_cons (pe_lc (own := [("_law_again", 6)]) (g := gName 6) (tt := tYes) rfl scRight.nd (pi_range1 rfl T.zRange (pa_cons (pv 2) pa_nil))
              (blkOk_by (own := [("_law_again", 6)]) (N := nRight) (sc := defScope sRight) (by decide +kernel)) (fun _ _ _ _ _ => pg_name (i := 6) scRight.nd rfl (Or.inl rfl)) (fun _ _ _ _ _ => pts_nil)
              (fun _ _ _ _ _ => pe_callG GA hgd hr6 (by rfl) gA FA.kp bA (pa_cons (pe_call GB hr (by rfl) gB FB.kp bB .nil pass0 (pa_cons (pv 0) (pa_cons (pv 4) (pa_cons pe_int pa_nil)))) pa_nil))) pa_nil)))) (pss_one (ps_ret pe_bl)) pss_nil))))))
      (pss_one (ps_ret pe_bl)), ?_⟩
    refine ⟨Nat.le_of_lt (small1000 (by show 2 ≤ 1000; decide)), fun t1 nt1 => ⟨Nat.le_of_lt (small1000 (by show 2 ≤ 1000; decide)), fun t2 nt2 => ⟨Nat.le_of_lt (small1000 (by show 2 ≤ 1000; decide)), fun t3 nt3 => ⟨Nat.le_of_lt (small1000 (by show 3 ≤ 1000; decide)), fun tA ntA => ?_⟩⟩⟩⟩
    have a1 := same_new (o := .tup [.int 4, .int 12]) nt1
    have a2 := same_new (o := .tup [.int 7, .int 8]) nt2
    have a3 := same_new (o := .tup [.int 16, .int 2]) nt3
    have a4 := same_new (o := .tup [.ref t1, .ref t2, .ref t3]) ntA
    have h1 := ((a2.trans a3).trans a4) _ _ (upd_same (H := H) (a := t1) (o := .tup [.int 4, .int 12]))
    have h2 := (a3.trans a4) _ _ (upd_same (H := upd H t1 (.tup [.int 4, .int 12])) (a := t2) (o := .tup [.int 7, .int 8]))
    have h3 := a4 _ _ (upd_same (H := upd (upd H t1 (.tup [.int 4, .int 12])) t2 (.tup [.int 7, .int 8])) (a := t3) (o := .tup [.int 16, .int 2]))
    have h4 := upd_same (H := upd (upd (upd H t1 (.tup [.int 4, .int 12])) t2 (.tup [.int 7, .int 8])) t3 (.tup [.int 16, .int 2])) (a := tA) (o := .tup [.ref t1, .ref t2, .ref t3])
    have sA := ((a1.trans a2).trans a3).trans a4
    have potA := hp.same sA
    generalize upd (upd (upd (upd H t1 (.tup [.int 4, .int 12])) t2 (.tup [.int 7, .int 8])) t3 (.tup [.int 16, .int 2])) tA (.tup [.ref t1, .ref t2, .ref t3]) = H0 at h1 h2 h3 h4 sA potA ⊢
    obtain ⟨px0, hpx0⟩ := potA.lst
    refine ⟨tA, rfl, ⟨_, SqT.of h4⟩, for_tup (K := K) (a := tA) (xs := [.ref t1, .ref t2, .ref t3]) (fun i σ G1 => i ≤ 3 ∧ (∃ y1 y2 y3 y4 y5 y6, σ = [some (.ref p), y1, y2, y3, y4, y5, y6]) ∧ Pot G1 p (10000 * (3 - i)) ∧ Kp p H0 G1) ?_ ?_ ?_ ?_⟩
    · exact ⟨by omega, ⟨_, _, _, _, _, _, rfl⟩, potA.less (by omega), Kp.refl p H0⟩
    · intro i σ G1 _ h
      exact SqT.of (h.2.2.2.tk hpx0 _ _ h4)
    · rintro i x σ G1 hx ⟨i3, ⟨y1, y2, y3, y4, y5, y6, rfl⟩, pot1, kp1⟩
      have lt3 : i < 3 := (List.getElem?_eq_some_iff.mp hx).1
      obtain ⟨tj, mo, ma, rfl, hj, mo0, mo1, ma1⟩ : ∃ (tj : Addr) (mo ma : Nat), x = .ref tj ∧ H0 tj = some (.tup [.int mo, .int ma]) ∧ 0 < mo ∧ mo ≤ 16 ∧ ma ≤ 12 := by
        match i, lt3, hx with
        | 0, _, hx => cases hx; exact ⟨t1, 4, 12, rfl, h1, by omega, by omega, by omega⟩
        | 1, _, hx => cases hx; exact ⟨t2, 7, 8, rfl, h2, by omega, by omega, by omega⟩
        | 2, _, hx => cases hx; exact ⟨t3, 16, 2, rfl, h3, by omega, by omega, by omega⟩
      have hj1 := kp1.tk hpx0 _ _ hj
      refine ⟨tj, _, rfl, SqT.of hj1, rfl, _, _, rfl, _, _, rfl, rfl, ?_⟩
      -- size
      refine ⟨.ref p, rfl, _, rfl, p, mo, 10000 * (2 - i) + 9900, rfl, pot1.less (by omega), by omega, by omega, fun G2 r kp2 pot2 r0 r1 => ?_⟩
      obtain ⟨m, rfl⟩ : ∃ m : Nat, r = m := ⟨r.toNat, by omega⟩
      refine ⟨1, m, rfl, rfl, ?_⟩
      have n0 : 0 < 1 + m := by omega
      have n1 : 1 + m ≤ 16 := by omega
      -- the tables
      refine ⟨.ref p, rfl, _, rfl, p, mo, 10000 * (2 - i) + 9800, rfl, pot2.less (by omega), by omega, by omega, fun G3 r2 kp3 pot3 r20 r21 => ?_⟩
      obtain ⟨m2, rfl⟩ : ∃ m2 : Nat, r2 = m2 := ⟨r2.toNat, by omega⟩
      refine ⟨1, m2, rfl, rfl, (((1 + m2 : Nat) : Int)), rfl, by omega, by omega, fun D nD => ?_⟩
      have nDp : D ≠ p := pot_ne pot3 nD
      have eN : (((1 + m2 : Nat) : Int)).toNat = 1 + m2 := by omega
      refine lc_range (lo := 0) (n := (((1 + m2 : Nat) : Int)).toNat) (fun j G4 => ∃ ts : List Addr, G4 D = some (.lst (ts.map V.ref)) ∧ ts.length = j ∧ j ≤ 1 + m2 ∧ Tbs (1 + m) G4 ts ∧ Kp p G3 G4 ∧ Pot G4 p (10000 * (2 - i) + 500 + 400 * (1 + m2 - j))) ?_ ?_ ?_
      · exact ⟨[], upd_same, rfl, by omega, fun x hx => (by cases hx), Kp.same (same_new nD), (pot3.same (same_new nD)).less (by omega)⟩
      · rintro j G4 hj ⟨ts, hD, lenT, j8, prs, kp4, pot4⟩
        have lt8 : j < 1 + m2 := by omega
        refine ⟨rfl, .ref p, rfl, _, rfl, p, 1 + m, 10000 * (2 - i) + 500 + 400 * (1 + m2 - (j + 1)), rfl, pot4.less (by omega), n1, fun G5 t xs nss kp5 pot5 ht rows tb => ?_⟩
        have hD5 : G5 D = some (.lst (ts.map V.ref)) := kp5 _ _ nDp hD
        obtain ⟨px, hpx⟩ := pot4.lst
        have tk5 : Tk G4 G5 := kp5.tk hpx
        have tkD : Tk G5 (upd G5 D (.lst (ts.map V.ref ++ [.ref t]))) := fun c zs e => by
          rw [upd_ne (fun z => by rw [z, hD5] at e; cases e)]
          exact e
        refine ⟨_, hD5, ?_, ts ++ [t], ?_, ?_, by omega, fun u hu => ?_, fun b o nb hb => ?_, ?_⟩
        · rw [List.length_map]
          exact small1000 (by omega)
        · rw [upd_same, List.map_append]
          rfl
        · rw [List.length_append, lenT]
          rfl
        · rcases List.mem_append.mp hu with z | z
          · exact ((prs.keep tk5).keep tkD) u z
          · rw [List.mem_singleton.mp z]
            exact ⟨xs, nss, tkD _ _ ht, rows.keep tkD, tb⟩
        · rw [upd_ne (ne_of_none hb nD)]
          exact kp5 _ _ nb (kp4 _ _ nb hb)
        · obtain ⟨a1, a2, a3, z1, z2⟩ := pot5
          exact ⟨a1, a2, a3, by rw [upd_ne nDp.symm]; exact z1, z2⟩
      · rintro G4 ⟨ts, hD, lenT, _, prs, kp4, pot4⟩
        rw [eN] at lenT
        refine ⟨D, _, rfl, .inl ⟨SqL.of hD, fun tT ntT => ?_⟩⟩
        have s5 := same_new (o := .tup (ts.map V.ref)) ntT
        have hT : upd G4 tT (.tup (ts.map V.ref)) tT = some (.tup (ts.map V.ref)) := upd_same
        have prs5 := prs.keep (Same.tk s5)
        have pot5 := pot4.same s5
        have kp5 : Kp p H0 (upd G4 tT (.tup (ts.map V.ref))) := (((kp1.trans kp2).trans kp3).trans kp4).trans (Kp.same s5)
        generalize upd G4 tT (.tup (ts.map V.ref)) = G5 at hT prs5 pot5 kp5 ⊢
        have nt5 : Nt G5 3 (.ref tT) := prs5.nt n1 hT (by omega)
        obtain ⟨ds, al, isp, fws⟩ := prs5.data (p := p) n1
        have lends : ds.length = ts.length := by rw [← al.len, List.length_map]
        have isR : IsR (.tuple ds) := by
          have pos : 0 < ds.length := by omega
          obtain ⟨nss, e0, tb⟩ := isp ds[0] (List.getElem_mem pos)
          have ln := tb.1
          refine ⟨ds, nss.map tupI, rfl, by omega, by rw [List.getElem?_eq_getElem pos, e0], ?_, ?_, fun x hx => ?_⟩
          · rw [List.length_map]; omega
          · rw [List.length_map]; omega
          · rw [List.length_map, ln]
            exact isp x hx
        have fwT : fw (.tuple ds) = true := by
          simp only [fw, fws, Bool.and_true]
          exact decide_eq_true (by omega)
        -- is_rule(value=..)
        refine ⟨.ref tT, rfl, p, .ref tT, .tuple ds, rfl, .dat (.tup hT al), fwT, fun b G6 sm6 ib => ?_⟩
        have eb : b = true := ib.mpr isR
        subst eb
        refine ⟨true, true, rfl, rfl, _, rfl, ?_⟩
        have cb3 : cb 3 ≤ 10000000 := by decide
        have nt6 : Nt G6 3 (.ref tT) := nt5.keep (Same.tk sm6)
        refine ⟨.ref tT, rfl, p, .ref tT, rfl, nt6.nd.fine (by omega) cb3, fun G7 sm7 => ⟨_, rfl, ?_⟩⟩
        have nt7 : Nt G7 3 (.ref tT) := nt6.keep (Same.tk sm7)
        have pot7 := pot5.same (sm6.trans sm7)
        have kp7 := kp5.trans (Kp.same (sm6.trans sm7))
        -- all([..])
        refine ⟨.int ma, rfl, ma, rfl, by omega, by omega, fun D2 nD2 => ?_⟩
        have nD2p : D2 ≠ p := pot_ne pot7 nD2
        refine lc_range (lo := 0) (n := ((ma : Nat) : Int).toNat) (fun j G8 => j ≤ ma ∧ Kp p G7 G8 ∧ G8 D2 = some (.lst ((List.replicate j true).map V.bl)) ∧ Pot G8 p (10000 * (2 - i) + 10 * (12 - j))) ⟨by omega, Kp.same (same_new nD2), upd_same, (pot7.same (same_new nD2)).less (by omega)⟩ ?_ ?_
        · rintro j G8 hj ⟨_, kp8, hD8, pot8⟩
          have ltm : j < ma := by omega
          obtain ⟨px, hpx⟩ := pot7.lst
          refine ⟨rfl, .ref p, rfl, .ref tT, rfl, p, .ref tT, 3, 10000 * (2 - i) + 10 * (12 - (j + 1)), rfl, nt7.keep (kp8.tk hpx), pot8.less (by omega), fun G9 x kp9 pot9 nd => ?_⟩
          have bb3 : bb 3 ≤ 10000000 := by decide
          refine ⟨p, x, rfl, nd.fine (by omega) bb3, fun G10 sm10 => ?_⟩
          refine ⟨_, sm10 _ _ (kp9 _ _ nD2p hD8), ?_, by omega, fun b o nb hb => ?_, ?_, ?_⟩
          · rw [List.length_map, List.length_replicate]
            exact small1000 (by omega)
          · rw [upd_ne (ne_of_none hb nD2)]
            exact sm10 _ _ (kp9 _ _ nb (kp8 _ _ nb hb))
          · rw [upd_same, List.replicate_succ', List.map_append]
            rfl
          · obtain ⟨a1, a2, a3, z1, z2⟩ := pot9.same sm10
            exact ⟨a1, a2, a3, by rw [upd_ne nD2p.symm]; exact z1, z2⟩
        · rintro G8 ⟨_, kp8, hD8, pot8⟩
          refine ⟨D2, _, rfl, SqL.of hD8, _, rfl, ?_⟩
          rw [show (List.replicate _ true).all id = true by simp]
          exact ⟨by omega, ⟨_, _, _, _, _, _, rfl⟩, pot8.less (by omega), kp7.trans kp8⟩
    · rintro σ G1 ⟨_, ⟨y1, y2, y3, y4, y5, y6, rfl⟩, pot1, kp1⟩
      exact q G1 ((Kp.same sA).trans kp1)
end
end SL

namespace SL
open PySem PySem.Spec PyProof.Rows L2
abbrev nLaw : List Str := ["_law_script", "_law_thing", "_law_k"]
theorem scLaw : FnScope nLaw ["_law_script"] (defScope sLaw) := ⟨rfl, rfl, rfl, by decide +kernel, rfl, by decide +kernel, by decide +kernel⟩
section
variable {P : Program} {w : World} {K : PySem.W.Frag} {mg : Str → Option Value} {base : Heap}
def spLaw (K : PySem.W.Frag) : Sp := fun vs H Q _ => ∃ (a : Addr) (ns : List Int), vs = [.ref a] ∧ SqL K H a (ns.map V.int) ∧ ns.length ≤ 63 ∧ ∀ H' : Hp, Q (.bl true) H'
theorem ok_law {f : Addr} {fd : FuncData} (F : Fun K "law" "law" sLaw f fd) (T : Defs K mg) : FnG P w K mg base 9 f fd ["_law_script"] (spLaw K) := by
  obtain ⟨fR, fdR, FR, bR, gR⟩ := T.right
  obtain ⟨fP, fdP, FP, bP, gP⟩ := T.pot
  obtain ⟨fA, fdA, FA, bA, gA⟩ := T.asked
  obtain ⟨fH, fdH, FH, bH, gH⟩ := T.byHand
  have GR : FnG P w K mg base 8 fR fdR ["_law_pot_here"] spRight := ok_right (k := 0) FR T
  have GA : FnG P w K mg base 6 fA fdA ["_law_thing"] spAsked := ok_asked (k := 0) FA T
  have GP : FnOk P w K mg base CX0 1 fP fdP ["_law_script", "_law_k"] (spPot K) := ok_pot FP T.zLen T.zAbs
  have GH : FnOk P w K mg base CX0 2 fH fdH [] spByHand := ok_byHand (k := 0) FH T
  refine fnG_mk F scLaw (fun vs H Q E h => ?_) (fun cdv A outer s H vs Q E hgd hr h => ?_)
  · obtain ⟨a, ns, rfl, _⟩ := h
    rfl
  · obtain ⟨a, ns, rfl, hS, few, q⟩ := h
    refine ⟨_, pss_cons (ps_if (pt_not (pt_val (pe_callB (cr_all rfl) (by rfl) T.zAll (by decide +kernel) (pa_cons (pe_lc (own := [("_law_thing", 1)]) (g := gName 1) (tt := tYes) rfl scLaw.nd (pi_list (pe_call0 GH (hr.mono (by omega)) (by rfl) gH FH.kp bH .nil pass0))
        (blkOk_by (own := [("_law_thing", 1)]) (N := nLaw) (sc := defScope sLaw) (by decide +kernel)) (fun _ _ _ _ _ => pg_name (i := 1) scLaw.nd rfl (Or.inl rfl)) (fun _ _ _ _ _ => pts_nil)
        (fun _ _ _ _ _ => pe_callG GA hgd (hr.mono (by omega)) (by rfl) gA FA.kp bA (pa_cons (pv 1) pa_nil))) pa_nil)))) (pss_one (ps_ret pe_bl)) pss_nil)
      (pss_one (ps_ret (pe_callB (cr_all rfl) (by rfl) T.zAll (by decide +kernel) (pa_cons (pe_lc (own := [("_law_k", 2)]) (g := gName 2) (tt := tYes) rfl scLaw.nd
      (pi_range1 rfl T.zRange (pa_cons (pe_callB (call_max2 rfl) (by rfl) T.zMax (by decide +kernel) (pa_cons pe_int (pa_cons (pe_callB (call_min2 rfl) (by rfl) T.zMin (by decide +kernel) (pa_cons pe_int (pa_cons (pe_callB call_len_seq (by rfl) T.zLen PySem.boot_len (pa_cons (pv 0) pa_nil)) pa_nil))) pa_nil))) pa_nil))
      (blkOk_by (own := [("_law_k", 2)]) (N := nLaw) (sc := defScope sLaw) (by decide +kernel)) (fun _ _ _ _ _ => pg_name (i := 2) scLaw.nd rfl (Or.inl rfl)) (fun _ _ _ _ _ => pts_nil)
      (fun _ _ _ _ _ => pe_callG GR hgd hr (by rfl) gR FR.kp bR (pa_cons (pe_call GP (hr.mono (by omega)) (by rfl) gP FP.kp bP .nil pass0 (pa_cons (pv 0) (pa_cons (pv 2) pa_nil))) pa_nil))) pa_nil)))), ?_⟩
    refine ⟨rfl, fun H0 lh p xs sm0 hl fine len => ⟨lh, rfl, ⟨_, SqL.of hl⟩, fun D1 nD1 => ?_⟩⟩
    refine lc_list (K := K) (a := lh) (xs := xs) (fun j G9 => Same H0 G9 ∧ G9 D1 = some (.lst ((List.replicate j true).map V.bl))) ⟨same_new nD1, upd_same⟩ (fun j G9 _ h => SqL.of (h.1 _ _ hl)) ?_ ?_
    · rintro j x G9 hx ⟨sm9, hD9⟩
      have hj : j < xs.length := (List.getElem?_eq_some_iff.mp hx).1
      refine ⟨rfl, x, rfl, p, x, rfl, (fine x (List.mem_of_getElem? hx)).same sm9, fun G10 sm10 => ?_⟩
      refine ⟨_, sm10 _ _ hD9, ?_, fun b o hb => ?_, ?_⟩
      · rw [List.length_map, List.length_replicate]
        exact small1000 (by omega)
      · rw [upd_ne (ne_of_none hb nD1)]
        exact sm10 _ _ (sm9 _ _ hb)
      · rw [upd_same, List.replicate_succ', List.map_append]
        rfl
    rintro H1 ⟨sm1, hD1⟩
    refine ⟨D1, _, rfl, SqL.of hD1, _, rfl, ?_⟩
    rw [show (List.replicate _ true).all id = true by simp]
    have hS1 : SqL K H1 a (ns.map V.int) := (sm0.trans sm1).seq hS
    refine ⟨.ref a, rfl, a, _, rfl, .inl hS1, 3, _, rfl, 1, _, rfl, _, rfl, ?_, ?_, fun D nD => ?_⟩
    · split <;> omega
    · split <;> (try split) <;> omega
    have top : ∀ m : Int, (if (if m < 3 then m else 3) > 1 then (if m < 3 then m else 3) else 1).toNat ≤ 3 := fun m => by
      split <;> (try split) <;> omega
    refine lc_range (lo := 0) (n := _) (fun j G => Same H1 G ∧ G D = some (.lst ((List.replicate j true).map V.bl))) ⟨same_new nD, upd_same⟩ ?_ ?_
    · rintro j G hj ⟨sm, hD⟩
      have j3 : j < 3 := Nat.lt_of_lt_of_le hj (top _)
      refine ⟨rfl, .ref a, rfl, _, rfl, a, ns, 0 + j, rfl, sm.seq hS1, by omega, fun G1 p sm1 np pot => ?_⟩
      refine ⟨p, rfl, pot.less (by omega), fun G2 kp => ?_⟩
      have nDp : D ≠ p := ne_of_none hD np
      refine ⟨_, kp _ _ nDp (sm1 _ _ hD), ?_, fun b o hb => ?_, ?_⟩
      · rw [List.length_map, List.length_replicate]
        exact small1000 (by omega)
      · have nbp : b ≠ p := ne_of_none (sm _ _ hb) np
        rw [upd_ne (ne_of_none hb nD)]
        exact kp _ _ nbp (sm1 _ _ (sm _ _ hb))
      · rw [upd_same, List.replicate_succ', List.map_append]
        rfl
    · rintro G ⟨sm, hD⟩
      refine ⟨D, _, rfl, SqL.of hD, ?_⟩
      rw [show (List.replicate _ true).all id = true by simp]
      exact q G
end
/-! ### what the top has left -/
theorem all_mk {l : PySem.W.OpenLaw} {w : World} {K : PySem.W.Frag} {h : Heap} {mg : Str → Option Value} {fa : Addr} (X : K.In h) (G : h.Ns mainGlobals mg) (hfa : mg "law" = some (.ref fa))
    {f1 f2 f3 f4 f5 f6 f7 f8 f9 f10 f11 f12 f13 f14 f15 f16 f17 f18 f19 f20 f21 f22 f23 f24 f25 : Addr} {od1 an1 od2 an2 od3 an3 od4 an4 od5 an5 od6 an6 od7 an7 od8 an8 od9 an9 od10 an10 od11 an11 od12 an12 od13 an13 od14 an14 od15 an15 od16 an16 od17 an17 od18 an18 od19 an19 od20 an20 od21 an21 od22 an22 od23 an23 od24 an24 od25 an25 : Option Addr} {sl1 sl2 sl3 sl4 sl5 sl6 sl7 sl8 sl9 sl10 sl11 sl12 sl13 sl14 sl15 sl16 sl17 sl18 sl19 sl20 sl21 sl22 sl23 sl24 sl25 : Array (Option Value)} {oc1 kV1 dc1 pm1 cd1 ct1 oc2 kV2 dc2 pm2 cd2 ct2 oc3 kV3 dc3 pm3 cd3 ct3 oc4 kV4 dc4 pm4 cd4 ct4 oc5 kV5 dc5 pm5 cd5 ct5 oc6 kV6 dc6 pm6 cd6 ct6 oc7 kV7 dc7 pm7 cd7 ct7 oc8 kV8 dc8 pm8 cd8 ct8 oc9 kV9 dc9 pm9 cd9 ct9 oc10 kV10 dc10 pm10 cd10 ct10 oc11 kV11 dc11 pm11 cd11 ct11 oc12 kV12 dc12 pm12 cd12 ct12 oc13 kV13 dc13 pm13 cd13 ct13 oc14 kV14 dc14 pm14 cd14 ct14 oc15 kV15 dc15 pm15 cd15 ct15 oc16 kV16 dc16 pm16 cd16 ct16 oc17 kV17 dc17 pm17 cd17 ct17 oc18 kV18 dc18 pm18 cd18 ct18 oc19 kV19 dc19 pm19 cd19 ct19 oc20 kV20 dc20 pm20 cd20 ct20 oc21 kV21 dc21 pm21 cd21 ct21 oc22 kV22 dc22 pm22 cd22 ct22 oc23 kV23 dc23 pm23 cd23 ct23 oc24 kV24 dc24 pm24 cd24 ct24 oc25 kV25 dc25 pm25 cd25 ct25 : Value} {tm : Tok}
    (a1 : PySem.W.nsIn K mainGlobals "is_integer_within" = some (some (.ref f1))) (l1 : K.lookup f1 = some ⟨oc1, od1, .func (PySem.W.fnOf "is_integer_within" "is_integer_within" (defArgs sWithin) (defBody sWithin) (defScope sWithin) .none kV1 dc1 pm1 an1 cd1 ct1), sl1⟩) (c1 : PySem.W.codeIn K cd1 "is_integer_within" = true) (k1 : PySem.W.keepIn K (.ref f1) = true)
    (a2 : PySem.W.nsIn K mainGlobals "are_integers_within" = some (some (.ref f2))) (l2 : K.lookup f2 = some ⟨oc2, od2, .func (PySem.W.fnOf "are_integers_within" "are_integers_within" (defArgs sAllIn) (defBody sAllIn) (defScope sAllIn) .none kV2 dc2 pm2 an2 cd2 ct2), sl2⟩) (c2 : PySem.W.codeIn K cd2 "are_integers_within" = true) (k2 : PySem.W.keepIn K (.ref f2) = true)
    (a3 : PySem.W.nsIn K mainGlobals "is_rule" = some (some (.ref f3))) (l3 : K.lookup f3 = some ⟨oc3, od3, .func (PySem.W.fnOf "is_rule" "is_rule" (defArgs sRule) (defBody sRule) (defScope sRule) .none kV3 dc3 pm3 an3 cd3 ct3), sl3⟩) (c3 : PySem.W.codeIn K cd3 "is_rule" = true) (k3 : PySem.W.keepIn K (.ref f3) = true)
    (a4 : PySem.W.nsIn K mainGlobals "is_sized" = some (some (.ref f4))) (l4 : K.lookup f4 = some ⟨oc4, od4, .func (PySem.W.fnOf "is_sized" "is_sized" (defArgs sSized) (defBody sSized) (defScope sSized) .none kV4 dc4 pm4 an4 cd4 ct4), sl4⟩) (c4 : PySem.W.codeIn K cd4 "is_sized" = true) (k4 : PySem.W.keepIn K (.ref f4) = true)
    (a5 : PySem.W.nsIn K mainGlobals "is_table" = some (some (.ref f5))) (l5 : K.lookup f5 = some ⟨oc5, od5, .func (PySem.W.fnOf "is_table" "is_table" (defArgs sTable) (defBody sTable) (defScope sTable) .none kV5 dc5 pm5 an5 cd5 ct5), sl5⟩) (c5 : PySem.W.codeIn K cd5 "is_table" = true) (k5 : PySem.W.keepIn K (.ref f5) = true)
    (a6 : PySem.W.nsIn K mainGlobals "is_ascending" = some (some (.ref f6))) (l6 : K.lookup f6 = some ⟨oc6, od6, .func (PySem.W.fnOf "is_ascending" "is_ascending" (defArgs sAscending) (defBody sAscending) (defScope sAscending) .none kV6 dc6 pm6 an6 cd6 ct6), sl6⟩) (c6 : PySem.W.codeIn K cd6 "is_ascending" = true) (k6 : PySem.W.keepIn K (.ref f6) = true)
    (a7 : PySem.W.nsIn K mainGlobals "is_decided" = some (some (.ref f7))) (l7 : K.lookup f7 = some ⟨oc7, od7, .func (PySem.W.fnOf "is_decided" "is_decided" (defArgs sDecided) (defBody sDecided) (defScope sDecided) .none kV7 dc7 pm7 an7 cd7 ct7), sl7⟩) (c7 : PySem.W.codeIn K cd7 "is_decided" = true) (k7 : PySem.W.keepIn K (.ref f7) = true)
    (a8 : PySem.W.nsIn K mainGlobals "_law_pot" = some (some (.ref f8))) (l8 : K.lookup f8 = some ⟨oc8, od8, .func (PySem.W.fnOf "_law_pot" "_law_pot" (defArgs sPot) (defBody sPot) (defScope sPot) .none kV8 dc8 pm8 an8 cd8 ct8), sl8⟩) (c8 : PySem.W.codeIn K cd8 "_law_pot" = true) (k8 : PySem.W.keepIn K (.ref f8) = true)
    (a9 : PySem.W.nsIn K mainGlobals "_law_take" = some (some (.ref f9))) (l9 : K.lookup f9 = some ⟨oc9, od9, .func (PySem.W.fnOf "_law_take" "_law_take" (defArgs sTake) (defBody sTake) (defScope sTake) .none kV9 dc9 pm9 an9 cd9 ct9), sl9⟩) (c9 : PySem.W.codeIn K cd9 "_law_take" = true) (k9 : PySem.W.keepIn K (.ref f9) = true)
    (a10 : PySem.W.nsIn K mainGlobals "_law_pick" = some (some (.ref f10))) (l10 : K.lookup f10 = some ⟨oc10, od10, .func (PySem.W.fnOf "_law_pick" "_law_pick" (defArgs sPick) (defBody sPick) (defScope sPick) .none kV10 dc10 pm10 an10 cd10 ct10), sl10⟩) (c10 : PySem.W.codeIn K cd10 "_law_pick" = true) (k10 : PySem.W.keepIn K (.ref f10) = true)
    (a11 : PySem.W.nsIn K mainGlobals "_law_mixed" = some (some (.ref f11))) (l11 : K.lookup f11 = some ⟨oc11, od11, .func (PySem.W.fnOf "_law_mixed" "_law_mixed" (defArgs sMixed) (defBody sMixed) (defScope sMixed) .none kV11 dc11 pm11 an11 cd11 ct11), sl11⟩) (c11 : PySem.W.codeIn K cd11 "_law_mixed" = true) (k11 : PySem.W.keepIn K (.ref f11) = true)
    (a12 : PySem.W.nsIn K mainGlobals "_law_ordered_table" = some (some (.ref f12))) (l12 : K.lookup f12 = some ⟨oc12, od12, .func (PySem.W.fnOf "_law_ordered_table" "_law_ordered_table" (defArgs sOrdTable) (defBody sOrdTable) (defScope sOrdTable) .none kV12 dc12 pm12 an12 cd12 ct12), sl12⟩) (c12 : PySem.W.codeIn K cd12 "_law_ordered_table" = true) (k12 : PySem.W.keepIn K (.ref f12) = true)
    (a13 : PySem.W.nsIn K mainGlobals "_law_any_table" = some (some (.ref f13))) (l13 : K.lookup f13 = some ⟨oc13, od13, .func (PySem.W.fnOf "_law_any_table" "_law_any_table" (defArgs sAnyTable) (defBody sAnyTable) (defScope sAnyTable) .none kV13 dc13 pm13 an13 cd13 ct13), sl13⟩) (c13 : PySem.W.codeIn K cd13 "_law_any_table" = true) (k13 : PySem.W.keepIn K (.ref f13) = true)
    (a14 : PySem.W.nsIn K mainGlobals "_law_turned" = some (some (.ref f14))) (l14 : K.lookup f14 = some ⟨oc14, od14, .func (PySem.W.fnOf "_law_turned" "_law_turned" (defArgs sTurned) (defBody sTurned) (defScope sTurned) .none kV14 dc14 pm14 an14 cd14 ct14), sl14⟩) (c14 : PySem.W.codeIn K cd14 "_law_turned" = true) (k14 : PySem.W.keepIn K (.ref f14) = true)
    (a15 : PySem.W.nsIn K mainGlobals "_law_table" = some (some (.ref f15))) (l15 : K.lookup f15 = some ⟨oc15, od15, .func (PySem.W.fnOf "_law_table" "_law_table" (defArgs sLawTable) (defBody sLawTable) (defScope sLawTable) .none kV15 dc15 pm15 an15 cd15 ct15), sl15⟩) (c15 : PySem.W.codeIn K cd15 "_law_table" = true) (k15 : PySem.W.keepIn K (.ref f15) = true)
    (a16 : PySem.W.nsIn K mainGlobals "_law_odd" = some (some (.ref f16))) (l16 : K.lookup f16 = some ⟨oc16, od16, .func (PySem.W.fnOf "_law_odd" "_law_odd" (defArgs sOdd) (defBody sOdd) (defScope sOdd) .none kV16 dc16 pm16 an16 cd16 ct16), sl16⟩) (c16 : PySem.W.codeIn K cd16 "_law_odd" = true) (k16 : PySem.W.keepIn K (.ref f16) = true)
    (a17 : PySem.W.nsIn K mainGlobals "_law_bent" = some (some (.ref f17))) (l17 : K.lookup f17 = some ⟨oc17, od17, .func (PySem.W.fnOf "_law_bent" "_law_bent" (defArgs sBent) (defBody sBent) (defScope sBent) .none kV17 dc17 pm17 an17 cd17 ct17), sl17⟩) (c17 : PySem.W.codeIn K cd17 "_law_bent" = true) (k17 : PySem.W.keepIn K (.ref f17) = true)
    (a18 : PySem.W.nsIn K mainGlobals "_law_is_number" = some (some (.ref f18))) (l18 : K.lookup f18 = some ⟨oc18, od18, .func (PySem.W.fnOf "_law_is_number" "_law_is_number" (defArgs sNumber) (defBody sNumber) (defScope sNumber) .none kV18 dc18 pm18 an18 cd18 ct18), sl18⟩) (c18 : PySem.W.codeIn K cd18 "_law_is_number" = true) (k18 : PySem.W.keepIn K (.ref f18) = true)
    (a19 : PySem.W.nsIn K mainGlobals "_law_are_keys" = some (some (.ref f19))) (l19 : K.lookup f19 = some ⟨oc19, od19, .func (PySem.W.fnOf "_law_are_keys" "_law_are_keys" (defArgs sAreKeys) (defBody sAreKeys) (defScope sAreKeys) .none kV19 dc19 pm19 an19 cd19 ct19), sl19⟩) (c19 : PySem.W.codeIn K cd19 "_law_are_keys" = true) (k19 : PySem.W.keepIn K (.ref f19) = true)
    (a20 : PySem.W.nsIn K mainGlobals "_law_is_table" = some (some (.ref f20))) (l20 : K.lookup f20 = some ⟨oc20, od20, .func (PySem.W.fnOf "_law_is_table" "_law_is_table" (defArgs sIsTable) (defBody sIsTable) (defScope sIsTable) .none kV20 dc20 pm20 an20 cd20 ct20), sl20⟩) (c20 : PySem.W.codeIn K cd20 "_law_is_table" = true) (k20 : PySem.W.keepIn K (.ref f20) = true)
    (a21 : PySem.W.nsIn K mainGlobals "_law_due" = some (some (.ref f21))) (l21 : K.lookup f21 = some ⟨oc21, od21, .func (PySem.W.fnOf "_law_due" "_law_due" (defArgs sDue) (defBody sDue) (defScope sDue) .none kV21 dc21 pm21 an21 cd21 ct21), sl21⟩) (c21 : PySem.W.codeIn K cd21 "_law_due" = true) (k21 : PySem.W.keepIn K (.ref f21) = true)
    (a22 : PySem.W.nsIn K mainGlobals "_law_asked" = some (some (.ref f22))) (l22 : K.lookup f22 = some ⟨oc22, od22, .func (PySem.W.fnOf "_law_asked" "_law_asked" (defArgs sAsked) (defBody sAsked) (defScope sAsked) .none kV22 dc22 pm22 an22 cd22 ct22), sl22⟩) (c22 : PySem.W.codeIn K cd22 "_law_asked" = true) (k22 : PySem.W.keepIn K (.ref f22) = true)
    (a23 : PySem.W.nsIn K mainGlobals "_law_by_hand" = some (some (.ref f23))) (l23 : K.lookup f23 = some ⟨oc23, od23, .func (PySem.W.fnOf "_law_by_hand" "_law_by_hand" (defArgs sByHand) (defBody sByHand) (defScope sByHand) .none kV23 dc23 pm23 an23 cd23 ct23), sl23⟩) (c23 : PySem.W.codeIn K cd23 "_law_by_hand" = true) (k23 : PySem.W.keepIn K (.ref f23) = true)
    (a24 : PySem.W.nsIn K mainGlobals "_law_right" = some (some (.ref f24))) (l24 : K.lookup f24 = some ⟨oc24, od24, .func (PySem.W.fnOf "_law_right" "_law_right" (defArgs sRight) (defBody sRight) (defScope sRight) .none kV24 dc24 pm24 an24 cd24 ct24), sl24⟩) (c24 : PySem.W.codeIn K cd24 "_law_right" = true) (k24 : PySem.W.keepIn K (.ref f24) = true)
    (a25 : PySem.W.nsIn K mainGlobals "law" = some (some (.ref f25))) (l25 : K.lookup f25 = some ⟨oc25, od25, .func (PySem.W.fnOf "law" "law" (defArgs sLaw) (defBody sLaw) (defScope sLaw) .none kV25 dc25 pm25 an25 cd25 ct25), sl25⟩) (c25 : PySem.W.codeIn K cd25 "law" = true) (k25 : PySem.W.keepIn K (.ref f25) = true)
    (z0 : PySem.W.nsIn K mainGlobals "MOST" = some (some (.int 16 tm)))
    (z1 : PySem.W.nsIn K mainGlobals "isinstance" = some none)    (z2 : PySem.W.nsIn K mainGlobals "int" = some none)    (z3 : PySem.W.nsIn K mainGlobals "bool" = some none)    (z4 : PySem.W.nsIn K mainGlobals "tuple" = some none)
    (z5 : PySem.W.nsIn K mainGlobals "len" = some none)    (z6 : PySem.W.nsIn K mainGlobals "all" = some none)    (z7 : PySem.W.nsIn K mainGlobals "set" = some none)    (z8 : PySem.W.nsIn K mainGlobals "abs" = some none)
    (z9 : PySem.W.nsIn K mainGlobals "list" = some none)    (z10 : PySem.W.nsIn K mainGlobals "range" = some none)    (z11 : PySem.W.nsIn K mainGlobals "str" = some none)    (z12 : PySem.W.nsIn K mainGlobals "sorted" = some none)
    (z13 : PySem.W.nsIn K mainGlobals "repr" = some none)    (z14 : PySem.W.nsIn K mainGlobals "max" = some none)    (z15 : PySem.W.nsIn K mainGlobals "min" = some none)    (z16 : PySem.W.nsIn K mainGlobals "zip" = some none)
    (z17 : PySem.W.nsIn K mainGlobals "enumerate" = some none) :
    ∃ fd : FuncData, (∀ (s : Shared) (v : Value), BindsTo s fd ⟨[v], []⟩ [("_law_script", v)]) ∧ ∀ base : Heap, K.In base → base.Ns mainGlobals mg → FnG l.prog w K mg base 9 fa fd ["_law_script"] (spLaw K) := by
  have e := hfa.symm.trans (PySem.W.mg_of X G a25)
  cases e
  have F1 := fun_mk (st := sWithin) l1 c1 k1
  have F2 := fun_mk (st := sAllIn) l2 c2 k2
  have F3 := fun_mk (st := sRule) l3 c3 k3
  have F4 := fun_mk (st := sSized) l4 c4 k4
  have F5 := fun_mk (st := sTable) l5 c5 k5
  have F6 := fun_mk (st := sAscending) l6 c6 k6
  have F7 := fun_mk (st := sDecided) l7 c7 k7
  have F8 := fun_mk (st := sPot) l8 c8 k8
  have F9 := fun_mk (st := sTake) l9 c9 k9
  have F10 := fun_mk (st := sPick) l10 c10 k10
  have F11 := fun_mk (st := sMixed) l11 c11 k11
  have F12 := fun_mk (st := sOrdTable) l12 c12 k12
  have F13 := fun_mk (st := sAnyTable) l13 c13 k13
  have F14 := fun_mk (st := sTurned) l14 c14 k14
  have F15 := fun_mk (st := sLawTable) l15 c15 k15
  have F16 := fun_mk (st := sOdd) l16 c16 k16
  have F17 := fun_mk (st := sBent) l17 c17 k17
  have F18 := fun_mk (st := sNumber) l18 c18 k18
  have F19 := fun_mk (st := sAreKeys) l19 c19 k19
  have F20 := fun_mk (st := sIsTable) l20 c20 k20
  have F21 := fun_mk (st := sDue) l21 c21 k21
  have F22 := fun_mk (st := sAsked) l22 c22 k22
  have F23 := fun_mk (st := sByHand) l23 c23 k23
  have F24 := fun_mk (st := sRight) l24 c24 k24
  have F25 := fun_mk (st := sLaw) l25 c25 k25
  have b1 := F1.binds (ps := ["value", "low", "high"]) fun _ _ _ _ _ _ us hl => match us, hl with | [_, _, _], _ => rfl
  have b2 := F2.binds (ps := ["value", "low", "high"]) fun _ _ _ _ _ _ us hl => match us, hl with | [_, _, _], _ => rfl
  have b3 := F3.binds (ps := ["value"]) fun _ _ _ _ _ _ us hl => match us, hl with | [_], _ => rfl
  have b4 := F4.binds (ps := ["value"]) fun _ _ _ _ _ _ us hl => match us, hl with | [_], _ => rfl
  have b5 := F5.binds (ps := ["keys", "value"]) fun _ _ _ _ _ _ us hl => match us, hl with | [_, _], _ => rfl
  have b6 := F6.binds (ps := ["keys", "value"]) fun _ _ _ _ _ _ us hl => match us, hl with | [_, _], _ => rfl
  have b7 := F7.binds (ps := ["table", "a", "b"]) fun _ _ _ _ _ _ us hl => match us, hl with | [_, _, _], _ => rfl
  have b8 := F8.binds (ps := ["_law_script", "_law_k"]) fun _ _ _ _ _ _ us hl => match us, hl with | [_, _], _ => rfl
  have b9 := F9.binds (ps := ["_law_pot_here", "_law_size"]) fun _ _ _ _ _ _ us hl => match us, hl with | [_, _], _ => rfl
  have b10 := F10.binds (ps := ["_law_pot_here", "_law_some"]) fun _ _ _ _ _ _ us hl => match us, hl with | [_, _], _ => rfl
  have b11 := F11.binds (ps := ["_law_pot_here", "_law_some"]) fun _ _ _ _ _ _ us hl => match us, hl with | [_, _], _ => rfl
  have b12 := F12.binds (ps := ["_law_order"]) fun _ _ _ _ _ _ us hl => match us, hl with | [_], _ => rfl
  have b13 := F13.binds (ps := ["_law_pot_here", "_law_size"]) fun _ _ _ _ _ _ us hl => match us, hl with | [_, _], _ => rfl
  have b14 := F14.binds (ps := ["_law_pot_here", "_law_table_here"]) fun _ _ _ _ _ _ us hl => match us, hl with | [_, _], _ => rfl
  have b15 := F15.binds (ps := ["_law_pot_here", "_law_size"]) fun _ _ _ _ _ _ us hl => match us, hl with | [_, _], _ => rfl
  have b16 := F16.binds (ps := ["_law_pot_here", "_law_part"]) fun _ _ _ _ _ _ us hl => match us, hl with | [_, _], _ => rfl
  have b17 := F17.binds (ps := ["_law_pot_here", "_law_thing", "_law_depth"]) fun _ _ _ _ _ _ us hl => match us, hl with | [_, _, _], _ => rfl
  have b18 := F18.binds (ps := ["_law_thing", "_law_below"]) fun _ _ _ _ _ _ us hl => match us, hl with | [_, _], _ => rfl
  have b19 := F19.binds (ps := ["_law_size", "_law_thing"]) fun _ _ _ _ _ _ us hl => match us, hl with | [_, _], _ => rfl
  have b20 := F20.binds (ps := ["_law_size", "_law_thing"]) fun _ _ _ _ _ _ us hl => match us, hl with | [_, _], _ => rfl
  have b21 := F21.binds (ps := ["_law_thing"]) fun _ _ _ _ _ _ us hl => match us, hl with | [_], _ => rfl
  have b22 := F22.binds (ps := ["_law_thing"]) fun _ _ _ _ _ _ us hl => match us, hl with | [_], _ => rfl
  have b23 := F23.binds (ps := []) fun _ _ _ _ _ _ us hl => match us, hl with | [], _ => rfl
  have b24 := F24.binds (ps := ["_law_pot_here"]) fun _ _ _ _ _ _ us hl => match us, hl with | [_], _ => rfl
  have T : Defs K mg := ⟨⟨_, _, F1, b1, PySem.W.mg_of X G a1⟩, ⟨_, _, F2, b2, PySem.W.mg_of X G a2⟩, ⟨_, _, F3, b3, PySem.W.mg_of X G a3⟩, ⟨_, _, F4, b4, PySem.W.mg_of X G a4⟩, ⟨_, _, F5, b5, PySem.W.mg_of X G a5⟩, ⟨_, _, F6, b6, PySem.W.mg_of X G a6⟩, ⟨_, _, F7, b7, PySem.W.mg_of X G a7⟩, ⟨_, _, F8, b8, PySem.W.mg_of X G a8⟩, ⟨_, _, F9, b9, PySem.W.mg_of X G a9⟩, ⟨_, _, F10, b10, PySem.W.mg_of X G a10⟩, ⟨_, _, F11, b11, PySem.W.mg_of X G a11⟩, ⟨_, _, F12, b12, PySem.W.mg_of X G a12⟩, ⟨_, _, F13, b13, PySem.W.mg_of X G a13⟩, ⟨_, _, F14, b14, PySem.W.mg_of X G a14⟩, ⟨_, _, F15, b15, PySem.W.mg_of X G a15⟩, ⟨_, _, F16, b16, PySem.W.mg_of X G a16⟩, ⟨_, _, F17, b17, PySem.W.mg_of X G a17⟩, ⟨_, _, F18, b18, PySem.W.mg_of X G a18⟩, ⟨_, _, F19, b19, PySem.W.mg_of X G a19⟩, ⟨_, _, F20, b20, PySem.W.mg_of X G a20⟩, ⟨_, _, F21, b21, PySem.W.mg_of X G a21⟩, ⟨_, _, F22, b22, PySem.W.mg_of X G a22⟩, ⟨_, _, F23, b23, PySem.W.mg_of X G a23⟩, ⟨_, _, F24, b24, PySem.W.mg_of X G a24⟩, ⟨_, PySem.W.mg_of X G z0⟩, PySem.W.mg_none_of X G z1, PySem.W.mg_none_of X G z2, PySem.W.mg_none_of X G z3, PySem.W.mg_none_of X G z4, PySem.W.mg_none_of X G z5, PySem.W.mg_none_of X G z6, PySem.W.mg_none_of X G z7, PySem.W.mg_none_of X G z8, PySem.W.mg_none_of X G z9, PySem.W.mg_none_of X G z10, PySem.W.mg_none_of X G z11, PySem.W.mg_none_of X G z12, PySem.W.mg_none_of X G z13, PySem.W.mg_none_of X G z14, PySem.W.mg_none_of X G z15, PySem.W.mg_none_of X G z16, PySem.W.mg_none_of X G z17⟩
  exact ⟨_, fun s v => .of_eq rfl, fun base _ _ => ok_law F25 T⟩
end SL

open PySem PySem.W PyProof.Rows
set_option maxHeartbeats 0 in
theorem PySem.Challenge.cw_samelayout_k04_rules_of_any_value_holds : PySem.Challenge.rw_samelayout_k04_rules_of_any_value.Holds := by
  w_on; o_law; k_head; (case hw => w_witness2)
  k_fill
  refine SL.walkG (l := PySem.Challenge.rw_samelayout_k04_rules_of_any_value) (n := 63) (k := 9) (x := "_law_script") (sp := SL.spLaw) rfl (by decide) rfl ⟨rfl, by decide, by decide⟩ (fun w h Y => PySem.W.kIn_of Y) ?F (fun K _ a ns hl _ hS => ⟨a, ns, rfl, hS, hl, fun _ => rfl⟩)
  case F =>
    intro w mg fa h KX G hmg
    refine' SL.all_mk KX G hmg ?a1 ?l1 ?c1 ?k1 ?a2 ?l2 ?c2 ?k2 ?a3 ?l3 ?c3 ?k3 ?a4 ?l4 ?c4 ?k4 ?a5 ?l5 ?c5 ?k5 ?a6 ?l6 ?c6 ?k6 ?a7 ?l7 ?c7 ?k7 ?a8 ?l8 ?c8 ?k8 ?a9 ?l9 ?c9 ?k9 ?a10 ?l10 ?c10 ?k10 ?a11 ?l11 ?c11 ?k11 ?a12 ?l12 ?c12 ?k12 ?a13 ?l13 ?c13 ?k13 ?a14 ?l14 ?c14 ?k14 ?a15 ?l15 ?c15 ?k15 ?a16 ?l16 ?c16 ?k16 ?a17 ?l17 ?c17 ?k17 ?a18 ?l18 ?c18 ?k18 ?a19 ?l19 ?c19 ?k19 ?a20 ?l20 ?c20 ?k20 ?a21 ?l21 ?c21 ?k21 ?a22 ?l22 ?c22 ?k22 ?a23 ?l23 ?c23 ?k23 ?a24 ?l24 ?c24 ?k24 ?a25 ?l25 ?c25 ?k25 ?z0 ?z1 ?z2 ?z3 ?z4 ?z5 ?z6 ?z7 ?z8 ?z9 ?z10 ?z11 ?z12 ?z13 ?z14 ?z15 ?z16 ?z17
    (case a1 => k_is); (case l1 => k_is); (case c1 => k_is); (case k1 => k_is)
    (case a2 => k_is); (case l2 => k_is); (case c2 => k_is); (case k2 => k_is)
    (case a3 => k_is); (case l3 => k_is); (case c3 => k_is); (case k3 => k_is)
    (case a4 => k_is); (case l4 => k_is); (case c4 => k_is); (case k4 => k_is)
    (case a5 => k_is); (case l5 => k_is); (case c5 => k_is); (case k5 => k_is)
    (case a6 => k_is); (case l6 => k_is); (case c6 => k_is); (case k6 => k_is)
    (case a7 => k_is); (case l7 => k_is); (case c7 => k_is); (case k7 => k_is)
    (case a8 => k_is); (case l8 => k_is); (case c8 => k_is); (case k8 => k_is)
    (case a9 => k_is); (case l9 => k_is); (case c9 => k_is); (case k9 => k_is)
    (case a10 => k_is); (case l10 => k_is); (case c10 => k_is); (case k10 => k_is)
    (case a11 => k_is); (case l11 => k_is); (case c11 => k_is); (case k11 => k_is)
    (case a12 => k_is); (case l12 => k_is); (case c12 => k_is); (case k12 => k_is)
    (case a13 => k_is); (case l13 => k_is); (case c13 => k_is); (case k13 => k_is)
    (case a14 => k_is); (case l14 => k_is); (case c14 => k_is); (case k14 => k_is)
    (case a15 => k_is); (case l15 => k_is); (case c15 => k_is); (case k15 => k_is)
    (case a16 => k_is); (case l16 => k_is); (case c16 => k_is); (case k16 => k_is)
    (case a17 => k_is); (case l17 => k_is); (case c17 => k_is); (case k17 => k_is)
    (case a18 => k_is); (case l18 => k_is); (case c18 => k_is); (case k18 => k_is)
    (case a19 => k_is); (case l19 => k_is); (case c19 => k_is); (case k19 => k_is)
    (case a20 => k_is); (case l20 => k_is); (case c20 => k_is); (case k20 => k_is)
    (case a21 => k_is); (case l21 => k_is); (case c21 => k_is); (case k21 => k_is)
    (case a22 => k_is); (case l22 => k_is); (case c22 => k_is); (case k22 => k_is)
    (case a23 => k_is); (case l23 => k_is); (case c23 => k_is); (case k23 => k_is)
    (case a24 => k_is); (case l24 => k_is); (case c24 => k_is); (case k24 => k_is)
    (case a25 => k_is); (case l25 => k_is); (case c25 => k_is); (case k25 => k_is)
    (case z0 => k_is); (case z1 => k_is); (case z2 => k_is); (case z3 => k_is); (case z4 => k_is); (case z5 => k_is); (case z6 => k_is); (case z7 => k_is); (case z8 => k_is); (case z9 => k_is); (case z10 => k_is); (case z11 => k_is); (case z12 => k_is); (case z13 => k_is); (case z14 => k_is); (case z15 => k_is); (case z16 => k_is); (case z17 => k_is)
